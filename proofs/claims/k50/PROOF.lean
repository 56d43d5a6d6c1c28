import PyProof.Rows.All
import Wide.All
import OpenK.AllK
import Wide.FinOn
import Lean
import PyProof.EqAt
import PyProof.EqKinds
import PyProof.TupleCall
import PyProof.Rows.SortRunsK
import PyProof.Rows.SortShellK
import KE.KSortTup
import PyProof.TupleKey
import PySem.SetOps
import PyProof.Rows.SetFrom
import PyProof.EnumFor
import PyProof.EnumStmt
import PyProof.EnumMake
import PyProof.P3Eq
import PyProof.NeData
import PyProof.P3In
import PyProof.Rows.SumAny
import KE.KLam
import KE.KSortKey
import PyProof.ListRange
import KE.KTryMore
import PyProof.NsDelKeeps
import PyProof.RulesAs
import PyProof.ExcBaseAll.ValueError
import PyProof.ExcArgsOwn
import KE.KIsAll
import PyProof.Rows.SortRev
import PyProof.TupleOfSeq
import PyProof.Draws
import KE.KTupSum
import Wide.Txt2
import PyProof.ZipIter
import PyProof.Rows.TupAdd
import KE.KMinKey
import PyProof.Cells
import PyProof.DictWalks
import PyProof.ConsumeWalk
import PyProof.DictKeyH
import PyProof.ListNew
import PyProof.ConsumeS
import PyProof.WalksMore
import PyProof.ListOps
import PyProof.AutoSeq1
import PyProof.DictRoadsH
import PyProof.MeetsDictList
import KE.KDictOf
import PyProof.DictUpdate
import PyProof.DictCopy
import KE.RegKIsAll
import KE.RegKTryMore
import PySem.Challenge.RW_tallyweb_k50_least_off_small_tallies
set_option autoImplicit false
set_option linter.all false
set_option Elab.async false
set_option maxRecDepth 100000
open List renaming length_map->b7,getD_eq_getElem?_getD->c5,getElem?_eq_getElem->c8,mem_cons->d3,mem_cons_of_mem->d5,size_toArray->d7,mem_cons_self->d8,map_append->i5,mem_of_getElem?->i6,take_of_length_le->j0,getElem?_eq_none->j6,map_cons->k6,range->k8,getElem?_map->l4,mem_map->l5,mem_append_right->m7,length_cons->m9,length_range->o6,getElem?_eq_some_iff->o7,mem_range->p0,length_append->p9,length_take->q8,mem_iff_getElem?->r9,range_succ->v7,replicate->v9,pairwise_iff_getElem->x5,take_add_one->x9,mem_singleton->y6,nodup_cons->A0,append_nil->A6,lookup->A7,not_mem_nil->B5,pairwise_cons->B8,all_eq_true->C0,getElem?_range->C4,mem_filter->C6,mem_append->C7,length_filter_le->C8,sum_cons->D3,pairwise_map->E1,replicate_succ->E5,nodup_iff_pairwise_ne->E7,mem_nil_iff->E9,map_map->F5,take_append_drop->F6,filter_append->F7,mem_of_mem_take->G2,map_congr_left->J2,length_drop->K1,take_sublist->L8,ext_getElem?->L9,getElem?_append_right->M0,getElem?_set_ne->M4,mem_iff_getElem->M5,getElem?_append_left->N4,getElem_mem->N5,filterMap_cons->N6,zip_cons_cons->O8,find?_cons->O9,pairwise_lt_range->Q0,filter_eq_nil_iff->Q1,flatten_cons->Q8,any_cons->U0,length_set->V1,mem_filterMap->X5,getElem_range->X6,getElem?_take_of_lt->aa3,append_assoc->aa4,range'->ac0,filter_cons_of_pos->ac1,filter_cons_of_neg->ac2,length_eq_zero_iff->ac3,any_toArray->ac6,countP_cons->ac8,filter_cons->ac9,getElem?_set_self->ad4,drop_of_length_le->ad5,of_mem_zip->ag8,foldl_cons->ag9,length_singleton->ah0,map_set->ah1,mem_append_left->aj7,range_eq_range'->aj8,nodup_nil->al8,toList_toArray->am4,map_drop->at6,map_take->at7,length_range'->at8,mem_range'_1->au9,drop_sublist->av0,nodup_append->av1,map_id'->az1,length_nil->aK2,filter_nil->aK3,foldl->aU9,length_erase_of_mem->aV1,drop_eq_nil_of_le->ba2,length_pos_of_mem->ba3,map_nil->bl5,mem_of_mem_drop->bl8,pairwise_append->bl9,getElem_toArray->bm1,flatMap_append->bu8,filter_sublist->bv0,take_succ_cons->bv1,length_reverse->bv2,getElem?_drop->bx7,getElem?_set->bG6,drop_reverse->bG7,take_reverse->bG8,lookup_cons->bH3,mem_flatMap->bH4,cons_append->bH5,map_reverse->bH6,zipIdx_cons->bH7
open PySem.Heap renaming get?_push_of_some->b9,lt_size->c9,get?_push_size->d6,get?_update_other->u4,size_push->x6,get?_update_self->F4,get?_none_of_le->aj6,size_update->bH8
open Nat renaming le_refl->c7,ne_of_lt->i4,lt_of_lt_of_le->l9,zero_le->o8,le_trans->p5,lt_or_ge->q0,lt_irrefl->u5,lt_succ_of_lt->u9,ne_of_gt->D9,lt_trichotomy->G5,le_add_right->K2,le_succ->R3,le_of_lt->S3,lt_succ_self->T4,zero_add->X8,succ_pos->X9,le_of_lt_succ->ab6,div_div_eq_div_mul->ad7,le_of_eq->ah4,lt_or_eq_of_le->au0,pow_succ->aC7,not_lt_zero->aK4,lt_trans->bl6,testBit_two_pow->bx8,add_sub_cancel->bG9,lt_of_le_of_lt->bH0,mod_lt->bH1
open Bool renaming false_ne_true->f6,false_eq_true->j8,and_eq_true->A1,not_true->T8,eq_iff_iff->V0,not_false->aP1,not_eq_true->bH2
open PySem.W renaming nsIn->i3,keepIn->i7,codeIn->j7,mg_of->j9,fnOf->k7,mg_none_of->o9
open Int renaming toNat_natCast->i8,le_refl->B1,mul_one->C5,mul_zero->J3,mul_assoc->J4,mul_le_mul_of_nonneg_left->K3,mul_comm->L5,zero_mul->O2,mul_sub->V3,one_mul->ac7,emod_nonneg->ah3,sub_zero->ah6,natCast_nonneg->at9,lt_irrefl->au1,sub_self->aC8,mul_add->aK6,fdiv_eq_ediv_of_nonneg->aO9,mul_nonneg->aV0,add_zero->bl7,lt_or_le->bm0,toNat_of_nonneg->by0,emod_lt_of_pos->bG4
open Option renaming isSome_iff_exists->k9,map_some->ad6,toList_some->am5,isSome_map->bu9,getD_none->bx6
open Array renaming length_toList->o4,getElem?_toList->o5,size_extract->O5,getElem?_eq_none->P7,perm_iff_toList_perm->V2,forIn_toList->X1,size_map->X7,mem_toList_iff->ah2,toArray_toList->ah5,size_push->aC9,getElem?_append_left->aK1,size_zip->aK5,getElem?_replicate->aP0,append_assoc->bu7,getD->bx9,toList_map->bG5
namespace L2
open PySem PySem.Spec PyProof.Rows
abbrev Key:=Sum Int Str
def ax0:Key->Value->Bool
 | .inl k,v=>Value.isInt k v
 | .inr x,v=>Value.isStrOf x v
def bQ3 (w:World):Key->Int
 | .inl k=>hashInt k
 | .inr x=>hashStr w x
theorem E4:∀ {k:Key} {v:Value},ax0 k v=true->(∃ i t,k=Sum.inl i/\v=Value.int i t)\/(∃ x t,k=Sum.inr x/\v=Value.str x t)
 | .inl i,v,h=>by
  obtain⟨t,e⟩:=Value.isInt_shape (k:=i) (v:=v) h
  exact .inl ⟨i,t,rfl,e⟩
 | .inr x,v,h=>by
  obtain⟨t,e⟩:=Value.isStrOf_shape (x:=x) (v:=v) h
  exact .inr ⟨x,t,rfl,e⟩
theorem aX7 (i:Int)(t:Tok):ax0 (.inl i) (.int i t)=true:=by simp[ax0,Value.isInt]
theorem aX6 (x:Str)(t:Tok):ax0 (.inr x) (.str x t)=true:=by simp[ax0,Value.isStrOf]
theorem bD3 (a b:Int):decide ((Sum.inl a:Key)=Sum.inl b)=(a == b):=by
 by_cases e:a=b
 ·subst e;simp
 ·have h:¬ (Sum.inl a:Key)=Sum.inl b:=fun q=>e (Sum.inl.inj q)
  rw[decide_eq_false h]
  exact(beq_eq_false_iff_ne.mpr e).symm
theorem bD0 (a b:Str):decide ((Sum.inr a:Key)=Sum.inr b)=decide (a=b):=by
 by_cases e:a=b
 ·subst e;simp
 ·have h:¬ (Sum.inr a:Key)=Sum.inr b:=fun q=>e (Sum.inr.inj q)
  rw[decide_eq_false h,decide_eq_false e]
theorem bD2 (a:Int)(b:Str):decide ((Sum.inl a:Key)=Sum.inr b)=false:=decide_eq_false (fun q=>nomatch q)
theorem bD1 (a:Str)(b:Int):decide ((Sum.inr a:Key)=Sum.inl b)=false:=decide_eq_false (fun q=>nomatch q)
def G9 (prog:Program) (w:World):PySem.KeyKind prog w Key where
  is:=ax0
  hash:=bQ3 w
  inj:=fun v a b ha hb=>by
    rcases E4 ha with⟨i,t,rfl,rfl⟩ | ⟨x,t,rfl,rfl⟩
    · rcases E4 hb with⟨j,u,rfl,e⟩ | ⟨y,u,rfl,e⟩
      · injection e with e1 _;rw[e1]
      · exact nomatch e
    · rcases E4 hb with⟨j,u,rfl,e⟩ | ⟨y,u,rfl,e⟩
      · exact nomatch e
      · injection e with e1 _;rw[e1]
  byValue := fun k v h => by
    rcases E4 h with⟨i,t,rfl,rfl⟩ | ⟨x,t,rfl,rfl⟩<;>rfl
  pyHash:=fun hv h=>by
    rcases E4 hv with⟨i,t,rfl,rfl⟩ | ⟨x,t,rfl,rfl⟩
    · exact wpAny_pyHash_int h
    · exact wpAny_pyHash_str h
  eqBool:=fun hu hv h=>by
    rcases E4 hu with⟨i,t,rfl,rfl⟩ | ⟨x,t,rfl,rfl⟩
    · rcases E4 hv with⟨j,u,rfl,rfl⟩ | ⟨y,u,rfl,rfl⟩
      · rw[bD3]at h;exact wpAny_eqBool_int h
      · rw[bD2]at h;exact SeqAt.EqAt.int_str i t y u _ _ _ _ h
    · rcases E4 hv with⟨j,u,rfl,rfl⟩ | ⟨y,u,rfl,rfl⟩
      · rw[bD1]at h;exact SeqAt.EqAt.str_int x t j u _ _ _ _ h
      · rw[bD0]at h;exact wpAny_eqBool_str h
  «strs»:=fun k x t v h=>by
    rcases E4 h with⟨i,u,rfl,e⟩ | ⟨y,u,rfl,e⟩
    · exact nomatch e
    · injection e with e1 _
      subst e1
      cases v<;>rfl
theorem aH1 (prog:Program)(w:World)(i:Int)(t:Tok):(G9 prog w).is (.inl i) (.int i t)=true:=aX7 i t
theorem aH0 (prog:Program)(w:World)(x:Str)(t:Tok):(G9 prog w).is (.inr x) (.str x t)=true:=aX6 x t
inductive V where
 | non | bl (b:Bool) | int (i:Int) | str (x:Str) | byt (b:Array UInt8) | flt (b:UInt64) | ref (a:Addr) | ty (n:String)
 deriving DecidableEq
def RelV:V->Value->Prop
 | .non,u=>u=Value.none
 | .bl b,u=>u=Value.bool b
 | .int i,u=>∃ t,u=Value.int i t
 | .str x,u=>∃ t,u=Value.str x t
 | .byt b,u=>∃ t,u=Value.bytes b t
 | .flt b,u=>∃ t,u=Value.float b t
 | .ref a,u=>u=Value.ref a
 | .ty n,u=>u=Value.type n
abbrev y9:List V->List Value->Prop:=Paired RelV
theorem y9.length {xs:List V}{us:List Value}(r:y9 xs us):xs.length=us.length:=Paired.length r
theorem y9.get:∀ {xs:List V} {us:List Value} {i:Nat} {x:V},y9 xs us->xs[i]?=some x->∃ u,us[i]?=some u/\RelV x u
 | _,_,_,_,.nil,e=>by simp at e
 | _,_,0,_,.cons r _,e=>by simp at e;subst e;exact⟨_,rfl,r⟩
 | _,_,i+1,x,.cons _ t,e=>by
  obtain⟨u,h1,h2⟩:=y9.get (i:=i) (x:=x) t (by simpa using e)
  exact⟨u,by simpa using h1,h2⟩
theorem y9.set {x:V}{u:Value}(r:RelV x u):∀ {xs:List V} {us:List Value} (i:Nat),y9 xs us->y9 (xs.set i x) (us.set i u)
 | _,_,_,.nil=>.nil
 | _,_,0,.cons _ t=>.cons r t
 | _,_,i+1,.cons q t=>.cons q (y9.set r i t)
theorem y9.append:∀ {xs ys:List V} {us ws:List Value},y9 xs us->y9 ys ws->y9 (xs++ys) (us++ws)
 | _,_,_,_,.nil,s=>s
 | _,_,_,_,.cons r t,s=>.cons r (y9.append t s)
theorem y9.take:∀ {xs:List V} {us:List Value} (n:Nat),y9 xs us->y9 (xs.take n) (us.take n)
 | _,_,0,_=>.nil
 | _,_,_+1,.nil=>.nil
 | _,_,n+1,.cons r t=>.cons r (y9.take n t)
theorem y9.drop:∀ {xs:List V} {us:List Value} (n:Nat),y9 xs us->y9 (xs.drop n) (us.drop n)
 | _,_,0,r=>r
 | _,_,_+1,.nil=>.nil
 | _,_,n+1,.cons _ t=>y9.drop n t
def at3:Option V->Option Value->Prop
 | some v,some u=>RelV v u
 | none,none=>True
 | _,_=>False
def KV {κ:Type}:List (κ × V)->List (κ × Value)->Prop:=Paired fun(p:κ × V) (q:κ × Value)=>p.1=q.1/\RelV p.2 q.2
def kV:Key->V
 | .inl i=>.int i
 | .inr x=>.str x
inductive HO where
  | lst (xs:List V)
  | tup (xs:List V)
  | dK (kvs:List (Key × V)) | dT (kvs:List (List Key × V))
  | set (S:Int->Bool) (n:Nat)
  | ins (C dx:Addr) (fs:List (Str × V))
  | own (x:Addr)
  | xd (fs:List (Str × V))
  | met (f x:Addr)
  | rng (lo hi:Int)
  | frz (o:Obj) (u:HO)
  | tbl (ps:Array Value)
  | ext (φ:Heap->Prop)
abbrev Hp:=Addr->Option HO
def upd (H:Hp)(a:Addr)(o:HO):Hp:=fun b=>if b=a then some o else H b
theorem c6 {H:Hp}{a:Addr}{o:HO}:upd H a o a=some o:=by unfold upd;rw[if_pos rfl]
theorem m5 {H:Hp}{a b:Addr}{o:HO}(h:b≠a):upd H a o b=H b:=by unfold upd;rw[if_neg h]
theorem aP5 {H:Hp}{a:Addr}{o u:HO}:upd (upd H a o) a u=upd H a u:=by
 funext b;unfold upd;split<;>rfl
theorem bf9 {H:Hp}{a b:Addr}{o u:HO}(h:H a=some o)(h':H b=some u)(d:o≠u):a≠b:=by
 intro e;subst e;rw[h]at h';exact d (Option.some.inj h')
theorem m8 {H:Hp}{a b:Addr}{o:HO}(h:H a=some o)(h':H b=none):a≠b:=by
 intro e;subst e;rw[h]at h';cases h'
section
variable (P:Program) (w:World)
def B9 (H:Hp)(h:Heap)(a:Addr):HO->Prop
 | .lst xs=>xs.length<=sizeLine/\∃ (its:List Value) (n:Nat),y9 xs its/\h.get? a=some { cls:=.type "list",data:=.seq its.toArray n }
 | .tup xs=>xs.length<=sizeLine/\∃ its:List Value,y9 xs its/\IsTup h a its.toArray
 | .dK kvs=>kvs.length<=sizeLine/\(a == sysModules)=false/\∃ vs,KV kvs vs/\h.DictOf (G9 P w) a vs
 | .dT kvs=>kvs.length<=sizeLine/\(a == sysModules)=false/\∃ xs:List (List Key × Addr × Value),
   Paired (fun(p:List Key × V) (q:List Key × Addr × Value)=>p.1=q.1/\H q.2.1=some (.tup (p.1.map kV))/\RelV p.2 q.2.2) kvs xs /\
   ∃ o es ep,h.get? a=some o/\o.ExactDict/\o.data=.dict es ep/\es.toList=xs.map (entryOfKey (tupleKind (G9 P w)))/\(xs.map (·.1)).Nodup
 | .set S n=>h.SetOf (intKind P w) a S n
 | .ins C dx fs=>H dx=some (.own a)/\fs.length<=1000/\dx≠a/\h.get? a=some (PySem.W.instObj C dx) /\
   ∃ mA,h.Ns1 dx mA/\(∀ f,at3 (fs.lookup f) (mA f))/\PySem.Within mA (fs.map (·.1))
 | .own _=>∃ o,h.get? a=some o
 | .xd fs=>∃ mA,h.Ns1 a mA/\∀ f,at3 (fs.lookup f) (mA f)
 | .rng lo hi=>∃ t u v,h.get? a=some { cls:=.type "range",data:=.fields #[.int lo t,.int hi u,.int 1 v] }
 | .frz o u=>h.get? a=some o/\B9 H h a u
 | .tbl ps=>h.get? a=some { cls:=.none,data:=.fields ps }
 | .met f x=>h.get? a=some (PySem.W.methodObj (.ref f) (.ref x))
 | .ext φ=>φ h/\(∃ o,h.get? a=some o)/\∀ h1 h2:Heap,φ h1->(∀ o,h1.get? a=some o->h2.get? a=some o)->φ h2
def HOk (H:Hp)(h:Heap):Prop:=∀ a o,H a=some o->B9 P w H h a o
end
section
variable {P:Program} {w:World} {H H':Hp} {h h':Heap} {a:Addr} {o:HO}
theorem B9.lt (x:B9 P w H h a o):a<h.objs.size:=by
 cases o with
 | lst xs=>obtain⟨_,_,_,_,e⟩:=x;exact c9 e
 | tup xs=>obtain⟨_,_,_,p⟩:=x;exact p.lt
 | dK kvs=>obtain⟨_,_,_,_,o,_,_,e,_⟩:=x;exact c9 e
 | dT kvs=>obtain⟨_,_,_,_,o,_,_,e,_⟩:=x;exact c9 e
 | set S n=>obtain⟨o,_,_,_,e,_⟩:=x;exact c9 e
 | ins C dx fs=>obtain⟨_,_,_,e,_⟩:=x;exact c9 e
 | own y=>obtain⟨_,e⟩:=x;exact c9 e
 | xd fs=>obtain⟨_,⟨_,_,_,e,_⟩,_⟩:=x;exact c9 e
 | rng lo hi=>obtain⟨_,_,_,e⟩:=x;exact c9 e
 | frz ob u=>obtain⟨e,_⟩:=x;exact c9 e
 | tbl ps=>exact c9 (show h.get? a=some _ from x)
 | met f y=>exact c9 (show h.get? a=some _ from x)
 | ext φ=>obtain⟨_,⟨_,e⟩,_⟩:=x;exact c9 e
theorem Paired.mapP {α β:Type}{F G:α->β->Prop}:∀ {l₁:List α} {l₂:List β},Paired F l₁ l₂->(∀ a b,F a b->G a b)->Paired G l₁ l₂
 | _,_,.nil,_=>.nil
 | _,_,.cons r t,f=>.cons (f _ _ r) (Paired.mapP t f)
theorem B9.stay (x:B9 P w H h a o)(k:∀ b u,(b=a\/H b=some (.own a))->h.get? b=some u->h'.get? b=some u)
  (ho:∀ b,H b=some (.own a)->H' b=some (.own a))(ht:∀ b xs,H b=some (.tup xs)->H' b=some (.tup xs)):B9 P w H' h' a o:=by
 induction o with
 | lst xs=>obtain⟨z,its,n,r,e⟩:=x;exact⟨z,its,n,r,k _ _ (.inl rfl) e⟩
 | tup xs=>obtain⟨z,its,r,ob,e,c⟩:=x;exact⟨z,its,r,ob,k _ _ (.inl rfl) e,c⟩
 | dK kvs=>obtain⟨z,y,vs,r,ob,es,ep,e,c⟩:=x;exact⟨z,y,vs,r,ob,es,ep,k _ _ (.inl rfl) e,c⟩
 | dT kvs =>
  obtain⟨z,y,xs,r,ob,es,ep,e,c⟩:=x
  exact⟨z,y,xs,Paired.mapP r fun p q z=>⟨z.1,ht _ _ z.2.1,z.2.2⟩,ob,es,ep,k _ _ (.inl rfl) e,c⟩
 | set S n=>obtain⟨ob,es,ep,t,e,c⟩:=x;exact⟨ob,es,ep,t,k _ _ (.inl rfl) e,c⟩
 | ins C dx fs =>
  obtain⟨d,z,ne,e,mA,⟨od,es,ep,e2,c⟩,r⟩:=x
  exact⟨ho _ d,z,ne,k _ _ (.inl rfl) e,mA,⟨od,es,ep,k _ _ (.inr d) e2,c⟩,r⟩
 | own y=>obtain⟨ob,e⟩:=x;exact⟨ob,k _ _ (.inl rfl) e⟩
 | xd fs=>obtain⟨mA,⟨od,es,ep,e,c⟩,r⟩:=x;exact⟨mA,⟨od,es,ep,k _ _ (.inl rfl) e,c⟩,r⟩
 | rng lo hi=>obtain⟨t,u,v,e⟩:=x;exact⟨t,u,v,k _ _ (.inl rfl) e⟩
 | frz ob u ih=>obtain⟨e,q⟩:=x;exact⟨k _ _ (.inl rfl) e,ih q⟩
 | tbl ps =>
  have e:h.get? a=some { cls:=.none,data:=.fields ps }:=x
  show h'.get? a=some { cls:=.none,data:=.fields ps }
  exact k a _ (.inl rfl) e
 | met f y =>
  have e:h.get? a=some (PySem.W.methodObj (.ref f) (.ref y)):=x
  show h'.get? a=some (PySem.W.methodObj (.ref f) (.ref y))
  exact k a _ (.inl rfl) e
 | ext φ=>obtain⟨p,⟨o,e⟩,st⟩:=x;exact⟨st _ _ p fun o q=>k _ _ (.inl rfl) q,⟨o,k _ _ (.inl rfl) e⟩,st⟩
theorem HOk.lt (x:HOk P w H h)(e:H a=some o):a<h.objs.size:=(x a o e).lt
theorem HOk.fresh (x:HOk P w H h)(e:h.objs.size<=a):H a=none:=by
 cases q:H a with
 | none=>rfl
 | some u=>exact absurd (l9 (x.lt q) e) (u5 _)
theorem HOk.kept (x:HOk P w H h)(k:∀ b u,h.get? b=some u->h'.get? b=some u):HOk P w H h':=fun a o e =>
 (x a o e).stay (fun b u _ q=>k b u q) (fun _ q=>q) fun _ _ q=>q
theorem HOk.laid (x:HOk P w H h)(k:∀ b u,h.get? b=some u->h'.get? b=some u)(hp:h.objs.size<=a)(new:B9 P w (upd H a o) h' a o):HOk P w (upd H a o) h':=fun b u e=>by
 have hn:=x.fresh hp
 by_cases hb:b=a
 ·subst hb;rw[c6]at e;cases e;exact new
 ·rw[m5 hb]at e
  exact(x b u e).stay (fun c v _ q=>k c v q) (fun c q=>by rw[m5 (m8 q hn)];exact q) fun c xs q=>by rw[m5 (m8 q hn)];exact q
end
def Rd (H:Hp)(a:Addr)(u:HO):Prop:=H a=some u\/∃ o,H a=some (.frz o u)
theorem Rd.ok {P:Program}{w:World}{H:Hp}{h:Heap}{a:Addr}{u:HO}(r:Rd H a u)(x:HOk P w H h):B9 P w H h a u:=by
 rcases r with r | ⟨o,r⟩
 ·exact x a u r
 ·obtain⟨_,q⟩:=x a _ r
  exact q
def Mut:Option HO->Prop
 | some (.lst _)=>True
 | some (.dK _)=>True
 | some (.dT _)=>True
 | some (.set _ _)=>True
 | some (.ins _ _ _)=>True
 | some (.ext _)=>True
 | _=>False
section
variable {P:Program} {w:World} {H:Hp} {h h':Heap} {x e:Addr} {o':HO}
theorem HOk.write (ok:HOk P w H h)(mu:Mut (H x))(he:e=x\/H e=some (.own x))(k:∀ b u,b≠e->h.get? b=some u->h'.get? b=some u)(heo:∃ u,h'.get? e=some u)
  (new:B9 P w (upd H x o') h' x o'):HOk P w (upd H x o') h':=fun b u q=>by
 have nown:∀ c y,H c=some (.own y)->c≠x:=fun c y r z=>by subst z;rw[r]at mu;exact mu
 have ntup:∀ c xs,H c=some (.tup xs)->c≠x:=fun c xs r z=>by subst z;rw[r]at mu;exact mu
 by_cases hb:b=x
 ·subst hb;rw[c6]at q;cases q;exact new
 ·rw[m5 hb]at q
  by_cases hbe:b=e
  ·have q':H b=some (.own x):=by
    rcases he with z | z
    ·exact absurd (hbe.trans z) hb
    ·rw[hbe];exact z
   rw[q]at q';cases q'
   obtain⟨v,hv⟩:=heo
   exact⟨v,by rw[hbe];exact hv⟩
  ·refine(ok b u q).stay (fun c v hc r=>k c v ?_ r) (fun c r=>by rw[m5 (nown c b r)];exact r) fun c xs r=>by rw[m5 (ntup c xs r)];exact r
   rcases hc with rfl | hc
   ·exact hbe
   ·rintro rfl
    rcases he with z | z
    ·exact nown c b hc z
    ·rw[hc]at z;cases z;exact hb rfl
end
structure Un (fs ex:List Addr) (H H':Hp) (h h':Heap):Prop where
 keep:∀ b o,h.get? b=some o->H b=none->b∉fs->b∉ex->h'.get? b=some o
 slot:∀ b o,h.get? b=some o->H b=none->b∈fs->b∉ex->∃ sl,h'.get? b=some { o with slots:=sl }
 free:∀ b o,h.get? b=some o->H b=none->b∉ex->H' b=none
 there:∀ b o,h.get? b=some o->b∉ex->∃ o',h'.get? b=some o'
 tups:∀ b xs,H b=some (.tup xs)->H' b=some (.tup xs)
 frzs:∀ b o u,H b=some (.frz o u)->H' b=some (.frz o u)
 tbls:∀ b ps,H b=some (.tbl ps)->∃ more,H' b=some (.tbl (ps++more))
section
variable {fs fs' ex ex':List Addr} {H H1 H2:Hp} {h h1 h2 h':Heap} {a x e:Addr} {o:HO}
theorem Un.any (u:Un fs ex H H1 h h1){b:Addr}{ob:Obj}(q:h.get? b=some ob)(n:H b=none)(hx:b∉ex):∃ sl,h1.get? b=some { ob with slots:=sl }:=by
 by_cases hb:b∈fs
 ·exact u.slot b ob q n hb hx
 ·exact⟨ob.slots,u.keep b ob q n hb hx⟩
theorem Un.kept (k:∀ b u,h.get? b=some u->h'.get? b=some u):Un fs ex H H h h':=
 ⟨fun b ob q _ _ _=>k b ob q,fun b ob q _ _ _=>⟨ob.slots,k b ob q⟩,fun _ _ _ n _=>n,fun b ob q _=>⟨ob,k b ob q⟩,fun _ _ q=>q,fun _ _ _ q=>q,fun _ ps q=>⟨#[],by rw[q];simp⟩⟩
theorem Un.refl:Un fs ex H H h h:=Un.kept fun _ _ q=>q
theorem Un.laid (k:∀ b u,h.get? b=some u->h'.get? b=some u)(hp:h.objs.size<=a)(hn:H a=none):Un fs ex H (upd H a o) h h' where
 keep:=fun b u q _ _ _=>k b u q
 slot:=fun b u q _ _ _=>⟨u.slots,k b u q⟩
 free:=fun b u q n _=>by rw[m5 (i4 (l9 (c9 q) hp))];exact n
 there:=fun b u q _=>⟨u,k b u q⟩
 tups:=fun b xs q=>by rw[m5 (m8 q hn)];exact q
 frzs:=fun b u xs q=>by rw[m5 (m8 q hn)];exact q
 tbls:=fun b ps q=>⟨#[],by rw[m5 (m8 q hn),q];simp⟩
theorem Un.write (mu:Mut (H x))(he:e=x\/H e=some (.own x))(k:∀ b u,b≠e->h.get? b=some u->h'.get? b=some u)(heo:∃ u,h'.get? e=some u):Un fs ex H (upd H x o) h h':=by
 have hx:∀ b,H b=none->b≠x:=fun b n z=>by subst z;rw[n]at mu;exact mu
 have hb:∀ b,H b=none->b≠e:=fun b n z=>by
  subst z
  rcases he with r | r
  ·exact hx b n r
  ·rw[n]at r;cases r
 have hm:∀ b u,H b=some u->¬ Mut (some u)->b≠x:=fun b u q nm z=>by subst z;rw[q]at mu;exact nm mu
 refine⟨fun b u q n _ _=>k b u (hb b n) q,fun b u q n _ _=>⟨u.slots,k b u (hb b n) q⟩,fun b u q n _=>by rw[m5 (hx b n)];exact n,fun b u q _=>?_,
  fun b xs q=>by rw[m5 (hm b _ q fun z=>z)];exact q,fun b u xs q=>by rw[m5 (hm b _ q fun z=>z)];exact q,fun b ps q=>⟨#[],by rw[m5 (hm b _ q fun z=>z),q];simp⟩⟩
 by_cases hbe:b=e
 ·subst hbe;exact heo
 ·exact⟨u,k b u hbe q⟩
end
def trk (h:Heap)(H:Hp):List Addr:=(k8 h.objs.size).filter fun a=>(H a).isSome
def au6 (h:Heap)(H:Hp):Heap:=PySem.W.hideAll h (trk h H)
theorem aY3 (h:Heap)(H:Hp):(au6 h H).objs.size=h.objs.size:=PySem.W.hideAll_size _ _
theorem bi2 {h:Heap}{H:Hp}{b:Addr}{o:Obj}(e:h.get? b=some o)(n:H b=none):(au6 h H).get? b=some o:=
 PySem.W.hideAll_get _ e fun hm=>by
  have q:(H b).isSome=true:=(C6.mp hm).2
  rw[n]at q;simp at q
theorem br2 {h:Heap}{H:Hp}{b:Addr}{o:Obj}(e:(au6 h H).get? b=some o):h.get? b=some o/\H b=none:=by
 have e':h.get? b=some o:=PySem.W.of_hideAll (trk h H) e
 refine⟨e',?_⟩
 cases q:H b with
 | none=>rfl
 | some x =>
  have hm:b∈trk h H:=C6.mpr ⟨p0.mpr (c9 e'),by simp[q]⟩
  have z:(au6 h H).get? b=none:=PySem.W.hideAll_none (trk h H) hm
  rw[z]at e;cases e
def bu2 (g h:Heap)(L:Addr):List (Addr × Obj):=(k8 h.objs.size).filterMap fun a=>if a=L\/(g.get? a).isSome=true then none else (h.get? a).map fun o=>(a,o)
def rest (g h:Heap)(L d:Addr):List (Addr × Obj):=(bu2 g h L).filter fun p=>decide (p.1≠d)
structure Mod (K:W.Frag) (mg:Str->Option Value) (base:Heap):Prop where
 kin:K.In base
 glob:base.Ns mainGlobals mg
 blt:∃ mb,base.Ns builtinsNs mb/\∀ x:Str,x≠"__name__"->mb x=bootBuiltins x
 nolimit:base.NoLimit
structure Cx where
 prog:Program
 w:World
 K:W.Frag
 mg:Str->Option Value
 base:Heap
 A:Around
 N:List Str
 s₀:Shared
 H₀:Hp
 env:Env
 outer:List Env
 stack:List Env
 ex:List Addr
 fn:Str->Bool
 calm:Bool
 pn:List (Addr × Obj)
 xe:Value->Shared->Prop
def frs (l:List Env):List Addr:=l.filterMap (·.frame)
abbrev Cx.fs (X:Cx):List Addr:=frs X.outer
def Vis (sc:Scope)(x:Str):Prop:=sc.names.lookup x=some .local\/sc.names.lookup x=some .cell\/sc.names.lookup x=some .free
def Loc (sc:Scope)(x:Str):Prop:=sc.names.lookup x=some .local\/sc.names.lookup x=some .cell
def Look (env:Env)(h:Heap)(m:Str->Option Value)(x:Str)(u:Value):Prop:=
 (env.kindOf x=some .local/\m x=some u)\/((env.kindOf x=some .cell\/env.kindOf x=some .free)/\∃ c,env.cells.lookup x=some c/\h.IsCell c (some u))
structure Cx.Ok (X:Cx):Prop where
 mod:Mod X.K X.mg X.base
 kind:X.env.scope.kind=.function
 glob:X.env.globals=mainGlobals
 blt:X.env.builtins=builtinsNs
 above:X.s₀.heap.objs.size<=X.env.locals
 inj:∀ x y c,X.env.cells.lookup x=some c->X.env.cells.lookup y=some c->x=y
 has:∀ x,(X.env.kindOf x=some .cell\/X.env.kindOf x=some .free)->∃ c,X.env.cells.lookup x=some c
 cab:∀ x c,X.fn x=true->X.env.cells.lookup x=some c->X.s₀.heap.objs.size<=c
 hd:X.calm=true->X.A.handled=none
 frames:X.A.frames=some X.stack
 stk:X.stack=X.outer\/(X.stack=X.env::X.outer/\X.env.frame=some X.env.locals)
 exf:∀ b∈X.ex,b≠X.env.locals/\∀ x c,X.env.cells.lookup x=some c->c≠b
 bs:∀ b o,X.base.get? b=some o->X.s₀.heap.get? b=some o/\X.H₀ b=none
 bsz:X.base.objs.size<=X.s₀.heap.objs.size
 noex:∀ b o,X.base.get? b=some o->b∉X.ex
 exfs:∀ b∈X.ex,b∉X.fs
 funs:X.s₀.heap.FunFrames X.base X.outer
 frf:∀ b∈X.fs,X.H₀ b=none
structure Inv (X:Cx) (pins:List (Addr × Obj)) (σ:List (Option V)) (H:Hp) (s:Shared):Prop where
 ok:X.Ok
 os:s.os=X.s₀.os
 bare:AllBare s.gens
 base:Un X.fs X.ex X.H₀ H X.s₀.heap s.heap
 loc:∃ m,s.heap.Ns X.env.locals m/\∀ (i:Nat) (x:Str) (v:V),X.N[i]?=some x->σ[i]?=some (some v)->Vis X.env.scope x->∃ u,RelV v u/\Look X.env s.heap m x u
 cell:∀ x c,X.env.cells.lookup x=some c->∃ v,s.heap.IsCell c v
 free:H X.env.locals=none
 freeC:∀ x c,X.env.cells.lookup x=some c->H c=none
 pin:∀ p∈X.pn++pins,s.heap.get? p.1=some p.2/\H p.1=none/\p.1≠X.env.locals/\p.1∉X.fs/\∀ v,p.2.data≠.cell v
 hok:HOk X.prog X.w H s.heap
 len:σ.length=X.N.length
section
variable {X:Cx} {pins:List (Addr × Obj)} {σ:List (Option V)} {H H':Hp} {s:Shared} {h':Heap}
theorem Cx.Ok.nofr (ok:X.Ok){b:Addr}{o:Obj}(e:X.base.get? b=some o):b∉X.fs:=fun hb=>by
 have:=(ok.funs.mem hb).1
 rw[e]at this;cases this
theorem Inv.bs (I:Inv X pins σ H s):∀ b o,X.base.get? b=some o->s.heap.get? b=some o/\H b=none:=fun b o e =>
 ⟨I.base.keep b o (I.ok.bs b o e).1 (I.ok.bs b o e).2 (I.ok.nofr e) (I.ok.noex b o e),I.base.free b o (I.ok.bs b o e).1 (I.ok.bs b o e).2 (I.ok.noex b o e)⟩
theorem Inv.bk (I:Inv X pins σ H s):∀ b o,X.base.get? b=some o->s.heap.get? b=some o:=fun b o e=>(I.bs b o e).1
theorem Inv.mod (I:Inv X pins σ H s):Mod X.K X.mg X.base:=I.ok.mod
theorem Inv.kIn (I:Inv X pins σ H s):X.K.In s.heap:=I.ok.mod.kin.keeps I.bk
theorem Inv.nolimit (I:Inv X pins σ H s):s.heap.NoLimit:=I.ok.mod.nolimit.keeps I.bk
theorem Inv.lt (I:Inv X pins σ H s):X.env.locals<s.heap.objs.size:=let ⟨_,hn,_⟩:=I.loc;hn.lt
theorem Inv.sz (I:Inv X pins σ H s):X.s₀.heap.objs.size<=s.heap.objs.size:=p5 I.ok.above (S3 I.lt)
theorem Inv.nofs (I:Inv X pins σ H s){a:Addr}(h:s.heap.objs.size<=a):a∉X.fs:=fun hb=>by
 obtain⟨_,o,ho,_⟩:=I.ok.funs.mem hb
 exact absurd (l9 (c9 ho) (p5 I.sz h)) (u5 _)
theorem Inv.cne (I:Inv X pins σ H s):∀ x c,X.env.cells.lookup x=some c->c≠X.env.locals:=fun x c e z=>by
 obtain⟨v,o,ho,hd⟩:=I.cell x c e
 obtain⟨m,⟨o',es,ep,ho',hd',_⟩,_⟩:=I.loc
 rw[z,ho']at ho;cases ho;rw[hd']at hd;cases hd
theorem Inv.funs (I:Inv X pins σ H s):s.heap.FunFrames X.base X.outer:=by
 have all:∀ (l:List Env),(∀ b∈frs l,b∈X.fs)->X.s₀.heap.FunFrames X.base l->s.heap.FunFrames X.base l:=by
  intro l
  induction l with
  | nil=>intro _ _;trivial
  | cons env r ih =>
   intro hs hl
   obtain⟨hk,⟨L,o,hf,hn,ho,hd⟩,hr⟩:=hl
   have hL:L∈X.fs:=hs L (by unfold frs;rw[N6,hf];exact d8)
   obtain⟨sl,e⟩:=I.base.slot L o ho (I.ok.frf L hL) hL fun z=>I.ok.exfs L z hL
   exact⟨hk,⟨L,_,hf,hn,e,hd⟩,ih (fun b hb=>hs b (by unfold frs;rw[N6,hf];exact d5 _ hb)) hr⟩
 exact all X.outer (fun _ hb=>hb) I.ok.funs
theorem Inv.stack (I:Inv X pins σ H s):s.heap.FunFrames X.base X.stack:=by
 rcases I.ok.stk with e | ⟨e,hf⟩
 ·rw[e];exact I.funs
 ·rw[e]
  obtain⟨m,hn,_⟩:=I.loc
  refine .cons (by rw[I.ok.kind];decide) hf hn ?_ I.funs
  exact aj6 (p5 I.ok.bsz I.ok.above)
theorem Inv.stkSub (I:Inv X pins σ H s):∀ b∈frs X.stack,b∈X.env.locals::X.fs:=fun b hb=>by
 rcases I.ok.stk with e | ⟨e,hf⟩
 ·rw[e]at hb;exact d5 _ hb
 ·rw[e]at hb
  unfold frs at hb
  rw[N6,hf]at hb
  exact hb
theorem Inv.stkFree (I:Inv X pins σ H s):∀ b∈frs X.stack,H b=none:=fun b hb=>by
 rcases d3.mp (I.stkSub b hb) with e | hb
 ·rw[e];exact I.free
 ·obtain⟨_,o,ho,_⟩:=I.ok.funs.mem hb
  exact I.base.free b o ho (I.ok.frf b hb) fun z=>I.ok.exfs b z hb
theorem Inv.step {g':Array GenState}{t':Nat}{d':Drawn}{ch:List Addr}(I:Inv X pins σ H s)
  (hch:∀ b∈ch,(b∈X.ex\/X.s₀.heap.objs.size<=b)/\b≠X.env.locals/\(∀ x c,X.env.cells.lookup x=some c->c≠b)/\∀ p∈X.pn++pins,p.1≠b)
  (keep:∀ b o,b≠X.env.locals->b∉X.fs->b∉ch->s.heap.get? b=some o->H b=none->h'.get? b=some o)
  (slot:∀ b o,b≠X.env.locals->b∈X.fs->b∉ch->s.heap.get? b=some o->H b=none->∃ sl,h'.get? b=some { o with slots:=sl })(free:∀ b o,b∉ch->s.heap.get? b=some o->H b=none->H' b=none)
  (there:∀ b o,b∉ch->s.heap.get? b=some o->∃ o',h'.get? b=some o')
  (tups:∀ b xs,H b=some (.tup xs)->H' b=some (.tup xs))(frzs:∀ b o u,H b=some (.frz o u)->H' b=some (.frz o u))(tbls:∀ b ps,H b=some (.tbl ps)->∃ more,H' b=some (.tbl (ps++more)))
  (ns:∀ m,s.heap.Ns X.env.locals m->h'.Ns X.env.locals m)(hok:HOk X.prog X.w H' h')(hg:AllBare g') :
  Inv X pins σ H' { s with heap:=h',gens:=g',drawn:=d',toks:=t' }:=by
 have neL:∀ b o,X.s₀.heap.get? b=some o->b≠X.env.locals:=fun b o e=>i4 (l9 (c9 e) I.ok.above)
 have neC:∀ b o,X.s₀.heap.get? b=some o->b∉X.ex->b∉ch:=fun b o e hx hb=>by
  rcases(hch b hb).1 with z | z
  ·exact hx z
  ·exact absurd (l9 (c9 e) z) (u5 _)
 have cellK:∀ x c,X.env.cells.lookup x=some c->∀ v,s.heap.IsCell c v->h'.IsCell c v:=fun x c e v ⟨o,ho,hd⟩=>by
  have nch:c∉ch:=fun z=>(hch c z).2.2.1 x c e rfl
  by_cases hc:c∈X.fs
  ·obtain⟨sl,q⟩:=slot c o (I.cne x c e) hc nch ho (I.freeC x c e)
   exact⟨_,q,hd⟩
  ·exact⟨o,keep c o (I.cne x c e) hc nch ho (I.freeC x c e),hd⟩
 refine⟨I.ok,I.os,hg,⟨fun b o e n hb hx=>?_,fun b o e n hb hx=>?_,fun b o e n hx=>?_,fun b o e hx=>?_,fun b xs e=>tups b xs (I.base.tups b xs e),fun b o xs e=>frzs b o xs (I.base.frzs b o xs e),fun b ps e=>?_⟩,?_,fun x c e=>?_,?_,fun x c e=>?_,fun p hp=>?_,hok,I.len⟩
 ·exact keep b o (neL b o e) hb (neC b o e hx) (I.base.keep b o e n hb hx) (I.base.free b o e n hx)
 ·obtain⟨sl,e1⟩:=I.base.slot b o e n hb hx
  obtain⟨sl',e2⟩:=slot b _ (neL b o e) hb (neC b o e hx) e1 (I.base.free b o e n hx)
  exact⟨sl',e2⟩
 ·obtain⟨o',e1⟩:=I.base.there b o e hx
  exact free b o' (neC b o e hx) e1 (I.base.free b o e n hx)
 ·obtain⟨o',e1⟩:=I.base.there b o e hx
  exact there b o' (neC b o e hx) e1
 ·obtain⟨m1,e1⟩:=I.base.tbls b ps e
  obtain⟨m2,e2⟩:=tbls b _ e1
  exact⟨m1++m2,by rw[e2,bu7]⟩
 ·obtain⟨m,hn,hl⟩:=I.loc
  refine⟨m,ns m hn,fun i x v e1 e2 e3=>?_⟩
  obtain⟨u,r,l⟩:=hl i x v e1 e2 e3
  refine⟨u,r,?_⟩
  rcases l with l | ⟨k,c,e,z⟩
  ·exact .inl l
  ·exact .inr ⟨k,c,e,cellK x c e _ z⟩
 ·obtain⟨v,z⟩:=I.cell x c e
  exact⟨v,cellK x c e v z⟩
 ·obtain⟨m,⟨o,_,_,ho,_⟩,_⟩:=I.loc
  exact free _ o (fun z=>(hch _ z).2.1 rfl) ho I.free
 ·obtain⟨v,o,ho,hd⟩:=I.cell x c e
  exact free c o (fun z=>(hch c z).2.2.1 x c e rfl) ho (I.freeC x c e)
 ·obtain⟨e,n,ne,nf,d⟩:=I.pin p hp
  have nch:p.1∉ch:=fun z=>(hch p.1 z).2.2.2 p hp rfl
  exact⟨keep p.1 p.2 ne nf nch e n,free p.1 p.2 nch e n,ne,nf,d⟩
theorem Inv.un {t':Nat}(I:Inv X pins σ H s)(u:Un X.fs [] H H' s.heap h')(hok:HOk X.prog X.w H' h'):Inv X pins σ H' { s with heap:=h',toks:=t' }:=by
 obtain⟨m,⟨o,es,ep,ho,r⟩,_⟩:=id I.loc
 obtain⟨sl,hL⟩:=u.any ho I.free (by simp)
 exact I.step (g':=s.gens) (d':=s.drawn) (ch:=[]) (fun _ z=>nomatch z) (fun b o _ hb _ e n=>u.keep b o e n hb (by simp)) (fun b o _ hb _ e n=>u.slot b o e n hb (by simp)) (fun b o _ e n=>u.free b o e n (by simp)) (fun b o _ e=>u.there b o e (by simp)) u.tups u.frzs u.tbls (fun m' hm=>by
  obtain⟨o',es',ep',ho',r'⟩:=hm
  rw[ho]at ho';cases ho'
  exact⟨_,es',ep',hL,r'⟩) hok I.bare
theorem Inv.call {g':Array GenState}{t':Nat}{d':Drawn}{ch:List Addr}(I:Inv X pins σ H s)(u:Un (frs X.stack) ch H H' s.heap h')(hok:HOk X.prog X.w H' h')(hg:AllBare g')
  (hch:∀ b∈ch,(b∈X.ex\/X.s₀.heap.objs.size<=b)/\b≠X.env.locals/\(∀ x c,X.env.cells.lookup x=some c->c≠b)/\∀ p∈X.pn++pins,p.1≠b) :
  Inv X pins σ H' { s with heap:=h',gens:=g',drawn:=d',toks:=t' }:=by
 obtain⟨m,⟨o,es,ep,ho,r⟩,_⟩:=id I.loc
 obtain⟨sl,hL⟩:=u.any ho I.free fun z=>(hch _ z).2.1 rfl
 exact I.step (ch:=ch) hch (fun b o hL hb hc e n=>u.keep b o e n (fun z=>(d3.mp (I.stkSub b z)).elim hL hb) hc) (fun b o _ _ hc e n=>u.any e n hc) (fun b o hc e n=>u.free b o e n hc) (fun b o hc e=>u.there b o e hc) u.tups u.frzs u.tbls (fun m' hm=>by
  obtain⟨o',es',ep',ho',r'⟩:=hm
  rw[ho]at ho';cases ho'
  exact⟨_,es',ep',hL,r'⟩) hok hg
theorem Inv.turned {t':Nat}{it:Addr}(I:Inv X pins σ H s)(k:∀ b o,b≠it->s.heap.get? b=some o->h'.get? b=some o)(hn:H it=none)(hL:it≠X.env.locals)
  (h1:it∈X.ex\/X.s₀.heap.objs.size<=it)(h2:∀ x c,X.env.cells.lookup x=some c->c≠it)(h3:∀ p∈X.pn++pins,p.1≠it):Inv X pins σ H { s with heap:=h',toks:=t' }:=by
 have nit:∀ b u,H b=some u->b≠it:=fun b u e z=>by rw[z,hn]at e;cases e
 refine I.step (g':=s.gens) (d':=s.drawn) (ch:=[it]) (fun b hb=>?_) (fun b o _ _ hc e _=>k b o (fun z=>hc (by simp[z])) e) (fun b o _ _ hc e _=>⟨o.slots,k b o (fun z=>hc (by simp[z])) e⟩) (fun _ _ _ _ n=>n)
  (fun b o hc e=>⟨o,k b o (fun z=>hc (by simp[z])) e⟩) (fun _ _ e=>e) (fun _ _ _ e=>e) (fun b ps e=>⟨#[],by rw[e];simp⟩) (fun m hm=>?_) (fun b u e=>?_) I.bare
 ·have e:b=it:=by simpa using hb
  subst e
  exact⟨h1,hL,h2,h3⟩
 ·obtain⟨o,es,ep,ho,r⟩:=hm
  exact⟨o,es,ep,k _ o (Ne.symm hL) ho,r⟩
 ·refine(I.hok b u e).stay (fun c v hc q=>k c v ?_ q) (fun _ q=>q) fun _ _ q=>q
  rcases hc with z | z
  ·rw[z];exact nit b u e
  ·exact nit c _ z
theorem Inv.tok (I:Inv X pins σ H s)(t:Nat):Inv X pins σ H { s with toks:=t }:=I.un (h':=s.heap) (t':=t) Un.refl I.hok
theorem Inv.kept {t':Nat}(I:Inv X pins σ H s)(k:∀ b u,s.heap.get? b=some u->h'.get? b=some u):Inv X pins σ H { s with heap:=h',toks:=t' }:=I.un (Un.kept k) (I.hok.kept k)
theorem Inv.laid {a:Addr}{o:HO}{t':Nat}(I:Inv X pins σ H s)(k:∀ b u,s.heap.get? b=some u->h'.get? b=some u)(hp:s.heap.objs.size<=a)(new:B9 X.prog X.w (upd H a o) h' a o) :
  Inv X pins σ (upd H a o) { s with heap:=h',toks:=t' }:=I.un (Un.laid k hp (I.hok.fresh hp)) (I.hok.laid k hp new)
theorem Inv.write {x e:Addr}{o:HO}{t':Nat}(I:Inv X pins σ H s)(mu:Mut (H x))(he:e=x\/H e=some (.own x))(k:∀ b u,b≠e->s.heap.get? b=some u->h'.get? b=some u)(heo:∃ u,h'.get? e=some u)
  (new:B9 X.prog X.w (upd H x o) h' x o):Inv X pins σ (upd H x o) { s with heap:=h',toks:=t' }:=I.un (Un.write mu he k heo) (I.hok.write mu he k heo new)
theorem Inv.pins_of {pins':List (Addr × Obj)}(I:Inv X pins σ H s)(h:∀ p∈pins',s.heap.get? p.1=some p.2/\H p.1=none/\p.1≠X.env.locals/\p.1∉X.fs/\∀ v,p.2.data≠.cell v):Inv X pins' σ H s:=
 ⟨I.ok,I.os,I.bare,I.base,I.loc,I.cell,I.free,I.freeC,fun p hp=>(C7.mp hp).elim (fun z=>I.pin p (aj7 _ z)) (h p),I.hok,I.len⟩
theorem aG5 {N:List Str}(hN:N.Nodup){i j:Nat}{x:Str}(a:N[i]?=some x)(b:N[j]?=some x):i=j:=by
 obtain⟨h1,e1⟩:=o7.mp a
 obtain⟨h2,e2⟩:=o7.mp b
 exact(List.getElem_inj hN).mp (e1.trans e2.symm)
theorem av5 {M:Model}{A:Around}{E:Value->Shared->Prop}{i:Nat}{x:Str}{v:V}{u:Value}{Q:Unit->Shared->Prop}(I:Inv X pins σ H s)(hN:X.N.Nodup)(hi:X.N[i]?=some x)(hx:Loc X.env.scope x)(r:RelV v u)
  (h:∀ s',Inv X pins (σ.set i (some v)) H s'->(∃ a,Heap.SameBut a s.heap s'.heap/\(a=X.env.locals\/X.env.cells.lookup x=some a))->Q () s')(hf:X.fn x=true\/X.env.scope.names.lookup x=some .local:=by first | exact .inl rfl | exact .inr rfl | assumption):wpAny M A (storeName X.env x u) Q E s:=by
 obtain⟨m,hn,hl⟩:=id I.loc
 have hcls:(X.env.scope.kind == .class || (X.env.scope.kind == .module && X.env.locals != X.env.globals))=false:=by rw[I.ok.kind];rfl
 have hiσ:i<σ.length:=by rw[I.len];exact(o7.mp hi).1
 have cne:=I.cne
 have tracked:∀ {a:Addr} {h':Heap},(∃ o,s.heap.get? a=some o/\H a=none)->Heap.SameBut a s.heap h'->HOk X.prog X.w H h':=fun {a h'} ha hs b ob e=>by
  obtain⟨_,_,hfree⟩:=ha
  refine(I.hok b ob e).stay (fun c w' hc q=>(hs.2 c ?_).trans q) (fun _ q=>q) fun _ _ q=>q
  rintro rfl
  rcases hc with rfl | hc
  ·rw[hfree]at e;cases e
  ·rw[hfree]at hc;cases hc
 rcases hx with hk | hk
 ·refine wpAny_storeName_local hk hn (fun h' hn' hs=>?_) hcls
  obtain⟨oL,_,_,hoL,_⟩:=id hn
  refine h _ ⟨I.ok,I.os,I.bare,⟨fun b o e n hb hx=>?_,fun b o e n hb hx=>?_,I.base.free,fun b o e hx=>?_,I.base.tups,I.base.frzs,I.base.tbls⟩,⟨_,hn',fun j y v' e1 e2 e3=>?_⟩,fun y c e=>?_,I.free,I.freeC,fun p hp=>?_,tracked ⟨oL,hoL,I.free⟩ hs,by simpa using I.len⟩ ⟨_,hs,.inl rfl⟩
  ·exact(hs.2 b (i4 (l9 (c9 e) I.ok.above))).trans (I.base.keep b o e n hb hx)
  ·obtain⟨sl,e1⟩:=I.base.slot b o e n hb hx
   exact⟨sl,(hs.2 b (i4 (l9 (c9 e) I.ok.above))).trans e1⟩
  ·obtain⟨o',e1⟩:=I.base.there b o e hx
   exact⟨o',(hs.2 b (i4 (l9 (c9 e) I.ok.above))).trans e1⟩
  ·by_cases hj:j=i
   ·subst hj
    rw[hi]at e1;cases e1
    rw[ad4 hiσ]at e2
    cases e2
    exact⟨u,r,.inl ⟨hk,by simp⟩⟩
   ·rw[M4 (Ne.symm hj)]at e2
    obtain⟨u',r',q⟩:=hl j y v' e1 e2 e3
    refine⟨u',r',?_⟩
    rcases q with⟨k,e⟩ | ⟨k,c,e,z⟩
    ·refine .inl ⟨k,?_⟩
     have:y≠x:=fun e=>hj (aG5 hN e1 (e ▸ hi))
     simp[this,e]
    ·exact .inr ⟨k,c,e,z.sameBut hs (cne y c e)⟩
  ·obtain⟨w',z⟩:=I.cell y c e
   exact⟨w',z.sameBut hs (cne y c e)⟩
  ·obtain⟨e,n,ne,nf,d⟩:=I.pin p hp
   exact⟨(hs.2 p.1 ne).trans e,n,ne,nf,d⟩
 ·have hfn:X.fn x=true:=by
   rcases hf with z | z
   ·exact z
   ·rw[z]at hk;cases hk
  obtain⟨c,hc⟩:=I.ok.has x (.inl hk)
  obtain⟨w',z⟩:=I.cell x c hc
  refine wpAny_storeName_cell I.ok.kind hk hc z (fun h' hc' hs=>?_)
  obtain⟨oc,hoc,hocd⟩:=id z
  refine h { s with heap:=h' } ⟨I.ok,I.os,I.bare,⟨fun b o e n hb hx=>?_,fun b o e n hb hx=>?_,I.base.free,fun b o e hx=>?_,I.base.tups,I.base.frzs,I.base.tbls⟩,⟨m,hn.sameBut hs (Ne.symm (cne x c hc)),fun j y v' e1 e2 e3=>?_⟩,fun y c' e=>?_,I.free,I.freeC,fun p hp=>?_,tracked ⟨oc,hoc,I.freeC x c hc⟩ hs,by simpa using I.len⟩ ⟨c,hs,.inr hc⟩
  ·exact(hs.2 b (i4 (l9 (c9 e) (I.ok.cab x c hfn hc)))).trans (I.base.keep b o e n hb hx)
  ·obtain⟨sl,e1⟩:=I.base.slot b o e n hb hx
   exact⟨sl,(hs.2 b (i4 (l9 (c9 e) (I.ok.cab x c hfn hc)))).trans e1⟩
  ·obtain⟨o',e1⟩:=I.base.there b o e hx
   exact⟨o',(hs.2 b (i4 (l9 (c9 e) (I.ok.cab x c hfn hc)))).trans e1⟩
  ·by_cases hj:j=i
   ·subst hj
    rw[hi]at e1;cases e1
    rw[ad4 hiσ]at e2
    cases e2
    exact⟨u,r,.inr ⟨.inl hk,c,hc,hc'⟩⟩
   ·rw[M4 (Ne.symm hj)]at e2
    obtain⟨u',r',q⟩:=hl j y v' e1 e2 e3
    refine⟨u',r',?_⟩
    rcases q with q | ⟨k,c',e,z'⟩
    ·exact .inl q
    ·refine .inr ⟨k,c',e,z'.sameBut hs ?_⟩
     rintro rfl
     exact hj (aG5 hN e1 (I.ok.inj _ _ _ e hc ▸ hi))
  ·by_cases hcc:c'=c
   ·subst hcc;exact⟨_,hc'⟩
   ·obtain⟨w2,z2⟩:=I.cell y c' e
    exact⟨w2,z2.sameBut hs hcc⟩
  ·obtain⟨e,n,ne,nf,d⟩:=I.pin p hp
   refine⟨(hs.2 p.1 ?_).trans e,n,ne,nf,d⟩
   intro q
   rw[q,hoc]at e
   have q':oc=p.2:=Option.some.inj e
   exact d w' (by rw[<- q'];exact hocd)
theorem ao6 {M:Model}{A:Around}{E:Value->Shared->Prop}{i:Nat}{x:Str}{v:V}{u:Value}{Q:Unit->Shared->Prop}(I:Inv X pins σ H s)(hN:X.N.Nodup)(hi:X.N[i]?=some x)(hx:Loc X.env.scope x)(r:RelV v u)
  (h:∀ s',Inv X pins (σ.set i (some v)) H s'->Q () s')(hf:X.fn x=true\/X.env.scope.names.lookup x=some .local:=by first | exact .inl rfl | exact .inr rfl | assumption):wpAny M A (storeName X.env x u) Q E s:=
 av5 I hN hi hx r (fun s' I' _=>h s' I') hf
theorem Inv.call' {s':Shared}{ch:List Addr}(I:Inv X pins σ H s)(ho:s'.os=s.os)(u:Un (frs X.stack) ch H H' s.heap s'.heap)(hok:HOk X.prog X.w H' s'.heap)(hg:AllBare s'.gens)
  (hch:∀ b∈ch,(b∈X.ex\/X.s₀.heap.objs.size<=b)/\b≠X.env.locals/\(∀ x c,X.env.cells.lookup x=some c->c≠b)/\∀ p∈X.pn++pins,p.1≠b):Inv X pins σ H' s':=by
 obtain⟨h',g',d',t',o'⟩:=s'
 have e:o'=s.os:=ho
 subst e
 exact I.call (g':=g') (t':=t') (d':=d') u hok hg hch
end
abbrev XK:=Value->Option Addr->Hp->Prop
abbrev St:=List (Option V)
abbrev VK:=V->Hp->Prop
abbrev TE:=St->Hp->VK->Prop
abbrev TT:=St->Hp->(Bool->Hp->Prop)->Prop
abbrev TA:=St->Hp->(List V->Hp->Prop)->Prop
structure Ends where
 nx:St->Hp->Prop
 rt:VK
 bk:St->Hp->Prop:=fun _ _=>False
 ct:St->Hp->Prop:=fun _ _=>False
abbrev TS:=Ends->St->Hp->Prop
def EP (X:Cx)(pins:List (Addr × Obj))(σ:St)(Q:VK)(u:Value)(s':Shared):Prop:=∃ v H',Inv X pins σ H' s'/\RelV v u/\Q v H'
def TP (X:Cx)(pins:List (Addr × Obj))(σ:St)(Q:Bool->Hp->Prop)(b:Bool)(s':Shared):Prop:=∃ H',Inv X pins σ H' s'/\Q b H'
def AP (X:Cx)(pins:List (Addr × Obj))(σ:St)(Q:List V->Hp->Prop)(us:List Value)(s':Shared):Prop:=∃ vs H',Inv X pins σ H' s'/\y9 vs us/\Q vs H'
def SP (X:Cx)(pins:List (Addr × Obj))(D:Ends)(f:Flow)(s':Shared):Prop:=
 match f with
 | .next=>∃ σ' H',Inv X pins σ' H' s'/\D.nx σ' H'
 | .brk=>∃ σ' H',Inv X pins σ' H' s'/\D.bk σ' H'
 | .cont=>∃ σ' H',Inv X pins σ' H' s'/\D.ct σ' H'
 | .ret u=>∃ v σ' H',Inv X pins σ' H' s'/\RelV v u/\D.rt v H'
def PE (X:Cx)(e:Expr)(t:TE):Prop:=
 ∀ (pins:List (Addr × Obj)) (s:Shared) (σ:St) (H:Hp) (Q:VK),Inv X pins σ H s->t σ H Q->wpAny (model X.prog X.w) X.A (eval e X.env) (EP X pins σ Q) X.xe s
def PT (X:Cx)(e:Expr)(t:TT):Prop:=
 ∀ (pins:List (Addr × Obj)) (s:Shared) (σ:St) (H:Hp) (Q:Bool->Hp->Prop),Inv X pins σ H s->t σ H Q->wpAny (model X.prog X.w) X.A (isTrue e X.env (eval e X.env)) (TP X pins σ Q) X.xe s
def PW (X:Cx)(e:Expr)(t:TT):Prop:=
 ∀ (whole:Sem Value) (pins:List (Addr × Obj)) (s:Shared) (σ:St) (H:Hp) (Q:Bool->Hp->Prop),Inv X pins σ H s->t σ H Q->wpAny (model X.prog X.w) X.A (isTrue e X.env whole) (TP X pins σ Q) X.xe s
theorem PW.pt {X:Cx}{e:Expr}{t:TT}(h:PW X e t):PT X e t:=h _
def PA (X:Cx)(es:List Expr)(t:TA):Prop:=
 ∀ (pos:Pos) (pins:List (Addr × Obj)) (s:Shared) (σ:St) (H:Hp) (Q:List V->Hp->Prop),Inv X pins σ H s->t σ H Q->wpAny (model X.prog X.w) X.A (spliced (backTo pos (starEach es X.env))) (AP X pins σ Q) X.xe s
def PS (X:Cx)(st:Stmt)(t:TS):Prop:=
 ∀ (pins:List (Addr × Obj)) (s:Shared) (σ:St) (H:Hp) (D:Ends),Inv X pins σ H s->t D σ H->wpAny (model X.prog X.w) X.A (exec st X.env) (SP X pins D) X.xe s
def PSs (X:Cx)(st:List Stmt)(t:TS):Prop:=
 ∀ (pins:List (Addr × Obj)) (s:Shared) (σ:St) (H:Hp) (D:Ends),Inv X pins σ H s->t D σ H->wpAny (model X.prog X.w) X.A (execs st X.env) (SP X pins D) X.xe s
theorem thn {α:Type}{t:Sem α}{Q Q':α->Shared->Prop}{M:Model}{A:Around}{E:Value->Shared->Prop}{s:Shared}(h:wpAny M A t Q E s)(hQ:∀ a s,Q a s->Q' a s):wpAny M A t Q' E s:=wpAny_mono h hQ fun _ _ x=>x
section
variable {X:Cx}
def bI0 (i:Nat):TE:=fun σ H Q=>∃ v,σ[i]?=some (some v)/\Q v H
def tC (v:V):TE:=fun _ H Q=>Q v H
theorem be0 {i:Nat}{x:Str}{pos:Pos}(hN:X.N[i]?=some x)(hv:Vis X.env.scope x)(hd:(x == ("__debug__":Str))=false:=by decide)(hcd:(x == ("__classdict__":Str))=false:=by decide):PE X (.Name x pos) (bI0 i):=by
 intro pins s σ H Q I h
 obtain⟨v,e,h⟩:=h
 obtain⟨m,hn,hl⟩:=I.loc
 obtain⟨u,r,l⟩:=hl i x v hN e hv
 have fin:EP X pins σ Q u s:=⟨v,H,I,r,h⟩
 rcases l with⟨hk,hm⟩ | ⟨hk,c,hc,hcell⟩
 ·exact wpAny_Name (wpAny_loadName_local I.ok.kind hk hn hm fin) hd
 ·rcases hk with hk | hk
  ·exact wpAny_Name (wpAny_loadName_cell I.ok.kind hk hc hcell fin) hd
  ·exact wpAny_Name (wpAny_loadName_free I.ok.kind hk hc hcell fin hcd) hd
theorem i9 {i j pos}:PE X (.Constant (.int i) j pos) (tC (.int i)):=fun _ _ _ H _ I h=>wpAny_Constant_int ⟨.int i,H,I.tok _,⟨_,rfl⟩,h⟩
theorem bw6 {b j pos}:PE X (.Constant (.bool b) j pos) (tC (.bl b)):=fun _ _ _ H _ I h=>Constant_bool ⟨.bl b,H,I,rfl,h⟩
theorem aM6 {j pos}:PE X (.Constant .none j pos) (tC .non):=fun _ _ _ H _ I h=>Constant_none ⟨.non,H,I,rfl,h⟩
theorem aq0 {x j pos}:PE X (.Constant (.str x) j pos) (tC (.str x)):=fun _ _ _ H _ I h=>Calls.Constant_str ⟨.str x,H,I.tok _,⟨_,rfl⟩,h⟩
def Gl (X:Cx)(x:Str):Prop:=X.env.kindOf x=some .globalImplicit
theorem an4 {E:Value->Shared->Prop}{pins:List (Addr × Obj)}{s:Shared}{σ:St}{H:Hp}{x:Str}{u:Value}{pos:Pos}{Q:Value->Shared->Prop}(I:Inv X pins σ H s)(hg:Gl X x)(hm:X.mg x=some u)(h:Q u s)
  (hd:(x == ("__debug__":Str))=false:=by decide):wpAny (model X.prog X.w) X.A (eval (.Name x pos) X.env) Q E s :=
 Calls.Name_function_global I.ok.kind hg (Calls.loadGlobal_global (by rw[I.ok.glob];exact I.mod.glob.keeps I.bk) hm h) hd
theorem P4 {E:Value->Shared->Prop}{pins:List (Addr × Obj)}{s:Shared}{σ:St}{H:Hp}{x:Str}{u:Value}{pos:Pos}{Q:Value->Shared->Prop}(I:Inv X pins σ H s)(hg:Gl X x)(hm:X.mg x=none)(hv:bootBuiltins x=some u)(h:Q u s)
  (hn:x≠"__name__":=by decide)(hd:(x == ("__debug__":Str))=false:=by decide):wpAny (model X.prog X.w) X.A (eval (.Name x pos) X.env) Q E s:=by
 obtain⟨mb,h1,h2⟩:=I.mod.blt
 exact Calls.Name_function_global I.ok.kind hg (Calls.loadGlobal_builtin (by rw[I.ok.glob];exact I.mod.glob.keeps I.bk) hm (by rw[I.ok.blt];exact h1.keeps I.bk) ((h2 x hn).trans hv) h) hd
theorem aA3 {x:Str}{v:V}{u:Value}{pos:Pos}(hg:Gl X x)(hm:X.mg x=some u)(r:RelV v u)(hd:(x == ("__debug__":Str))=false:=by decide):PE X (.Name x pos) (tC v) :=
 fun _ _ _ H _ I h=>an4 I hg hm ⟨v,H,I,r,h⟩ hd
theorem ab0 {x:Str}{v:V}{u:Value}{pos:Pos}(hg:Gl X x)(hm:X.mg x=none)(hv:bootBuiltins x=some u)(r:RelV v u)(hn:x≠"__name__":=by decide)(hd:(x == ("__debug__":Str))=false:=by decide):PE X (.Name x pos) (tC v) :=
 fun _ _ _ H _ I h=>P4 I hg hm hv ⟨v,H,I,r,h⟩ hn hd
variable {a b:Expr} {ta tb:TE} {pos:Pos}
def PC (X:Cx)(op:CmpOp)(a b:Expr)(t:TE):Prop:=
 ∀ (pins:List (Addr × Obj)) (s:Shared) (σ:St) (H:Hp) (Q:VK),Inv X pins σ H s->t σ H Q ->
  wpAny (model X.prog X.w) X.A (eval a X.env) (fun v s₁=>wpAny (model X.prog X.w) X.A (eval b X.env) (fun u s₂=>wpAny (model X.prog X.w) X.A (compareOp op v u) (EP X pins σ Q) X.xe s₂) X.xe s₁) X.xe s
def tB (t:TE):TT:=fun σ H Q=>t σ H fun x H1=>∃ c,x=.bl c/\Q c H1
theorem bA6 {op:CmpOp}{t:TE}(h:PC X op a b t)(h1:behindInMarks op b=false:=by first | exact nobehind _ (by decide) (by decide) | rfl):PT X (.Compare a [op] [b] pos) (tB t):=by
 intro pins s σ H Q I hw
 refine wpAny_isTrue_Compare1 (thn (h pins s σ H _ I hw) fun v s1 h1=>thn h1 fun u s2 h2=>thn h2 fun c s3 ⟨x,H1,I1,r1,q1⟩=>?_) h1
 obtain⟨d,rfl,q⟩:=q1
 cases r1
 exact wpAny_truthy_bool ⟨H1,I1,q⟩
theorem P3 {e:Expr}{t:TE}(h:PE X e t)(he:∀ whole,isTrue e X.env whole=(do let v <- whole;standAt e.pos;holding [v] (truthy v)):=by intro _;rfl):PT X e (tB t):=by
 intro pins s σ H Q I hw
 refine isTrue_plain (thn (h pins s σ H _ I hw) fun v s1 ⟨x,H1,I1,r1,q1⟩=>?_) (he _)
 obtain⟨d,rfl,q⟩:=q1
 cases r1
 exact wpAny_truthy_bool ⟨H1,I1,q⟩
variable {tA tB':TT} {rest:List Expr}
def tOr (t u:TT):TT:=fun σ H Q=>t σ H fun c H1=>if c=true then Q true H1 else u σ H1 Q
def bO9 (t:TT):TT:=fun σ H Q=>t σ H fun c H1=>Q (!c) H1
theorem ai0 (ha:PT X a tA):PW X (.BoolOp .Or [a] pos) tA:=by
 intro wh pins s σ H Q I h
 refine isTrue_or (thn (ha pins s σ H Q I h) fun c s1 e=>?_)
 cases c with
 | false=>exact isTrue_or_nil e
 | true=>exact e
theorem S5 (ha:PT X a tA)(hb:PW X (.BoolOp .Or (b::rest) pos) tB'):PW X (.BoolOp .Or (a::b::rest) pos) (tOr tA tB'):=by
 intro wh pins s σ H Q I h
 refine isTrue_or (thn (ha pins s σ H _ I h) fun c s1 ⟨H1,I1,q1⟩=>?_)
 cases c with
 | true=>exact⟨H1,I1,q1⟩
 | false=>exact hb wh pins s1 σ H1 Q I1 q1
theorem M9 (ha:PT X a tA):PT X (.UnaryOp .Not a pos) (bO9 tA):=by
 intro pins s σ H Q I h
 exact isTrue_not (ha pins s σ H (fun c H1=>Q (!c) H1) I h)
def bJ2 (ta tb:TE):TE:=fun σ H Q=>ta σ H fun x H1=>∃ c,x=.bl c/\if c=true then tb σ H1 Q else Q (.bl false) H1
def bI4 (ta:TE):TE:=fun σ H Q=>ta σ H fun x H1=>∃ c,x=.bl c/\Q (.bl (!c)) H1
theorem be2 {op}{t:TE}(h:PE X a t):PE X (.BoolOp op [a] pos) t:=fun pins s σ H Q I hw=>BoolOp_one (h pins s σ H Q I hw)
theorem aM7 (ha:PE X a ta)(hb:PE X (.BoolOp .And (b::rest) pos) tb):PE X (.BoolOp .And (a::b::rest) pos) (bJ2 ta tb):=by
 intro pins s σ H Q I h
 refine BoolOp_and (thn (ha pins s σ H _ I h) fun v s1 ⟨x,H1,I1,r1,q1⟩=>?_)
 obtain⟨c,rfl,q1⟩:=q1
 cases r1
 refine wpAny_truthy_bool ?_
 cases c with
 | true=>exact hb pins s1 σ H1 Q I1 q1
 | false=>exact⟨.bl false,H1,I1,rfl,q1⟩
theorem bA8 (ha:PE X a ta):PE X (.UnaryOp .Not a pos) (bI4 ta):=by
 intro pins s σ H Q I h
 refine UnaryOp_ (thn (ha pins s σ H _ I h) fun v s1 ⟨x,H1,I1,r1,q1⟩=>?_)
 obtain⟨c,rfl,q1⟩:=q1
 cases r1
 exact not_of (wpAny_truthy_bool ⟨.bl (!c),H1,I1,rfl,q1⟩)
def tIf (t:TT)(ta tb:TE):TE:=fun σ H Q=>t σ H fun c H1=>if c=true then ta σ H1 Q else tb σ H1 Q
theorem aF9 {c:Expr}(hc:PT X c tA)(ha:PE X a ta)(hb:PE X b tb):PE X (.IfExp c a b pos) (tIf tA ta tb):=by
 intro pins s σ H Q I h
 refine wpAny_IfExp (thn (hc pins s σ H _ I h) fun d s1 ⟨H1,I1,q1⟩=>?_)
 cases d with
 | true=>exact ha pins s1 σ H1 Q I1 q1
 | false=>exact hb pins s1 σ H1 Q I1 q1
end
def SqL (K:W.Frag)(H:Hp)(a:Addr)(xs:List V):Prop:=
 Rd H a (.lst xs) \/
  ∃ (o:Obj) (its:Array Value) (n:Nat),K.lookup a=some o/\o.cls=.type "list"/\o.dict=none/\o.data=.seq its n/\its.size<=sizeLine/\y9 xs its.toList
def SqT (K:W.Frag)(H:Hp)(a:Addr)(xs:List V):Prop:=
 Rd H a (.tup xs) \/
  ∃ (o:Obj) (its:Array Value) (n:Nat),K.lookup a=some o/\o.cls=.type "tuple"/\o.data=.seq its n/\its.size<=sizeLine/\y9 xs its.toList
def bR0:Value->Option V
 | .none=>some .non
 | .bool b=>some (.bl b)
 | .int i _=>some (.int i)
 | .str x _=>some (.str x)
 | .bytes b _=>some (.byt b)
 | .float b _=>some (.flt b)
 | .ref a=>some (.ref a)
 | .type n=>some (.ty n)
 | _=>none
theorem RelV.abs {x:V}{u:Value}(r:RelV x u):bR0 u=some x:=by
 cases x with
 | non=>cases r;rfl
 | bl _=>cases r;rfl
 | int _=>obtain⟨t,rfl⟩:=r;rfl
 | str _=>obtain⟨t,rfl⟩:=r;rfl
 | byt _=>obtain⟨t,rfl⟩:=r;rfl
 | flt _=>obtain⟨t,rfl⟩:=r;rfl
 | ref _=>cases r;rfl
 | ty _=>cases r;rfl
theorem RelV.inj {x y:V}{u:Value}(r:RelV x u)(q:RelV y u):x=y:=Option.some.inj (r.abs.symm.trans q.abs)
theorem y9.inj:∀ {xs ys:List V} {us:List Value},y9 xs us->y9 ys us->xs=ys
 | _,_,_,.nil,.nil=>rfl
 | _,_,_,.cons r t,.cons r' t'=>by rw[r.inj r',y9.inj t t']
section
variable {X:Cx} {pins:List (Addr × Obj)} {σ:St} {H:Hp} {s:Shared} {a:Addr} {xs ys:List V}
theorem SqL.of {K:W.Frag}(h:H a=some (.lst xs)):SqL K H a xs:=.inl (.inl h)
theorem SqT.of {K:W.Frag}(h:H a=some (.tup xs)):SqT K H a xs:=.inl (.inl h)
theorem Inv.list (I:Inv X pins σ H s)(h:SqL X.K H a xs):∃ its:List Value,y9 xs its/\PlainL s.heap a its.toArray/\xs.length<=sizeLine:=by
 rcases h with h | ⟨o,its,n,hk,hc,hd,hs,hz,r⟩
 ·obtain⟨z,its,n,r,e⟩:=h.ok I.hok
  exact⟨its,r,⟨_,n,e,rfl,rfl,rfl⟩,z⟩
 ·refine⟨its.toList,r,⟨o,n,I.kIn a o hk,hc,hd,by simpa using hs⟩,?_⟩
  have e:=r.length
  simp only[o4]at e
  omega
theorem Inv.tuple (I:Inv X pins σ H s)(h:SqT X.K H a xs):∃ its:List Value,y9 xs its/\IsTup s.heap a its.toArray/\xs.length<=sizeLine:=by
 rcases h with h | ⟨o,its,n,hk,hc,hs,hz,r⟩
 ·obtain⟨z,its,r,p⟩:=h.ok I.hok
  exact⟨its,r,p,z⟩
 ·refine⟨its.toList,r,⟨o,I.kIn a o hk,hc,n,by simpa using hs⟩,?_⟩
  have e:=r.length
  simp only[o4]at e
  omega
theorem Inv.list_inj (I:Inv X pins σ H s)(h:SqL X.K H a xs)(h':SqL X.K H a ys):xs=ys:=by
 obtain⟨its,r,⟨o,n,e,_,_,d⟩,_⟩:=I.list h
 obtain⟨its',r',⟨o',n',e',_,_,d'⟩,_⟩:=I.list h'
 rw[e]at e';cases e'
 rw[d]at d'
 injection d' with d1 _
 have:its=its':=by simpa using congrArg Array.toList d1
 subst this
 exact r.inj r'
theorem Inv.tuple_inj (I:Inv X pins σ H s)(h:SqT X.K H a xs)(h':SqT X.K H a ys):xs=ys:=by
 obtain⟨its,r,⟨o,e,_,n,d⟩,_⟩:=I.tuple h
 obtain⟨its',r',⟨o',e',_,n',d'⟩,_⟩:=I.tuple h'
 rw[e]at e';cases e'
 rw[d]at d'
 injection d' with d1 _
 have:its=its':=by simpa using congrArg Array.toList d1
 subst this
 exact r.inj r'
end
abbrev Cx.wish (X:Cx)(E:Value->Shared->Prop):Cx:={ X with xe:=E }
abbrev Cx.nox (X:Cx):Cx:=X.wish fun _ _=>False
theorem Cx.Ok.wish {X:Cx}(ok:X.Ok)(E:Value->Shared->Prop):(X.wish E).Ok:=
 ⟨ok.mod,ok.kind,ok.glob,ok.blt,ok.above,ok.inj,ok.has,ok.cab,ok.hd,ok.frames,ok.stk,ok.exf,ok.bs,ok.bsz,ok.noex,ok.exfs,ok.funs,ok.frf⟩
theorem Cx.Ok.unwish {X:Cx}{E:Value->Shared->Prop}(ok:(X.wish E).Ok):X.Ok:=
 ⟨ok.mod,ok.kind,ok.glob,ok.blt,ok.above,ok.inj,ok.has,ok.cab,ok.hd,ok.frames,ok.stk,ok.exf,ok.bs,ok.bsz,ok.noex,ok.exfs,ok.funs,ok.frf⟩
section
variable {X:Cx} {pins:List (Addr × Obj)} {σ:St} {H:Hp} {s:Shared} {E:Value->Shared->Prop}
theorem Inv.wish (I:Inv X pins σ H s)(E:Value->Shared->Prop):Inv (X.wish E) pins σ H s:=⟨I.ok.wish E,I.os,I.bare,I.base,I.loc,I.cell,I.free,I.freeC,I.pin,I.hok,I.len⟩
theorem Inv.unwish (I:Inv (X.wish E) pins σ H s):Inv X pins σ H s:=⟨I.ok.unwish,I.os,I.bare,I.base,I.loc,I.cell,I.free,I.freeC,I.pin,I.hok,I.len⟩
theorem SP.unwish {D:Ends}{f:Flow}{s':Shared}(h:SP (X.wish E) pins D f s'):SP X pins D f s':=by
 cases f with
 | next=>obtain⟨σ',H',I,q⟩:=h;exact⟨σ',H',I.unwish,q⟩
 | brk=>obtain⟨σ',H',I,q⟩:=h;exact⟨σ',H',I.unwish,q⟩
 | cont=>obtain⟨σ',H',I,q⟩:=h;exact⟨σ',H',I.unwish,q⟩
 | ret u=>obtain⟨v,σ',H',I,r,q⟩:=h;exact⟨v,σ',H',I.unwish,r,q⟩
theorem PSs.nox {st:List Stmt}{t:TS}(h:PSs X.nox st t):PSs X st t:=fun pins s σ H D I hw =>
 wpAny_mono (h pins s σ H D (I.wish _) hw) (fun _ _ q=>q.unwish) fun _ _ z=>False.elim z
end
section
variable {X:Cx} {st:Stmt} {rest:List Stmt} {t u:TS} {e:Expr} {te:TE} {pos:Pos}
def bI5:TS:=fun D σ H=>D.nx σ H
def bO7 (t u:TS):TS:=fun D σ H=>t { D with nx:=u D } σ H
theorem B3:PSs X [] bI5:=fun _ _ σ H _ I h=>wpAny_execs_nil ⟨σ,H,I,h⟩
theorem f9 (h1:PS X st t)(h2:PSs X rest u):PSs X (st::rest) (bO7 t u):=by
 intro pins s σ H D I h
 refine wpAny_execs_cons (thn (h1 pins s σ H { D with nx:=u D } I h) fun f s1 q=>?_)
 cases f with
 | next =>
  obtain⟨σ',H',I',q⟩:=q
  exact h2 pins s1 σ' H' D I' q
 | ret v=>exact q
 | brk=>exact q
 | cont=>exact q
theorem m4 (h1:PS X st t):PSs X [st] t:=by
 intro pins s σ H D I h
 refine wpAny_execs_cons (thn (h1 pins s σ H D I h) fun f s1 q=>?_)
 cases f with
 | next=>exact wpAny_execs_nil q
 | ret v=>exact q
 | brk=>exact q
 | cont=>exact q
theorem Inv.quiet {pins:List (Addr × Obj)}{σ:St}{H:Hp}{s:Shared}(I:Inv X pins σ H s):interactive X.env=false:=by simp[interactive,I.ok.kind]
def bI8 (te:TE):TS:=fun D σ H=>te σ H fun _ H1=>D.nx σ H1
theorem Q3 (he:PE X e te)(hs:swapsWith e none pos.line X.env=pure false:=by rfl):PS X (.Expr e pos) (bI8 te):=by
 intro pins s σ H D I h
 exact wpAny_Expr_any (thn (he pins s σ H _ I h) fun v s1 ⟨x,H1,I1,r1,q1⟩=>⟨σ,H1,I1,q1⟩) I.quiet hs
def bO8 (te:TE):TS:=fun D σ H=>te σ H D.rt
theorem A2 (he:PE X e te):PS X (.Return (some e) pos) (bO8 te):=by
 intro pins s σ H D I h
 exact wpAny_Return_some (thn (he pins s σ H _ I h) fun v s1 ⟨x,H1,I1,r1,q1⟩=>⟨x,σ,H1,I1,r1,q1⟩)
def bP1 (c:TT)(t u:TS):TS:=fun D σ H=>c σ H fun b H1=>if b=true then t D σ H1 else u D σ H1
theorem F9 {c:Expr}{a b:List Stmt}{tc:TT}(hc:PT X c tc)(ha:PSs X a t)(hb:PSs X b u):PS X (.If c a b pos) (bP1 tc t u):=by
 intro pins s σ H D I h
 refine wpAny_If (thn (hc pins s σ H _ I h) fun d s1 ⟨H1,I1,q1⟩=>?_)
 cases d with
 | true=>exact ha pins s1 σ H1 D I1 q1
 | false=>exact hb pins s1 σ H1 D I1 q1
def bz2:TS:=fun _ _ _=>False
theorem E2 {sts:List Stmt}:PSs X sts bz2:=fun _ _ _ _ _ _ h=>h.elim
end
abbrev TG:=V->St->Hp->(St->Hp->Prop)->Prop
abbrev TGs:=List V->St->Hp->(St->Hp->Prop)->Prop
def PG (X:Cx)(target:Expr)(t:TG):Prop:=
 ∀ (pins:List (Addr × Obj)) (s:Shared) (σ:St) (H:Hp) (v:V) (u:Value) (Q:St->Hp->Prop),Inv X pins σ H s->RelV v u->t v σ H Q ->
  wpAny (model X.prog X.w) X.A (assign target X.env u) (fun _ s'=>∃ σ' H',Inv X pins σ' H' s'/\Q σ' H') X.xe s
def PGs (X:Cx)(ts:List Expr)(t:TGs):Prop:=
 ∀ (pins:List (Addr × Obj)) (s:Shared) (σ:St) (H:Hp) (vs:List V) (us:List Value) (Q:St->Hp->Prop),Inv X pins σ H s->y9 vs us->t vs σ H Q ->
  wpAny (model X.prog X.w) X.A (assignInOrder ((assignEach ts X.env).map (·.2)) us) (fun _ s'=>∃ σ' H',Inv X pins σ' H' s'/\Q σ' H') X.xe s
abbrev bG1:=V->V->V->Hp->(Hp->Prop)->Prop
def bO1 (X:Cx)(t:bG1):Prop:=
 ∀ (pins:List (Addr × Obj)) (s:Shared) (σ:St) (H:Hp) (o i v:V) (ov iv u:Value) (Q:Hp->Prop),Inv X pins σ H s->RelV o ov->RelV i iv->RelV v u->t o i v H Q ->
  wpAny (model X.prog X.w) X.A (setItem ov iv u) (fun _ s'=>∃ H',Inv X pins σ H' s'/\Q H') X.xe s
abbrev TIp:=V->V->Hp->VK->Prop
def PIp (X:Cx)(op:Operator)(t:TIp):Prop:=
 ∀ (pins:List (Addr × Obj)) (s:Shared) (σ:St) (H:Hp) (x y:V) (v u:Value) (Q:VK),Inv X pins σ H s->RelV x v->RelV y u->t x y H Q ->
  wpAny (model X.prog X.w) X.A (inplaceOp op v u) (EP X pins σ Q) X.xe s
section
variable {X:Cx} {pos:Pos}
def aI1 (i:Nat):TG:=fun v σ H Q=>Q (σ.set i (some v)) H
theorem u7 {i:Nat}{x:Str}(hN:X.N.Nodup)(hi:X.N[i]?=some x)(hx:Loc X.env.scope x)(hf:X.fn x=true\/X.env.scope.names.lookup x=some .local:=by first | exact .inl rfl | exact .inr rfl | assumption):PG X (.Name x pos) (aI1 i):=by
 intro pins s σ H v u Q I r h
 exact wpAny_assign_Name (ao6 I hN hi hx r (fun s' I'=>⟨_,H,I',h⟩) hf)
def bQ7:TGs:=fun vs σ H Q=>vs=[]/\Q σ H
def bN1 (t:TG)(u:TGs):TGs:=fun vs σ H Q=>∃ v r,vs=v::r/\t v σ H fun σ' H'=>u r σ' H' Q
theorem W2:PGs X [] bQ7:=by
 intro pins s σ H vs us Q I r h
 obtain⟨e,h⟩:=h
 subst e
 cases r
 exact assignInOrder_nil ⟨σ,H,I,h⟩
theorem E3 {e:Expr}{es:List Expr}{t:TG}{u:TGs}(h1:PG X e t)(h2:PGs X es u)
  (hs:(assignEach (e::es) X.env).map (·.2)=assign e X.env::(assignEach es X.env).map (·.2):=by rfl):PGs X (e::es) (bN1 t u):=by
 intro pins s σ H vs us Q I r h
 obtain⟨v,vr,e1,h⟩:=h
 subst e1
 cases r with
 | cons r rr =>
  rw[hs]
  refine assignInOrder_cons (thn (h1 pins s σ H _ _ _ I r h) fun _ s1 ⟨σ1,H1,I1,q1⟩=>?_)
  exact h2 pins s1 σ1 H1 _ _ Q I1 rr q1
def bN0 (K:W.Frag)(n:Nat)(t:TGs):TG:=fun v σ H Q=>∃ a xs,v=.ref a/\SqT K H a xs/\xs.length=n/\t xs σ H Q
theorem aM5 {es:List Expr}{k:Nat}{t:TGs}{n:Nat}(hc:X.calm=true)(h:PGs X es t)
  (hn:(assignEach es X.env).length=n:=by rfl)(hst:(assignEach es X.env).findIdx? (·.1)=none:=by rfl):PG X (.Tuple es k pos) (bN0 X.K n t):=by
 intro pins s σ H v u Q I r hw
 obtain⟨a,xs,e1,hq,hl,hw⟩:=hw
 subst e1
 cases r
 obtain⟨its,rv,ht,hz⟩:=I.tuple hq
 refine assign_Tuple_tuple (I.ok.hd hc) ht (by simp[hn,<- hl,rv.length]) hst fun h' hx=>?_
 have I1:Inv X pins σ H { s with heap:=h' }:=I.kept (t':=s.toks) fun b o e=>hx b o (i4 (c9 e)) e
 exact h pins _ σ H xs _ Q I1 (by simpa using rv) hw
def bQ6 (to ti:TE)(t:bG1):TG:=fun v σ H Q=>to σ H fun o H1=>ti σ H1 fun i H2=>t o i v H2 fun H3=>Q σ H3
theorem ap9 {o i:Expr} {to ti:TE} {t:bG1} (ho:PE X o to) (hi:PE X i ti) (hs:bO1 X t)
  (ha : ∀ v, assign (.Subscript o i pos) X.env v = (do
   let ov <- holding [v] (eval o X.env)
   let iv <- holding [v,ov] (eval i X.env)
   standAt pos
   holding [v,ov,iv] (setItem ov iv v)
   release [v,ov,iv] []):=by intro _;rfl):PG X (.Subscript o i pos) (bQ6 to ti t):=by
 intro pins s σ H v u Q I r h
 rw[ha]
 refine wpAny_bind (wpAny_holding (thn (ho pins s σ H _ I h) fun ov s1 ⟨x,H1,I1,r1,q1⟩=>?_))
 refine wpAny_bind (wpAny_holding (thn (hi pins s1 σ H1 _ I1 q1) fun iv s2 ⟨y,H2,I2,r2,q2⟩=>?_))
 refine wpAny_bind (wpAny_standAt (wpAny_bind (wpAny_holding (thn (hs pins s2 σ H2 x y v ov iv u _ I2 r1 r2 r q2) fun _ s3 ⟨H3,I3,q3⟩=>?_))))
 exact wpAny_release ⟨σ,H3,I3,q3⟩
def bJ1 (te:TE)(g:TG):TS:=fun D σ H=>te σ H fun x H1=>g x σ H1 D.nx
theorem ap8 {tg e:Expr}{te:TE}{g:TG}(he:PE X e te)(hg:PG X tg g)(hs:swapsWithSole [tg] e pos.line X.env=pure false:=by rfl)(hw:swappedStores [tg] e X.env=pure none:=by rfl)
  (h1:(assignEach [tg] X.env).map (·.2)=[assign tg X.env]:=by rfl):PS X (.Assign [tg] e pos) (bJ1 te g):=by
 intro pins s σ H D I h
 refine wpAny_Assign_stores (thn (he pins s σ H _ I h) fun v s1 ⟨x,H1,I1,r1,q1⟩=>?_) hs hw
 rw[h1]
 exact thn (hg pins s1 σ H1 x v _ I1 r1 q1) fun _ s2 q=>q
theorem u6 {i:Nat}{x:Str}{e:Expr}{te:TE}{pos':Pos}(hN:X.N.Nodup)(hi:X.N[i]?=some x)(hx:Loc X.env.scope x)(he:PE X e te)(hs:swapsWith e (some (.Name x pos')) pos.line X.env=pure false:=by rfl)(hf:X.fn x=true\/X.env.scope.names.lookup x=some .local:=by first | exact .inl rfl | exact .inr rfl | assumption) :
  PS X (.Assign [.Name x pos'] e pos) (bJ1 te (aI1 i)):=by
 intro pins s σ H D I h
 refine wpAny_Assign_Name (thn (he pins s σ H _ I h) fun v s1 ⟨y,H1,I1,r1,q1⟩=>?_) hs
 exact ao6 I1 hN hi hx r1 (fun s2 I2=>⟨_,H1,I2,q1⟩) hf
def bP4 (i:Nat)(te:TE)(ti:TIp):TS:=fun D σ H=>∃ x,σ[i]?=some (some x)/\te σ H fun y H1=>ti x y H1 fun z H2=>D.nx (σ.set i (some z)) H2
theorem bA7 {i:Nat}{x:Str}{e:Expr}{te:TE}{op:Operator}{ti:TIp}{pos':Pos}(hN:X.N.Nodup)(hi:X.N[i]?=some x)(hx:Loc X.env.scope x)(he:PE X e te)(ho:PIp X op ti)(hf:X.fn x=true\/X.env.scope.names.lookup x=some .local:=by first | exact .inl rfl | exact .inr rfl | assumption) :
  PS X (.AugAssign (.Name x pos') op e pos) (bP4 i te ti):=by
 intro pins s σ H D I h
 obtain⟨v,e1,h⟩:=h
 obtain⟨m,hn,hl⟩:=I.loc
 have vis:Vis X.env.scope x:=by rcases hx with k | k;exact .inl k;exact .inr (.inl k)
 obtain⟨u,r,l⟩:=hl i x v hi e1 vis
 refine wpAny_AugAssign_Name ?_
 have go:wpAny (model X.prog X.w) X.A (eval e X.env) (fun w s₂=>wpAny (model X.prog X.w) X.A (inplaceOp op u w) (fun r s₃=>wpAny (model X.prog X.w) X.A (storeName X.env x r) (fun _=>SP X pins D .next) X.xe s₃) X.xe s₂) X.xe s:=by
  refine thn (he pins s σ H _ I h) fun w s1 ⟨y,H1,I1,r1,q1⟩=>?_
  refine thn (ho pins s1 σ H1 v y u w _ I1 r r1 q1) fun z s2 ⟨zv,H2,I2,r2,q2⟩=>?_
  exact ao6 I2 hN hi hx r2 (fun s3 I3=>⟨_,H2,I3,q2⟩) hf
 rcases l with⟨hk,hm⟩ | ⟨hk,c,hc,hcell⟩
 ·exact wpAny_loadName_local I.ok.kind hk hn hm go
 ·rcases hk with hk | hk
  ·exact wpAny_loadName_cell I.ok.kind hk hc hcell go
  ·rcases hx with k | k
   ·have:X.env.scope.names.lookup x=some .free:=hk
    rw[k]at this;cases this
   ·have:X.env.scope.names.lookup x=some .free:=hk
    rw[k]at this;cases this
end
section
variable {X:Cx} {pos:Pos}
def by9 (c:TT)(tb:TS):TS:=fun D σ H=>∃ W:Nat->St->Hp->Prop,(∃ m,W m σ H)/\∀ m σ H,W m σ H ->
 c σ H fun b H1=>if b=true then ∃ N:St->Hp->Prop,(∀ σ' H',N σ' H'->∃ m',m'<m/\W m' σ' H')/\tb { D with nx:=N,ct:=N,bk:=D.nx } σ H1 else D.nx σ H1
theorem aF7 {c:Expr}{body:List Stmt}{tc:TT}{tb:TS}(hp:PassesOwn (model X.prog X.w) X.A X.env X.xe)(hc:PT X c tc)(hb:PSs X body tb):PS X (.While c body [] pos) (by9 tc tb):=by
 intro pins s σ H D I h
 obtain⟨W,⟨m0,w0⟩,turn⟩:=h
 refine wpAny_While (codeAny_whileLoop (fun n s'=>∃ σ' H',Inv X pins σ' H' s'/\W n σ' H') ?_ m0 ⟨σ,H,I,w0⟩)
 rintro n s1 ⟨σ1,H1,I1,w1⟩
 refine wpAny_passesOwn hp (thn (hc pins s1 σ1 H1 _ I1 (turn n σ1 H1 w1)) fun b s2 ⟨H2,I2,q2⟩=>?_)
 cases b with
 | true =>
  obtain⟨N,hN,q2⟩:=q2
  rw[if_pos rfl]
  refine wpAny_passesOwn hp (thn (hb pins s2 σ1 H2 _ I2 q2) fun f s3 q3=>?_)
  cases f with
  | next =>
   obtain⟨σ3,H3,I3,n3⟩:=q3
   obtain⟨m',hm,w3⟩:=hN σ3 H3 n3
   exact⟨m',hm,σ3,H3,I3,w3⟩
  | cont =>
   obtain⟨σ3,H3,I3,n3⟩:=q3
   obtain⟨m',hm,w3⟩:=hN σ3 H3 n3
   exact⟨m',hm,σ3,H3,I3,w3⟩
  | brk=>exact q3
  | ret v=>exact q3
 | false =>
  rw[if_neg f6]
  exact wpAny_execs_nil ⟨σ1,H2,I2,q2⟩
end
structure It where
 go:Nat->Hp->Prop
 yld:Nat->Hp->V->Hp->Prop
 stop:Nat->Hp->Prop
def J1 (X:Cx)(pins:List (Addr × Obj))(H:Hp)(b:Addr):Prop:=
 H b=none/\b≠X.env.locals/\b∉X.fs/\(b∈X.ex\/X.s₀.heap.objs.size<=b)/\(∀ x c,X.env.cells.lookup x=some c->c≠b)/\∀ p∈X.pn++pins,p.1≠b
theorem Inv.fpOk {X:Cx}{pins:List (Addr × Obj)}{σ:St}{H H':Hp}{s:Shared}{b:Addr}(I:Inv X pins σ H s)(hb:s.heap.objs.size<=b)(hn:H' b=none):J1 X pins H' b:=by
 refine⟨hn,D9 (l9 I.lt hb),I.nofs hb,.inr (p5 I.sz hb),fun x c e z=>?_,fun p hp z=>?_⟩
 ·obtain⟨v,q⟩:=I.cell x c e
  exact absurd (l9 q.lt (by rw[z];exact hb)) (u5 _)
 ·exact absurd (l9 (c9 (I.pin p hp).1) (by rw[z];exact hb)) (u5 _)
structure Turn (P:Program) (w:World) (K:W.Frag) (tg:Expr) (J:It) (fp:List Addr) (it:Addr) (tn:Nat->Heap->Prop):Prop where
 mem:it∈fp
 obj:∀ i h,tn i h->∀ b∈fp,∃ o,h.get? b=some o/\∀ v,o.data≠.cell v
 keep:∀ i h h',tn i h->(∀ b∈fp,∀ o,h.get? b=some o->h'.get? b=some o)->tn i h'
 item:∀ (X:Cx),X.prog=P->X.w=w->X.K=K->X.calm=true->∀ (i:Nat) (pins:List (Addr × Obj)) (s:Shared) (σ:St) (H:Hp) (E:Value->Shared->Prop),Inv X pins σ H s->(∀ b∈fp,J1 X pins H b)->tn i s.heap->J.go i H ->
  wpAny (model P w) X.A (pyNext (.ref it)) (fun r s1=>∃ u,r=some u /\
   wpAny (model P w) X.A (letOwnedTupleGo tg (.ref it) u) (fun _ s2=>∃ x H',Inv X pins σ H' s2/\RelV x u/\J.yld i H x H'/\tn (i+1) s2.heap/\∀ b∈fp,H' b=none) E s1) E s
 done:∀ (X:Cx),X.prog=P->X.w=w->X.K=K->X.calm=true->∀ (i:Nat) (pins:List (Addr × Obj)) (s:Shared) (σ:St) (H:Hp) (E:Value->Shared->Prop),Inv X pins σ H s->(∀ b∈fp,J1 X pins H b)->tn i s.heap->J.stop i H ->
  wpAny (model P w) X.A (pyNext (.ref it)) (fun r s1=>r=none/\Inv X pins σ H s1) E s
 self:∀ (A:Around) (i:Nat) (s:Shared) (Q:Value->Shared->Prop) (E:Value->Shared->Prop),tn i s.heap->Q (.ref it) s->wpAny (model P w) A (pyIter (.ref it)) Q E s
abbrev TI:=St->Hp->(It->Hp->Prop)->Prop
def PIE (X:Cx)(pins:List (Addr × Obj))(σ:St)(tg:Expr)(R:It->Hp->Prop)(itv:Value)(s2:Shared):Prop:=
 ∃ (it:Addr) (fp:List Addr) (tn:Nat->Heap->Prop) (J:It) (H':Hp),itv=.ref it/\Inv X pins σ H' s2/\Turn X.prog X.w X.K tg J fp it tn/\tn 0 s2.heap/\(∀ b∈fp,J1 X pins H' b)/\R J H'
def PI (X:Cx)(tg iter:Expr)(wi:TI):Prop:=
 ∀ (pins:List (Addr × Obj)) (s:Shared) (σ:St) (H:Hp) (R:It->Hp->Prop),Inv X pins σ H s->wi σ H R ->
  wpAny (model X.prog X.w) X.A (eval iter X.env) (fun v s1=>wpAny (model X.prog X.w) X.A (pyIter v) (PIE X pins σ tg R) X.xe s1) X.xe s
theorem aS9 {M:Model} {A:Around} {E:Value->Shared->Prop} {s:Shared} {tg:Expr} {it:Addr} {u:Value} {o:Obj} {n:String} {vs:Array Value} {Q:Unit->Shared->Prop} (ho:s.heap.get? it=some o) (hc:o.cls=.type n) (hd:o.data=.fields vs)
    (hn:["enumerate","zip","dict_itemiterator","dict_reverseitemiterator","odict_iterator","itertools.zip_longest","itertools.pairwise"].contains n=false) (hQ:Q () s):wpAny M A (letOwnedTupleGo tg (.ref it) u) Q E s:=by
  unfold letOwnedTupleGo
  cases tg<;>first
    | exact wpAny_pure hQ
    | (cases u<;>first
        | exact wpAny_pure hQ
        | (refine wpAny_bind (wpAny_load ho ?_)
           rw[hc,hd]
           show wpAny M A (if (["enumerate","zip","dict_itemiterator","dict_reverseitemiterator","odict_iterator","itertools.zip_longest","itertools.pairwise"].contains n && vs[0]? == some (rawInt _))=true then _ else _) Q E s
           rw[if_neg (by intro h;rw[hn,Bool.false_and]at h;cases h)]
           exact wpAny_pure hQ))
def Itl (K:W.Frag)(a:Addr):It:=
 ⟨fun i H=>∃ xs x,SqL K H a xs/\xs[i]?=some x,fun i H x H'=>H'=H/\∀ xs,SqL K H a xs->xs[i]?=some x,fun i H=>∃ xs,SqL K H a xs/\xs.length<=i⟩
def Itt (K:W.Frag)(a:Addr):It:=
 ⟨fun i H=>∃ xs x,SqT K H a xs/\xs[i]?=some x,fun i H x H'=>H'=H/\∀ xs,SqT K H a xs->xs[i]?=some x,fun i H=>∃ xs,SqT K H a xs/\xs.length<=i⟩
def Itr (lo:Int)(n:Nat):It:=⟨fun i _=>i<n,fun i H x H'=>H'=H/\x=.int (lo+i),fun i _=>n<=i⟩
theorem aV4 {P:Program}{w:World}{K:W.Frag}{tg:Expr}(a it:Addr):Turn P w K tg (Itl K a) [it] it (fun i h=>h.IsListIter it a i) where
 mem:=by simp
 obj:=fun i h st b hb=>by
  have e:b=it:=by simpa using hb
  subst e
  obtain⟨o,e,c,d⟩:=st
  exact⟨o,e,fun v z=>by rw[d]at z;cases z⟩
 keep:=fun i h h' st k=>st.at fun o e=>k it (by simp) o e
 item:=by
  intro X hP hw hK hc i pins s σ H E I hf st hg
  subst hP hw hK
  obtain⟨xs,x,hq,hx⟩:=hg
  obtain⟨its,rv,p,hz⟩:=I.list hq
  obtain⟨u,hu,ru⟩:=rv.get hx
  obtain⟨f0,f1,f2,f3,f4,f5⟩:=hf it (by simp)
  refine wpAny_pyNext_list_item st p.isList (x:=u) (by simpa using hu) fun h' st' sb=>?_
  have I1:Inv X pins σ H { s with heap:=h' }:=I.turned (t':=s.toks) (fun b o hb e=>(sb.2 b hb).trans e) f0 f1 f3 f4 f5
  obtain⟨o,e,c,d⟩:=id st'
  exact⟨u,rfl,aS9 (s:={ s with heap:=h' }) e c d (by decide) ⟨x,H,I1,ru,⟨rfl,fun ys hy=>by rw[I.list_inj hy hq];exact hx⟩,st',fun b hb=>(hf b hb).1⟩⟩
 done:=by
  intro X hP hw hK hc i pins s σ H E I hf st hg
  subst hP hw hK
  obtain⟨xs,hq,hx⟩:=hg
  obtain⟨its,rv,p,hz⟩:=I.list hq
  obtain⟨f0,f1,f2,f3,f4,f5⟩:=hf it (by simp)
  have hl:=rv.length
  exact wpAny_pyNext_list_end (I.ok.hd hc) st p.isList (by simp;omega) fun h' eb=>⟨rfl,I.turned (t':=s.toks) (fun b o hb e=>eb b o hb e) f0 f1 f3 f4 f5⟩
 self:=fun _ _ _ _ _ st h=>wpAny_pyIter_listiter st h
theorem aK9 {P:Program}{w:World}{K:W.Frag}{tg:Expr}(a it:Addr):Turn P w K tg (Itt K a) [it] it (fun i h=>h.IsTupleIter it a i) where
 mem:=by simp
 obj:=fun i h st b hb=>by
  have e:b=it:=by simpa using hb
  subst e
  obtain⟨o,e,c,d⟩:=st
  exact⟨o,e,fun v z=>by rw[d]at z;cases z⟩
 keep:=fun i h h' st k=>st.at fun o e=>k it (by simp) o e
 item:=by
  intro X hP hw hK hc i pins s σ H E I hf st hg
  subst hP hw hK
  obtain⟨xs,x,hq,hx⟩:=hg
  obtain⟨its,rv,p,hz⟩:=I.tuple hq
  obtain⟨u,hu,ru⟩:=rv.get hx
  obtain⟨f0,f1,f2,f3,f4,f5⟩:=hf it (by simp)
  refine wpAny_pyNext_tuple_item st (show s.heap.IsTuple a its.toArray from p) (x:=u) (by simpa using hu) fun h' st' sb=>?_
  have I1:Inv X pins σ H { s with heap:=h' }:=I.turned (t':=s.toks) (fun b o hb e=>(sb.2 b hb).trans e) f0 f1 f3 f4 f5
  obtain⟨o,e,c,d⟩:=id st'
  exact⟨u,rfl,aS9 (s:={ s with heap:=h' }) e c d (by decide) ⟨x,H,I1,ru,⟨rfl,fun ys hy=>by rw[I.tuple_inj hy hq];exact hx⟩,st',fun b hb=>(hf b hb).1⟩⟩
 done:=by
  intro X hP hw hK hc i pins s σ H E I hf st hg
  subst hP hw hK
  obtain⟨xs,hq,hx⟩:=hg
  obtain⟨its,rv,p,hz⟩:=I.tuple hq
  obtain⟨f0,f1,f2,f3,f4,f5⟩:=hf it (by simp)
  have hl:=rv.length
  exact wpAny_pyNext_tuple_end (I.ok.hd hc) st (show s.heap.IsTuple a its.toArray from p) (by simp;omega) fun h' eb=>⟨rfl,I.turned (t':=s.toks) (fun b o hb e=>eb b o hb e) f0 f1 f3 f4 f5⟩
 self:=fun _ _ _ _ _ st h=>wpAny_pyIter_tupleiter st h
theorem aL0 {P:Program}{w:World}{K:W.Frag}{tg:Expr}(it:Addr)(lo:Int)(n:Nat):Turn P w K tg (Itr lo n) [it] it (fun i h=>IsRangeIter h it (lo+(i:Nat)*1) ((n:Int) - (i:Nat)) 1) where
 mem:=by simp
 obj:=fun i h st b hb=>by
  have e:b=it:=by simpa using hb
  subst e
  exact⟨_,st,fun v z=>by
   have z':Data.fields _=Data.cell v:=z
   cases z'⟩
 keep:=fun i h h' st k=>k it (by simp) _ st
 item:=by
  intro X hP hw hK hc i pins s σ H E I hf st hg
  subst hP hw hK
  obtain⟨f0,f1,f2,f3,f4,f5⟩:=hf it (by simp)
  have W:=Walks.range (prog:=X.prog) (w:=X.w) (I.ok.hd hc) it lo 1 n
  refine W.item i s _ _ hg st fun v h' tk hv st' kk=>?_
  obtain⟨t,rfl⟩:=hv
  have I1:Inv X pins σ H { s with heap:=h',toks:=tk }:=I.turned (fun b o hb e=>kk b o (by simpa using hb) e) f0 f1 f3 f4 f5
  refine⟨_,rfl,aS9 (s:={ s with heap:=h',toks:=tk }) (n:="range_iterator") st' rfl rfl (by decide) ⟨.int (lo+i),H,I1,⟨t,?_⟩,⟨rfl,rfl⟩,st',fun b hb=>(hf b hb).1⟩⟩
  rw[C5]
 done:=by
  intro X hP hw hK hc i pins s σ H E I hf st hg
  subst hP hw hK
  obtain⟨f0,f1,f2,f3,f4,f5⟩:=hf it (by simp)
  exact wpAny_pyNext_range_end (I.ok.hd hc) st (by have:n<=i:=hg;omega) fun h' eb=>⟨rfl,I.turned (t':=s.toks) (fun b o hb e=>eb b o hb e) f0 f1 f3 f4 f5⟩
 self:=fun _ _ _ _ _ st h=>wpAny_pyIter_rangeiter st h
section
variable {X:Cx} {tg:Expr}
def bM5 (K:W.Frag)(tl:TE):TI:=fun σ H R=>tl σ H fun x H1=>∃ a,x=.ref a/\(∃ xs,SqL K H1 a xs)/\R (Itl K a) H1
def bQ5 (K:W.Frag)(tl:TE):TI:=fun σ H R=>tl σ H fun x H1=>∃ a,x=.ref a/\(∃ xs,SqT K H1 a xs)/\R (Itt K a) H1
theorem W1 {l:Expr}{tl:TE}(hl:PE X l tl):PI X tg l (bM5 X.K tl):=by
 intro pins s σ H R I h
 refine thn (hl pins s σ H _ I h) fun v s1 ⟨x,H1,I1,r1,q1⟩=>?_
 obtain⟨a,e,⟨xs,hq⟩,q⟩:=q1
 subst e
 cases r1
 obtain⟨its,rv,p,hz⟩:=I1.list hq
 refine wpAny_pyIter_list p.isList ?_
 refine⟨s1.heap.objs.size,[s1.heap.objs.size],_,_,H1,rfl,I1.kept (t':=s1.toks) fun b o e=>b9 _ e,aV4 a _,⟨_,d6 _ rfl,rfl,rfl⟩,fun b hb=>?_,q⟩
 have e:b=s1.heap.objs.size:=by simpa using hb
 subst e
 exact I1.fpOk (c7 _) (I1.hok.fresh (c7 _))
theorem aM4 {l:Expr}{tl:TE}(hl:PE X l tl):PI X tg l (bQ5 X.K tl):=by
 intro pins s σ H R I h
 refine thn (hl pins s σ H _ I h) fun v s1 ⟨x,H1,I1,r1,q1⟩=>?_
 obtain⟨a,e,⟨xs,hq⟩,q⟩:=q1
 subst e
 cases r1
 obtain⟨its,rv,p,hz⟩:=I1.tuple hq
 refine wpAny_pyIter_tuple (show s1.heap.IsTuple a its.toArray from p) ?_
 refine⟨s1.heap.objs.size,[s1.heap.objs.size],_,_,H1,rfl,I1.kept (t':=s1.toks) fun b o e=>b9 _ e,aK9 a _,⟨_,d6 _ rfl,rfl,rfl⟩,fun b hb=>?_,q⟩
 have e:b=s1.heap.objs.size:=by simpa using hb
 subst e
 exact I1.fpOk (c7 _) (I1.hok.fresh (c7 _))
theorem aF4 {pins:List (Addr × Obj)}{σ:St}{H:Hp}{s:Shared}{R:It->Hp->Prop}{E:Value->Shared->Prop}{lo hi:Int}{t u v:Tok}{tk:Nat}(I:Inv X pins σ H s)(h1:-(2 ^ 62)<=lo)(h2:lo<2 ^ 62)(h3:-(2 ^ 62)<=hi)(h4:hi<2 ^ 62)
  (q:R (Itr lo (hi - lo).toNat) H):wpAny (model X.prog X.w) X.A (pyIter (.ref s.heap.objs.size)) (PIE X pins σ tg R) E { s with heap:=s.heap.push { cls:=.type "range",data:=.fields #[.int lo t,.int hi u,.int 1 v] },toks:=tk }:=by
 refine wpAny_pyIter_range (IsRange.new ..) (small_one h1 h2 h3 h4) ?_
 have I1:Inv X pins σ H { s with heap:=s.heap.push { cls:=.type "range",data:=.fields #[.int lo t,.int hi u,.int 1 v] },toks:=tk }:=I.kept fun b o e=>b9 _ e
 refine⟨(s.heap.push { cls:=.type "range",data:=.fields #[.int lo t,.int hi u,.int 1 v] }).objs.size,[(s.heap.push { cls:=.type "range",data:=.fields #[.int lo t,.int hi u,.int 1 v] }).objs.size],_,_,H,rfl,
  I1.kept (t':=tk) fun b o e=>b9 _ e,aL0 _ lo (hi - lo).toNat,?_,fun b hb=>?_,q⟩
 ·have e1:lo+((0:Nat):Int)*1=lo:=by simp
  have e2:(((hi - lo).toNat:Nat):Int) - ((0:Nat):Int)=Builtin.Range.rangeSize lo hi 1:=by rw[rangeSize_one];split<;>omega
  show IsRangeIter _ _ (lo+((0:Nat):Int)*1) ((((hi - lo).toNat:Nat):Int) - ((0:Nat):Int)) 1
  rw[e1,e2]
  exact d6 _ rfl
 ·have e:b=(s.heap.push { cls:=.type "range",data:=.fields #[.int lo t,.int hi u,.int 1 v] }).objs.size:=by simpa using hb
  subst e
  exact I1.fpOk (c7 _) (I1.hok.fresh (c7 _))
def bM4 (ta:TA):TI:=fun σ H R=>ta σ H fun vs H1=>∃ j:Int,vs=[.int j] /\ -(2 ^ 62)<=j/\j<2 ^ 62/\R (Itr 0 j.toNat) H1
def bM3 (ta:TA):TI:=fun σ H R=>ta σ H fun vs H1=>∃ i j:Int,vs=[.int i,.int j]/\(-(2 ^ 62)<=i/\i<2 ^ 62 /\ -(2 ^ 62)<=j/\j<2 ^ 62)/\R (Itr i (j - i).toNat) H1
theorem K6 {a:Expr}{ta:TA}{p pos:Pos}(hg:Gl X "range")(hm:X.mg "range"=none)(ha:PA X [a] ta)(hs:starEach [a] X.env=[(false,eval a X.env)]:=by rfl):PI X tg (.Call (.Name "range" p) [a] [] pos) (bM4 ta):=by
 intro pins s σ H R I h
 refine Call_ (P4 I hg hm boot_range (PyProof.Rows.callWith_type1 (thn (ha pos pins s σ H _ I h) fun us s1 ⟨vs,H1,I1,r1,q1⟩=>?_) hs rfl))
 obtain⟨j,e,q1,q2,q⟩:=q1
 subst e
 cases r1 with
 | cons r rr =>
  cases rr
  obtain⟨t,rfl⟩:=r
  exact call_range_1 (aF4 I1 (by omega) (by omega) q1 q2 (by simpa using q))
theorem av9 {a b:Expr}{ta:TA}{p pos:Pos}(hg:Gl X "range")(hm:X.mg "range"=none)(ha:PA X [a,b] ta)(hs:starEach [a,b] X.env=[(false,eval a X.env),(false,eval b X.env)]:=by rfl)(hs2:starEach [b] X.env=[(false,eval b X.env)]:=by rfl) :
  PI X tg (.Call (.Name "range" p) [a,b] [] pos) (bM3 ta):=by
 intro pins s σ H R I h
 refine Call_ (P4 I hg hm boot_range (PyProof.Rows.callWith_type1 (thn (ha pos pins s σ H _ I h) fun us s1 ⟨vs,H1,I1,r1,q1⟩=>?_) (by rw[hs,hs2]) (by rw[hs2];rfl)))
 obtain⟨i,j,e,⟨q1,q2,q3,q4⟩,q⟩:=q1
 subst e
 cases r1 with
 | cons r rr =>
  cases rr with
  | cons r' rr =>
   cases rr
   obtain⟨t,rfl⟩:=r
   obtain⟨t',rfl⟩:=r'
   exact call_range_2 (aF4 I1 q1 q2 q3 q4 q)
def bP2 (wi:TI)(g:TG)(tb:TS):TS:=fun D σ H=>wi σ H fun J H1=>∃ W:Nat->Nat->St->Hp->Prop,(∃ m,W 0 m σ H1)/\∀ i m σ H,W i m σ H ->
 (J.stop i H/\D.nx σ H)\/(J.go i H/\∃ N:St->Hp->Prop,(∀ σ' H',N σ' H'->∃ m',m'<m/\W (i+1) m' σ' H')/\∀ x H',J.yld i H x H'->g x σ H' fun σ2 H2=>tb { D with nx:=N,ct:=N,bk:=D.nx } σ2 H2)
def ad1 (fp:List Addr)(h:Heap):List (Addr × Obj):=fp.filterMap fun b=>(h.get? b).map fun o=>(b,o)
theorem L6 {fp:List Addr}{h:Heap}{b:Addr}{o:Obj}(hb:b∈fp)(e:h.get? b=some o):(b,o)∈ad1 fp h:=X5.mpr ⟨b,hb,by rw[e];rfl⟩
theorem aW5 {fp:List Addr}{h:Heap}{p:Addr × Obj}(hp:p∈ad1 fp h):p.1∈fp/\h.get? p.1=some p.2:=by
 obtain⟨b,hb,e⟩:=X5.mp hp
 cases q:h.get? b with
 | none=>rw[q]at e;cases e
 | some o =>
  rw[q]at e
  have e':(b,o)=p:=Option.some.inj e
  subst e'
  exact⟨hb,q⟩
theorem Inv.pinned {pins:List (Addr × Obj)}{σ:St}{H:Hp}{s:Shared}{fp:List Addr}(I:Inv X pins σ H s)(hf:∀ b∈fp,J1 X pins H b)(ho:∀ b∈fp,∃ o,s.heap.get? b=some o/\∀ v,o.data≠.cell v):Inv X (pins++ad1 fp s.heap) σ H s:=
 I.pins_of fun p hp=>(C7.mp hp).elim (fun z=>I.pin p (m7 _ z)) fun z=>by
  obtain⟨hb,e⟩:=aW5 z
  obtain⟨f0,f1,f2,_⟩:=hf p.1 hb
  obtain⟨o,e',d⟩:=ho p.1 hb
  rw[e]at e';cases e'
  exact⟨e,f0,f1,f2,d⟩
theorem Inv.unpinned {pins pl:List (Addr × Obj)}{σ:St}{H:Hp}{s:Shared}(I:Inv X (pins++pl) σ H s):Inv X pins σ H s:=I.pins_of fun p hp=>I.pin p (m7 _ (aj7 _ hp))
theorem V9 {iter:Expr}{body:List Stmt}{wi:TI}{g:TG}{tb:TS}{pos:Pos}(hp:PassesOwn (model X.prog X.w) X.A X.env X.xe)(hc:X.calm=true)(hi:PI X tg iter wi)(hg:PG X tg g)(hb:PSs X body tb)
  (hs:∀ x,foldedSetIterable iter X.env x=pure x:=by intro _;rfl):PS X (.For tg iter body [] pos) (bP2 wi g tb):=by
 intro pins s σ H D I h
 refine wpAny_For (thn (hi pins s σ H _ I h) fun v s1 h1=>thn h1 fun itv s2 h2=>?_) hs
 obtain⟨it,fp,tn,J,H2,e,I2,T,st2,f2,W,⟨m0,w0⟩,turn⟩:=h2
 subst e
 have stat:∀ {H':Hp},(∀ b∈fp,H' b=none)->∀ b∈fp,J1 X pins H' b:=fun hn b hb=>⟨hn b hb,(f2 b hb).2⟩
 refine codeAny_forLoop_any (fun n s'=>∃ i σ' H',Inv X pins σ' H' s'/\tn i s'.heap/\(∀ b∈fp,H' b=none)/\W i n σ' H') ?_ m0 ⟨0,σ,H2,I2,st2,fun b hb=>(f2 b hb).1,w0⟩
 rintro n s3 ⟨i,σ3,H3,I3,st3,fr3,w3⟩
 rcases turn i n σ3 H3 w3 with⟨stop,qn⟩ | ⟨go,N,hN,step⟩
 ·refine wpAny_passesOwn hp (thn (T.done X rfl rfl rfl hc i pins s3 σ3 H3 X.xe I3 (stat fr3) st3 stop) fun r s4 ⟨hr,I4⟩=>?_)
  subst hr
  exact wpAny_execs_nil ⟨σ3,H3,I4,qn⟩
 ·refine wpAny_passesOwn hp (thn (T.item X rfl rfl rfl hc i pins s3 σ3 H3 X.xe I3 (stat fr3) st3 go) fun r s4 ⟨u,hr,h4⟩=>?_)
  subst hr
  refine wpAny_passesOwn hp (thn h4 fun _ s5 ⟨x,H5,I5,r5,y5,st5,fr5⟩=>?_)
  have I5':=I5.pinned (stat fr5) (T.obj _ _ st5)
  refine wpAny_passesOwn hp (thn (hg _ s5 σ3 H5 x u _ I5' r5 (step x H5 y5)) fun _ s6 ⟨σ6,H6,I6,q6⟩=>?_)
  refine wpAny_passesOwn hp (thn (hb _ s6 σ6 H6 _ I6 q6) fun f s7 q7=>?_)
  have again:∀ {σ7:St} {H7:Hp},Inv X (pins++ad1 fp s5.heap) σ7 H7 s7->N σ7 H7->∃ m,m<n/\∃ i σ' H',Inv X pins σ' H' s7/\tn i s7.heap/\(∀ b∈fp,H' b=none)/\W i m σ' H':=fun {σ7 H7} I7 n7=>by
   obtain⟨m',hm,w7⟩:=hN σ7 H7 n7
   refine⟨m',hm,i+1,σ7,H7,I7.unpinned,T.keep _ _ _ st5 fun b hb o e=>(I7.pin (b,o) (m7 _ (m7 _ (L6 hb e)))).1,fun b hb=>?_,w7⟩
   obtain⟨o,e,d⟩:=T.obj _ _ st5 b hb
   exact(I7.pin (b,o) (m7 _ (m7 _ (L6 hb e)))).2.1
  cases f with
  | next=>obtain⟨σ7,H7,I7,n7⟩:=q7;exact again I7 n7
  | cont=>obtain⟨σ7,H7,I7,n7⟩:=q7;exact again I7 n7
  | brk=>obtain⟨σ7,H7,I7,q7⟩:=q7;exact⟨σ7,H7,I7.unpinned,q7⟩
  | ret v=>obtain⟨x7,σ7,H7,I7,r7,q7⟩:=q7;exact⟨x7,σ7,H7,I7.unpinned,r7,q7⟩
end
theorem bt5 {K:W.Frag}{a:Addr}{xs:List V}{g:TG}{tb:TS}{D:Ends}{σ:St}{H:Hp}(Pv:Nat->St->Hp->Prop)(h0:Pv 0 σ H)(hl:∀ i σ H,i<=xs.length->Pv i σ H->SqT K H a xs)
  (hs:∀ i x σ H,xs[i]?=some x->Pv i σ H->g x σ H fun σ2 H2=>tb { D with nx:=Pv (i+1),ct:=Pv (i+1),bk:=D.nx } σ2 H2)(hd:∀ σ H,Pv xs.length σ H->D.nx σ H) :
  ∃ W:Nat->Nat->St->Hp->Prop,(∃ m,W 0 m σ H)/\∀ i m σ H,W i m σ H ->
   ((Itt K a).stop i H/\D.nx σ H)\/((Itt K a).go i H/\∃ N:St->Hp->Prop,(∀ σ' H',N σ' H'->∃ m',m'<m/\W (i+1) m' σ' H')/\∀ x H',(Itt K a).yld i H x H'->g x σ H' fun σ2 H2=>tb { D with nx:=N,ct:=N,bk:=D.nx } σ2 H2):=by
 refine⟨fun i m σ H=>m=xs.length - i/\i<=xs.length/\Pv i σ H,⟨xs.length,by simp,o8 _,h0⟩,?_⟩
 rintro i m σ H ⟨rfl,hi,p⟩
 have q:=hl i σ H hi p
 by_cases hlt:i<xs.length
 ·refine .inr ⟨⟨xs,xs[i],q,by simp[hlt]⟩,Pv (i+1),fun σ' H' p'=>⟨xs.length - (i+1),by omega,rfl,hlt,p'⟩,fun x H' y=>?_⟩
  obtain⟨e,y⟩:=y
  subst e
  exact hs i x σ _ (y xs q) p
 ·have e:i=xs.length:=by omega
  subst e
  exact .inl ⟨⟨xs,q,c7 _⟩,hd σ H p⟩
theorem R1 {lo:Int}{n:Nat}{g:TG}{tb:TS}{D:Ends}{σ:St}{H:Hp}(Pv:Nat->St->Hp->Prop)(h0:Pv 0 σ H)
  (hs:∀ i σ H,i<n->Pv i σ H->g (.int (lo+i)) σ H fun σ2 H2=>tb { D with nx:=Pv (i+1),ct:=Pv (i+1),bk:=D.nx } σ2 H2)(hd:∀ σ H,Pv n σ H->D.nx σ H) :
  ∃ W:Nat->Nat->St->Hp->Prop,(∃ m,W 0 m σ H)/\∀ i m σ H,W i m σ H ->
   ((Itr lo n).stop i H/\D.nx σ H)\/((Itr lo n).go i H/\∃ N:St->Hp->Prop,(∀ σ' H',N σ' H'->∃ m',m'<m/\W (i+1) m' σ' H')/\∀ x H',(Itr lo n).yld i H x H'->g x σ H' fun σ2 H2=>tb { D with nx:=N,ct:=N,bk:=D.nx } σ2 H2):=by
 refine⟨fun i m σ H=>m=n - i/\i<=n/\Pv i σ H,⟨n,by simp,o8 _,h0⟩,?_⟩
 rintro i m σ H ⟨rfl,hi,p⟩
 by_cases hlt:i<n
 ·refine .inr ⟨hlt,Pv (i+1),fun σ' H' p'=>⟨n - (i+1),by omega,rfl,hlt,p'⟩,fun x H' y=>?_⟩
  obtain⟨e,y⟩:=y
  subst e y
  exact hs i σ _ hlt p
 ·have e:i=n:=by omega
  subst e
  exact .inl ⟨c7 _,hd σ H p⟩
abbrev R2:=V->V->Hp->VK->Prop
def OpR (X:Cx)(f:Value->Value->Sem Value)(r:R2):Prop:=
 ∀ (pins:List (Addr × Obj)) (s:Shared) (σ:St) (H:Hp) (x y:V) (v u:Value) (Q:VK),Inv X pins σ H s->RelV x v->RelV y u->r x y H Q ->
  wpAny (model X.prog X.w) X.A (f v u) (EP X pins σ Q) X.xe s
def UnR (X:Cx)(f:Value->Sem Value)(r:V->Hp->VK->Prop):Prop:=
 ∀ (pins:List (Addr × Obj)) (s:Shared) (σ:St) (H:Hp) (x:V) (v:Value) (Q:VK),Inv X pins σ H s->RelV x v->r x H Q ->
  wpAny (model X.prog X.w) X.A (f v) (EP X pins σ Q) X.xe s
def L1 (X:Cx)(f:Value)(r:List V->Hp->VK->Prop):Prop:=
 ∀ (pins:List (Addr × Obj)) (s:Shared) (σ:St) (H:Hp) (xs:List V) (us:List Value) (Q:VK),Inv X pins σ H s->y9 xs us->r xs H Q ->
  wpAny (model X.prog X.w) X.A (call f us) (EP X pins σ Q) X.xe s
def bR1 (X:Cx)(r:V->Hp->(Bool->Hp->Prop)->Prop):Prop:=
 ∀ (pins:List (Addr × Obj)) (s:Shared) (σ:St) (H:Hp) (x:V) (v:Value) (Q:Bool->Hp->Prop),Inv X pins σ H s->RelV x v->r x H Q ->
  wpAny (model X.prog X.w) X.A (truthy v) (TP X pins σ Q) X.xe s
def tOp (r:R2)(ta tb:TE):TE:=fun σ H Q=>ta σ H fun x H1=>tb σ H1 fun y H2=>r x y H2 Q
def tUn (r:V->Hp->VK->Prop)(ta:TE):TE:=fun σ H Q=>ta σ H fun x H1=>r x H1 Q
def rI (C:Int->Int->Prop)(g:Int->Int->V):R2:=fun x y H Q=>∃ i j,x=.int i/\y=.int j/\C i j/\Q (g i j) H
def rI0 (g:Int->Int->V):R2:=fun x y H Q=>∃ i j,x=.int i/\y=.int j/\Q (g i j) H
def rU (g:Int->V):V->Hp->VK->Prop:=fun x H Q=>∃ i,x=.int i/\Q (g i) H
section
variable {X:Cx} {a b c:Expr} {ta tb tc:TE} {pos:Pos}
theorem bF6 (ha:PE X a ta)(hb:PE X b tb){pins:List (Addr × Obj)}{s:Shared}{σ:St}{H:Hp}{R:V->V->Hp->Prop}(I:Inv X pins σ H s)
  (h:ta σ H fun x H1=>tb σ H1 fun y H2=>R x y H2){Q:Value->Shared->Prop}{f:Value->Value->Sem Value}
  (hf:∀ v u s2 x y H2,Inv X pins σ H2 s2->RelV x v->RelV y u->R x y H2->wpAny (model X.prog X.w) X.A (f v u) Q X.xe s2) :
  wpAny (model X.prog X.w) X.A (eval a X.env) (fun v s₁=>wpAny (model X.prog X.w) X.A (eval b X.env) (fun u s₂=>wpAny (model X.prog X.w) X.A (f v u) Q X.xe s₂) X.xe s₁) X.xe s:=by
 refine thn (ha pins s σ H _ I h) fun v s1 ⟨x,H1,I1,r1,q1⟩=>?_
 refine thn (hb pins s1 σ H1 _ I1 q1) fun u s2 ⟨y,H2,I2,r2,q2⟩=>?_
 exact hf v u s2 x y H2 I2 r1 r2 q2
theorem v8 {op:Operator}{r:R2}(ho:OpR X (binaryOp op) r)(ha:PE X a ta)(hb:PE X b tb):PE X (.BinOp a op b pos) (tOp r ta tb):=by
 intro pins s σ H Q I h
 exact wpAny_BinOp (bF6 ha hb I h fun v u s2 x y H2 I2 rx ry q=>ho pins s2 σ H2 x y v u Q I2 rx ry q)
theorem aR4 {op:UnaryOp}{r:V->Hp->VK->Prop}(ho:UnR X (unaryOp op) r)(ha:PE X a ta):PE X (.UnaryOp op a pos) (tUn r ta):=by
 intro pins s σ H Q I h
 exact UnaryOp_ (thn (ha pins s σ H _ I h) fun v s1 ⟨x,H1,I1,r1,q1⟩=>ho pins s1 σ H1 x v Q I1 r1 q1)
theorem opI {f:Value->Value->Sem Value}{C:Int->Int->Prop}{g:Int->Int->Int}
  (rule:∀ (i j:Int) (t u:Tok) (s:Shared) (Q:Value->Shared->Prop) (E:Value->Shared->Prop),C i j->Q (.int (g i j) s.toks) { s with toks:=s.toks+1 }->wpAny (model X.prog X.w) X.A (f (.int i t) (.int j u)) Q E s) :
  OpR X f (rI C fun i j=>.int (g i j)):=by
 intro pins s σ H x y v u Q I rx ry h
 obtain⟨i,j,rfl,rfl,hc,q⟩:=h
 obtain⟨t,rfl⟩:=rx
 obtain⟨t',rfl⟩:=ry
 exact rule i j t t' s _ _ hc ⟨.int (g i j),H,I.tok _,⟨_,rfl⟩,q⟩
theorem bB8 {f:Value->Value->Sem Value}{g:Int->Int->Int}
  (rule:∀ (i j:Int) (t u:Tok) (s:Shared) (Q:Value->Shared->Prop) (E:Value->Shared->Prop),Q (.int (g i j) s.toks) { s with toks:=s.toks+1 }->wpAny (model X.prog X.w) X.A (f (.int i t) (.int j u)) Q E s) :
  OpR X f (rI0 fun i j=>.int (g i j)):=by
 intro pins s σ H x y v u Q I rx ry h
 obtain⟨i,j,rfl,rfl,q⟩:=h
 obtain⟨t,rfl⟩:=rx
 obtain⟨t',rfl⟩:=ry
 exact rule i j t t' s _ _ ⟨.int (g i j),H,I.tok _,⟨_,rfl⟩,q⟩
theorem bp8 {f:Value->Value->Sem Value}{g:Int->Int->Bool}
  (rule:∀ (i j:Int) (t u:Tok) (s:Shared) (Q:Value->Shared->Prop) (E:Value->Shared->Prop),Q (.bool (g i j)) s->wpAny (model X.prog X.w) X.A (f (.int i t) (.int j u)) Q E s) :
  OpR X f (rI0 fun i j=>.bl (g i j)):=by
 intro pins s σ H x y v u Q I rx ry h
 obtain⟨i,j,rfl,rfl,q⟩:=h
 obtain⟨t,rfl⟩:=rx
 obtain⟨t',rfl⟩:=ry
 exact rule i j t t' s _ _ ⟨.bl (g i j),H,I,rfl,q⟩
def bR3 (i j:Int):Prop:=0<j/\j<1073741824
def bO4 (i j:Int):Prop:=0<=j/\j<=1000000/\i.natAbs<2 ^ 64
def bG3 (i j:Int):Prop:=(-(2 ^ 64)<i/\i<2 ^ 64)\/(-(2 ^ 64)<j/\j<2 ^ 64)
theorem bG3.ok {i j:Int}(h:bG3 i j):IntMulOk i j:=by
 rcases h with⟨h1,h2⟩ | ⟨h1,h2⟩
 ·exact .of_left (intBits_le_64 h1 h2)
 ·exact .of_right (intBits_le_64 h1 h2)
theorem aK8 (k:Nat):(0:Int)<=2 ^ k:=by
 rw[two_pow_cast]
 exact at9 _
theorem G8:OpR X (binaryOp .Add) (rI0 fun i j=>.int (i+j)):=bB8 fun _ _ _ _ _ _ _ q=>add_int q
theorem R7:OpR X (binaryOp .Sub) (rI0 fun i j=>.int (i - j)):=bB8 fun _ _ _ _ _ _ _ q=>sub_int q
theorem ai2:OpR X (binaryOp .Mult) (rI bG3 fun i j=>.int (i*j)):=opI fun _ _ _ _ _ _ _ hc q=>mul_int q hc.ok
theorem an2:OpR X (binaryOp .FloorDiv) (rI bR3 fun i j=>.int (i / j)):=opI fun i j _ _ _ _ _ hc q=>by
 have h1:(0:Int)<j:=hc.1
 have h2:j<1073741824:=hc.2
 exact floordiv_int (by omega) (by rw[aO9 i (by omega)];exact q) (.inl (PyProof.noPylong_small (by omega)))
theorem W5:OpR X (binaryOp .Mod) (rI (fun _ j=>0<j) fun i j=>.int (i % j)):=opI fun i j _ _ _ _ _ hc q=>by
 have h1:(0:Int)<j:=hc
 exact mod_int' (by omega) (by rw[Int.fmod_eq_emod_of_nonneg i (by omega)];exact q)
theorem bf0:OpR X (binaryOp .Pow) (rI bO4 fun i j=>.int (i ^ j.toNat)):=opI fun _ _ _ _ _ _ _ hc q=>pow_int_small hc.1 hc.2.1 hc.2.2 q
theorem bB2:OpR X (binaryOp .LShift) (rI bO4 fun i j=>.int (i*2 ^ j.toNat)):=opI fun _ _ _ _ _ _ _ hc q=>lshift_int_small hc.1 hc.2.1 hc.2.2 q
theorem bB1:OpR X (binaryOp .RShift) (rI (fun _ j=>0<=j) fun i j=>.int (i / 2 ^ j.toNat)):=opI fun i j _ _ _ _ _ hc q =>
 rshift_int hc (by rw[aO9 i (aK8 _)];exact q)
theorem bB7:OpR X (binaryOp .BitAnd) (rI0 fun i j=>.int (Builtin.bitAnd i j)):=bB8 fun _ _ _ _ _ _ _ q=>and_int q
theorem unI {f:Value->Sem Value}{g:Int->Int}
  (rule:∀ (i:Int) (t:Tok) (s:Shared) (Q:Value->Shared->Prop) (E:Value->Shared->Prop),Q (.int (g i) s.toks) { s with toks:=s.toks+1 }->wpAny (model X.prog X.w) X.A (f (.int i t)) Q E s) :
  UnR X f (rU fun i=>.int (g i)):=by
 intro pins s σ H x v Q I rx h
 obtain⟨i,rfl,q⟩:=h
 obtain⟨t,rfl⟩:=rx
 exact rule i t s _ _ ⟨.int (g i),H,I.tok _,⟨_,rfl⟩,q⟩
theorem az2:UnR X (unaryOp .USub) (rU fun i=>.int (-i)):=unI fun _ _ _ _ _ q=>neg_int q
end
def bJ7:V->V->Bool
 | .non,.non=>true | .non,.int _=>true | .int _,.non=>true | .non,.bl _=>true | .bl _,.non=>true | .non,.str _=>true | .str _,.non=>true
 | .int _,.int _=>true | .bl _,.bl _=>true | .str _,.str _=>true | .byt _,.byt _=>true
 | .int _,.str _=>true | .str _,.int _=>true | .bl _,.str _=>true | .str _,.bl _=>true
 | _,_=>false
def rEq:R2:=fun x y H Q=>bJ7 x y=true/\Q (.bl (decide (x=y))) H
def rNe:R2:=fun x y H Q=>bJ7 x y=true/\Q (.bl (!decide (x=y))) H
theorem aU1 {i j:Int}:decide (V.int i=V.int j)=(i == j):=by
 rw[V0]
 simp
theorem bj7 {i j:Bool}:decide (V.bl i=V.bl j)=(i == j):=by
 rw[V0]
 simp
theorem aU0 {i j:Str}:decide (V.str i=V.str j)=(i == j):=by
 rw[V0]
 simp
theorem aU2 {i j:Array UInt8}:decide (V.byt i=V.byt j)=(i.toList == j.toList):=by
 rw[V0]
 cases i
 cases j
 simp
section
variable {X:Cx} {a b c:Expr} {ta tb tc:TE} {pos:Pos}
theorem A9 {pins:List (Addr × Obj)}{σ:St}{H:Hp}{s:Shared}{Q:VK}{k k':Bool}(I:Inv X pins σ H s)(q:Q (.bl k) H)(e:k=k'):EP X pins σ Q (.bool k') s:=by
 subst e
 exact⟨.bl k,H,I,rfl,q⟩
theorem aw3:OpR X (compareOp .Eq) rEq:=by
 intro pins s σ H x y v u Q I rx ry h
 obtain⟨hs,q⟩:=h
 cases x with
 | non =>
  cases rx
  cases y with
  | non=>cases ry;exact PySem.EqNone.eq_none_none (A9 I q (by simp))
  | bl j=>cases ry;exact PySem.EqNone.eq_none_bool (A9 I q (by simp))
  | int j=>obtain⟨t',rfl⟩:=ry;exact PySem.EqNone.eq_none_int (A9 I q (by simp))
  | str j=>obtain⟨t',rfl⟩:=ry;exact PySem.EqNone.eq_none_str (A9 I q (by simp))
  | _=>exact absurd (show false=true from hs) f6
 | bl i =>
  cases rx
  cases y with
  | non=>cases ry;exact PySem.EqNone.eq_bool_none (A9 I q (by simp))
  | bl j=>cases ry;exact eq_bool (A9 I q bj7)
  | str j=>obtain⟨t',rfl⟩:=ry;exact PySem.EqMixed.eq_bool_str (A9 I q (by simp))
  | _=>exact absurd (show false=true from hs) f6
 | int i =>
  obtain⟨t,rfl⟩:=rx
  cases y with
  | non=>cases ry;exact PySem.EqNone.eq_int_none (A9 I q (by simp))
  | int j=>obtain⟨t',rfl⟩:=ry;exact eq_int (A9 I q aU1)
  | str j=>obtain⟨t',rfl⟩:=ry;exact PySem.EqMixed.eq_int_str (A9 I q (by simp))
  | _=>exact absurd (show false=true from hs) f6
 | str i =>
  obtain⟨t,rfl⟩:=rx
  cases y with
  | non=>cases ry;exact PySem.EqNone.eq_str_none (A9 I q (by simp))
  | bl j=>cases ry;exact PySem.EqMixed.eq_str_bool (A9 I q (by simp))
  | int j=>obtain⟨t',rfl⟩:=ry;exact PySem.EqMixed.eq_str_int (A9 I q (by simp))
  | str j=>obtain⟨t',rfl⟩:=ry;exact eq_str (A9 I q aU0)
  | _=>exact absurd (show false=true from hs) f6
 | byt i =>
  obtain⟨t,rfl⟩:=rx
  cases y with
  | byt j=>obtain⟨t',rfl⟩:=ry;exact PySem.W.eq_bytes (A9 I q aU2)
  | _=>exact absurd (show false=true from hs) f6
 | _=>cases y<;>exact absurd (show false=true from hs) f6
theorem al4:OpR X (compareOp .NotEq) rNe:=by
 intro pins s σ H x y v u Q I rx ry h
 obtain⟨hs,q⟩:=h
 cases x with
 | non =>
  cases rx
  cases y with
  | non=>cases ry;exact PySem.EqNone.ne_none_none (A9 I q (by simp))
  | bl j=>cases ry;exact PySem.EqNone.ne_none_bool (A9 I q (by simp))
  | int j=>obtain⟨t',rfl⟩:=ry;exact PySem.EqNone.ne_none_int (A9 I q (by simp))
  | str j=>obtain⟨t',rfl⟩:=ry;exact PySem.EqNone.ne_none_str (A9 I q (by simp))
  | _=>exact absurd (show false=true from hs) f6
 | bl i =>
  cases rx
  cases y with
  | non=>cases ry;exact PySem.EqNone.ne_bool_none (A9 I q (by simp))
  | bl j=>cases ry;exact ne_bool (A9 I q (congrArg not bj7))
  | str j=>obtain⟨t',rfl⟩:=ry;exact PySem.EqMixed.ne_bool_str (A9 I q (by simp))
  | _=>exact absurd (show false=true from hs) f6
 | int i =>
  obtain⟨t,rfl⟩:=rx
  cases y with
  | non=>cases ry;exact PySem.EqNone.ne_int_none (A9 I q (by simp))
  | int j=>obtain⟨t',rfl⟩:=ry;exact ne_int (A9 I q (congrArg not aU1))
  | str j=>obtain⟨t',rfl⟩:=ry;exact PySem.EqMixed.ne_int_str (A9 I q (by simp))
  | _=>exact absurd (show false=true from hs) f6
 | str i =>
  obtain⟨t,rfl⟩:=rx
  cases y with
  | non=>cases ry;exact PySem.EqNone.ne_str_none (A9 I q (by simp))
  | bl j=>cases ry;exact PySem.EqMixed.ne_str_bool (A9 I q (by simp))
  | int j=>obtain⟨t',rfl⟩:=ry;exact PySem.EqMixed.ne_str_int (A9 I q (by simp))
  | str j=>obtain⟨t',rfl⟩:=ry;exact ne_str (A9 I q (congrArg not aU0))
  | _=>exact absurd (show false=true from hs) f6
 | byt i =>
  obtain⟨t,rfl⟩:=rx
  cases y with
  | byt j=>obtain⟨t',rfl⟩:=ry;exact PySem.W.ne_bytes (A9 I q (congrArg not aU2))
  | _=>exact absurd (show false=true from hs) f6
 | _=>cases y<;>exact absurd (show false=true from hs) f6
theorem af0:OpR X (compareOp .Lt) (rI0 fun i j=>.bl (decide (i<j))):=bp8 fun _ _ _ _ _ _ _ q=>lt_int q
theorem Z6:OpR X (compareOp .LtE) (rI0 fun i j=>.bl (decide (i<=j))):=bp8 fun _ _ _ _ _ _ _ q=>le_int q
theorem bL4:OpR X (compareOp .Gt) (rI0 fun i j=>.bl (decide (j<i))):=bp8 fun _ _ _ _ _ _ _ q=>gt_int q
theorem bw7:OpR X (compareOp .GtE) (rI0 fun i j=>.bl (decide (j<=i))):=bp8 fun _ _ _ _ _ _ _ q=>ge_int q
theorem bB4:OpR X (compareOp .Is) (fun x y H Q=>y=.non/\Q (.bl (decide (x=.non))) H):=by
 intro pins s σ H x y v u Q I rx ry h
 obtain⟨rfl,q⟩:=h
 cases ry
 refine is_none_gen (A9 I q ?_)
 cases x<;>first
  | (cases rx;rfl)
  | (obtain⟨t,rfl⟩:=rx;rfl)
theorem bp7:OpR X (compareOp .IsNot) (fun x y H Q=>y=.non/\Q (.bl (!decide (x=.non))) H):=by
 intro pins s σ H x y v u Q I rx ry h
 obtain⟨rfl,q⟩:=h
 cases ry
 refine isnot_none_gen (A9 I q ?_)
 cases x<;>first
  | (cases rx;rfl)
  | (obtain⟨t,rfl⟩:=rx;rfl)
theorem B2 (b:Expr){op:CmpOp}(h:op≠.In:=by decide)(h2:op≠.NotIn:=by decide):behindInMarks op b=false:=by
 have e1:(op == CmpOp.In)=false:=by cases op<;>first | rfl | exact absurd rfl h
 have e2:(op == CmpOp.NotIn)=false:=by cases op<;>first | rfl | exact absurd rfl h2
 cases b<;>simp[behindInMarks,e1,e2]
theorem ae9 {op:CmpOp}{r:R2}(ho:OpR X (compareOp op) r)(ha:PE X a ta)(hb:PE X b tb)(hm:behindInMarks op b=false):PE X (.Compare a [op] [b] pos) (tOp r ta tb):=by
 intro pins s σ H Q I h
 exact wpAny_Compare1 (bF6 ha hb I h fun v u s2 x y H2 I2 rx ry q=>ho pins s2 σ H2 x y v u Q I2 rx ry q) hm
def bv5 (t:TE):TT:=fun σ H Q=>t σ H fun x H'=>∃ k,x=.bl k/\Q k H'
theorem y7 {op:CmpOp}{r:R2}(ho:OpR X (compareOp op) r)(ha:PE X a ta)(hb:PE X b tb)(hm:behindInMarks op b=false):PT X (.Compare a [op] [b] pos) (bv5 (tOp r ta tb)):=by
 intro pins s σ H Q I h
 refine wpAny_isTrue_Compare1 (thn (ha pins s σ H _ I h) fun v s1 ⟨x,H1,I1,r1,q1⟩=>thn (hb pins s1 σ H1 _ I1 q1) fun u s2 ⟨y,H2,I2,r2,q2⟩ =>
  thn (ho pins s2 σ H2 x y v u _ I2 r1 r2 q2) fun c s3 ⟨z,H3,I3,r3,k,e,q3⟩=>?_) hm
 subst e
 cases r3
 exact wpAny_truthy_bool ⟨H3,I3,q3⟩
def bb0 (r r':R2)(ta tb tc:TE):TE:=fun σ H Q=>ta σ H fun x H1=>tb σ H1 fun y H2=>r x y H2 fun z H3=>∃ k,z=.bl k /\
 (if k=true then tc σ H3 fun w' H4=>r' y w' H4 Q else Q (.bl false) H3)
theorem be5 {op op':CmpOp}{r r':R2}(ho:OpR X (compareOp op) r)(ho':OpR X (compareOp op') r')(ha:PE X a ta)(hb:PE X b tb)(hc:PE X c tc)
  (hm:lastMarks [op,op'] [b,c]=false:=by with_unfolding_all rfl):PE X (.Compare a [op,op'] [b,c] pos) (bb0 r r' ta tb tc):=by
 intro pins s σ H Q I h
 refine Compare_chain (thn (ha pins s σ H _ I h) fun v s1 ⟨x,H1,I1,r1,q1⟩=>chain_link (thn (hb pins s1 σ H1 _ I1 q1) fun u s2 ⟨y,H2,I2,r2,q2⟩ =>
  thn (ho pins s2 σ H2 x y v u _ I2 r1 r2 q2) fun d s3 ⟨z,H3,I3,r3,k,e,q3⟩=>?_)) hm
 subst e
 cases r3
 refine wpAny_truthy_bool ?_
 cases k with
 | false=>exact ite_ff ⟨.bl false,H3,I3,rfl,q3⟩
 | true=>exact ite_tt (chain_last (thn (hc pins s3 σ H3 _ I3 q3) fun w' s4 ⟨z',H4,I4,r4,q4⟩=>ho' pins s4 σ H4 y z' u w' Q I4 r2 r4 q4))
theorem ae6 {op op':CmpOp}{r r':R2}(ho:OpR X (compareOp op) r)(ho':OpR X (compareOp op') r')(ha:PE X a ta)(hb:PE X b tb)(hc:PE X c tc)
  (hm:lastMarks [op,op'] [b,c]=false:=by with_unfolding_all rfl):PT X (.Compare a [op,op'] [b,c] pos) (bv5 (bb0 r r' ta tb tc)):=by
 intro pins s σ H Q I h
 refine isTrue_chain (thn (ha pins s σ H _ I h) fun v s1 ⟨x,H1,I1,r1,q1⟩=>test_link (thn (hb pins s1 σ H1 _ I1 q1) fun u s2 ⟨y,H2,I2,r2,q2⟩ =>
  thn (ho pins s2 σ H2 x y v u _ I2 r1 r2 q2) fun d s3 ⟨z,H3,I3,r3,k,e,q3⟩=>?_)) hm
 subst e
 cases r3
 refine wpAny_truthy_bool ?_
 cases k with
 | false =>
  obtain⟨k',e',q'⟩:=q3
  cases e'
  exact ite_ff ⟨H3,I3,q'⟩
 | true =>
  refine ite_tt (test_last (thn (hc pins s3 σ H3 _ I3 q3) fun w' s4 ⟨z',H4,I4,r4,q4⟩=>thn (ho' pins s4 σ H4 y z' u w' _ I4 r2 r4 q4) fun d' s5 ⟨z2,H5,I5,r5,k2,e2,q5⟩=>?_))
  subst e2
  cases r5
  exact wpAny_truthy_bool ⟨H5,I5,q5⟩
def bO0 (K:W.Frag)(x:V)(H:Hp)(k:Bool):Prop:=
 match x with
 | .non=>k=false
 | .bl b=>k=b
 | .int i=>k=(i != 0)
 | .str y=>y.length<=sizeLine/\k=((y.length:Int) != 0)
 | .byt y=>y.size<=sizeLine/\k=((y.size:Int) != 0)
 | .ref p=>(∃ xs,SqL K H p xs/\k=!xs.isEmpty)\/(∃ xs,SqT K H p xs/\k=!xs.isEmpty)\/∃ kvs,H p=some (.dK kvs)/\k=!kvs.isEmpty
 | _=>False
theorem aN5 {κ:Type}{kvs:List (κ × V)}{vs:List (κ × Value)}(r:KV kvs vs):(!vs.isEmpty)=!kvs.isEmpty:=by
 cases r<;>rfl
theorem ar4 {xs:List V}{its:List Value}(r:y9 xs its):(!its.toArray.isEmpty)=!xs.isEmpty:=by
 cases r<;>simp
theorem ai6:(sizeLine:Nat)<2 ^ 63:=by rw[sizeLine_eq];decide
theorem by7:bR1 X (fun x H Q=>∃ k,bO0 X.K x H k/\Q k H):=by
 intro pins s σ H x v Q I rx h
 obtain⟨k,e,q⟩:=h
 have hl:=ai6
 have hs:sizeLine=16777216:=sizeLine_eq
 cases x with
 | non =>
  cases rx
  have e':k=false:=e
  subst e'
  exact truthy_none ⟨H,I,q⟩
 | bl b =>
  cases rx
  have e':k=b:=e
  subst e'
  exact wpAny_truthy_bool ⟨H,I,q⟩
 | int i =>
  obtain⟨t,rfl⟩:=rx
  have e':k=(i != 0):=e
  subst e'
  exact PySem.P.truthy_int ⟨H,I,q⟩
 | str y =>
  obtain⟨t,rfl⟩:=rx
  obtain⟨hy,e'⟩:y.length<=sizeLine/\k=((y.length:Int) != 0):=e
  subst e'
  exact PySem.P.truthy_str (by omega) ⟨H,I.tok _,q⟩
 | byt y =>
  obtain⟨t,rfl⟩:=rx
  obtain⟨hy,e'⟩:y.size<=sizeLine/\k=((y.size:Int) != 0):=e
  subst e'
  exact PySem.W.truthy_bytes (by omega) ⟨H,I.tok _,q⟩
 | ref p =>
  cases rx
  have e':(∃ xs,SqL X.K H p xs/\k=!xs.isEmpty)\/(∃ xs,SqT X.K H p xs/\k=!xs.isEmpty)\/∃ kvs,H p=some (.dK kvs)/\k=!kvs.isEmpty:=e
  rcases e' with⟨xs,hx,e'⟩ | ⟨xs,hx,e'⟩ | ⟨kvs,hx,e'⟩
  ·subst e'
   obtain⟨its,r,pl,hz⟩:=I.list hx
   have hlen:=r.length
   exact wpAny_truthy_list pl.isList (by simp only[d7];omega) ⟨H,I.tok _,by rw[ar4 r];exact q⟩
  ·subst e'
   obtain⟨its,r,pl,hz⟩:=I.tuple hx
   have hlen:=r.length
   exact truthy_tuple pl (by simp only[d7];omega) ⟨H,I.tok _,by rw[ar4 r];exact q⟩
  ·subst e'
   obtain⟨hz,hS,vs,r,m⟩:kvs.length<=sizeLine/\(p == sysModules)=false/\∃ vs,KV kvs vs/\s.heap.DictOf (G9 X.prog X.w) p vs:=I.hok p _ hx
   have hlen:kvs.length=vs.length:=Paired.length r
   exact wpAny_truthy_dict hS m (by omega) ⟨H,I.tok _,by rw[aN5 r];exact q⟩
 | _=>exact(show False from e).elim
theorem ap6 (ha:PE X a ta)(he:∀ whole,isTrue a X.env whole=(do let v <- whole;standAt a.pos;holding [v] (truthy v))) :
  PT X a (fun σ H Q=>ta σ H fun x H'=>∃ k,bO0 X.K x H' k/\Q k H'):=by
 intro pins s σ H Q I h
 exact isTrue_plain (thn (ha pins s σ H _ I h) fun v s1 ⟨x,H1,I1,r1,q1⟩=>by7 pins s1 σ H1 x v Q I1 r1 q1) (he _)
theorem vals1 {x:V}{us:List Value}(r:y9 [x] us):∃ u,us=[u]/\RelV x u:=by
 cases r with
 | cons r1 r2=>cases r2;exact⟨_,rfl,r1⟩
theorem vals2 {x y:V}{us:List Value}(r:y9 [x,y] us):∃ u w',us=[u,w']/\RelV x u/\RelV y w':=by
 cases r with
 | cons r1 r2 =>
  cases r2 with
  | cons r3 r4=>cases r4;exact⟨_,_,rfl,r1,r3⟩
theorem ay0 (hc:X.calm=true):L1 X (.builtin "max") (fun xs H Q=>∃ i j,xs=[.int i,.int j]/\Q (.int (if j > i then j else i)) H):=by
 intro pins s σ H xs us Q I r h
 obtain⟨i,j,rfl,q⟩:=h
 obtain⟨u,w',rfl,⟨t,rfl⟩,⟨t',rfl⟩⟩:=vals2 r
 refine max_two_ints (I.ok.hd hc) fun h' tk k=>⟨_,H,I.kept k,?_,q⟩
 by_cases hj:j > i
 ·rw[if_pos hj,if_pos hj];exact⟨_,rfl⟩
 ·rw[if_neg hj,if_neg hj];exact⟨_,rfl⟩
theorem ab5 (hc:X.calm=true):L1 X (.builtin "min") (fun xs H Q=>∃ i j,xs=[.int i,.int j]/\Q (.int (if j<i then j else i)) H):=by
 intro pins s σ H xs us Q I r h
 obtain⟨i,j,rfl,q⟩:=h
 obtain⟨u,w',rfl,⟨t,rfl⟩,⟨t',rfl⟩⟩:=vals2 r
 refine min_two_ints (I.ok.hd hc) fun h' tk k=>⟨_,H,I.kept k,?_,q⟩
 by_cases hj:j<i
 ·rw[if_pos hj,if_pos hj];exact⟨_,rfl⟩
 ·rw[if_neg hj,if_neg hj];exact⟨_,rfl⟩
end
structure bG2 (h:Heap) (x dx C:Addr) (mA:Str->Option Value):Prop where
 obj:h.get? x=some (PySem.W.instObj C dx)
 ns:h.Ns1 dx mA
 ne:dx≠x
theorem aW9 {h:Heap}{dx:Addr}{mA:Str->Option Value}(n:h.Ns1 dx mA):∃ od,h.get? dx=some od/\∀ name,PySem.W.lookIn name od=some (mA name):=by
 obtain⟨o,es,ep,ho,hd,hk,_,hm⟩:=n
 refine⟨o,ho,fun name=>?_⟩
 have e:=hm name
 unfold nsFind findBy at e
 rw[<- Array.find?_toList]at e
 unfold PySem.W.lookIn
 rw[hd]
 dsimp only
 split
 ·rename_i y q
  rw[q]at e
  exact congrArg some e
 ·rename_i q
  rw[q]at e
  have a:es.toList.any (·.refKey)=false:=by
   rw[List.any_eq_false]
   intro y hy
   obtain⟨z,t,hkey⟩:=hk y (ah2.mp hy)
   simp[DictEntry.refKey,hkey]
  have a':¬ es.toList.any (·.refKey)=true:=by rw[a];exact f6
  rw[if_neg a']
  exact congrArg some e
theorem bG2.look {h:Heap}{x dx C:Addr}{mA:Str->Option Value}(I:bG2 h x dx C mA):∃ od,PySem.W.InstAt h x (PySem.W.instObj C dx) C (some od)/\∀ name,PySem.W.lookIn name od=some (mA name):=
 let ⟨od,ho,hl⟩:=aW9 I.ns
 ⟨od,⟨I.obj,rfl,rfl,ho⟩,hl⟩
section
variable {prog:Program} {w:World} {A:Around} {E:Value->Shared->Prop} {s:Shared} {K:W.Frag} {x dx C f:Addr} {mA:Str->Option Value} {name:Str} {v:Value}
end
theorem at3.some_of {v:V}{o:Option Value}(r:at3 (some v) o):∃ u,o=some u/\RelV v u:=by
 cases o with
 | none=>exact(show False from r).elim
 | some u=>exact⟨u,rfl,r⟩
section
variable {P:Program} {w:World} {H H':Hp} {h h':Heap} {a C dx:Addr} {fs fs':List (Str × V)}
theorem bs8 (hok:HOk P w H h)(e:H a=some (.ins C dx fs)):∃ mA,bG2 h a dx C mA/\(∀ f,at3 (fs.lookup f) (mA f))/\PySem.Within mA (fs.map (·.1))/\fs.length<=1000/\H dx=some (.own a):=by
 obtain⟨d,z,ne,ob,mA,n,r,q⟩:=(show B9 P w H h a (.ins C dx fs) from hok a _ e)
 exact⟨mA,⟨ob,n,ne⟩,r,q,z,d⟩
end
structure Cls (K:W.Frag) (C:Addr):Prop where
 pg:PySem.W.plainGet K C Str.empty=true
 hd:PySem.W.hasDictIn K C=true
 po:PySem.W.plainOver K C=true
 sa:PySem.W.findIn K (.ref C) "__setattr__"=some (some (.builtin "object.__setattr__"))
theorem Cls.get {K:W.Frag}{C:Addr}(c:Cls K C)(f:Str):PySem.W.plainGet K C f=true:=c.pg
structure Con (K:W.Frag) (C:Addr) (f:Str) (v:V) (u:Value):Prop where
 at_:PySem.W.findIn K (.ref C) f=some (some u)
 rel:RelV v u
 get:PySem.W.specialIn K u "__get__"=some none
 cp:PySem.W.copiedNames.contains f=false
structure bR4 (K:W.Frag) (C:Addr) (m:Str) (f:Addr):Prop where
 at_:PySem.W.findIn K (.ref C) m=some (some (.ref f))
 fn:PySem.W.isFn K (.ref f)=true
 kp:i7 K (.ref f)=true
section
variable {X:Cx} {pins:List (Addr × Obj)} {σ:St} {H:Hp} {s:Shared} {a C dx:Addr} {fs:List (Str × V)} {f:Str} {v:V} {A:Around} {E:Value->Shared->Prop}
end
section
variable {X:Cx} {o e value:Expr} {f:Str} {pos pos' tpos:Pos} {ta tv:TE}
end
section
variable {X:Cx} {pins:List (Addr × Obj)} {σ:St} {H:Hp} {s:Shared} {A:Around} {E:Value->Shared->Prop} {Q:Value->Shared->Prop} {c:Value} {b:Bool}
inductive ag2 (K:W.Frag) (H:Hp):V->Value->Prop where
 | non:ag2 K H .non (.type "NoneType")
 | bl (x:Bool):ag2 K H (.bl x) (.type "bool")
 | int (i:Int):ag2 K H (.int i) (.type "int")
 | str (x:Str):ag2 K H (.str x) (.type "str")
 | flt (x:UInt64):ag2 K H (.flt x) (.type "float")
 | lst {a:Addr} {xs:List V} (e:H a=some (.lst xs)):ag2 K H (.ref a) (.type "list")
 | frz {a:Addr} {o:Obj} {xs:List V} (e:H a=some (.frz o (.lst xs))):ag2 K H (.ref a) (.type "list")
 | tup {a:Addr} {xs:List V} (e:H a=some (.tup xs)):ag2 K H (.ref a) (.type "tuple")
 | dK {a:Addr} {kvs:List (Key × V)} (e:H a=some (.dK kvs)):ag2 K H (.ref a) (.type "dict")
 | dT {a:Addr} {kvs:List (List Key × V)} (e:H a=some (.dT kvs)):ag2 K H (.ref a) (.type "dict")
 | ins {a C dx:Addr} {fs:List (Str × V)} (e:H a=some (.ins C dx fs)) (cl:Cls K C) (ha:PySem.W.findIn K (.ref C) "__class__"=some (some (.builtin "object.__class__")))
   (hn:PySem.W.specialIn K (.builtin "object.__class__") "__get__"=some (some (.builtin "getset_descriptor.__get__"))) (htk:PySem.W.takesIn K (.builtin "object.__class__")=some true)
   (hm:PySem.W.mroIn K C (.type "object")=some true):ag2 K H (.ref a) (.ref C)
theorem aY0 {x:V}{u t:Value}(I:Inv X pins σ H s)(rx:RelV x u)(ty:ag2 X.K H x t)(e:PySem.W.kitOne X.K t c=some b)(h:∀ tk,Q (.bool b) { s with toks:=tk }) :
  wpAny (model X.prog X.w) A (call (.builtin "isinstance") [u,c]) Q E s:=by
 cases ty with
 | non=>cases (show u=Value.none from rx);exact PySem.W.kia_one PySem.W.kitx_none I.kIn True.intro e (fun z=>nomatch z) h
 | bl y=>cases (show u=Value.bool y from rx);exact PySem.W.kia_one PySem.W.kitx_bool I.kIn True.intro e (fun z=>nomatch z) h
 | int i=>obtain⟨t,q⟩:=(show ∃ t,u=Value.int i t from rx);cases q;exact PySem.W.kia_one PySem.W.kitx_int I.kIn True.intro e (fun z=>nomatch z) h
 | str y=>obtain⟨t,q⟩:=(show ∃ t,u=Value.str y t from rx);cases q;exact PySem.W.kia_one PySem.W.kitx_str I.kIn True.intro e (fun z=>nomatch z) h
 | flt y=>obtain⟨t,q⟩:=(show ∃ t,u=Value.float y t from rx);cases q;exact PySem.W.kia_one PySem.W.kitx_float I.kIn True.intro e (fun z=>nomatch z) h
 | @lst a xs ea =>
  cases (show u=Value.ref a from rx)
  obtain⟨_,_,n,_,h1⟩:=(show B9 X.prog X.w H s.heap a (.lst xs) from I.hok a _ ea)
  exact PySem.W.kia_one PySem.W.kitx_list I.kIn ⟨_,h1,rfl⟩ e (fun z=>nomatch z) h
 | @frz a ob xs ea =>
  cases (show u=Value.ref a from rx)
  obtain⟨_,_,_,n,_,h1⟩:=(show B9 X.prog X.w H s.heap a (.frz ob (.lst xs)) from I.hok a _ ea)
  exact PySem.W.kia_one PySem.W.kitx_list I.kIn ⟨_,h1,rfl⟩ e (fun z=>nomatch z) h
 | @tup a xs ea =>
  cases (show u=Value.ref a from rx)
  obtain⟨_,_,_,p⟩:=(show B9 X.prog X.w H s.heap a (.tup xs) from I.hok a _ ea)
  obtain⟨o,h1,h2,_⟩:=p
  exact PySem.W.kia_one PySem.W.kitx_tuple I.kIn ⟨o,h1,h2⟩ e (fun z=>nomatch z) h
 | @dK a kvs ea =>
  cases (show u=Value.ref a from rx)
  obtain⟨_,_,vs,_,p⟩:=(show B9 X.prog X.w H s.heap a (.dK kvs) from I.hok a _ ea)
  obtain⟨o,es,ep,h1,h2,_⟩:=p
  exact PySem.W.kia_one PySem.W.kitx_dict I.kIn ⟨o,h1,h2.1⟩ e (fun z=>nomatch z) h
 | @dT a kvs ea =>
  cases (show u=Value.ref a from rx)
  obtain⟨_,_,xs,_,o,es,ep,h1,h2,_⟩:=(show B9 X.prog X.w H s.heap a (.dT kvs) from I.hok a _ ea)
  exact PySem.W.kia_one PySem.W.kitx_dict I.kIn ⟨o,h1,h2.1⟩ e (fun z=>nomatch z) h
 | @ins a C dx fs ea cl ha hn htk hm =>
  cases (show u=Value.ref a from rx)
  obtain⟨mA,O,_⟩:=bs8 I.hok ea
  obtain⟨od,J,_⟩:=O.look
  exact PySem.W.kia_one (PySem.W.kitx_own (cl.get _) cl.hd ha hn htk hm) I.kIn J e (fun z=>nomatch z) h
end
structure P6 (k:Nat) (A:Around):Prop where
 hd:A.handled=none
 dp:A.depth+3*k+5<recursionLimit
 un:A.units+16*k+200<cLine
theorem P6.mono {j k:Nat}{A:Around}(r:P6 k A)(h:j<=k):P6 j A:=⟨r.hd,by have:=r.dp;omega,by have:=r.un;omega⟩
theorem P6.deeper {k:Nat}{A:Around}(r:P6 (k+1) A)(env:Env):P6 k (A.deeper env):=
 ⟨r.hd,by have:=r.dp;show A.depth+1+3*k+5<_;omega,by have:=r.un;show A.units+3+16*k+200<_;omega⟩
theorem P6.depth {k:Nat}{A:Around}(r:P6 k A):A.depth<recursionLimit:=by have:=r.dp;omega
theorem P6.units {k:Nat}{A:Around}(r:P6 k A):A.units+64<cLine:=by have:=r.un;omega
def ba8:TA:=fun _ H Q=>Q [] H
def aD7 (ta:TE)(tr:TA):TA:=fun σ H Q=>ta σ H fun x H1=>tr σ H1 fun xs H2=>Q (x::xs) H2
section
variable {X:Cx} {e:Expr} {es:List Expr} {te:TE} {t:TA} {pos:Pos}
theorem d4:PA X [] ba8:=fun _ _ _ _ H Q I h=>Calls.spliced_nil ⟨[],H,I,.nil,h⟩
theorem b8 (ha:PE X e te)(hr:PA X es t)(hs:starEach (e::es) X.env=(false,eval e X.env)::starEach es X.env:=by rfl):PA X (e::es) (aD7 te t):=by
 intro pos pins s σ H Q I h
 rw[hs]
 show wpAny _ _ (spliced ((false,eval e X.env)::backTo pos (starEach es X.env))) _ _ s
 refine Calls.spliced_cons (thn (ha pins s σ H _ I h) fun u s1 ⟨x,H1,I1,r1,q1⟩=>?_)
 exact thn (hr pos pins s1 σ H1 _ I1 q1) fun us s2 ⟨xs,H2,I2,r2,q2⟩=>⟨x::xs,H2,I2,.cons r1 r2,q2⟩
def bO6 (t:TA):TE:=fun σ H Q=>t σ H fun xs H1=>xs.length<=sizeLine/\∀ p,H1 p=none->Q (.ref p) (upd H1 p (.tup xs))
def bP0 (t:TA):TE:=fun σ H Q=>t σ H fun xs H1=>xs.length<=sizeLine/\∀ p,H1 p=none->Q (.ref p) (upd H1 p (.lst xs))
theorem N0 {x1}(h:PA X es t):PE X (.Tuple es x1 pos) (bO6 t):=by
 intro pins s σ H Q I hq
 refine wpAny_Tuple_spliced (thn (h pos pins s σ H _ I hq) fun us s1 ⟨xs,H1,I1,r,z,q⟩=>⟨by rw[<- r.length];exact z,?_⟩)
 have hf:H1 s1.heap.objs.size=none:=I1.hok.fresh (c7 _)
 refine⟨.ref s1.heap.objs.size,upd H1 s1.heap.objs.size (.tup xs),I1.laid (t':=s1.toks) (fun b u e=>b9 _ e) (c7 _) ?_,rfl,q _ hf⟩
 exact⟨z,us,r,⟨_,d6 _ rfl,rfl,_,rfl⟩⟩
theorem W3 (h:PA X es t):PE X (.List es pos) (bP0 t):=by
 intro pins s σ H Q I hq
 refine wpAny_List_spliced (thn (h pos pins s σ H _ I hq) fun us s1 ⟨xs,H1,I1,r,z,q⟩=>⟨by rw[<- r.length];exact z,?_⟩)
 have hf:H1 s1.heap.objs.size=none:=I1.hok.fresh (c7 _)
 refine⟨.ref s1.heap.objs.size,upd H1 s1.heap.objs.size (.lst xs),I1.laid (t':=s1.toks) (fun b u e=>b9 _ e) (c7 _) ?_,rfl,q _ hf⟩
 exact⟨z,us,0,r,d6 _ rfl⟩
end
abbrev Sp:=List V->Hp->VK->XK->Prop
abbrev CXT:=List Env->Hp->Shared->XK->Value->Shared->Prop
structure bl3 (P:Program) (w:World) (K:W.Frag) (mg:Str->Option Value) (base:Heap) (A:Around) (outer:List Env) (s:Shared) (H:Hp):Prop where
 frames:A.frames=some outer
 mod:Mod K mg base
 bs:∀ b o,base.get? b=some o->s.heap.get? b=some o/\H b=none
 bsz:base.objs.size<=s.heap.objs.size
 funs:s.heap.FunFrames base outer
 frf:∀ b∈frs outer,H b=none
 hok:HOk P w H s.heap
 bare:AllBare s.gens
def CE (outer:List Env)(P:Program)(w:World)(H:Hp)(s:Shared)(Q:VK)(u:Value)(s':Shared):Prop:=
 ∃ v H',s'.os=s.os/\AllBare s'.gens/\Un (frs outer) [] H H' s.heap s'.heap/\HOk P w H' s'.heap/\RelV v u/\Q v H'
def CR (CX:CXT)(outer:List Env)(P:Program)(w:World)(H:Hp)(s:Shared)(Q:VK)(E:XK)(r:Result)(s':Shared):Prop:=
 match r with
 | .ok (.ret u)=>CE outer P w H s Q u s'
 | .ok _=>False
 | .error e=>CX outer H s E e s'
structure t9 (P:Program) (w:World) (K:W.Frag) (mg:Str->Option Value) (base:Heap) (CX:CXT) (k:Nat) (f:Addr) (fd:FuncData) (ps:List Str) (sp:Sp):Prop where
 len:∀ vs H Q E,sp vs H Q E->vs.length=ps.length
 run:∀ (A:Around) (outer:List Env) (s:Shared) (H:Hp) (args:Args) (us:List Value) (vs:List V) (Q:VK) (E:XK),P6 k A->bl3 P w K mg base A outer s H->BindsTo s fd args (ps.zip us)->y9 vs us->sp vs H Q E ->
  codeAny (model P w) A (.call (.ref f) args) (CR CX outer P w H s Q E) s
theorem t9.mono {P:Program}{w:World}{K:W.Frag}{mg:Str->Option Value}{base:Heap}{CX:CXT}{j k:Nat}{f:Addr}{fd:FuncData}{ps:List Str}{sp:Sp}(F:t9 P w K mg base CX j f fd ps sp)(h:j<=k) :
  t9 P w K mg base CX k f fd ps sp:=⟨F.len,fun A outer s H args us vs Q E hr=>F.run A outer s H args us vs Q E (hr.mono h)⟩
section
variable {X:Cx} {pins:List (Addr × Obj)} {σ:St} {H:Hp} {s s':Shared}
theorem Inv.env0 (I:Inv X pins σ H s):bl3 X.prog X.w X.K X.mg X.base X.A X.stack s H:=
 ⟨I.ok.frames,I.ok.mod,I.bs,p5 I.ok.bsz I.sz,I.stack,I.stkFree,I.hok,I.bare⟩
theorem Inv.after {Q:VK}{u:Value}(I:Inv X pins σ H s)(h:CE X.stack X.prog X.w H s Q u s'):EP X pins σ Q u s':=by
 obtain⟨v,H',os,bare,un,hok,r,q⟩:=h
 obtain⟨hh,g,d,t,os'⟩:=s'
 obtain rfl:os'=s.os:=os
 exact⟨v,H',I.call (h':=hh) (g':=g) (d':=d) (t':=t) (ch:=[]) un hok bare (fun b z=>absurd z (by simp)),r,q⟩
end
def bJ0 (sp:Sp)(dvs:List V)(E:XK)(t:TA):TE:=fun σ H Q=>t σ H fun vs H1=>sp (vs++dvs) H1 Q E
def Binds (K:W.Frag)(fd:FuncData)(ps:List Str)(ds:List Value):Prop:=
 ∀ (s:Shared) (us:List Value),K.In s.heap->(us++ds).length=ps.length->BindsTo s fd ⟨us,[]⟩ (ps.zip (us++ds))
theorem Binds.all {K:W.Frag}{fd:FuncData}{ps:List Str}(h:∀ us:List Value,us.length=ps.length->bindArgs fd ⟨us,[]⟩=pure (ps.zip us)):Binds K fd ps []:=fun s us _ hl=>by
 rw[A6]at hl ⊢
 exact .of_eq (h us hl)
def at4 (CX:CXT)(X:Cx)(E:XK):Prop:=∀ (pins:List (Addr × Obj)) (σ:St) (H:Hp) (s:Shared) (e:Value) (s':Shared),Inv X pins σ H s->CX X.stack H s E e s'->X.xe e s'
section
variable {X:Cx} {CX:CXT} {k:Nat} {f C:Addr} {fd:FuncData} {ps:List Str} {sp:Sp} {dvs:List V} {ds:List Value} {E:XK} {x m:Str} {p pos apos:Pos} {e o:Expr} {es:List Expr} {ta:TE} {t:TA}
theorem bd4 {pins:List (Addr × Obj)}{σ:St}{H:Hp}{s:Shared}{Q:VK}{us:List Value}{vs:List V}(F:t9 X.prog X.w X.K X.mg X.base CX k f fd ps sp)(hr:P6 k X.A)(hb:Binds X.K fd ps ds)(hd:y9 dvs ds)(hx:at4 CX X E)
  (I:Inv X pins σ H s)(r:y9 vs us)(h:sp (vs++dvs) H Q E):wpAny (model X.prog X.w) X.A (call (.ref f) us) (EP X pins σ Q) X.xe s:=by
 have r2:y9 (vs++dvs) (us++ds):=r.append hd
 have hl:(us++ds).length=ps.length:=by rw[<- r2.length];exact F.len _ _ _ _ h
 refine wpAny_call (codeAny_mono (F.run X.A X.stack s H ⟨us,[]⟩ (us++ds) (vs++dvs) Q E hr I.env0 (hb s us I.kIn hl) r2 h) fun r s' hq=>?_)
 cases r with
 | error e=>exact hx pins σ H s e s' I hq
 | ok fl =>
  cases fl with
  | ret u=>exact I.after hq
  | next=>exact False.elim hq
  | brk=>exact False.elim hq
  | cont=>exact False.elim hq
theorem p6 (F:t9 X.prog X.w X.K X.mg X.base CX k f fd ps sp)(hr:P6 k X.A)(hg:Gl X x)(hm:X.mg x=some (.ref f))(hk:i7 X.K (.ref f)=true)(hb:Binds X.K fd ps ds)(hd:y9 dvs ds)(hx:at4 CX X E)
  (ha:PA X (e::es) t)(hdb:(x == ("__debug__":Str))=false:=by decide)(he:starEach (e::es) X.env=(false,eval e X.env)::starEach es X.env:=by rfl)(hpl:(backTo pos (starEach es X.env)).any (·.1)=false:=by rfl) :
  PE X (.Call (.Name x p) (e::es) [] pos) (bJ0 sp dvs E t):=by
 intro pins s σ H Q I h
 refine wpAny_Call_Name_kw (an4 I hg hm ?_ hdb)
 refine PySem.W.callWith_K (h₀:=X.base) I.ok.mod.kin hk (thn (ha pos pins s σ H _ I h) fun us s1 ⟨vs,H1,I1,r,q⟩=>⟨I1.kIn,?_⟩) he hpl
 exact bd4 F hr hb hd hx I1 r q
structure Mk (K:W.Frag) (C f:Addr):Prop where
 makes:PySem.W.makesIn K C=true
 init:PySem.W.findIn K (.ref C) "__init__"=some (some (.ref f))
 fn:PySem.W.isFn K (.ref f)=true
 kp:i7 K (.ref C)=true
end
def PK (X:Cx)(kws:List Keyword)(t:TA):Prop:=
 ∀ (pos:Pos) (pins:List (Addr × Obj)) (s:Shared) (σ:St) (H:Hp) (Q:List V->Hp->Prop),Inv X pins σ H s->t σ H Q->wpAny (model X.prog X.w) X.A (evalAll ((backToKw pos (keywordEach kws X.env)).map (·.2))) (AP X pins σ Q) X.xe s
section
variable {X:Cx} {CX:CXT} {k:Nat} {f C:Addr} {fd:FuncData} {ps ks:List Str} {sp:Sp} {E:XK} {x m:Str} {p pos apos kpos:Pos} {e o:Expr} {es:List Expr} {kws:List Keyword} {te ta:TE} {t tk:TA} {nm:Option Str}
theorem aM3:PK X [] ba8:=fun _ _ _ _ H Q I h=>wpAny_evalAll_nil ⟨[],H,I,.nil,h⟩
theorem aA0 (ha:PE X e te)(hr:PK X kws t):PK X (⟨nm,e,kpos⟩::kws) (aD7 te t):=by
 intro pos pins s σ H Q I h
 show wpAny _ _ (evalAll ((do let v <- eval e X.env;standAt pos;pure v)::(backToKw pos (keywordEach kws X.env)).map (·.2))) _ _ s
 refine wpAny_evalAll_cons (wpAny_bind (thn (ha pins s σ H _ I h) fun u s1 ⟨x,H1,I1,r1,q1⟩=>wpAny_bind (wpAny_standAt (wpAny_pure ?_))))
 exact thn (hr pos pins s1 σ H1 _ I1 q1) fun us s2 ⟨xs,H2,I2,r2,q2⟩=>⟨x::xs,H2,I2,.cons r1 r2,q2⟩
structure bR2 (K:W.Frag) (fd:FuncData) (ps ks:List Str) (g:List Value->List Value->List Value) (gV:List V->List V->List V):Prop where
 to:∀ (s:Shared) (us ws:List Value),K.In s.heap->(g us ws).length=ps.length->BindsTo s fd ⟨us,ks.zip ws⟩ (ps.zip (g us ws))
 rel:∀ {vs:List V} {us:List Value} {zs:List V} {ws:List Value},y9 vs us->y9 zs ws->y9 (gV vs zs) (g us ws)
variable {g:List Value->List Value->List Value} {gV:List V->List V->List V}
end
structure t8 (N P:List Str) (sc:Scope):Prop where
 kind:sc.kind=.function
 co:sc.isCoroutine=false
 gen:sc.isGenerator=false
 nd:N.Nodup
 pre:N.take P.length=P
 par:∀ x∈P,sc.names.lookup x=some .local\/sc.names.lookup x=some .cell
 nofree:∀ y∈sc.names,y.2≠.free
theorem ay1 {kindOf:Str->Option NameKind}{x:Str}:∀ {binds:List (Str × Value)} {m:Str->Option Value},(∀ v,(x,v)∉binds)->bindL kindOf binds m x=m x
 | [],_,_=>rfl
 | (n,v)::r,m,h=>by
  unfold bindL
  rw[ay1 fun w hw=>h w (d5 _ hw)]
  split
  ·have:x≠n:=by rintro rfl;exact h v d8
   simp[this]
  ·rfl
theorem ay3 {kindOf:Str->Option NameKind}{x:Str}:∀ {binds:List (Str × Value)} {m:Str->Option Value},(∀ v,(x,v)∉binds)->bindC kindOf binds m x=m x
 | [],_,_=>rfl
 | (n,v)::r,m,h=>by
  unfold bindC
  rw[ay3 fun w hw=>h w (d5 _ hw)]
  split
  ·rfl
  ·have:x≠n:=by rintro rfl;exact h v d8
   simp[this]
theorem ay2 {kindOf:Str->Option NameKind}{x:Str}{v:Value}:∀ {P:List Str} {vs:List Value} {i:Nat} {m:Str->Option Value},P.Nodup->P[i]?=some x->vs[i]?=some v->kindOf x=some .local ->
  bindL kindOf (P.zip vs) m x=some v
 | [],_,_,_,_,h,_,_=>by simp at h
 | _::_,[],_,_,_,_,h,_=>by simp at h
 | p::P,w::vs,0,m,nd,h1,h2,hk=>by
  simp at h1 h2;subst h1;subst h2
  show bindL kindOf ((p,w)::P.zip vs) m p=_
  unfold bindL
  rw[ay1 fun v hv=>(A0.mp nd).1 (ag8 hv).1,if_pos hk]
  simp
 | p::P,w::vs,i+1,m,nd,h1,h2,hk=>by
  show bindL kindOf ((p,w)::P.zip vs) m x=_
  unfold bindL
  exact ay2 (i:=i) (A0.mp nd).2 (by simpa using h1) (by simpa using h2) hk
theorem ay4 {kindOf:Str->Option NameKind}{x:Str}{v:Value}:∀ {P:List Str} {vs:List Value} {i:Nat} {m:Str->Option Value},P.Nodup->P[i]?=some x->vs[i]?=some v->kindOf x≠some .local ->
  bindC kindOf (P.zip vs) m x=some v
 | [],_,_,_,_,h,_,_=>by simp at h
 | _::_,[],_,_,_,_,h,_=>by simp at h
 | p::P,w::vs,0,m,nd,h1,h2,hk=>by
  simp at h1 h2;subst h1;subst h2
  show bindC kindOf ((p,w)::P.zip vs) m p=_
  unfold bindC
  rw[ay3 fun v hv=>(A0.mp nd).1 (ag8 hv).1,if_neg hk]
  simp
 | p::P,w::vs,i+1,m,nd,h1,h2,hk=>by
  show bindC kindOf ((p,w)::P.zip vs) m x=_
  unfold bindC
  exact ay4 (i:=i) (A0.mp nd).2 (by simpa using h1) (by simpa using h2) hk
def start (N:List Str)(vs:List V):St:=vs.map some++v9 (N.length - vs.length) none
def Z8 (CX:CXT)(P:Program)(w:World)(K:W.Frag)(mg:Str->Option Value)(base:Heap)(N:List Str)(qual:Str)(scope:Scope)(f:Addr)(cd:Value)(A:Around)(outer:List Env)(s:Shared)(H:Hp)(E:XK):Cx where
 prog:=P
 w:=w
 K:=K
 mg:=mg
 base:=base
 A:=A.deeper (envOfC qual scope s.heap.objs.size f cd)
 N:=N
 s₀:=s
 H₀:=H
 env:=envOfC qual scope s.heap.objs.size f cd
 outer:=outer
 stack:=envOfC qual scope s.heap.objs.size f cd::outer
 ex:=[]
 calm:=true
 fn:=fun _=>true
 pn:=[]
 xe:=fun e s'=>wpAny (model P w) (A.deeper (envOfC qual scope s.heap.objs.size f cd)) (leaving (envOfC qual scope s.heap.objs.size f cd) e) (fun _ s''=>CX outer H s E e s'') (fun e' s''=>CX outer H s E e' s'') s'
theorem aJ1 {sc:Scope}{n:Nat}{x:Str}(h:sc.names.lookup x=some .cell):∃ c,(cellsFrom n sc.names []).lookup x=some c:=by
 have q:=PySem.W.cellsFrom_some sc.names n [] (.inl h)
 exact k9.mp q
theorem aY2 {CX:CXT}{P:Program}{w:World}{K:W.Frag}{mg:Str->Option Value}{base:Heap}{N ps:List Str}{qual:Str}{scope:Scope}{f:Addr}{cd:Value}{A:Around}{outer:List Env}{s s1:Shared}{H:Hp}{E:XK}{us:List Value}{vs:List V}
  (S:t8 N ps scope)(hd:A.handled=none)(e0:bl3 P w K mg base A outer s H)(hl:vs.length=ps.length)(r:y9 vs us)
  (x:InCallC s s.heap.objs.size (bindL (envOfC qual scope s.heap.objs.size f cd).kindOf (ps.zip us) fun _=>none) (cellsFrom (s.heap.objs.size+1) scope.names []) (bindC (envOfC qual scope s.heap.objs.size f cd).kindOf (ps.zip us) fun _=>none) s1) :
  Inv (Z8 CX P w K mg base N qual scope f cd A outer s H E) [] (start N vs) H s1:=by
 have hpl:ps.length<=N.length:=by have:=congrArg List.length S.pre;rw[q8]at this;omega
 obtain⟨h1,tk,rfl,hk⟩:=x.done
 have noA:∀ b:Addr,b∉(Z8 CX P w K mg base N qual scope f cd A outer s H E).ex:=fun b z=>absurd (show b∈([]:List Addr) from z) (by simp)
 refine⟨⟨e0.mod,S.kind,rfl,rfl,c7 _,fun y z c h1 h2=>?_,fun y hy=>?_,fun y c _ h=>?_,fun _=>hd,Around.frames_deeper e0.frames,.inr ⟨rfl,rfl⟩,fun b z=>absurd z (noA b),e0.bs,e0.bsz,fun b _ _=>noA b,fun b z=>absurd z (noA b),e0.funs,e0.frf⟩,
  rfl,e0.bare,Un.kept hk,⟨_,x.toInCall.ns,fun i y v h1 h2 h3=>?_⟩,fun y c h=>⟨_,x.cell y c h⟩,e0.hok.fresh (c7 _),fun y c h=>?_,fun p hp=>absurd (show p∈([]:List (Addr × Obj)) from hp) (by simp),e0.hok.kept hk,?_⟩
 ·exact name_of_addr x.apart (PySem.mem_of_lookup h1) (PySem.mem_of_lookup h2)
 ·have hy:scope.names.lookup y=some .cell\/scope.names.lookup y=some .free:=hy
  rcases hy with hy | hy
  ·exact aJ1 hy
  ·exact absurd rfl (S.nofree _ (PySem.mem_of_lookup hy))
 ·exact S3 (x.above y c (PySem.mem_of_lookup h))
 ·have hi:i<vs.length:=by
   unfold start at h2
   by_cases hi:i<vs.length
   ·exact hi
   ·rw[M0 (by simpa using hi)]at h2
    rw[List.getElem?_replicate]at h2
    split at h2<;>cases h2
  have ha:vs[i]?=some v:=by
   unfold start at h2
   rw[N4 (by simpa using hi),l4]at h2
   cases e:vs[i]? with
   | none=>rw[e]at h2;cases h2
   | some a=>rw[e]at h2;cases h2;rfl
  obtain⟨u,hu,rv⟩:=r.get ha
  have hp:ps[i]?=some y:=by
   rw[<- S.pre,aa3 (by omega)];exact h1
  have ndP:ps.Nodup:=by rw[<- S.pre];exact S.nd.sublist (L8 _ _)
  refine⟨u,rv,?_⟩
  rcases S.par y (i6 hp) with k | k
  ·exact .inl ⟨k,ay2 ndP hp hu k⟩
  ·obtain⟨c,e⟩:=aJ1 (n:=s.heap.objs.size+1) k
   refine .inr ⟨.inl k,c,e,?_⟩
   have q:=x.cell y c e
   rw[ay4 ndP hp hu (by show scope.names.lookup y≠_;rw[k];decide)]at q
   exact q
 ·exact e0.hok.fresh (S3 (x.above y c (PySem.mem_of_lookup h)))
 ·unfold start
  show _=N.length
  rw[p9,b7,List.length_replicate]
  omega
theorem bi9 {CX:CXT} {P:Program} {w:World} {K:W.Frag} {mg:Str->Option Value} {base:Heap} {k:Nat} {f:Addr} {name qual:Str} {params:Arguments} {body:List Stmt} {scope:Scope} {dV kV doc pm cdv ct oc:Value} {an od:Option Addr}
  {osl:Array (Option Value)} {N ps:List Str} {sp:Sp} (lk:K.lookup f=some ⟨oc,od,.func (k7 name qual params body scope dV kV doc pm an cdv ct),osl⟩) (hcd:j7 K cdv qual=true) (S:t8 N ps scope)
  (len:∀ vs H Q E,sp vs H Q E->vs.length=ps.length)
  (hbody : ∀ (A : Around) (outer : List Env) (s : Shared) (H : Hp) (vs : List V) (Q : VK) (E : XK), P6 k (A.deeper (envOfC qual scope s.heap.objs.size f cdv)) -> sp vs H Q E ->
   ∃ t,PSs (Z8 CX P w K mg base N qual scope f cdv A outer s H E) body t/\t { nx:=fun _ H'=>Q .non H',rt:=Q } (start N vs) H) :
  t9 P w K mg base CX (k+1) f (k7 name qual params body scope dV kV doc pm an cdv ct) ps sp:=by
 refine⟨len,fun A outer s H args us vs Q E hr e0 hb r hsp=>?_⟩
 have hl:=len _ _ _ _ hsp
 have KX:K.In s.heap:=e0.mod.kin.keeps fun b o e=>(e0.bs b o e).1
 have lim:s.heap.NoLimit:=e0.mod.nolimit.keeps fun b o e=>(e0.bs b o e).1
 have hkind:∀ y∈ps.zip us,scope.names.lookup y.1=some .local\/(scope.names.lookup y.1=some .cell/\((cellsFrom (s.heap.objs.size+1) scope.names []).lookup y.1).isSome=true):=fun⟨n,v⟩ hy=>by
  rcases S.par n (ag8 hy).1 with q | q
  ·exact .inl q
  ·exact .inr ⟨q,PySem.W.cellsFrom_some _ _ _ (.inl q)⟩
 refine codeAny_call_function hr.depth (KX _ _ lk) rfl S.co S.gen rfl (PySem.W.codeRec_of KX hcd) (hb _ _ _ _ ?_)
 refine wpAny_newFunctionEnv_cells S.kind hkind fun env he s1 x=>?_
 subst he
 refine⟨lim.keeps x.toInCall.keep,codeAny_func ?_⟩
 obtain⟨t,ht,hq⟩:=hbody A outer s H vs Q E (hr.deeper _) hsp
 have I:Inv (Z8 CX P w K mg base N qual scope f cdv A outer s H E) [] (start N vs) H s1:=aY2 S hr.hd e0 hl r x
 refine wpAny_mono (ht [] s1 (start N vs) H _ I hq) (fun fl s' hs=>?_) fun e s' hs=>hs
 have fin:∀ {σ':St} {H':Hp} {v:V} {u:Value},Inv (Z8 CX P w K mg base N qual scope f cdv A outer s H E) [] σ' H' s'->RelV v u->Q v H'->CE outer P w H s Q u s':=
  fun {σ' H' v u} J rv q=>⟨v,H',J.os,J.bare,J.base,J.hok,rv,q⟩
 cases fl with
 | ret u =>
  obtain⟨v,σ',H',J,rv,q⟩:=hs
  exact fin J rv q
 | next =>
  obtain⟨σ',H',J,q⟩:=hs
  exact fin (v:=V.non) (u:=Value.none) J rfl q
 | brk =>
  obtain⟨_,_,_,q⟩:=hs
  exact False.elim q
 | cont =>
  obtain⟨_,_,_,q⟩:=hs
  exact False.elim q
section
variable {X:Cx} {x:Str} {p pos:Pos} {e:Expr} {es:List Expr} {t:TA} {id T:String} {r:List V->Hp->VK->Prop}
def tCB (r:List V->Hp->VK->Prop)(t:TA):TE:=fun σ H Q=>t σ H fun vs H1=>r vs H1 Q
theorem m3 (hc:L1 X (.builtin id) r)(hg:Gl X x)(hm:X.mg x=none)(hv:bootBuiltins x=some (.builtin id))(ha:PA X (e::es) t)(hn:x≠"__name__":=by decide)(hdb:(x == ("__debug__":Str))=false:=by decide)
  (he:starEach (e::es) X.env=(false,eval e X.env)::starEach es X.env:=by rfl)(hpl:(backTo pos (starEach es X.env)).any (·.1)=false:=by rfl):PE X (.Call (.Name x p) (e::es) [] pos) (tCB r t):=by
 intro pins s σ H Q I h
 refine wpAny_Call_Name_kw (P4 I hg hm hv ?_ hn hdb)
 exact PyProof.Rows.callWith_builtin1 (thn (ha pos pins s σ H _ I h) fun us s1 ⟨vs,H1,I1,r1,q1⟩=>hc pins s1 σ H1 vs us Q I1 r1 q1) he hpl
theorem G4 (hc:L1 X (.type T) r)(hg:Gl X x)(hm:X.mg x=none)(hv:bootBuiltins x=some (.type T))(ha:PA X (e::es) t)(hn:x≠"__name__":=by decide)(hdb:(x == ("__debug__":Str))=false:=by decide)
  (he:starEach (e::es) X.env=(false,eval e X.env)::starEach es X.env:=by rfl)(hpl:(backTo pos (starEach es X.env)).any (·.1)=false:=by rfl):PE X (.Call (.Name x p) (e::es) [] pos) (tCB r t):=by
 intro pins s σ H Q I h
 refine wpAny_Call_Name_kw (P4 I hg hm hv ?_ hn hdb)
 exact PyProof.Rows.callWith_type1 (thn (ha pos pins s σ H _ I h) fun us s1 ⟨vs,H1,I1,r1,q1⟩=>hc pins s1 σ H1 vs us Q I1 r1 q1) he hpl
end
end L2
namespace HT
open PySem PyProof.Rows
def lexLt:List Int->List Int->Bool
 | [],[]=>false
 | [],_::_=>true
 | _::_,[]=>false
 | x::xs,y::ys=>if x=y then lexLt xs ys else decide (x<y)
theorem W6 (x y:Int)(xs ys:List Int):lexLt (x::xs) (y::ys)=if x=y then lexLt xs ys else decide (x<y):=rfl
theorem bj3 (A:Around)(s:Shared)(a:Int)(t:Tok)(c:Int)(u:Tok):∃ e,SeqAt.EqAt A s (.int a t) (.int c u) e/\(e=true↔a=c):=
 ⟨(a == c),SeqAt.EqAt.int_int a t c u,by simp⟩
section
open PySem.SeqAt
open PySem.AutoSeq1 (wpAny_loadPart')
open PySem.MeetsSeq PySem.MeetsSeq2 PySem.MeetsSeq3
end
section
variable {prog:Program} {w:World} {A:Around} {E:Value->Shared->Prop} {s:Shared}
def sIx (n d:Nat):Option Int->Nat
 | none=>d
 | some v=>if v<0 then (v+(n:Int)).toNat else min v.toNat n
theorem aE6 (n d:Nat):sIx n d none=d:=rfl
theorem aQ8 (n d k:Nat):sIx n d (some (k:Int))=min k n:=by
 show (if (k:Int)<0 then ((k:Int)+(n:Int)).toNat else min (k:Int).toNat n)=min k n
 rw[if_neg (by omega),i8]
end
end HT
namespace L2
open PySem PySem.Spec PyProof.Rows
abbrev TO:=St->Hp->(Option Int->Hp->Prop)->Prop
def PO (X:Cx)(e:Option Expr)(t:TO):Prop:=
 ∀ (pins:List (Addr × Obj)) (s:Shared) (σ:St) (H:Hp) (Q:Option Int->Hp->Prop),Inv X pins σ H s->t σ H Q ->
  wpAny (model X.prog X.w) X.A (evalPart e X.env) (fun u s'=>∃ o H',Inv X pins σ H' s'/\IsPart u o/\Q o H') X.xe s
def bn4:TO:=fun _ H Q=>Q none H
def bI3 (t:TE):TO:=fun σ H Q=>t σ H fun x H1=>∃ i,x=.int i/\Q (some i) H1
theorem intsAre_of {ns:List Int}:∀ {us:List Value},y9 (ns.map V.int) us->IntsAre us ns:=by
 induction ns with
 | nil=>intro us r;rw[bl5]at r;cases r;exact .nil
 | cons n ns ih =>
  intro us r
  rw[k6]at r
  cases r with
  | cons r1 r2 =>
   obtain⟨t,e⟩:=r1
   subst e
   exact .cons n t (ih r2)
section
variable {X:Cx} {e:Expr} {te:TE} {lo hi:Option Expr} {tl th:TO} {pos p2:Pos}
theorem ae7:PO X none bn4:=by
 intro pins s σ H Q I h
 rw[evalPart_none]
 exact wpAny_pure ⟨none,H,I,.none,h⟩
theorem W0 (h:PE X e te):PO X (some e) (bI3 te):=by
 intro pins s σ H Q I hw
 rw[evalPart_some]
 refine thn (h pins s σ H _ I hw) fun u s1 ⟨x,H1,I1,r1,q1⟩=>?_
 obtain⟨i,rfl,q⟩:=q1
 obtain⟨t,rfl⟩:=r1
 exact⟨some i,H1,I1,.int i t,q⟩
def SlR (X:Cx)(r:V->Option Int->Option Int->Hp->VK->Prop):Prop:=
 ∀ (pins:List (Addr × Obj)) (s:Shared) (σ:St) (H:Hp) (x:V) (v vl vu:Value) (lo hi:Option Int) (sl:Addr) (Q:VK),Inv X pins σ H s->RelV x v->s.heap.IsSliceOf sl vl vu .none->IsPart vl lo->IsPart vu hi->r x lo hi H Q ->
  ∃ T id,typeLookup (.type T) "__getitem__"=pure (some (.builtin id))/\s.TypeIs v T/\wpAny (model X.prog X.w) X.A (getItem v (.ref sl)) (EP X pins σ Q) X.xe s
def tSl (r:V->Option Int->Option Int->Hp->VK->Prop)(te:TE)(tl th:TO):TE:=fun σ H Q=>te σ H fun x H1=>tl σ H1 fun l H2=>th σ H2 fun u H3=>r x l u H3 Q
theorem U5 {r:V->Option Int->Option Int->Hp->VK->Prop}(hr:SlR X r)(he:PE X e te)(hl:PO X lo tl)(hu:PO X hi th):PE X (.Subscript e (.Slice lo hi none p2) pos) (tSl r te tl th):=by
 intro pins s σ H Q I h
 refine Subscript_ (thn (he pins s σ H _ I h) fun v s1 ⟨x,H1,I1,r1,q1⟩=>?_)
 refine wpAny_Slice (thn (hl pins s1 σ H1 _ I1 q1) fun vl s2 ⟨l,H2,I2,pl,q2⟩=>thn (hu pins s2 σ H2 _ I2 q2) fun vu s3 ⟨u,H3,I3,pu,q3⟩=>?_)
 rw[evalPart_none]
 refine wpAny_pure ?_
 have I4:Inv X pins σ H3 { s3 with heap:=s3.heap.push { cls:=.type "slice",data:=.fields #[vl,vu,.none] } }:=I3.kept (t':=s3.toks) fun b ob q=>b9 _ q
 obtain⟨T,id,hT,ht,hg⟩:=hr pins { s3 with heap:=s3.heap.push { cls:=.type "slice",data:=.fields #[vl,vu,.none] } } σ H3 x v vl vu l u s3.heap.objs.size Q I4 r1 (Heap.IsSliceOf.new ..) pl pu q3
 show wpAny (model X.prog X.w) X.A (subscriptTail e (.Slice lo hi none p2) v (.ref s3.heap.objs.size)) (EP X pins σ Q) X.xe { s3 with heap:=s3.heap.push { cls:=.type "slice",data:=.fields #[vl,vu,.none] } }
 exact tail_any (ops:=[.ref s3.heap.objs.size,v]) ht hT hg (by with_unfolding_all rfl)
def aj1 (xs:List V)(lo hi:Option Int):List V:=(xs.drop (HT.sIx xs.length 0 lo)).take (HT.sIx xs.length xs.length hi - HT.sIx xs.length 0 lo)
theorem aI7 (xs:List V)(lo hi:Option Int):(aj1 xs lo hi).length<=xs.length:=by
 unfold aj1
 rw[q8,K1]
 omega
end
def ixN (n:Nat)(i:Int):Option Nat:=if 0<=i then (if i<n then some i.toNat else none) else if -(n:Int)<=i then some (i+n).toNat else none
def atI {α:Type}(xs:List α)(i:Int):Option α:=(ixN xs.length i).bind fun j=>xs[j]?
theorem aS3 {n:Nat}{i:Int}{j:Nat}(h:ixN n i=some j):seqIndex? i n=some j/\j<n /\ -(n:Int)<=i/\i<n:=by
 unfold ixN at h
 by_cases h0:0<=i
 ·rw[if_pos h0]at h
  by_cases h1:i<n
  ·rw[if_pos h1]at h
   have e:i.toNat=j:=Option.some.inj h
   exact⟨by rw[seqIndex_of h0 h1,e],by omega,by omega,h1⟩
  ·rw[if_neg h1]at h;cases h
 ·rw[if_neg h0]at h
  by_cases h1:-(n:Int)<=i
  ·rw[if_pos h1]at h
   have e:(i+n).toNat=j:=Option.some.inj h
   exact⟨by rw[seqIndex_neg (by omega) h1,e],by omega,h1,by omega⟩
  ·rw[if_neg h1]at h;cases h
theorem aC1 {α:Type}{xs:List α}{i:Int}{v:α}(h:atI xs i=some v):∃ j,seqIndex? i xs.length=some j/\xs[j]?=some v/\j<xs.length /\ -(xs.length:Int)<=i/\i<xs.length:=by
 unfold atI at h
 cases e:ixN xs.length i with
 | none=>rw[e]at h;cases h
 | some j =>
  rw[e]at h
  obtain⟨h1,h2,h3,h4⟩:=aS3 e
  exact⟨j,h1,h,h2,h3,h4⟩
theorem C1 {α:Type}{xs:List α}{j:Nat}{v:α}(h:xs[j]?=some v):atI xs (j:Int)=some v:=by
 have hj:j<xs.length:=(o7.mp h).1
 have e:ixN xs.length (j:Int)=some j:=by
  unfold ixN
  rw[if_pos (by omega),if_pos (by omega)];simp
 unfold atI;rw[e];exact h
def aC3 (b:Expr):Prop:=∀ o i,subscripted b false o i=operate [o,i] (getItem o i)
def IxR (X:Cx)(r:R2):Prop:=
 ∀ (value slice:Expr) (pins:List (Addr × Obj)) (s:Shared) (σ:St) (H:Hp) (x y:V) (v u:Value) (Q:VK),Inv X pins σ H s->RelV x v->RelV y u->r x y H Q ->
  subscripted slice false v u=operate [v,u] (getItem v u)->wpAny (model X.prog X.w) X.A (subscriptTail value slice v u) (EP X pins σ Q) X.xe s
def MtR (X:Cx)(id:String)(r:V->List V->Hp->VK->Prop):Prop:=
 ∀ (pins:List (Addr × Obj)) (s:Shared) (σ:St) (H:Hp) (x:V) (xs:List V) (v:Value) (us:List Value) (Q:VK),Inv X pins σ H s->RelV x v->y9 xs us->r x xs H Q ->
  wpAny (model X.prog X.w) X.A (call (.builtin id) (v::us)) (EP X pins σ Q) X.xe s
section
variable {X:Cx} {a b:Expr} {ta tb:TE} {pos:Pos}
theorem IxR.or {r r':R2}(h:IxR X r)(h':IxR X r'):IxR X (fun x y H Q=>r x y H Q\/r' x y H Q):=by
 intro value slice pins s σ H x y v u Q I rx ry q hs
 rcases q with q | q
 ·exact h value slice pins s σ H x y v u Q I rx ry q hs
 ·exact h' value slice pins s σ H x y v u Q I rx ry q hs
theorem B6 {r:R2}(hr:IxR X r)(ha:PE X a ta)(hb:PE X b tb)(hs:aC3 b):PE X (.Subscript a b pos) (tOp r ta tb):=by
 intro pins s σ H Q I h
 exact Subscript_ (bF6 ha hb I h fun v u s2 x y H2 I2 rx ry q=>hr a b pins s2 σ H2 x y v u Q I2 rx ry q (hs _ _))
def bK9 (K:W.Frag):R2:=fun x y H Q=>∃ p xs i v,x=.ref p/\y=.int i/\SqL K H p xs/\atI xs i=some v/\Q v H
def bK7 (K:W.Frag):R2:=fun x y H Q=>∃ p xs i v,x=.ref p/\y=.int i/\SqT K H p xs/\atI xs i=some v/\Q v H
def bK8:R2:=fun x y H Q=>∃ z i c,x=.str z/\y=.int i/\z.length<=sizeLine/\atI z.cps.toList i=some c/\Q (.str ⟨#[c]⟩) H
theorem O4:IxR X (bK9 X.K):=by
 intro value slice pins s σ H x y v u Q I rx ry h hs
 obtain⟨p,xs,i,z,rfl,rfl,hq,he,q⟩:=h
 cases rx
 obtain⟨t,rfl⟩:=ry
 obtain⟨its,r,pl,hz⟩:=I.list hq
 obtain⟨j,h1,h2,h3,h4,h5⟩:=aC1 he
 obtain⟨w,ew,rw'⟩:=r.get h2
 have hl:=r.length
 have hn:=ai6
 have fin:EP X pins σ Q w s:=⟨z,H,I,rw',q⟩
 by_cases h0:0<=i
 ·have hj:i.toNat=j:=by
   rw[seqIndex_of h0 h5]at h1
   exact Option.some.inj h1
  exact item_listR pl.isList h0 (by omega) (by rw[hj];simpa using ew) fin hs
 ·have hj:(i+(its.toArray.size:Int)).toNat=j:=by
   rw[seqIndex_neg (by omega) h4]at h1
   rw[d7,<- hl]
   exact Option.some.inj h1
  exact subscriptTail_builtinR (x:=w) pl.isList.typeIs slot_list_getitem.lookup
   (wpAny_getItem_list_neg (Q:=fun r s'=>r=w/\EP X pins σ Q r s') pl.isList (by omega) (by rw[d7]<;>omega) (by omega) (by rw[hj];simpa using ew) ⟨rfl,fin⟩) hs
theorem B4:IxR X (bK7 X.K):=by
 intro value slice pins s σ H x y v u Q I rx ry h hs
 obtain⟨p,xs,i,z,rfl,rfl,hq,he,q⟩:=h
 cases rx
 obtain⟨t,rfl⟩:=ry
 obtain⟨its,r,pl,hz⟩:=I.tuple hq
 obtain⟨j,h1,h2,h3,h4,h5⟩:=aC1 he
 obtain⟨w,ew,rw'⟩:=r.get h2
 have hl:=r.length
 have hn:=ai6
 have fin:EP X pins σ Q w s:=⟨z,H,I,rw',q⟩
 exact subscriptTail_builtinR (x:=w) pl.typeIs slot_tuple_getitem.lookup
  (getItem_tuple (j:=j) (Q:=fun r s'=>r=w/\EP X pins σ Q r s') pl (by omega) (by omega) (by rw[d7,<- hl];exact h1) (by simpa using ew) ⟨rfl,fin⟩) hs
theorem bD4:IxR X bK8:=by
 intro value slice pins s σ H x y v u Q I rx ry h hs
 obtain⟨z,i,c,rfl,rfl,hz,he,q⟩:=h
 obtain⟨t,rfl⟩:=rx
 obtain⟨t',rfl⟩:=ry
 obtain⟨j,h1,h2,h3,h4,h5⟩:=aC1 he
 have hl:z.cps.toList.length=z.length:=by simp[Str.length]
 rw[hl]at h1 h4 h5
 have hn:=ai6
 exact tail_any (typeIs_str s z t) slot_str_getitem.lookup (getItem_str (c:=c) (by
  have e1:decide (i < -(2 ^ 63:Int))=false:=decide_eq_false (by omega)
  have e2:decide (i≥2 ^ 63)=false:=decide_eq_false (by omega)
  rw[e1,e2,Bool.or_false]) (by rw[h1];simpa using h2) ⟨.str ⟨#[c]⟩,H,I.tok _,⟨_,rfl⟩,q⟩) hs
def rIx (K:W.Frag):R2:=fun x y H Q=>bK9 K x y H Q\/bK7 K x y H Q\/bK8 x y H Q
theorem bh7:IxR X (rIx X.K):=O4.or (B4.or bD4)
theorem aN1 (its:List Value)(n j:Nat)(u:Value):Obj.mapSeq (·.setIfInBounds j u) { cls:=.type "list",data:=.seq its.toArray n }={ cls:=.type "list",data:=.seq (its.set j u).toArray n }:=by
 simp[Obj.mapSeq]
theorem Inv.lst {pins:List (Addr × Obj)}{σ:St}{H:Hp}{s:Shared}{p:Addr}{xs:List V}(I:Inv X pins σ H s)(h:H p=some (.lst xs)) :
  ∃ (its:List Value) (n:Nat),y9 xs its/\s.heap.get? p=some { cls:=.type "list",data:=.seq its.toArray n }/\xs.length<=sizeLine:=by
 obtain⟨z,its,n,r,e⟩:=I.hok p _ h
 exact⟨its,n,r,e,z⟩
theorem Inv.lstUpd {pins:List (Addr × Obj)}{σ:St}{H:Hp}{s:Shared}{p:Addr}{xs ys:List V}{its its':List Value}{n n':Nat}{f:Obj->Obj}(I:Inv X pins σ H s)(h:H p=some (.lst xs))
  (ho:s.heap.get? p=some { cls:=.type "list",data:=.seq its.toArray n })(hf:f { cls:=.type "list",data:=.seq its.toArray n }={ cls:=.type "list",data:=.seq its'.toArray n' })(r:y9 ys its')(hz:ys.length<=sizeLine)(t:Nat) :
  Inv X pins σ (upd H p (.lst ys)) { s with heap:=s.heap.update p f,toks:=t }:=by
 have e:(s.heap.update p f).get? p=some { cls:=.type "list",data:=.seq its'.toArray n' }:=by
  rw[F4 f ho (by rw[hf]<;>rfl),hf]
 refine I.write (x:=p) (e:=p) (by rw[h];trivial) (.inl rfl) (fun b u hb q=>(u4 _ _ (Ne.symm hb)).trans q) ⟨_,e⟩ ?_
 exact⟨hz,its',n',r,e⟩
def bK6:V->V->V->Hp->(Hp->Prop)->Prop:=fun o i v H Q=>∃ p xs k j,o=.ref p/\i=.int k/\H p=some (.lst xs)/\ixN xs.length k=some j/\Q (upd H p (.lst (xs.set j v)))
theorem set_list:bO1 X bK6:=by
 intro pins s σ H o i v ov iv u Q I ro ri rv h
 obtain⟨p,xs,k,j,rfl,rfl,hp,hj,q⟩:=h
 cases ro
 obtain⟨t,rfl⟩:=ri
 obtain⟨its,n,r,ho,hz⟩:=I.lst hp
 obtain⟨h1,h2,h3,h4⟩:=aS3 hj
 have hl:=r.length
 have hn:=ai6
 have I':Inv X pins σ (upd H p (.lst (xs.set j v))) { s with heap:=s.heap.update p (Obj.mapSeq (·.setIfInBounds j u)) }:=
  I.lstUpd hp ho (aN1 its n j u) (r.set rv j) (by rw[V1];exact hz) s.toks
 by_cases h0:0<=k
 ·have hk:k.toNat=j:=by
   rw[seqIndex_of h0 h4]at h1
   exact Option.some.inj h1
  exact PySem.W.ki_setAt ho h0 (by omega) (by rw[d7,<- hl];exact h4) (by rw[hk];exact⟨_,I',q⟩)
 ·have hk:(k+(its.toArray.size:Int)).toNat=j:=by
   rw[seqIndex_neg (by omega) h3]at h1
   rw[d7,<- hl]
   exact Option.some.inj h1
  exact PySem.W.ki_setBack ho (by omega) (by rw[d7,<- hl];exact h3) (by omega) (by rw[hk];exact⟨_,I',q⟩)
theorem az6 (lo hi:Option Int)(n:Nat):(sliceBounds lo hi none n).1=((HT.sIx n 0 lo:Nat):Int)/\(sliceBounds lo hi none n).2.1=((HT.sIx n n hi:Nat):Int)/\(sliceBounds lo hi none n).2.2=1:=by
 refine⟨?_,?_,rfl⟩
 ·cases lo with
  | none=>simp[sliceBounds,HT.sIx]
  | some i =>
   simp only[sliceBounds,HT.sIx,bx6,show (1:Int) > 0 by decide,if_true]
   by_cases h:i<0
   ·simp only[h,if_true]<;>omega
   ·simp only[h,if_false]<;>omega
 ·cases hi with
  | none=>simp[sliceBounds,HT.sIx]
  | some i =>
   simp only[sliceBounds,HT.sIx,bx6,show (1:Int) > 0 by decide,if_true]
   by_cases h:i<0
   ·simp only[h,if_true]<;>omega
   ·simp only[h,if_false]<;>omega
theorem au3 (its:List Value)(lo hi:Option Int):slicePick its.toArray lo hi none=((its.drop (HT.sIx its.length 0 lo)).take (HT.sIx its.length its.length hi - HT.sIx its.length 0 lo)).toArray:=by
 obtain⟨h1,h2,h3⟩:=az6 lo hi its.toArray.size
 unfold slicePick
 rw[h1,h2,h3]
 simp only[sliceRange_one,pick_run,d7]<;>rfl
def bP6 (K:W.Frag):V->Option Int->Option Int->Hp->VK->Prop:=fun x lo hi H Q=>∃ a xs,x=.ref a/\SqL K H a xs/\∀ p,H p=none->Q (.ref p) (upd H p (.lst (aj1 xs lo hi)))
theorem aa7:SlR X (bP6 X.K):=by
 intro pins s σ H x v vl vu lo hi sl Q I rx hs pl pu h
 obtain⟨a,xs,rfl,hx,q⟩:=h
 cases rx
 obtain⟨its,r,ht,hz⟩:=I.list hx
 have hlen:=r.length
 refine⟨"list",_,slot_list_getitem.lookup,ht.isList.typeIs,?_⟩
 refine wpAny_getItem_list_slice ht.isList hs pl pu .none (by simp) ?_ (by rw[d7]<;>omega)
 rw[au3,<- hlen]
 refine⟨.ref s.heap.objs.size,_,I.laid (t':=s.toks) (o:=.lst (aj1 xs lo hi)) (fun b ob q=>b9 _ q) (c7 _) ?_,rfl,q _ (I.hok.fresh (c7 _))⟩
 exact⟨p5 (aI7 xs lo hi) hz,_,0,(r.drop (HT.sIx xs.length 0 lo)).take (HT.sIx xs.length xs.length hi - HT.sIx xs.length 0 lo),d6 _ rfl⟩
theorem r6:L1 X (.builtin "len") (fun xs H Q=>∃ p ys,xs=[.ref p]/\(SqL X.K H p ys\/SqT X.K H p ys)/\Q (.int ys.length) H):=by
 intro pins s σ H xs us Q I r h
 obtain⟨p,ys,rfl,hq,q⟩:=h
 obtain⟨u,rfl,rx⟩:=vals1 r
 cases rx
 have hn:=ai6
 rcases hq with hq | hq
 ·obtain⟨its,r',pl,hz⟩:=I.list hq
  have hlen:=r'.length
  exact Calls.call_len_list pl.isList (by simp only[d7]<;>omega) ⟨.int ys.length,H,I.tok _,⟨s.toks+1,by rw[d7,hlen]⟩,q⟩
 ·obtain⟨its,r',pl,hz⟩:=I.tuple hq
  have hlen:=r'.length
  exact len_tuple pl (by simp only[d7]<;>omega) ⟨.int ys.length,H,I.tok _,⟨s.toks+1,by rw[d7,hlen]⟩,q⟩
theorem aB7:L1 X (.type "list") (fun xs H Q=>∃ p ys,xs=[.ref p]/\(SqL X.K H p ys\/SqT X.K H p ys)/\∀ l,H l=none->Q (.ref l) (upd H l (.lst ys))):=by
 intro pins s σ H xs us Q I r h
 obtain⟨p,ys,rfl,hq,q⟩:=h
 obtain⟨u,rfl,rx⟩:=vals1 r
 cases rx
 have fin:∀ (its:List Value),y9 ys its->ys.length<=sizeLine->∀ (h':Heap) (c':Nat),(∀ b o',s.heap.get? b=some o'->h'.get? b=some o') ->
   h'.get? s.heap.objs.size=some { cls:=.type "list",dict:=none,data:=.seq its.toArray c',slots:=#[] }->EP X pins σ Q (.ref s.heap.objs.size) { s with heap:=h' }:=fun its r' hz h' c' kp e =>
  ⟨.ref s.heap.objs.size,_,I.laid (t':=s.toks) kp (c7 _) (show B9 X.prog X.w _ h' _ (.lst ys) from ⟨hz,its,c',r',e⟩),rfl,q _ (I.hok.fresh (c7 _))⟩
 rcases hq with hq | hq
 ·obtain⟨its,r',pl,hz⟩:=I.list hq
  have hlen:=r'.length
  obtain⟨o,ho,hc,n,hd⟩:=pl.isList
  exact call_list_seq p (.inl rfl) ho hc hd (fun h' c' kp e=>fin its r' hz h' c' kp e) (by simp only[d7]<;>omega)
 ·obtain⟨its,r',pl,hz⟩:=I.tuple hq
  have hlen:=r'.length
  obtain⟨o,ho,hc,n,hd⟩:=pl
  exact call_list_seq p (.inr rfl) ho hc hd (fun h' c' kp e=>fin its r' hz h' c' kp e) (by simp only[d7]<;>omega)
theorem E6:L1 X (.type "tuple") (fun xs H Q=>∃ p ys,xs=[.ref p]/\((SqL X.K H p ys/\∀ l,H l=none->Q (.ref l) (upd H l (.tup ys)))\/(SqT X.K H p ys/\Q (.ref p) H))):=by
 intro pins s σ H xs us Q I r h
 obtain⟨p,ys,rfl,h⟩:=h
 obtain⟨u,rfl,rx⟩:=vals1 r
 cases rx
 rcases h with⟨hq,q⟩ | ⟨hq,q⟩
 ·obtain⟨its,r',pl,hz⟩:=I.list hq
  have hlen:=r'.length
  refine call_tuple_list pl.isList (fun h' kp=>?_) (by simp only[d7]<;>omega)
  have I1:Inv X pins σ H { s with heap:=h' }:=I.kept (t':=s.toks) kp
  have I2:Inv X pins σ (upd H h'.objs.size (.tup ys)) { s with heap:=h'.push { cls:=.type "tuple",data:=.seq its.toArray } } :=
   I1.laid (t':=s.toks) (fun b o e=>b9 _ e) (c7 _) (show B9 X.prog X.w _ _ _ (.tup ys) from ⟨hz,its,r',IsTup.new _ _⟩)
  exact⟨.ref h'.objs.size,_,I2,rfl,q _ (I1.hok.fresh (c7 _))⟩
 ·obtain⟨its,r',pl,hz⟩:=I.tuple hq
  exact call_tuple_same pl ⟨.ref p,H,I,rfl,q⟩
def tyV (K:W.Frag)(T:String)(x:V)(H:Hp):Prop:=match x with
 | .str _=>T="str"
 | .int _=>T="int"
 | .ref p=>(T="list"/\∃ xs,SqL K H p xs)\/(T="tuple"/\∃ o,K.lookup p=some o/\o.cls=.type "tuple"/\o.dict=none) \/
   (T="dict"/\((∃ kvs,H p=some (.dK kvs))\/∃ kvs,H p=some (.dT kvs)))\/(T="set"/\∃ S n,H p=some (.set S n))
 | _=>False
theorem by6 {pins:List (Addr × Obj)}{σ:St}{H:Hp}{s:Shared}{T:String}{x:V}{v:Value}(I:Inv X pins σ H s)(r:RelV x v)(ty:tyV X.K T x H) :
  s.TypeIs v T/\∀ a,v=.ref a->∃ ob,s.heap.get? a=some ob/\ob.dict=none:=by
 cases x with
 | str z =>
  obtain⟨t,rfl⟩:=r
  cases (show T="str" from ty)
  exact⟨typeIs_str s z t,fun _ e=>nomatch e⟩
 | int i =>
  obtain⟨t,rfl⟩:=r
  cases (show T="int" from ty)
  exact⟨typeIs_int s i t,fun _ e=>nomatch e⟩
 | ref p =>
  cases r
  rcases ty with⟨rfl,xs,hq⟩ | ⟨rfl,o,hk,hc,hd⟩ | ⟨rfl,hk⟩ | ⟨rfl,S,n,hk⟩
  ·obtain⟨its,_,pl,_⟩:=I.list hq
   refine⟨pl.isList.typeIs,fun a e=>?_⟩
   cases e
   obtain⟨o,n,e,c,hd,_⟩:=pl
   exact⟨o,e,hd⟩
  ·refine⟨⟨o,I.kIn p o hk,hc⟩,fun a e=>?_⟩
   cases e
   exact⟨o,I.kIn _ o hk,hd⟩
  ·have z:∃ o,s.heap.get? p=some o/\o.ExactDict:=by
    rcases hk with⟨kvs,hk⟩ | ⟨kvs,hk⟩
    ·obtain⟨_,_,_,_,o,_,_,e,ex,_⟩:=I.hok p _ hk
     exact⟨o,e,ex⟩
    ·obtain⟨_,_,_,_,o,_,_,e,ex,_⟩:=I.hok p _ hk
     exact⟨o,e,ex⟩
   obtain⟨o,e,ex⟩:=z
   refine⟨⟨o,e,ex.1⟩,fun a e2=>?_⟩
   cases e2
   exact⟨o,e,ex.2.1⟩
  ·obtain⟨o,_,_,_,e,ex,_⟩:=I.hok p _ hk
   refine⟨⟨o,e,ex.1⟩,fun a e2=>?_⟩
   cases e2
   exact⟨o,e,ex.2.1⟩
 | _=>exact False.elim ty
def tBM (K:W.Frag)(T:String)(r:V->List V->Hp->VK->Prop)(to:TE)(t:TA):TE:=fun σ H Q=>to σ H fun x H1=>tyV K T x H1/\t σ H1 fun xs H2=>r x xs H2 Q
variable {o e:Expr} {es:List Expr} {to:TE} {t:TA} {name:Str} {apos cpos:Pos} {T id:String} {r:V->List V->Hp->VK->Prop}
theorem aw0 (pa:PlainAttrs T) (slot:Slot T name id) (hty:typeOf (.builtin id)=pure (.type "method_descriptor")) (hm:MtR X id r) (ho:PE X o to) (ha:PA X (e::es) t)
  (hbase:attributeBase o name X.env (eval o X.env)=eval o X.env:=by rfl)
  (hfew : ((backTo cpos (starEach (e :: es) X.env)).all (fun x => !x.1) && (backToKw cpos (keywordEach [] X.env)).all (fun x => x.1.isSome)
   && decide ((e::es).length+([]:List Keyword).length+(if ([]:List Keyword).isEmpty then 0 else 1)<30))=true:=by rfl)
  (hline:(apos.endLine == cpos.line)=true:=by rfl) (hs:starEach (e::es) X.env=(false,eval e X.env)::starEach es X.env:=by rfl) (hplain:(backTo cpos (starEach es X.env)).any (·.1)=false:=by rfl) :
  PE X (.Call (.Attribute o name apos) (e::es) [] cpos) (tBM X.K T r to t):=by
 intro pins s σ H Q I h
 refine wpAny_Call_method_late hbase hfew hline rfl (thn (ho pins s σ H _ I h) fun v s1 ⟨x,H1,I1,r1,ty,q1⟩=>?_)
 obtain⟨h1,h2⟩:=by6 I1 r1 ty
 refine⟨T,id,pa,slot,hty,h1,h2,?_⟩
 have hA:=ha cpos pins s1 σ H1 _ I1 q1
 rw[hs]at hA ⊢
 refine Calls.callWith_builtin (by show (false || (backTo cpos (starEach es X.env)).any (·.1))=false;rw[hplain]<;>rfl) (Calls.evalArgs_plain ?_)
 exact thn hA fun us s2 ⟨vs,H2,I2,r2,q2⟩=>hm pins s2 σ H2 x vs v us Q I2 r1 r2 q2
/- xs.append(e),list.index on a module's tuple .. are MtR facts of 06m -/
end
def MtM (X:Cx)(id:String)(r:V->List V->Hp->VK->Prop):Prop:=
 ∀ (pins:List (Addr × Obj)) (s:Shared) (σ:St) (H:Hp) (x:V) (xs:List V) (v:Value) (us:List Value) (Q:VK),Inv X pins σ H s->RelV x v->y9 xs us->r x xs H Q ->
  wpAny (model X.prog X.w) X.A (call (.builtin id) (v::us)) (EP X pins σ Q) X.xe s
theorem y9.one:∀ {x:V} {us:List Value},y9 [x] us->∃ u,us=[u]/\RelV x u
 | _,_,.cons r .nil=>⟨_,rfl,r⟩
theorem y9.two:∀ {x y:V} {us:List Value},y9 [x,y] us->∃ u v,us=[u,v]/\RelV x u/\RelV y v
 | _,_,_,.cons r (.cons q .nil)=>⟨_,_,rfl,r,q⟩
theorem y9.rep {xs:List V}{us:List Value}(h:y9 xs us):∀ k:Nat,y9 (v9 k xs).flatten (v9 k us).flatten
 | 0=>.nil
 | k+1=>by
  rw[E5,E5,Q8,Q8]
  exact y9.append h (y9.rep h k)
theorem foldl_rep (its:List Value):∀ (k:Nat) (acc:List Value),
  aU9 (fun x1 x2=>x1++x2) acc.toArray (v9 k its.toArray)=(acc++(v9 k its).flatten).toArray
 | 0,acc=>by simp
 | k+1,acc=>by
  have e:acc.toArray++its.toArray=(acc++its).toArray:=by simp
  have e2:(acc++its)++(v9 k its).flatten=acc++(v9 (k+1) its).flatten:=by
   rw[E5,Q8,aa4]
  rw[<- e2,<- foldl_rep its k (acc++its),<- e,E5,ag9]
section
variable {X:Cx} {pins:List (Addr × Obj)} {σ:St} {H:Hp} {s:Shared} {l b:Addr} {xs ys zs:List V}
theorem Inv.lset {its its':List Value}{n:Nat}{f:Array Value->Array Value}{t':Nat}(I:Inv X pins σ H s)(hH:H l=some (.lst xs))
  (e:s.heap.get? l=some { cls:=.type "list",data:=.seq its.toArray n })(hf:f its.toArray=its'.toArray)(hv:y9 ys its')(hz:ys.length<=sizeLine) :
  Inv X pins σ (upd H l (.lst ys)) { s with heap:=s.heap.update l (Obj.mapSeq f),toks:=t' }:=by
 have q:=PySem.IsL.update e f
 rw[hf]at q
 refine I.write (x:=l) (e:=l) (by rw[hH];exact trivial) (.inl rfl) (fun b' u hb hu=>(u4 s.heap (Obj.mapSeq f) (Ne.symm hb)).trans hu) ⟨_,q⟩ ?_
 exact⟨hz,its',_,hv,q⟩
theorem Inv.lnew {its:List Value}{t':Nat}(I:Inv X pins σ H s)(hv:y9 ys its)(hz:ys.length<=sizeLine) :
  Inv X pins σ (upd H s.heap.objs.size (.lst ys)) { s with heap:=s.heap.push { cls:=.type "list",data:=.seq its.toArray },toks:=t' } :=
 I.laid (fun _ _ q=>b9 _ q) (c7 _) ⟨hz,its,0,hv,d6 _ rfl⟩
theorem Inv.fresh (I:Inv X pins σ H s):H s.heap.objs.size=none:=I.hok.fresh (c7 _)
theorem Inv.lstM (I:Inv X pins σ H s)(hH:H l=some (.lst xs)):xs.length<=sizeLine/\∃ (its:List Value) (n:Nat),y9 xs its/\xs.length=its.length/\s.heap.get? l=some { cls:=.type "list",data:=.seq its.toArray n }:=by
 obtain⟨z,its,n,r,e⟩:=I.hok l _ hH
 exact⟨z,its,n,r,r.length,e⟩
theorem bf8 {n:Nat}(h:n<=sizeLine):Builtin.List.listTooLong n=false:=by
 unfold Builtin.List.listTooLong
 exact decide_eq_false (by omega)
end
section
variable {X:Cx}
def bo7:V->List V->Hp->VK->Prop:=fun x vs H Q=>∃ l xs y,x=.ref l/\vs=[y]/\H l=some (.lst xs)/\xs.length<sizeLine/\Q .non (upd H l (.lst (xs++[y])))
theorem R0:MtM X "list.append" bo7:=by
 intro pins s σ H x vs v us Q I rx rv h
 obtain⟨l,xs,y,rfl,rfl,hH,hz,q⟩:=h
 cases rx
 obtain⟨u,rfl,ru⟩:=rv.one
 obtain⟨z,its,n,r,hl,e⟩:=I.lstM hH
 refine call_meets F.slot_list_append ⟨_,e,rfl⟩ F.entry_list_append (F.args_list_append_2 _ _) (PySem.list_append l its.toArray n u (by rw[d7];omega)) ⟨e,?_⟩
 refine⟨.non,_,I.lset (its':=its++[u]) hH e (by simp) (r.append (.cons ru .nil)) ?_,rfl,q⟩
 rw[p9,ah0]
 omega
def bP9:R2:=fun x y H Q=>∃ l b xs zs,x=.ref l/\y=.ref b/\H l=some (.lst xs)/\H b=some (.lst zs)/\xs.length+zs.length<=sizeLine/\∀ p,H p=none->Q (.ref p) (upd H p (.lst (xs++zs)))
theorem bB6:OpR X (binaryOp .Add) bP9:=by
 intro pins s σ H x y v u Q I rx ry h
 obtain⟨l,b,xs,zs,rfl,rfl,hH,hB,hz,q⟩:=h
 cases rx
 cases ry
 obtain⟨z,its,n,r,hl,e⟩:=I.lstM hH
 obtain⟨z2,its2,n2,r2,hl2,e2⟩:=I.lstM hB
 refine PySem.P.add_list e e2 ?_ (by rw[d7,d7];omega)
 have ea:its.toArray++its2.toArray=(its++its2).toArray:=by simp
 rw[ea]
 exact⟨.ref _,_,I.lnew (t':=s.toks) (r.append r2) (by rw[p9];omega),rfl,q _ I.fresh⟩
def bP7:R2:=fun x y H Q=>∃ l k xs,x=.ref l/\y=.int k/\H l=some (.lst xs) /\ -(2 ^ 63)<=k/\k<2 ^ 63/\xs.length*k.toNat<=sizeLine /\
 ∀ p,H p=none->Q (.ref p) (upd H p (.lst (v9 k.toNat xs).flatten))
theorem len_rep {α:Type}(xs:List α)(k:Nat):(v9 k xs).flatten.length=k*xs.length:=by
 induction k with
 | zero=>simp
 | succ k ih=>rw[E5,Q8,p9,ih,Nat.succ_mul,Nat.add_comm]
theorem be9:OpR X (binaryOp .Mult) bP7:=by
 intro pins s σ H x y v u Q I rx ry h
 obtain⟨l,k,xs,rfl,rfl,hH,h1,h2,hz,q⟩:=h
 cases rx
 obtain⟨t,rfl⟩:=ry
 obtain⟨z,its,n,r,hl,e⟩:=I.lstM hH
 have hlen:its.toArray.size*k.toNat<=sizeLine:=by rw[d7,<- hl];exact hz
 have hcap:¬ its.toArray.size*k.toNat > (2 ^ 63 - 1) / 8:=by
  have:(sizeLine:Nat)<=(2 ^ 63 - 1) / 8:=by decide
  omega
 have hfit:¬ (!Builtin.List.listFitsIndex k)=true:=by
  rw[fitsIndex_both h1 h2]
  exact f6
 have hlong:¬ Builtin.List.listTooLong (its.toArray.size*k.toNat)=true:=by
  rw[bf8 hlen]
  exact f6
 have hnew:aU9 (fun x1 x2=>x1++x2) #[] (v9 (if its.toArray.isEmpty=true then 0 else k.toNat) its.toArray)=(v9 k.toNat its).flatten.toArray:=by
  have f0:∀ m:Nat,aU9 (fun x1 x2=>x1++x2) #[] (v9 m its.toArray)=(v9 m its).flatten.toArray:=fun m=>by
   have:=foldl_rep its m []
   rw[List.nil_append]at this
   exact this
  rw[f0]
  cases its with
  | nil=>simp
  | cons a r'=>rw[if_neg (by simp)]
 refine wpAny_binaryOp_repeat_ref (T:="list") (U:="int") (by decide) ⟨_,e,rfl⟩ (fun s'=>typeIs_int s' k t) noFill_list_mul F.fills_int_mul F.slot_int_rmul repeat_list F.slot_int_index.lookup
  (call_meets F.slot_int_rmul (typeIs_int s k t) F.entry_int_rmul (F.args_int_rmul_2 _ _) (int___rmul___int_list k t l its.toArray n)
   ⟨e,rfl,⟨_,e,rfl⟩,call_meets F.slot_list_mul ⟨_,e,rfl⟩ F.entry_list_mul (F.args_list_mul_2 _ _) (AutoListH.list___mul___list_int_3 l its.toArray n k t hfit hcap hlong) ⟨e,?_⟩⟩)
 rw[hnew]
 exact⟨.ref _,_,I.lnew (t':=s.toks) (r.rep k.toNat) (by rw[len_rep,Nat.mul_comm];exact hz),rfl,q _ I.fresh⟩
end
section
variable {prog:Program} {w:World} {A:Around} {E:Value->Shared->Prop} {s:Shared}
end
section
variable {X:Cx}
end
end L2
namespace Att
open PySem PySem.W PySem.Calls PyProof.Rows
theorem am2 {P:Params}{h:Heap}:∀ (ns:List Int) (vs:List Value),WellAll P h vs (ns.map WData.int)->IntsAre vs ns:=by
 intro ns
 induction ns with
 | nil =>
  intro vs w
  rw[bl5]at w
  cases w
  exact .nil
 | cons n ns ih =>
  intro vs w
  rw[k6]at w
  cases w with
  | cons a b =>
   cases a
   exact .cons _ _ (ih _ b)
theorem aV6 {l:OpenLaw}{n:Nat}(hn:l.most=some n){P:Params}{h:Heap}{args:List WData}{vals:List Value}
  (hpre:l.row.toRowW.claim.pre args=true)(hwl:WellAll P h vals args) :
  ∃ a vs ns,vals=[Value.ref a]/\args=[WData.list (ns.map WData.int)]/\h.get? a=some { cls:=.type "list",data:=.seq vs.toArray }/\IntsAre vs ns/\ns.length<=n:=by
 have hsh:WShape.hasAll [] args [.list .int]=true:=(pre_splitW hpre).1
 have hc:l.pre.holds [] { args:=args }=true:=(pre_splitW hpre).2
 obtain⟨d,r,rfl,h1,h2⟩:=hasAllW_cons hsh
 obtain rfl:=hasAllW_nil h2
 obtain⟨xs,rfl,h3⟩:=hasW_list h1
 obtain⟨ns,rfl⟩:=items_int h3
 have hlen:ns.length<=n:=by
  unfold OpenLaw.pre at hc
  have h4:(WTm.not (.lt (.lit (.int (n:Int))) (.len (.arg 0)))).holds [] { args:=[.list (ns.map .int)] }=true:=by
   have h4:=(holds_andW hc).1
   rw[hn]at h4
   exact h4
  have h5:=condW_of h4 (w_not (w_lt w_lit (w_len_list (w_arg rfl))))
  rw[b7]at h5
  refine Nat.le_of_not_lt fun q=>?_
  have q':(n:Int)<((ns.length:Nat):Int):=by omega
  first
   | (rw[decide_eq_true q']at h5;exact absurd h5 (by decide))
   | (simp at h5;omega)
 cases hwl with
 | cons w1 w2 =>
  cases w2
  cases w1 with
  | list ho hall=>exact⟨_,_,ns,rfl,rfl,ho,am2 ns _ hall,hlen⟩
theorem aW0 (l:OpenLaw)(args:List WData):l.row.toRowW.claim.post args (.bool true) args=true:=
 postW_of (r:=l.row.toRowW) (X:=(true == true))
  (show WShape.has [] (.bool true) .bool=true by first | rfl | decide | simp[WShape.has,WShape.arms,WShape.armsAll])
  (show (WTm.eq .res (.lit (.bool true))).value [] { args:=args,res:=some (.bool true),after:=args }=some (.bool (true == true)) from w_eq_bool (w_res rfl) w_lit) rfl
theorem attach_call {l:OpenLaw} {n:Nat} {q:Program} {loose:List Str} {XP:(Str->Option Value)->Heap->Prop} {YP:World->Heap->Prop} {d:DefRec}
  (hn:l.most=some n) (hdf:d.params.defaults=[])
  (call : ∀ (w : World) (s₀ s₁ : Shared) (mg mb : Str -> Option Value) (fa : Addr) (o : Obj) (pm cd doc : Value) (a : Addr) (vs : List Value) (ns : List Int),
   Ground q loose [] XP w s₀ mg mb s₁.heap->YP w s₁.heap ->
   s₁.heap.get? fa=some o->o.data=.func (docDef d.name d.params d.body d.scope pm cd doc)->s₁.heap.CodeRec cd d.name->mg d.name=some (.ref fa) ->
   s₁.heap.get? a=some { cls:=.type "list",data:=.seq vs.toArray }->IntsAre vs ns->ns.length<=n->s₁.gens=#[] ->
   codeAny (model l.prog w) callerA (.call (.ref fa) ⟨[.ref a],[]⟩) (fun r s'=>r=.ok (.ret (.bool true))/\OldK s₁.heap s'.heap/\s'.os=s₁.os/\AllBare s'.gens) s₁) :
  WalkO q loose XP YP l.row.toRowW d [] (fun f vs=>PySem.call f vs):=by
 intro w s₀ s₁ mg mb G Y fa o pm cd doc dV kV ho hd hcd hD hmg hg args vals as hpre hlay hrd hwl hlo
 obtain rfl:dV=.none:=Dflts.none hD hdf
 obtain rfl:kV=.none:=Dflts.noKw hD
 obtain⟨a,vs,ns,rfl,rfl,hobj,hints,hlen⟩:=aV6 hn hpre hwl
 refine enter_call (codeAny_mono (call w s₀ s₁ mg mb fa o pm cd doc a vs ns G Y ho (fd_plain hd) hcd hmg hobj hints hlen hg) fun r s' hq=>?_)
 obtain⟨rfl,h2,h3,h4⟩:=hq
 exact⟨.inl ⟨.bool true,.bool true,[],rfl,fun _=>rfl,.bool true,aW0 l _,fun _=>⟨List.Pairwise.nil,fun _ hm=>(nomatch hm)⟩⟩,h2,h3,h4⟩
section
variable {prog:Program} {w:World} {A:Around} {E:Value->Shared->Prop} {s:Shared} {K:Frag}
end
end Att
namespace L2
open PySem PySem.Spec PyProof.Rows
theorem aa5:∀ {vs:List Value} {ns:List Int},IntsAre vs ns->y9 (ns.map V.int) vs
 | _,_,.nil=>.nil
 | _,_,.cons n t h=>.cons ⟨t,rfl⟩ (aa5 h)
end L2
namespace L2
open PySem PySem.Spec PyProof.Rows
def t7 (s:Stmt):Arguments:=match s with
 | .FunctionDef _ a _ _ _ _ _ _ _ _=>a
 | _=>{ posonlyargs:=[],args:=[],vararg:=none,kwonlyargs:=[],kw_defaults:=[],kwarg:=none,defaults:=[] }
def p8 (s:Stmt):List Stmt:=match s with
 | .FunctionDef _ _ b _ _ _ _ _ _ _=>b
 | _=>[]
def g6 (s:Stmt):Scope:=match s with
 | .FunctionDef _ _ _ _ _ _ sc _ _ _=>sc
 | _=>{ kind:=.function,names:=[],isGenerator:=false,isCoroutine:=false }
abbrev CX0:CXT:=fun _ _ _ _ _ _=>False
abbrev E0:XK:=fun _ _ _=>False
theorem C9 {X:Cx}:at4 CX0 X E0:=fun _ _ _ _ _ _ _ h=>h.elim
structure Fun (K:W.Frag) (x qual:Str) (st:Stmt) (f:Addr) (fd:FuncData):Prop where
 ex:∃ (oc:Value) (od:Option Addr) (kV doc pm:Value) (an:Option Addr) (cdv ct:Value) (osl:Array (Option Value)),
  fd=k7 x qual (t7 st) (p8 st) (g6 st) .none kV doc pm an cdv ct/\K.lookup f=some ⟨oc,od,.func fd,osl⟩/\j7 K cdv qual=true
 kp:i7 K (.ref f)=true
section
variable {P:Program} {w:World} {K:W.Frag} {mg:Str->Option Value} {base:Heap}
theorem Fun.ok {x qual:Str} {st:Stmt} {f:Addr} {fd:FuncData} {N ps:List Str} {k:Nat} {sp:Sp} (F:Fun K x qual st f fd) (S:t8 N ps (g6 st)) (len:∀ vs H Q E,sp vs H Q E->vs.length=ps.length)
  (hbody : ∀ (cdv : Value) (A : Around) (outer : List Env) (s : Shared) (H : Hp) (vs : List V) (Q : VK) (E : XK), P6 k (A.deeper (envOfC qual (g6 st) s.heap.objs.size f cdv)) -> sp vs H Q E ->
   ∃ t,PSs (Z8 CX0 P w K mg base N qual (g6 st) f cdv A outer s H E).nox (p8 st) t/\t { nx:=fun _ H'=>Q .non H',rt:=Q } (start N vs) H):t9 P w K mg base CX0 (k+1) f fd ps sp:=by
 obtain⟨oc,od,kV,doc,pm,an,cdv,ct,osl,rfl,lk,hcd⟩:=F.ex
 refine bi9 lk hcd S len fun A outer s H vs Q E hr hsp=>?_
 obtain⟨t,h,q⟩:=hbody cdv A outer s H vs Q E hr hsp
 exact⟨t,h.nox,q⟩
theorem Fun.binds {x qual:Str}{st:Stmt}{f:Addr}{fd:FuncData}{ps:List Str}(F:Fun K x qual st f fd)
  (h:∀ (kV doc pm:Value) (an:Option Addr) (cdv ct:Value) (us:List Value),us.length=ps.length->bindArgs (k7 x qual (t7 st) (p8 st) (g6 st) .none kV doc pm an cdv ct) ⟨us,[]⟩=pure (ps.zip us)):Binds K fd ps []:=by
 obtain⟨oc,od,kV,doc,pm,an,cdv,ct,osl,rfl,lk,hcd⟩:=F.ex
 exact .all (h kV doc pm an cdv ct)
theorem A8 {x qual:Str}{st:Stmt}{f:Addr}{oc:Value}{od an:Option Addr}{osl:Array (Option Value)}{kV doc pm cdv ct:Value}(l:K.lookup f=some ⟨oc,od,.func (k7 x qual (t7 st) (p8 st) (g6 st) .none kV doc pm an cdv ct),osl⟩)
  (c:j7 K cdv qual=true)(k:i7 K (.ref f)=true):Fun K x qual st f (k7 x qual (t7 st) (p8 st) (g6 st) .none kV doc pm an cdv ct):=⟨⟨oc,od,kV,doc,pm,an,cdv,ct,osl,rfl,l,c⟩,k⟩
end
section
variable {X:Cx}
theorem pv (i:Nat){x:Str}{pos:Pos}(hN:X.N[i]?=some x:=by rfl)(hv:Vis X.env.scope x:=by first | exact Or.inl rfl | exact Or.inr (Or.inl rfl) | exact Or.inr (Or.inr rfl))(hd:(x == ("__debug__":Str))=false:=by decide)
  (hcd:(x == ("__classdict__":Str))=false:=by decide):PE X (.Name x pos) (bI0 i):=be0 hN hv hd hcd
end
theorem F8 {A B:Prop}(h:B):if false=true then A else B:=by
 rw[if_neg f6]
 exact h
theorem N2 {A B:Prop}(h:A):if true=true then A else B:=by
 rw[if_pos rfl]
 exact h
theorem aX9 {c A B:Prop}[Decidable c](h1:c->A)(h2:¬ c->B):if c then A else B:=by
 by_cases h:c
 ·rw[if_pos h]
  exact h1 h
 ·rw[if_neg h]
  exact h2 h
theorem al5 {c A B:Prop}[Decidable c](hc:c)(h:B):if (!decide c)=true then A else B:=by
 rw[decide_eq_true hc]
 exact F8 h
def p7 (H H':Hp):Prop:=∀ b o,H b=some o->H' b=some o
theorem p7.refl (H:Hp):p7 H H:=fun _ _ h=>h
theorem p7.trans {H H1 H2:Hp}(a:p7 H H1)(b:p7 H1 H2):p7 H H2:=fun c o h=>b c o (a c o h)
theorem p7.free {H H':Hp}(e:p7 H H'){l:Addr}(h:H' l=Option.none):H l=Option.none:=by
 cases q:H l with
 | none=>rfl
 | some o =>
  rw[e l o q]at h
  cases h
theorem p7.seq {K:W.Frag}{H H':Hp}{a:Addr}{xs:List V}(e:p7 H H')(h:SqL K H a xs):SqL K H' a xs:=by
 rcases h with(h | ⟨o,h⟩) | h
 ·exact .inl (.inl (e _ _ h))
 ·exact .inl (.inr ⟨o,e _ _ h⟩)
 ·exact .inr h
end L2
namespace Tim
open PySem PyProof.Rows
structure Ord (B:Keyed->Keyed->Bool):Prop where
 irr:∀ x,B x x=false
 tr:∀ x y z,B x y=true->B y z=true->B x z=true
 ng:∀ x y z,B x z=true->B x y=true\/B y z=true
def le (B:Keyed->Keyed->Bool)(x y:Keyed):Prop:=B y x=false
section
variable {prog:Program} {w:World} {A:Around} {E:Value->Shared->Prop} {s:Shared} {κ:SortKind} {S:Keyed->Prop} {B:Keyed->Keyed->Bool}
def Cmp (prog:Program)(w:World)(A:Around)(E:Value->Shared->Prop)(s:Shared)(κ:SortKind)(S:Keyed->Prop)(B:Keyed->Keyed->Bool):Prop:=
 ∀ (x y:Keyed),S x->S y->∀ (Q:Bool->Shared->Prop),Q (B x y) s->wpAny (model prog w) A (keyLt' κ x.1 y.1) Q (fun _ _=>False) s
theorem by2 (C:Cmp prog w A E s κ S B){x y:Keyed}{st:SortSt}{Q:Option Bool->SortSt->Prop}(hk:kindOf st=κ)(hx:S x)(hy:S y)(h:Q (some (B x y)) st):wpS (model prog w) A E s (lt' x y) Q st:=by
 rw[lt'_eq]
 refine wpS_bind (wpS_get ?_)
 rw[hk]
 refine wpS_bind (wpS_lift (wpAny_attempt ?_))
 refine wpAny_mono (C x y hx hy (fun b s'=>s'=s/\b=B x y) ⟨rfl,rfl⟩) (fun b s' hb=>?_) (fun _ _ f=>f.elim)
 obtain⟨rfl,rfl⟩:=hb
 exact⟨rfl,wpS_pure h⟩
theorem aD1 {arr:Array Keyed}{i:Nat}{x:Keyed}{st:SortSt}{Q:Keyed->SortSt->Prop}(hi:arr[i]?=some x)(h:Q x st):wpS (model prog w) A E s (elem' arr i) Q st:=by
 rw[elem'_eq,hi]
 exact wpS_pure h
theorem aV2 (C:Cmp prog w A E s κ S B){i j:Nat}{x y:Keyed}{st:SortSt}{Q:Option Bool->SortSt->Prop}(hk:kindOf st=κ)(hi:(arrOf st)[i]?=some x)(hj:(arrOf st)[j]?=some y)(hx:S x)(hy:S y)(h:Q (some (B x y)) st) :
  wpS (model prog w) A E s (ltAt' i j) Q st:=by
 rw[ltAt'_eq]
 refine wpS_bind (wpS_get ?_)
 show wpS _ _ _ _ (do let x <- elem' (arrOf st) i;let y <- elem' (arrOf st) j;lt' x y) Q st
 exact wpS_bind (aD1 hi (wpS_bind (aD1 hj (by2 C hk hx hy h))))
theorem aD0 {n:String}{st:SortSt}{Q:Unit->SortSt->Prop}(h:Q () st):wpS (model prog w) A E s (liftM (rule n):StateT SortSt Sem Unit) Q st:=wpS_lift (wpAny_rule ⟨rfl,h⟩)
end
structure MI (R:Keyed->Keyed->Prop) (out ra rb all:List Keyed):Prop where
 so:out.Pairwise R
 oa:∀ x∈out,∀ y∈ra,R x y
 ob:∀ x∈out,∀ y∈rb,R x y
 sa:ra.Pairwise R
 sb:rb.Pairwise R
 pm:(out++(ra++rb)).Perm all
structure Sm (st st':SortSt):Prop where
 k:kindOf st'=kindOf st
 a:arrOf st'=arrOf st
 p:pendingOf st'=pendingOf st
 f:failedOf st'=failedOf st
section
variable {prog:Program} {w:World} {A:Around} {E:Value->Shared->Prop} {s:Shared} {κ:SortKind} {S:Keyed->Prop} {B:Keyed->Keyed->Bool}
structure LoI (B:Keyed->Keyed->Bool) (a b out:Array Keyed) (ia ib:Nat):Prop where
 m:MI (le B) out.toList (a.toList.drop ia) (b.toList.drop ib) (a.toList++b.toList)
 ha:ia+1<a.size
 hb:ib<b.size
 sz:out.size=ia+ib
def Good (B:Keyed->Keyed->Bool)(a b r:Array Keyed):Prop:=r.toList.Pairwise (le B)/\r.toList.Perm (a.toList++b.toList)
end
section
variable {prog:Program} {w:World} {A:Around} {E:Value->Shared->Prop} {s:Shared} {κ:SortKind} {S:Keyed->Prop} {B:Keyed->Keyed->Bool}
abbrev HM (B:Keyed->Keyed->Bool)(a b out:Array Keyed)(na nb:Nat):Prop:=MI (fun x y=>le B y x) out.toList (a.toList.take na).reverse (b.toList.take nb).reverse (a.toList++b.toList)
structure HiI (B:Keyed->Keyed->Bool) (a b out:Array Keyed) (na nb:Nat):Prop where
 m:HM B a b out na nb
 ha:0<na
 ha':na<=a.size
 hb:1<nb
 hb':nb<=b.size
 sz:out.size+na+nb=a.size+b.size
end
def KF {O:KeyOrd}(f:Keyed->O.α)(d:O.α)(xs:Array Keyed)(i:Nat):O.α:=match xs[i]? with
 | some p=>f p
 | none=>d
def Bf {O:KeyOrd}(f:Keyed->O.α)(x y:Keyed):Bool:=O.blt (f x) (f y)
section
variable {O:KeyOrd} {f:Keyed->O.α} {d:O.α}
theorem aa1 {xs ys:Array Keyed}{i j:Nat}(h:xs[i]?=ys[j]?):KF f d xs i=KF f d ys j:=by unfold KF;rw[h]
theorem ao2 {xs:Array Keyed}{i:Nat}{x:Keyed}(h:xs[i]?=some x):KF f d xs i=f x:=by unfold KF;rw[h]
theorem az0 {xs:Array Keyed}{src dd:Nat}(hs:src<xs.size)(hd:dd<=src)(k:Nat) :
  KF f d (bubble xs src dd) k=if k=src - dd then KF f d xs src else if src - dd<k/\k<=src then KF f d xs (k - 1) else KF f d xs k:=by
 have e:=getElem?_bubble hs dd hd k
 repeat' split at e
 all_goals first
  | (rw[if_pos (by assumption)];exact aa1 e)
  | (rw[if_neg (by assumption),if_pos (by assumption)];exact aa1 e)
  | (rw[if_neg (by assumption),if_neg (by assumption)];exact aa1 e)
theorem aj5 {xs:Array Keyed}{i j:Nat}(hj:j<=xs.size)(k:Nat):KF f d (mirror xs i j ((j - i) / 2)) k=if i<=k/\k<j then KF f d xs (i+j - 1 - k) else KF f d xs k:=by
 have e:=getElem?_mirror_all (i:=i) hj k
 split at e
 ·rw[if_pos (by assumption)];exact aa1 e
 ·rw[if_neg (by assumption)];exact aa1 e
theorem G3 {xs:Array Keyed}{i j:Nat}(hj:j<=xs.size)(heq:∀ k,i<=k->k<j->KF f d xs k=KF f d xs (j - 1))(k:Nat):KF f d (mirror xs i j ((j - i) / 2)) k=KF f d xs k:=by
 rw[aj5 hj]
 split
 ·rw[heq _ (by omega) (by omega),heq k (by omega) (by omega)]
 ·rfl
end
def L4 {O:KeyOrd}(f:Keyed->O.α)(d:O.α)(lo:Nat)(xs:Array Keyed)(k:Nat):Prop:=∀ i j,i<=j->j<k->O.kle (KF f d xs (lo+i)) (KF f d xs (lo+j))
def X0 {O:KeyOrd}(f:Keyed->O.α)(d:O.α)(lo:Nat)(xs:Array Keyed)(k:Nat):Prop:=∀ i j,i<=j->j<k->O.kle (KF f d xs (lo+j)) (KF f d xs (lo+i))
def Pre (lo:Nat)(xs ys:Array Keyed):Prop:=∀ k,k<lo->ys[k]?=xs[k]?
theorem Pre.rf (lo:Nat)(xs:Array Keyed):Pre lo xs xs:=fun _ _=>rfl
theorem Pre.trans {lo:Nat}{xs ys zs:Array Keyed}(a:Pre lo xs ys)(b:Pre lo ys zs):Pre lo xs zs:=fun k hk=>(b k hk).trans (a k hk)
theorem Pre.mirror {lo i j:Nat}{xs:Array Keyed}(hj:j<=xs.size)(hi:lo<=i):Pre lo xs (mirror xs i j ((j - i) / 2)):=fun k hk=>by
 rw[getElem?_mirror_all hj,if_neg (by omega)]
theorem Pre.bubble {lo src dd:Nat}{xs:Array Keyed}(hs:src<xs.size)(hd:dd<=src)(hl:lo<=src - dd):Pre lo xs (bubble xs src dd):=fun k hk=>by
 rw[getElem?_bubble hs dd hd,if_neg (by omega),if_neg (by omega)]
structure SI (a₀:Array Keyed) (κ:SortKind) (p:Array (Nat × Nat × Nat)) (st:SortSt):Prop where
 perm:(arrOf st).Perm a₀
 kind:kindOf st=κ
 failed:failedOf st=none
 pend:pendingOf st=p
section
variable {prog:Program} {w:World} {A:Around} {E:Value->Shared->Prop} {s:Shared} {κ:SortKind} {a₀:Array Keyed} {p:Array (Nat × Nat × Nat)} {O:KeyOrd} {f:Keyed->O.α} {d:O.α}
theorem SI.size {st:SortSt}(h:SI a₀ κ p st):(arrOf st).size=a₀.size:=h.perm.size_eq
theorem SI.setArr {st:SortSt}(h:SI a₀ κ p st){xs:Array Keyed}(hp:xs.Perm (arrOf st)):SI a₀ κ p (setArr st xs):=⟨hp.trans h.perm,h.kind,h.failed,h.pend⟩
theorem SI.at {st:SortSt}(h:SI a₀ κ p st){i:Nat}(hi:i<a₀.size):∃ x,(arrOf st)[i]?=some x/\x∈a₀.toList:=by
 have hi':i<(arrOf st).size:=by rw[h.size];exact hi
 exact⟨(arrOf st)[i],getElem?_pos _ i hi',(V2.mp h.perm).mem_iff.mp (by simp)⟩
abbrev bu6 (prog:Program)(w:World)(A:Around)(E:Value->Shared->Prop)(s:Shared)(κ:SortKind)(a₀:Array Keyed){O:KeyOrd}(f:Keyed->O.α):Prop:=Cmp prog w A E s κ (·∈a₀.toList) (Bf f)
theorem V4 (C:bu6 prog w A E s κ a₀ f){st:SortSt}{i j:Nat}{Q:Option Bool->SortSt->Prop}(hB:SI a₀ κ p st)(hi:i<a₀.size)(hj:j<a₀.size)
  (h:Q (some (O.blt (KF f d (arrOf st) i) (KF f d (arrOf st) j))) st):wpS (model prog w) A E s (ltAt' i j) Q st:=by
 obtain⟨x,e1,hx⟩:=hB.at hi
 obtain⟨y,e2,hy⟩:=hB.at hj
 rw[ao2 e1,ao2 e2]at h
 exact aV2 C hB.kind e1 e2 hx hy h
theorem aP2 {st:SortSt} {lo a nrem:Nat} {Q:Option (Option Nat) × Nat->SortSt->Prop} {b:Nat->Option (Option Nat) × Nat->StateT SortSt Sem (ForInStep (Option (Option Nat) × Nat))} (ha:1<=a) (han:a<=nrem)
  (hb : ∀ x n (R : ForInStep (Option (Option Nat) × Nat) -> SortSt -> Prop), 1 <= n -> n < nrem -> (O.klt (KF f d (arrOf st) (lo + n)) (KF f d (arrOf st) (lo + n - 1)) -> R (.done (none, n)) st) ->
   (O.kle (KF f d (arrOf st) (lo+n - 1)) (KF f d (arrOf st) (lo+n))->R (.yield (none,n+1)) st)->wpS (model prog w) A E s (b x (none,n)) R st)
  (hs:L4 f d lo (arrOf st) a)
  (h:∀ n,a<=n->n<=nrem->L4 f d lo (arrOf st) n->(n=nrem\/O.klt (KF f d (arrOf st) (lo+n)) (KF f d (arrOf st) (lo+n - 1)))->Q (none,n) st) :
  wpS (model prog w) A E s (forIn [a:nrem] (none,a) b) Q st:=by
 refine wpS_forRange (I:=fun x c st'=>st'=st/\c=(none,x)/\L4 f d lo (arrOf st) x) ?step ?fin ⟨rfl,rfl,hs⟩
 case fin =>
  rintro c st' ⟨rfl,rfl,hs'⟩
  rw[show max a nrem=nrem by omega]at hs' ⊢
  exact h nrem han (c7 _) hs' (.inl rfl)
 case step =>
  rintro x c st' hax hxn ⟨rfl,rfl,hs'⟩
  refine hb x x _ (by omega) hxn (fun q=>h x hax (by omega) hs' (.inr q)) (fun q=>⟨rfl,rfl,fun i j hij hj=>?_⟩)
  by_cases hjx:j<x
  ·exact hs' i j hij hjx
  ·have hj':j=x:=by omega
   subst hj'
   by_cases hi':i=j
   ·subst hi';exact KeyOrd.kle_refl _
   ·refine KeyOrd.kle_trans (hs' i (j - 1) (by omega) (by omega)) ?_
    rw[show lo+(j - 1)=lo+j - 1 by omega]
    exact q
theorem ba4 {st:SortSt} {lo n nrem:Nat} {Q:Option (Option Nat) × Nat × Nat->SortSt->Prop} {b:Nat->Option (Option Nat) × Nat × Nat->StateT SortSt Sem (ForInStep (Option (Option Nat) × Nat × Nat))} (hn:lo+nrem<=a₀.size) (h1:1<=n) (hnn:n<=nrem) (hB:SI a₀ κ p st)
  (hb : ∀ y x neq st' (R : ForInStep (Option (Option Nat) × Nat × Nat) -> SortSt -> Prop), SI a₀ κ p st' -> 1 <= x -> x < nrem ->
   (O.klt (KF f d (arrOf st') (lo+x)) (KF f d (arrOf st') (lo+x - 1))->0<neq->R (.yield (none,x+1,0)) (setArr st' (mirror (arrOf st') (lo+x - (neq+1)) (lo+x) ((lo+x - (lo+x - (neq+1))) / 2)))) ->
   (O.klt (KF f d (arrOf st') (lo+x)) (KF f d (arrOf st') (lo+x - 1))->R (.yield (none,x+1,0)) st') ->
   (R (.done (none,x,neq)) st') ->
   (O.kle (KF f d (arrOf st') (lo+x - 1)) (KF f d (arrOf st') (lo+x))->O.kle (KF f d (arrOf st') (lo+x)) (KF f d (arrOf st') (lo+x - 1))->R (.yield (none,x+1,neq+1)) st')->wpS (model prog w) A E s (b y (none,x,neq)) R st')
  (hs:X0 f d lo (arrOf st) n)
  (h:∀ m neq st',SI a₀ κ p st'->Pre lo (arrOf st) (arrOf st')->n<=m->m<=nrem->X0 f d lo (arrOf st') m->neq+1<=m->(∀ i,m - (neq+1)<=i->i<m->KF f d (arrOf st') (lo+i)=KF f d (arrOf st') (lo+m - 1))->Q (none,m,neq) st') :
  wpS (model prog w) A E s (forIn [n:nrem] (none,n,0) b) Q st:=by
 refine wpS_forRange (I:=fun x c st'=>∃ neq,c=(none,x,neq)/\SI a₀ κ p st'/\Pre lo (arrOf st) (arrOf st')/\X0 f d lo (arrOf st') x/\neq+1<=x /\
   (∀ i,x - (neq+1)<=i->i<x->KF f d (arrOf st') (lo+i)=KF f d (arrOf st') (lo+x - 1))) ?step ?fin ⟨0,rfl,hB,Pre.rf _ _,hs,by omega,fun i h1 h2=>by congr 1;omega⟩
 case fin =>
  rintro c st' ⟨neq,rfl,hB',hp',hs',hq,he⟩
  rw[show max n nrem=nrem by omega]at hs' hq he ⊢
  exact h nrem neq st' hB' hp' hnn (c7 _) hs' hq he
 case step =>
  rintro x c st' hax hxn ⟨neq,rfl,hB',hp',hs',hq,he⟩
  have hsz:lo+x<=(arrOf st').size:=by rw[hB'.size];omega
  have step1:O.klt (KF f d (arrOf st') (lo+x)) (KF f d (arrOf st') (lo+x - 1))->∀ xs:Array Keyed,(∀ k,KF f d xs k=KF f d (arrOf st') k)->X0 f d lo xs (x+1):=by
   intro hless xs hk i j hij hj
   rw[hk,hk]
   by_cases hjx:j<x
   ·exact hs' i j hij hjx
   ·have hj':j=x:=by omega
    subst hj'
    by_cases hi':i=j
    ·subst hi';exact KeyOrd.kle_refl _
    ·refine KeyOrd.kle_trans (KeyOrd.kle_of_klt hless) ?_
     rw[show lo+j - 1=lo+(j - 1) by omega]
     exact hs' i (j - 1) (by omega) (by omega)
  have he':∀ k,lo+x - (neq+1)<=k->k<lo+x->KF f d (arrOf st') k=KF f d (arrOf st') (lo+x - 1):=fun k h1 h2=>by
   have:=he (k - lo) (by omega) (by omega)
   rw[show lo+(k - lo)=k by omega]at this
   exact this
  refine hb x x neq st' _ hB' (by omega) hxn (fun q hneq=>?_) (fun q=>?_) (h x neq st' hB' hp' hax (by omega) hs' hq he) (fun q q'=>?_)
  ·exact⟨0,rfl,hB'.setArr (mirror_perm _ _ _ _),hp'.trans (Pre.mirror hsz (by omega)),step1 q _ (G3 hsz he'),by omega,fun i h1 h2=>by congr 1;omega⟩
  ·exact⟨0,rfl,hB',hp',step1 q _ (fun _=>rfl),by omega,fun i h1 h2=>by congr 1;omega⟩
  ·have heqx:KF f d (arrOf st') (lo+x)=KF f d (arrOf st') (lo+x - 1):=KeyOrd.kle_antisymm q' q
   refine⟨neq+1,rfl,hB',hp',fun i j hij hj=>?_,by omega,fun i h1 h2=>?_⟩
   ·by_cases hjx:j<x
    ·exact hs' i j hij hjx
    ·have hj':j=x:=by omega
     subst hj'
     by_cases hi':i=j
     ·subst hi';exact KeyOrd.kle_refl _
     ·rw[heqx,show lo+j - 1=lo+(j - 1) by omega];exact hs' i (j - 1) (by omega) (by omega)
   ·rw[show lo+(x+1) - 1=lo+x by omega]
    by_cases hix:i=x
    ·subst hix;rfl
    ·rw[heqx];exact he i (by omega) (by omega)
theorem wpS_countRun (C:bu6 prog w A E s κ a₀ f) {st:SortSt} {lo nrem:Nat} {Q:Option Nat->SortSt->Prop} (d:O.α) (hn:lo+nrem<=a₀.size) (h1:1<=nrem) (hB:SI a₀ κ p st)
    (h:∀ m st',SI a₀ κ p st'->Pre lo (arrOf st) (arrOf st')->1<=m->m<=nrem->L4 f d lo (arrOf st') m->Q (some m) st') :
    wpS (model prog w) A E s (countRun' lo nrem) Q st:=by
  rw[countRun'_eq]
  dsimp only
  refine wpS_bind (aP2 (f:=f) (d:=d) (lo:=lo) (c7 1) h1 (fun x n R hn1 hn2 q1 q2=>?_) (fun i j hij hj=>by have:i=j:=(by omega);subst this;exact KeyOrd.kle_refl _) fun n hn1 hn2 hsn hor=>?_)
  · dsimp only
    refine wpS_bind (V4 (d:=d) C hB (by omega) (by omega) ?_)
    cases e:O.blt (KF f d (arrOf st) (lo+n)) (KF f d (arrOf st) (lo+n - 1)) with
    | true=>exact wpS_pure (q1 e)
    | false=>exact wpS_pure (q2 e)
  dsimp only
  by_cases hnn:n=nrem
  · rw[if_pos (by simpa using hnn)]
    exact wpS_pure (h n st hB (Pre.rf _ _) hn1 hn2 hsn)
  rw[if_neg (by simpa using hnn)]
  have hlt:=hor.resolve_left hnn
  by_cases hrose:1<n/\O.blt (KF f d (arrOf st) lo) (KF f d (arrOf st) (lo+n - 1))=true
  · rw[if_pos hrose.1]
    refine wpS_bind (V4 (d:=d) C hB (by omega) (by omega) ?_)
    rw[hrose.2]
    exact wpS_pure (h n st hB (Pre.rf _ _) hn1 hn2 hsn)
  have hfell:1<n->O.blt (KF f d (arrOf st) lo) (KF f d (arrOf st) (lo+n - 1))=false:=fun hgt=>by
    cases e:O.blt (KF f d (arrOf st) lo) (KF f d (arrOf st) (lo+n - 1)) with
    | false=>rfl
    | true=>exact absurd ⟨hgt,e⟩ hrose
  have fall:∃ st2,SI a₀ κ p st2/\Pre lo (arrOf st) (arrOf st2)/\X0 f d lo (arrOf st2) (n+1)/\(n > 1->st2=setArr st (mirror (arrOf st) lo (lo+n) ((lo+n - lo) / 2)))/\(¬ n > 1->st2=st):=by
    by_cases hgt:1<n
    · have hfell:=hfell hgt
      have hsz:lo+n<=(arrOf st).size:=by rw[hB.size];omega
      have hall:∀ k,lo<=k->k<lo+n->KF f d (arrOf st) k=KF f d (arrOf st) (lo+n - 1):=by
        intro k hk0 hk
        have a1:=hsn 0 (k - lo) (by omega) (by omega)
        have a2:=hsn (k - lo) (n - 1) (by omega) (by omega)
        rw[show lo+0=lo by omega,show lo+(k - lo)=k by omega]at a1
        rw[show lo+(k - lo)=k by omega,show lo+(n - 1)=lo+n - 1 by omega]at a2
        exact KeyOrd.kle_antisymm a2 (KeyOrd.kle_trans hfell a1)
      refine⟨_,hB.setArr (mirror_perm _ _ _ _),Pre.mirror hsz (c7 _),?_,fun _=>rfl,fun e=>by omega⟩
      intro i j hij hj
      show O.kle (KF f d (mirror (arrOf st) _ _ _) (lo+j)) (KF f d (mirror (arrOf st) _ _ _) (lo+i))
      rw[G3 hsz hall,G3 hsz hall]
      by_cases hjn:j<n
      · rw[hall (lo+i) (by omega) (by omega),hall (lo+j) (by omega) (by omega)];exact KeyOrd.kle_refl _
      · have hj':j=n:=by omega
        subst hj'
        by_cases hi':i=j
        · subst hi';exact KeyOrd.kle_refl _
        · rw[hall (lo+i) (by omega) (by omega)];exact KeyOrd.kle_of_klt hlt
    · have hn1':n=1:=by omega
      subst hn1'
      refine⟨st,hB,Pre.rf _ _,?_,fun q=>by omega,fun _=>rfl⟩
      intro i j hij hj
      by_cases hi':i=j
      · subst hi';exact KeyOrd.kle_refl _
      · have hi0:i=0:=by omega
        have hj1:j=1:=by omega
        subst hi0;subst hj1
        rw[show lo+0=lo+1 - 1 by omega]
        exact KeyOrd.kle_of_klt hlt
  obtain⟨st2,hB2,hp2,hs2,e2,e3⟩:=fall
  by_cases hgt:n > 1
  all_goals first
    | (rw [if_pos hgt]
       refine wpS_bind (V4 (d:=d) C hB (by omega) (by omega) ?_)
       rw[hfell hgt]
       dsimp only
       rw[if_neg f6]
       refine wpS_bind (wpS_reverse ?_)
       rw[<- e2 hgt])
    | (rw [if_neg hgt]
       have e3:=e3 hgt
       rw[<- e3])
  all_goals
    clear e2 e3
    refine wpS_bind (aD0 ?_)
    refine wpS_bind (ba4 (f:=f) (d:=d) (lo:=lo) hn (by omega) (by omega) hB2 (fun y x neq st' R hB' x1 x2 q1 q2 q3 q4=>?_) hs2 fun m neq st' hB' hp' hm1 hm2 hs' hq he=>?_)
    · dsimp only
      refine wpS_bind (V4 (d:=d) C hB' (by omega) (by omega) ?_)
      cases e:O.blt (KF f d (arrOf st') (lo+x)) (KF f d (arrOf st') (lo+x - 1)) with
      | true =>
        dsimp only
        rw[if_pos rfl]
        split
        · rename_i hz
          exact wpS_bind (wpS_reverse (wpS_pure (q1 e hz)))
        · exact wpS_pure (q2 e)
      | false =>
        dsimp only
        rw[if_neg f6]
        refine wpS_bind (V4 (d:=d) C hB' (by omega) (by omega) ?_)
        cases e':O.blt (KF f d (arrOf st') (lo+x - 1)) (KF f d (arrOf st') (lo+x)) with
        | true=>exact wpS_pure q3
        | false=>exact wpS_pure (q4 e e')
    · dsimp only
      have hsz:lo+m<=(arrOf st').size:=by rw[hB'.size];omega
      have he':∀ k,lo+m - (neq+1)<=k->k<lo+m->KF f d (arrOf st') k=KF f d (arrOf st') (lo+m - 1):=fun k h1 h2=>by
        have:=he (k - lo) (by omega) (by omega)
        rw[show lo+(k - lo)=k by omega]at this
        exact this
      have tailOk:∀ st3,SI a₀ κ p st3->Pre lo (arrOf st) (arrOf st3)->X0 f d lo (arrOf st3) m->SI a₀ κ p (setArr st3 (mirror (arrOf st3) lo (lo+m) ((lo+m - lo) / 2)))/\Pre lo (arrOf st) (mirror (arrOf st3) lo (lo+m) ((lo+m - lo) / 2))/\L4 f d lo (mirror (arrOf st3) lo (lo+m) ((lo+m - lo) / 2)) m:=fun st3 hB3 hp3 hs3=>by
        have hsz3:lo+m<=(arrOf st3).size:=by rw[hB3.size];omega
        refine⟨hB3.setArr (mirror_perm _ _ _ _),hp3.trans (Pre.mirror hsz3 (c7 _)),fun i j hij hj=>?_⟩
        rw[aj5 hsz3,aj5 hsz3,if_pos (by omega),if_pos (by omega),show lo+(lo+m) - 1 - (lo+i)=lo+(m - 1 - i) by omega,show lo+(lo+m) - 1 - (lo+j)=lo+(m - 1 - j) by omega]
        exact hs3 _ _ (by omega) (by omega)
      have mm:X0 f d lo (mirror (arrOf st') (lo+m - (neq+1)) (lo+m) ((lo+m - (lo+m - (neq+1))) / 2)) m:=fun i j hij hj=>by
        rw[G3 hsz he',G3 hsz he']
        exact hs' i j hij hj
      by_cases hneq:neq > 0
      all_goals first
        | (rw [if_pos hneq]
           refine wpS_bind (wpS_reverse (wpS_bind (wpS_reverse ?_)))
           obtain⟨hB4,hp4,hs4⟩:=tailOk (setArr st' (mirror (arrOf st') (lo+m - (neq+1)) (lo+m) ((lo+m - (lo+m - (neq+1))) / 2))) (hB'.setArr (mirror_perm _ _ _ _)) ((hp2.trans hp').trans (Pre.mirror hsz (by omega))) mm)
        | (rw [if_neg hneq]
           refine wpS_bind (wpS_reverse ?_)
           obtain⟨hB4,hp4,hs4⟩:=tailOk st' hB' (hp2.trans hp') hs')
      all_goals
        refine wpS_bind (aP2 (f:=f) (d:=d) (lo:=lo) (by omega) hm2 (fun x n R hn1 hn2 q1 q2=>?_) hs4 fun n' hn1' hn2' hsn' _=>wpS_pure (h n' _ hB4 hp4 (by omega) hn2' hsn'))
        dsimp only
        refine wpS_bind (V4 (d:=d) C hB4 (by omega) (by omega) ?_)
        revert q1 q2
        generalize KF f d (arrOf _) (lo+n)=u
        generalize KF f d (arrOf _) (lo+n - 1)=v
        intro q1 q2
        cases e:O.blt u v with
        | true=>exact wpS_pure (q1 e)
        | false=>exact wpS_pure (q2 e)
theorem al9 (C:bu6 prog w A E s κ a₀ f) {st:SortSt} {lo n ok:Nat} {Q:Bool->SortSt->Prop} (d:O.α) (hn:lo+n<=a₀.size) (hok:ok<=n) (hB:SI a₀ κ p st) (hs:L4 f d lo (arrOf st) ok)
  (h:∀ st',SI a₀ κ p st'->Pre lo (arrOf st) (arrOf st')->L4 f d lo (arrOf st') n->Q true st'):wpS (model prog w) A E s (binarySort' lo n ok) Q st:=by
 rw[binarySort'_eq]
 refine wpS_bind (wpS_mono (wpS_forRange (I:=fun k c st'=>c=(none,())/\SI a₀ κ p st'/\Pre lo (arrOf st) (arrOf st')/\L4 f d lo (arrOf st') (min k n))
  (Q:=fun c st'=>c=(none,())/\SI a₀ κ p st'/\Pre lo (arrOf st) (arrOf st')/\L4 f d lo (arrOf st') n) ?step ?fin ?init) ?post)
 case post =>
  rintro c st' ⟨rfl,hB',hp',hs'⟩
  exact wpS_pure (h st' hB' hp' hs')
 case init =>
  refine⟨rfl,hB,Pre.rf _ _,fun i j hij hj=>?_⟩
  by_cases h1:ok=0
  ·have:i=j:=by omega
   subst this;exact KeyOrd.kle_refl _
  ·exact hs i j hij (by omega)
 case fin =>
  rintro c st' ⟨hc,hB',hp',hs'⟩
  refine⟨hc,hB',hp',?_⟩
  rwa [show min (max (max ok 1) n) n=n by omega]at hs'
 case step =>
  rintro k c st' hak hkn ⟨rfl,hB',hp',hs'⟩
  rw[show min k n=k by omega]at hs'
  have hk:lo+k<a₀.size:=by omega
  refine wpS_bind (wpS_mono (wpS_forRange (I:=fun x c st''=>st''=st'/\∃ l r,c=(none,l,r)/\l<=r/\r<=k/\r - l<=k - x /\
    (∀ i,i<l->O.kle (KF f d (arrOf st') (lo+i)) (KF f d (arrOf st') (lo+k)))/\(∀ i,r<=i->i<k->O.klt (KF f d (arrOf st') (lo+k)) (KF f d (arrOf st') (lo+i))))
   (Q := fun c st'' => st'' = st' /\ ∃ l r, c = (none, l, r) /\ l <= k /\
    (∀ i,i<l->O.kle (KF f d (arrOf st') (lo+i)) (KF f d (arrOf st') (lo+k)))/\(∀ i,l<=i->i<k->O.klt (KF f d (arrOf st') (lo+k)) (KF f d (arrOf st') (lo+i)))) ?istep ?ifin ?iinit) ?ipost)
  case iinit=>exact⟨rfl,0,k,rfl,by omega,by omega,by omega,fun i hi=>by omega,fun i h1 h2=>by omega⟩
  case ifin =>
   rintro c st'' ⟨rfl,l,r,rfl,hlr,hrk,hm,hlo,hhi⟩
   have:l=r:=by omega
   subst this
   exact⟨rfl,l,l,rfl,hrk,hlo,hhi⟩
  case istep =>
   rintro x c st'' _ hxk ⟨rfl,l,r,rfl,hlr,hrk,hm,hlo,hhi⟩
   dsimp only
   by_cases hge:l≥r
   ·rw[if_pos hge]
    have:l=r:=by omega
    subst this
    exact wpS_pure ⟨rfl,l,l,rfl,hrk,hlo,hhi⟩
   ·rw[if_neg hge]
    refine wpS_bind (V4 (d:=d) C hB' hk (by omega) ?_)
    cases hless:O.blt (KF f d (arrOf st'') (lo+k)) (KF f d (arrOf st'') (lo+(l+r) / 2))
    case true =>
     simp only[if_true]
     refine wpS_pure ⟨rfl,l,(l+r) / 2,rfl,by omega,by omega,by omega,hlo,fun i h1 h2=>?_⟩
     exact KeyOrd.klt_of_klt_of_kle hless (hs' _ _ h1 h2)
    case false =>
     simp only[j8,if_false]
     refine wpS_pure ⟨rfl,(l+r) / 2+1,r,rfl,by omega,by omega,by omega,fun i h1=>?_,hhi⟩
     exact KeyOrd.kle_trans (hs' i ((l+r) / 2) (by omega) (by omega)) (show O.kle _ _ from hless)
  case ipost =>
   rintro c st'' ⟨rfl,l,r,rfl,hlk,hlo,hhi⟩
   show wpS _ _ _ _ (do moveDown' (lo+k) (lo+l);pure (ForInStep.yield (none,()))) _ _
   rw[moveDown'_eq]
   have hks:lo+k<(arrOf st'').size:=by rw[hB'.size];exact hk
   refine wpS_bind (wpS_modify (wpS_pure ⟨rfl,hB'.setArr (bubble_perm _ _ _),hp'.trans (Pre.bubble hks (by omega) (by omega)),?_⟩))
   rw[show min (k+1) n=k+1 by omega]
   intro i j hij hj
   show O.kle (KF f d (bubble (arrOf st'') (lo+k) (lo+k - (lo+l))) (lo+i)) (KF f d (bubble (arrOf st'') (lo+k) (lo+k - (lo+l))) (lo+j))
   rw[az0 hks (by omega),az0 hks (by omega),show lo+k - (lo+k - (lo+l))=lo+l by omega]
   have e1:∀ t:Nat,0<t->lo+t - 1=lo+(t - 1):=fun t ht=>by omega
   repeat' split
   all_goals first
    | (exfalso;omega)
    | exact KeyOrd.kle_refl _
    | exact hlo _ (by omega)
    | (rw[e1 _ (by omega)];exact KeyOrd.kle_of_klt (hhi _ (by omega) (by omega)))
    | exact KeyOrd.kle_of_klt (hhi _ (by omega) (by omega))
    | exact hs' _ _ (by omega) (by omega)
    | (rw[e1 _ (by omega)];exact hs' _ _ (by omega) (by omega))
    | (rw[e1 _ (by omega),e1 _ (by omega)];exact hs' _ _ (by omega) (by omega))
end
def shape (ps:List (Nat × Nat × Nat)):List (Nat × Nat):=ps.map fun x=>(x.1,x.2.1)
def bL6:Nat->List (List Keyed)->List (Nat × Nat)
 | _,[]=>[]
 | k,r::rs=>(k,r.length)::bL6 (k+r.length) rs
structure SR (a₀:Array Keyed) (κ:SortKind) (B:Keyed->Keyed->Bool) (runs:List (List Keyed)) (suf:List Keyed) (st:SortSt):Prop where
 perm:(arrOf st).Perm a₀
 kind:kindOf st=κ
 failed:failedOf st=none
 sh:shape (pendingOf st).toList=bL6 0 runs
 ok:∀ r∈runs,r≠[]/\r.Pairwise (le B)
 arr:(arrOf st).toList=runs.flatten++suf
section
variable {prog:Program} {w:World} {A:Around} {E:Value->Shared->Prop} {s:Shared} {κ:SortKind} {a₀:Array Keyed} {B:Keyed->Keyed->Bool}
end
section
variable {prog:Program} {w:World} {A:Around} {E:Value->Shared->Prop} {s:Shared} {κ:SortKind} {a₀:Array Keyed} {O:KeyOrd} {f:Keyed->O.α}
theorem bA5 {d:O.α}{xs:Array Keyed}{lo n:Nat}(hs:L4 f d lo xs n)(hn:lo+n<=xs.size):((xs.toList.drop lo).take n).Pairwise (le (Bf f))/\((xs.toList.drop lo).take n).length=n:=by
 refine⟨x5.mpr fun i j hi hj hij=>?_,by rw[q8,K1,o4];omega⟩
 have hjn:j<n:=by rw[q8]at hj;omega
 have gi:∀ k,(hk:k<n)->(xs.toList.drop lo)[k]?=some (xs[lo+k]'(by omega)):=fun k hk=>by
  rw[bx7,o5]
  exact getElem?_pos xs _ _
 have e1:((xs.toList.drop lo).take n)[i]=xs[lo+i]'(by omega):=by
  have:=gi i (by omega)
  rw[<- aa3 (show i<n by omega),c8 hi]at this
  exact Option.some.inj this
 have e2:((xs.toList.drop lo).take n)[j]=xs[lo+j]'(by omega):=by
  have:=gi j hjn
  rw[<- aa3 hjn,c8 hj]at this
  exact Option.some.inj this
 rw[e1,e2]
 have:=hs i j (S3 hij) hjn
 rw[ao2 (getElem?_pos xs (lo+i) (by omega)),ao2 (getElem?_pos xs (lo+j) (by omega))]at this
 exact this
end
end Tim
namespace Tim
open PySem PyProof.Rows PySem.W
def D0:List Int->List Int->Bool
 | [],[]=>false
 | [],_::_=>true
 | _::_,[]=>false
 | a::x,b::y=>if a=b then D0 x y else decide (a<b)
theorem ar0:∀ x,D0 x x=false
 | []=>rfl
 | a::x=>by unfold D0;rw[if_pos rfl];exact ar0 x
theorem aA6:∀ x y z,D0 x y=true->D0 y z=true->D0 x z=true
 | [],[],z,h,_=>by cases h
 | [],_::_,[],_,h=>by cases h
 | [],_::_,_::_,_,_=>rfl
 | _::_,[],z,h,_=>by cases h
 | _::_,_::_,[],_,h=>by cases h
 | a::x,b::y,c::z,h1,h2=>by
  unfold D0 at h1 h2 ⊢
  by_cases e1:a=b
  ·subst e1
   rw[if_pos rfl]at h1
   by_cases e2:a=c
   ·rw[if_pos e2]at h2 ⊢
    exact aA6 x y z h1 h2
   ·rw[if_neg e2]at h2 ⊢
    exact h2
  ·rw[if_neg e1,decide_eq_true_eq]at h1
   by_cases e2:b=c
   ·subst e2
    rw[if_neg e1,decide_eq_true_eq]
    exact h1
   ·rw[if_neg e2,decide_eq_true_eq]at h2
    rw[if_neg (by omega),decide_eq_true_eq]
    omega
theorem aq9:∀ x y,D0 x y=false->D0 y x=false->x=y
 | [],[],_,_=>rfl
 | [],_::_,h,_=>by cases h
 | _::_,[],_,h=>by cases h
 | a::x,b::y,h1,h2=>by
  unfold D0 at h1 h2
  by_cases e:a=b
  ·subst e
   rw[if_pos rfl]at h1 h2
   rw[aq9 x y h1 h2]
  ·rw[if_neg e,decide_eq_false_iff_not]at h1
   rw[if_neg (Ne.symm e),decide_eq_false_iff_not]at h2
   omega
theorem br8 (x y z:List Int)(h:D0 x z=true):D0 x y=true\/D0 y z=true:=by
 cases e1:D0 x y with
 | true=>exact .inl rfl
 | false =>
  cases e2:D0 y x with
  | true=>exact .inr (aA6 _ _ _ e2 h)
  | false=>rw[aq9 x y e1 e2]at h;exact .inr h
def aN2:KeyOrd:=⟨List Int,D0,ar0,aA6,br8,aq9⟩
section
variable {prog:Program} {w:World}
def IsK (prog:Program)(w:World)(h:Heap)(k:List Int)(v:Value):Prop:=∃ a,v=.ref a/\IsTupleKey (intKind prog w) h k a
theorem IsK.inj {h:Heap}{k k':List Int}{v:Value}(x:IsK prog w h k v)(y:IsK prog w h k' v):k=k':=by
 obtain⟨a,rfl,h1⟩:=x
 obtain⟨b,e,h2⟩:=y
 cases e
 exact h1.inj h2
open Classical in
noncomputable def N8 (prog:Program)(w:World)(h:Heap)(v:Value):List Int:=if q:∃ k,IsK prog w h k v then Classical.choose q else []
theorem N1 {h:Heap}{k:List Int}{v:Value}(x:IsK prog w h k v):N8 prog w h v=k:=by
 unfold N8
 rw[dif_pos ⟨k,x⟩]
 exact(Classical.choose_spec (⟨k,x⟩:∃ k,IsK prog w h k v)).inj x
theorem IsK.up {h h':Heap}{k:List Int}{v:Value}(x:IsK prog w h k v)(hs:∀ b o,h.get? b=some o->h'.get? b=some o):IsK prog w h' k v:=by
 obtain⟨a,e,o,items,n,h2,h3⟩:=x
 exact⟨a,e,o,items,n,hs a o h2,h3⟩
variable {A:Around} {E:Value->Shared->Prop} {s:Shared}
theorem aw5 {b:Bool}{Q:Bool->Shared->Prop}(hb:b=true):∀ (x y:List Int) (vs us:List Value) (i:Nat) (fin:Bool),ItemsAre (intKind prog w) x vs->ItemsAre (intKind prog w) y us->(x.length<y.length↔fin=true)->Q (D0 x y) s->KatLex prog w A b fin Q (vs.zip us) i s
 | [],[],_,_,i,fin,.nil,.nil,hf,h=>by
  have:fin=false:=by cases fin with | false=>rfl | true=>exact absurd (hf.mpr rfl) (by simp)
  subst this
  exact kat_nil h
 | [],_::_,_,_,i,fin,.nil,.cons _ _,hf,h=>by
  have:fin=true:=hf.mp (by simp)
  subst this
  exact kat_nil h
 | _::_,[],_,_,i,fin,.cons _ _,.nil,hf,h=>by
  have:fin=false:=by cases fin with | false=>rfl | true=>exact absurd (hf.mpr rfl) (by simp)
  subst this
  exact kat_nil h
 | a::x,c::y,_,_,i,fin,.cons h1 t1,.cons h2 t2,hf,h=>by
  obtain⟨t,rfl⟩:=Value.isInt_shape h1
  obtain⟨u,rfl⟩:=Value.isInt_shape h2
  rw[O8]
  refine kat_cons (wpAny_eqBool_int ?_)
  unfold D0 at h
  by_cases e:a=c
  ·subst e
   rw[if_pos rfl]at h
   rw[show (a == a)=true by simp]
   exact kat_yes (aw5 hb x y _ _ (i+1) fin t1 t2 (by rw[<- hf];simp) h)
  ·rw[if_neg e]at h
   rw[show (a == c)=false by simpa using e]
   refine kat_no ?_
   cases hi:(b && i == 0) with
   | true=>exact oneLt_int h
   | false=>exact kat_one _ _ (lt_int h)
theorem aH2 {x y:Value}{k k':List Int}{Q:Bool->Shared->Prop}(hx:IsK prog w s.heap k x)(hy:IsK prog w s.heap k' y)(h:Q (D0 k k') s):wpAny (model prog w) A (keyLt' (tuples' true) x y) Q E s:=by
 obtain⟨a,rfl,o,xs,n,ho,hc,hd,hi⟩:=hx
 obtain⟨b,rfl,o',ys,n',ho',hc',hd',hi'⟩:=hy
 refine kat_lt ho hd ho' hd' (aw5 rfl k k' _ _ 0 _ hi hi' ?_ h)
 have e1:k.length=xs.size:=by have:=hi.length;simpa using this
 have e2:k'.length=ys.size:=by have:=hi'.length;simpa using this
 rw[e1,e2]
 simp
theorem ar2 {vs:List Value}{Q:SortKind->Shared->Prop}(hne:0<vs.length)(hv:∀ v∈vs,∃ i k,IsK prog w s.heap (i::k) v)(h:Q (tuples' true) s):wpAny (model prog w) A (keyKind' vs.toArray) Q E s:=by
 have ex:∀ l:List Value,(∀ v∈l,∃ i k,IsK prog w s.heap (i::k) v)->∃ fs:List Value,KatTups s.heap l fs/\fs.length=l.length/\∀ v∈fs,∃ i t,v=.int i t:=fun l=>by
  induction l with
  | nil=>intro _;exact⟨[],KatTups.nil,rfl,(fun _ h=>nomatch h)⟩
  | cons v l ih =>
   intro hl
   obtain⟨i,k,a,rfl,o,xs,n,ho,hc,hd,hi⟩:=hl v d8
   obtain⟨fs,f1,f2,f3⟩:=ih fun v hv=>hl v (d5 _ hv)
   obtain⟨f,hf,t,rfl⟩:∃ f,xs[0]?=some f/\∃ t,f=.int i t:=by
    cases e:xs.toList with
    | nil=>rw[e]at hi;cases hi
    | cons f r =>
     rw[e]at hi
     cases hi with
     | cons h1 _ =>
      obtain⟨t,et⟩:=Value.isInt_shape h1
      exact⟨f,by rw[<- o5,e];rfl,t,et⟩
   refine⟨.int i t::fs,KatTups.cons ho hc hd hf f1,by rw[m9,f2,m9],fun v hv=>?_⟩
   rcases d3.mp hv with rfl | hv
   ·exact⟨i,t,rfl⟩
   ·exact f3 v hv
 obtain⟨fs,f1,f2,f3⟩:=ex vs hv
 refine kat_kind (T:=.type "int") f1 (by omega) (fun v hv=>?_) (by decide) ?_
 ·obtain⟨i,t,rfl⟩:=f3 v hv
  exact .now
 ·exact h
end
end Tim
namespace Sett
open PySem PySem.SetTable
theorem aB1 {P:Nat->Prop}(h:∃ n,P n):∃ n,P n/\∀ m,m<n->¬ P m:=by
 obtain⟨n,hn⟩:=h
 induction n using Nat.strongRecOn with
 | ind n ih =>
  by_cases q:∃ m,m<n/\P m
  ·obtain⟨m,hm,pm⟩:=q
   exact ih m hm pm
  ·exact⟨n,hn,fun m hm pm=>q ⟨m,hm,pm⟩⟩
def st (m i pt:Nat):Probe:={ j:=i,more:=runEnd m i - i,i:=i,perturb:=pt,dummy:=none }
def it (t:SetTable):Nat->Probe->Probe
 | 0,p=>p
 | n+1,p=>it t n (t.advance p)
theorem aB0 (t:SetTable):∀ (a b:Nat) (p:Probe),it t (a+b) p=it t b (it t a p)
 | 0,b,p=>by rw[X8];rfl
 | a+1,b,p=>by
  rw[show a+1+b=(a+b)+1 by omega]
  exact aB0 t a b (t.advance p)
theorem ab3 (t:SetTable)(n:Nat)(p:Probe):it t (n+1) p=t.advance (it t n p):=aB0 t n 1 p
theorem ah9 (m i:Nat):i<=runEnd m i/\runEnd m i<=i+9:=by unfold runEnd;split<;>omega
theorem aF1 {m i:Nat}(h:i<=m):runEnd m i<=m:=by unfold runEnd;split<;>omega
theorem aA8 (t:SetTable)(i pt:Nat):∀ k,k<=runEnd t.mask i - i->it t k (st t.mask i pt)={ j:=i+k,more:=runEnd t.mask i - i - k,i:=i,perturb:=pt,dummy:=none }
 | 0,_=>rfl
 | k+1,h=>by
  rw[ab3,aA8 t i pt k (by omega)]
  unfold advance
  dsimp only
  rw[if_pos (by omega)]
  simp only[Probe.mk.injEq,and_true,true_and]
  omega
theorem aA9 (t:SetTable)(i pt:Nat):it t (runEnd t.mask i - i+1) (st t.mask i pt)=st t.mask (leap t.mask i pt).1 (leap t.mask i pt).2:=by
 rw[ab3,aA8 t i pt _ (c7 _)]
 unfold advance
 dsimp only
 rw[if_neg (by omega)]
 rfl
def rn (m i pt:Nat):Nat->Nat × Nat
 | 0=>(i,pt)
 | r+1=>leap m (rn m i pt r).1 (rn m i pt r).2
theorem bw3 (m i pt:Nat):∀ r,(rn m i pt r).2=pt / 32 ^ r
 | 0=>by simp[rn]
 | r+1=>by
  show (rn m i pt r).2 / 32=_
  rw[bw3 m i pt r,ad7,aC7]
theorem bw4 (m i pt:Nat)(h:i<=m):∀ r,(rn m i pt r).1<=m
 | 0=>h
 | r+1=>ab6 (bH1 _ (X9 m))
theorem bw9 (t:SetTable)(i pt:Nat):∀ r,∃ n,n<=10*r/\it t n (st t.mask i pt)=st t.mask (rn t.mask i pt r).1 (rn t.mask i pt r).2
 | 0=>⟨0,c7 _,rfl⟩
 | r+1=>by
  obtain⟨n,hn,e⟩:=bw9 t i pt r
  have h9:=ah9 t.mask (rn t.mask i pt r).1
  refine⟨n+(runEnd t.mask (rn t.mask i pt r).1 - (rn t.mask i pt r).1+1),by omega,?_⟩
  rw[aB0,e,aA9]
  rfl
def f5 (m i:Nat):Nat:=(i*5+1) % (m+1)
def orb (m:Nat):Nat->Nat->List Nat
 | 0,_=>[]
 | k+1,i=>i::orb m k (f5 m i)
def Full (m:Nat):Prop:=∀ b,b<=m->∀ a,a<=m->∃ n,n<=m/\Nat.repeat (f5 m) n a=b
def chk (m:Nat):Bool:=(orb m (m+1) 0).foldl (fun acc i=>acc ||| 2 ^ i) 0 == 2 ^ (m+1) - 1
theorem aJ4:∀ (l:List Nat) (acc b:Nat),(l.foldl (fun acc i=>acc ||| 2 ^ i) acc).testBit b=true->acc.testBit b=true\/b∈l
 | [],acc,b,h=>.inl h
 | i::l,acc,b,h=>by
  rcases aJ4 l _ b h with q | q
  ·rw[Nat.testBit_or,Bool.or_eq_true]at q
   rcases q with q | q
   ·exact .inl q
   ·rw[bx8]at q
    exact .inr (by rw[of_decide_eq_true q];exact d8)
  ·exact .inr (d5 _ q)
theorem ae5 (f:Nat->Nat)(a:Nat):∀ n k,Nat.repeat f (n+k) a=Nat.repeat f k (Nat.repeat f n a)
 | n,0=>rfl
 | n,k+1=>by
  show f (Nat.repeat f (n+k) a)=f (Nat.repeat f k (Nat.repeat f n a))
  rw[ae5 f a n k]
theorem aR7 (m:Nat):∀ k i x,x∈orb m k i->∃ n,n<k/\Nat.repeat (f5 m) n i=x
 | 0,i,x,h=>by cases h
 | k+1,i,x,h=>by
  rcases d3.mp h with rfl | h
  ·exact⟨0,X9 _,rfl⟩
  ·obtain⟨n,hn,e⟩:=aR7 m k (f5 m i) x h
   refine⟨n+1,by omega,?_⟩
   rw[Nat.add_comm n 1,ae5]
   exact e
theorem an7 {m:Nat}(hc:chk m=true)(hz:Nat.repeat (f5 m) (m+1) 0=0):Full m:=by
 intro b hb a ha
 unfold chk at hc
 have hc:=eq_of_beq hc
 have get:∀ x,x<=m->∃ n,n<m+1/\Nat.repeat (f5 m) n 0=x:=fun x hx=>by
  have hb:(2 ^ (m+1) - 1).testBit x=true:=by rw[Nat.testBit_two_pow_sub_one];exact decide_eq_true (by omega)
  rw[<- hc]at hb
  rcases aJ4 _ _ _ hb with q | q
  ·simp at q
  ·exact aR7 m (m+1) 0 x q
 obtain⟨p,hp,ep⟩:=get a ha
 obtain⟨q,hq,eq⟩:=get b hb
 by_cases h:p<=q
 ·refine⟨q - p,by omega,?_⟩
  rw[<- ep,<- ae5,show p+(q - p)=q by omega,eq]
 ·refine⟨m+1 - p+q,by omega,?_⟩
  rw[<- ep,<- ae5,show p+(m+1 - p+q)=(m+1)+q by omega,ae5,hz,eq]
def Good (m:Nat):Prop:=m=7\/m=31\/m=127\/m=511
set_option maxRecDepth 100000 in
theorem Good.full {m:Nat}(h:Good m):Full m:=by
 rcases h with rfl | rfl | rfl | rfl
 ·exact an7 (by decide +kernel) (by decide +kernel)
 ·exact an7 (by decide +kernel) (by decide +kernel)
 ·exact an7 (by decide +kernel) (by decide +kernel)
 ·exact an7 (by decide +kernel) (by decide +kernel)
theorem aQ9 (m i pt:Nat)(hp:pt<2 ^ 64):∀ k,(rn m i pt (13+k)).1=Nat.repeat (f5 m) k (rn m i pt 13).1
 | 0=>rfl
 | k+1=>by
  show (leap m (rn m i pt (13+k)).1 (rn m i pt (13+k)).2).1=f5 m (Nat.repeat (f5 m) k (rn m i pt 13).1)
  rw[<- aQ9 m i pt hp k]
  unfold leap f5
  have:(rn m i pt (13+k)).2 / 32=0:=by
   rw[bw3,Nat.pow_add,<- ad7]
   have:pt / 32 ^ 13=0:=Nat.div_eq_of_lt (bl6 hp (by decide))
   rw[this]
   simp
  dsimp only
  rw[this,Nat.add_zero]
theorem aR0 {m i pt b:Nat}(g:Good m)(hi:i<=m)(hp:pt<2 ^ 64)(hb:b<=m):∃ r,r<turns m/\(rn m i pt r).1=b:=by
 obtain⟨n,hn,e⟩:=g.full b hb (rn m i pt 13).1 (bw4 m i pt hi 13)
 exact⟨13+n,by unfold turns;omega,by rw[aQ9 m i pt hp];exact e⟩
theorem bs5 (t:SetTable){i pt b:Nat}(g:Good t.mask)(hi:i<=t.mask)(hp:pt<2 ^ 64)(hb:b<=t.mask):∃ n,n<10*turns t.mask/\(it t n (st t.mask i pt)).j=b:=by
 obtain⟨r,hr,e⟩:=aR0 g hi hp hb
 obtain⟨n,hn,e'⟩:=bw9 t i pt r
 refine⟨n,by omega,?_⟩
 rw[e']
 exact e
theorem aH8 (t:SetTable):∀ (n:Nat) (p:Probe),(it t n p).dummy=p.dummy
 | 0,p=>rfl
 | n+1,p=>by
  show (it t n (t.advance p)).dummy=_
  rw[aH8 t n]
  unfold advance
  split<;>rfl
theorem aU4 (h:Int):bits h<2 ^ 64:=by
 unfold bits
 have h1:=ah3 h (show (2 ^ 64:Int)≠0 by decide)
 have h2:=bG4 h (show (0:Int)<2 ^ 64 by decide)
 omega
theorem Y5 (t:SetTable)(h:Int):t.probeStart h=st t.mask (bits h % (t.mask+1)) (bits h):=rfl
theorem an5 {t t':SetTable}(h:t'.mask=t.mask):∀ (n:Nat) (p:Probe),it t' n p=it t n p
 | 0,p=>rfl
 | n+1,p=>by
  show it t' n (t'.advance p)=it t n (t.advance p)
  have:t'.advance p=t.advance p:=by unfold advance;rw[h]
  rw[this,an5 h n]
def Asc (xs:Array Nat):Prop:=∀ (i j a b:Nat),i<j->xs[i]?=some a->xs[j]?=some b->a<b
theorem as7 {xs:Array Nat}(asc:Asc xs)(j:Nat):∀ (fuel lo hi:Nat),hi - lo<=fuel->lo<=hi->hi<=xs.size->(∀ i a,i<lo->xs[i]?=some a->a<j)->(∀ i a,hi<=i->xs[i]?=some a->j<=a) ->
  (below.go xs j fuel lo hi)<=xs.size/\(∀ i a,i<below.go xs j fuel lo hi->xs[i]?=some a->a<j)/\(∀ i a,below.go xs j fuel lo hi<=i->xs[i]?=some a->j<=a)
 | 0,lo,hi,h0,h1,h2,h3,h4=>by
  have:lo=hi:=by omega
  subst this
  exact⟨h2,h3,h4⟩
 | fuel+1,lo,hi,h0,h1,h2,h3,h4=>by
  unfold below.go
  by_cases hlt:lo<hi
  ·rw[if_pos hlt]
   dsimp only
   have hm:(lo+hi) / 2<xs.size:=by omega
   have hg:xs.getD ((lo+hi) / 2) j=xs[(lo+hi) / 2]:=by simp[bx9,hm]
   have hq:xs[(lo+hi) / 2]?=some xs[(lo+hi) / 2]:=getElem?_pos xs _ hm
   by_cases hc:xs.getD ((lo+hi) / 2) j<j
   ·rw[if_pos hc]
    refine as7 asc j fuel _ hi (by omega) (by omega) h2 (fun i a hi' e=>?_) h4
    rw[hg]at hc
    by_cases he:i=(lo+hi) / 2
    ·subst he;rw[hq]at e;cases e;exact hc
    ·have:=asc i _ a _ (by omega) e hq
     omega
   ·rw[if_neg hc]
    refine as7 asc j fuel lo _ (by omega) (by omega) (by omega) h3 (fun i a hi' e=>?_)
    rw[hg]at hc
    by_cases he:i=(lo+hi) / 2
    ·subst he;rw[hq]at e;cases e;omega
    ·have:=asc _ i _ a (by omega) hq e
     omega
  ·rw[if_neg hlt]
   have:lo=hi:=by omega
   subst this
   exact⟨h2,h3,h4⟩
theorem as6 {xs:Array Nat}(asc:Asc xs)(j:Nat):below xs j<=xs.size/\(∀ i a,i<below xs j->xs[i]?=some a->a<j)/\(∀ i a,below xs j<=i->xs[i]?=some a->j<=a):=
 as7 asc j xs.size 0 xs.size (by omega) (by omega) (c7 _) (fun i a h=>by omega) fun i a h e=>by
  have:=(getElem?_eq_some_iff.mp e).1
  omega
theorem below_at {xs:Array Nat}(asc:Asc xs){i j:Nat}(h:xs[i]?=some j):below xs j=i:=by
 obtain⟨h1,h2,h3⟩:=as6 asc j
 rcases G5 (below xs j) i with q | q | q
 ·exfalso
  have hlt:below xs j<xs.size:=bl6 q (getElem?_eq_some_iff.mp h).1
  have e:=getElem?_pos xs (below xs j) hlt
  have a1:=h3 (below xs j) _ (c7 _) e
  have a2:=asc _ _ _ _ q e h
  omega
 ·exact q
 ·have:=h2 i j q h
  omega
theorem ah7 {t:SetTable}(asc:Asc t.place){i j:Nat}(h:t.place[i]?=some j):t.slot j=.live i:=by
 unfold slot
 dsimp only
 rw[below_at asc h,h]
 simp
theorem aL7 {t:SetTable}(hd:t.dummies=#[]){j:Nat}(h:∀ i:Nat,t.place[i]?≠some j):t.slot j=.empty:=by
 unfold slot
 dsimp only
 rw[if_neg (by simpa using h _),if_neg (by rw[hd];simp[has])]
theorem aI0 {t:SetTable}{hashAt:Nat->Int}{h:Int}:∀ (n fuel:Nat) (p:Probe),n<fuel->(∀ k,k<n->∃ i,t.slot (it t k p).j=.live i/\hashAt i≠h)->t.slot (it t n p).j=.empty ->
  probe.go t hashAt h fuel p=some (.empty (it t n p).j (it t n p).dummy)
 | 0,fuel+1,p,_,_,he=>by
  unfold probe.go
  have he':t.slot p.j=.empty:=he
  rw[he']
  rfl
 | n+1,fuel+1,p,hl,hk,he=>by
  obtain⟨i,e,hne⟩:=hk 0 (X9 _)
  have e':t.slot p.j=.live i:=e
  unfold probe.go
  rw[e']
  dsimp only
  rw[if_neg (by simpa using hne)]
  exact aI0 n fuel (t.advance p) (by omega) (fun k hk'=>hk (k+1) (by omega)) he
theorem aT0 {t:SetTable}{hashAt:Nat->Int}{h:Int}{i:Nat}:∀ (n fuel:Nat) (p:Probe),n<fuel->(∀ k,k<n->∃ i,t.slot (it t k p).j=.live i/\hashAt i≠h)->t.slot (it t n p).j=.live i->hashAt i=h ->
  ∃ q,probe.go t hashAt h fuel p=some (.candidate (it t n p).j i q)
 | 0,fuel+1,p,_,_,he,hh=>by
  unfold probe.go
  have he':t.slot p.j=.live i:=he
  rw[he']
  dsimp only
  rw[if_pos (by simpa using hh)]
  exact⟨_,rfl⟩
 | n+1,fuel+1,p,hl,hk,he,hh=>by
  obtain⟨i',e,hne⟩:=hk 0 (X9 _)
  have e':t.slot p.j=.live i':=e
  unfold probe.go
  rw[e']
  dsimp only
  rw[if_neg (by simpa using hne)]
  exact aT0 n fuel (t.advance p) (by omega) (fun k hk'=>hk (k+1) (by omega)) he hh
abbrev En:=Int × Value
structure Tb (t:SetTable) (es:Array En):Prop where
 dum:t.dummies=#[]
 len:t.place.size=es.size
 asc:Asc t.place
 bnd:∀ (i j:Nat),t.place[i]?=some j->j<=t.mask
 good:Good t.mask
 nf:es.size*5<t.mask*3
 path:∀ (i:Nat) (e:En),es[i]?=some e->∃ n,n<10*turns t.mask/\t.place[i]?=some (it t n (t.probeStart e.1)).j/\∀ k,k<n->∃ i':Nat,t.place[i']?=some (it t k (t.probeStart e.1)).j
theorem bk4 {xs:Array Nat}(asc:Asc xs):∀ (i a:Nat),xs[i]?=some a->i<=a
 | 0,a,_=>o8 _
 | i+1,a,h=>by
  have hi:i+1<xs.size:=(getElem?_eq_some_iff.mp h).1
  have e:=getElem?_pos xs i (by omega)
  have h1:=bk4 asc i _ e
  have h2:=asc i (i+1) _ a (by omega) e h
  omega
theorem aY5 {xs:Array Nat}(asc:Asc xs){m:Nat}(h:xs.size<=m):∃ b,b<=m/\∀ i:Nat,xs[i]?≠some b:=by
 by_cases q:∃ i,i<xs.size/\xs[i]?≠some i
 ·obtain⟨i,⟨hi,hne⟩,hmin⟩:=aB1 q
  refine⟨i,by omega,fun k e=>?_⟩
  have hk:=bk4 asc k i e
  rcases au0 hk with hlt | rfl
  ·have ek:xs[k]?=some k:=Classical.byContradiction fun z=>hmin k hlt ⟨by omega,z⟩
   rw[ek]at e
   cases e
   omega
  ·exact hne e
 ·refine⟨xs.size,h,fun k e=>?_⟩
  have hk:k<xs.size:=(getElem?_eq_some_iff.mp e).1
  have ek:xs[k]?=some k:=Classical.byContradiction fun z=>q ⟨k,hk,z⟩
  rw[ek]at e
  cases e
  omega
theorem Tb.small {t:SetTable}{es:Array En}(T:Tb t es):es.size<=t.mask:=by
 have:=T.nf
 omega
theorem Tb.fits {t:SetTable}{es:Array En}(T:Tb t es):t.fits es.size=true:=by
 unfold SetTable.fits fill
 rw[T.dum,T.len]
 have:=T.small
 simp
 exact this
theorem Tb.odd {t:SetTable}{es:Array En}(T:Tb t es):t.gaveWay=false:=by
 unfold gaveWay
 rcases T.good with e | e | e | e<;>rw[e]<;>rfl
def hashOf (es:Array En)(i:Nat):Int:=(es[i]?.map (·.1)).getD 0
theorem S8 {es:Array En}{i:Nat}{e:En}(h:es[i]?=some e):hashOf es i=e.1:=by unfold hashOf;rw[h];rfl
theorem Y4 (t:SetTable)(h:Int):bits h % (t.mask+1)<=t.mask:=ab6 (bH1 _ (X9 _))
theorem Tb.absent {t:SetTable}{es:Array En}(T:Tb t es){h:Int}(hh:∀ e∈es.toList,e.1≠h):∃ n,n<10*turns t.mask/\(∀ i:Nat,t.place[i]?≠some (it t n (t.probeStart h)).j)/\(it t n (t.probeStart h)).j<=t.mask /\
  (∀ k,k<n->∃ i':Nat,t.place[i']?=some (it t k (t.probeStart h)).j)/\t.probe (hashOf es) h (t.probeStart h)=some (.empty (it t n (t.probeStart h)).j none):=by
 obtain⟨b,hb,hfree⟩:=aY5 T.asc (m:=t.mask) (by rw[T.len];exact T.small)
 obtain⟨n0,hn0,e0⟩:=bs5 t T.good (Y4 t h) (aU4 h) hb
 rw[<- Y5]at e0
 obtain⟨n,⟨hfr,hn,hle⟩,hmin⟩:=aB1 (P:=fun n=>(∀ i:Nat,t.place[i]?≠some (it t n (t.probeStart h)).j)/\n<=n0/\(it t n (t.probeStart h)).j<=t.mask) ⟨n0,by rw[e0];exact hfree,c7 _,by rw[e0];exact hb⟩
 have hocc:∀ k,k<n->∃ i':Nat,t.place[i']?=some (it t k (t.probeStart h)).j:=fun k hk=>Classical.byContradiction fun z=>by
  have hk':∀ i:Nat,t.place[i]?≠some (it t k (t.probeStart h)).j:=fun i e=>z ⟨i,e⟩
  by_cases hkm:(it t k (t.probeStart h)).j<=t.mask
  ·exact hmin k hk ⟨hk',by omega,hkm⟩
  ·-- every place on the way is a slot
   exact hkm (by
    clear z hk' hkm hmin hfr hle hn hk
    rw[Y5]
    induction k with
    | zero=>exact Y4 t h
    | succ k ih =>
     have key:∀ k,∃ r c,c<=runEnd t.mask (rn t.mask (bits h % (t.mask+1)) (bits h) r).1 - (rn t.mask (bits h % (t.mask+1)) (bits h) r).1 /\
       it t k (st t.mask (bits h % (t.mask+1)) (bits h))=it t c (st t.mask (rn t.mask (bits h % (t.mask+1)) (bits h) r).1 (rn t.mask (bits h % (t.mask+1)) (bits h) r).2):=fun k=>by
      induction k with
      | zero=>exact⟨0,0,o8 _,rfl⟩
      | succ k ih =>
       obtain⟨r,c,hc,e⟩:=ih
       rcases au0 hc with hlt | heq
       ·exact⟨r,c+1,hlt,by rw[ab3,e,<- ab3]⟩
       ·refine⟨r+1,0,o8 _,?_⟩
        rw[ab3,e,<- ab3,heq,aA9]
        rfl
     obtain⟨r,c,hc,e⟩:=key (k+1)
     rw[e,aA8 t _ _ c hc]
     have h1:=bw4 t.mask (bits h % (t.mask+1)) (bits h) (Y4 t h) r
     have h2:=aF1 h1
     have h3:=ah9 t.mask (rn t.mask (bits h % (t.mask+1)) (bits h) r).1
     show (rn t.mask (bits h % (t.mask+1)) (bits h) r).1+c<=t.mask
     omega)
 refine⟨n,by omega,hfr,hle,hocc,?_⟩
 unfold probe
 have:=aI0 (hashAt:=hashOf es) (h:=h) n (10*turns t.mask) (t.probeStart h) (by omega) (fun k hk=>?_) (aL7 T.dum hfr)
 ·rw[this,aH8]
  rfl
 ·obtain⟨i',e⟩:=hocc k hk
  refine⟨i',ah7 T.asc e,?_⟩
  have hi:i'<es.size:=by rw[<- T.len];exact(getElem?_eq_some_iff.mp e).1
  have e2:=getElem?_pos es i' hi
  rw[S8 e2]
  exact hh _ (by simp)
theorem Tb.present {t:SetTable}{es:Array En}(T:Tb t es){i:Nat}{e:En}(he:es[i]?=some e)(hu:∀ (k:Nat) (e':En),es[k]?=some e'->e'.1=e.1->k=i):∃ j q,t.probe (hashOf es) e.1 (t.probeStart e.1)=some (.candidate j i q):=by
 obtain⟨n,hn,hp,hocc⟩:=T.path i e he
 unfold probe
 obtain⟨m,⟨hm,i1,hi1,hs1⟩,hmin⟩:=aB1 (P:=fun m=>m<=n/\∃ i1:Nat,t.place[i1]?=some (it t m (t.probeStart e.1)).j/\hashOf es i1=e.1) ⟨n,c7 _,i,hp,S8 he⟩
 have hi2:i1<es.size:=by rw[<- T.len];exact(getElem?_eq_some_iff.mp hi1).1
 have e2:=getElem?_pos es i1 hi2
 rw[S8 e2]at hs1
 have hii:i1=i:=hu i1 _ e2 hs1
 subst hii
 obtain⟨q,hq⟩:=aT0 (hashAt:=hashOf es) (h:=e.1) (i:=i1) m (10*turns t.mask) (t.probeStart e.1) (by omega) (fun k hk=>by
  obtain⟨i',e3⟩:=hocc k (by omega)
  exact⟨i',ah7 T.asc e3,fun z=>hmin k hk ⟨by omega,i',e3,z⟩⟩) (ah7 T.asc hi1) (S8 he)
 exact⟨_,q,hq⟩
theorem get_ins {α:Type}{xs:Array α}{p:Nat}{x:α}(hp:p<=xs.size)(i:Nat):(insertAt xs p x)[i]?=if i<p then xs[i]? else if i=p then some x else xs[i - 1]?:=by
 unfold insertAt
 have e0:((xs.extract 0 p).push x).size=p+1:=by rw[aC9,O5];omega
 by_cases h1:i<p
 ·rw[if_pos h1,aK1 (by omega),Array.getElem?_push_lt (by rw[O5];omega)]
  rw[Array.getElem_extract]
  simp only[X8]
  exact(getElem?_pos xs i (by omega)).symm
 ·rw[if_neg h1]
  by_cases h2:i=p
  ·subst h2
   rw[if_pos rfl,aK1 (by omega)]
   have e1:(xs.extract 0 i).size=i:=by rw[O5];omega
   rw[Array.getElem?_push,e1,if_pos rfl]
  ·rw[if_neg h2,Array.getElem?_append_right (by omega),e0,Array.getElem?_extract]
   split
   ·congr 1;omega
   ·rw[getElem?_neg]
    omega
theorem ae1 {α:Type}{xs:Array α}{p:Nat}{x:α}(hp:p<=xs.size):(insertAt xs p x).size=xs.size+1:=by
 unfold insertAt
 rw[Array.size_append,aC9,O5,O5]
 omega
theorem br6 {α:Type}{xs:Array α}{p:Nat}{x:α}(hp:p<=xs.size)(y:α):y∈(insertAt xs p x).toList↔y=x\/y∈xs.toList:=by
 constructor
 ·intro h
  obtain⟨i,hi⟩:=r9.mp h
  rw[o5,get_ins hp]at hi
  split at hi
  ·exact .inr (i6 (by rw[o5];exact hi))
  ·split at hi
   ·cases hi;exact .inl rfl
   ·exact .inr (i6 (by rw[o5];exact hi))
 ·rintro(rfl | h)
  ·exact i6 (i:=p) (by rw[o5,get_ins hp,if_neg (u5 _),if_pos rfl])
  ·obtain⟨i,hi⟩:=r9.mp h
   rw[o5]at hi
   have hi':i<xs.size:=(getElem?_eq_some_iff.mp hi).1
   by_cases q:i<p
   ·exact i6 (i:=i) (by rw[o5,get_ins hp,if_pos q];exact hi)
   ·exact i6 (i:=i+1) (by rw[o5,get_ins hp,if_neg (by omega),if_neg (by omega)];simpa using hi)
structure Tb' (t:SetTable) (es:Array En):Prop where
 dum:t.dummies=#[]
 len:t.place.size=es.size
 asc:Asc t.place
 bnd:∀ (i j:Nat),t.place[i]?=some j->j<=t.mask
 good:Good t.mask
 fil:es.size<=t.mask
 path:∀ (i:Nat) (e:En),es[i]?=some e->∃ n,n<10*turns t.mask/\t.place[i]?=some (it t n (t.probeStart e.1)).j/\∀ k,k<n->∃ i':Nat,t.place[i']?=some (it t k (t.probeStart e.1)).j
theorem Tb'.full {t:SetTable}{es:Array En}(T:Tb' t es)(h:es.size*5<t.mask*3):Tb t es:=⟨T.dum,T.len,T.asc,T.bnd,T.good,h,T.path⟩
theorem Tb'.fits {t:SetTable}{es:Array En}(T:Tb' t es):t.fits es.size=true:=by
 unfold SetTable.fits fill
 rw[T.dum,T.len]
 have:=T.fil
 simp
 exact this
theorem Tb'.plain {t:SetTable}{es:Array En}(T:Tb' t es)(b:Bool):Tb' { t with plain:=b } es:=by
 have e:∀ n (p:Probe),it { t with plain:=b } n p=it t n p:=fun n p=>an5 (t:=t) (t':={ t with plain:=b }) rfl n p
 refine⟨T.dum,T.len,T.asc,T.bnd,T.good,T.fil,fun i x hx=>?_⟩
 obtain⟨n,h1,h2,h3⟩:=T.path i x hx
 exact⟨n,h1,by rw[e];exact h2,fun k hk=>by rw[e];exact h3 k hk⟩
theorem Tb.put {t:SetTable}{es:Array En}(T:Tb t es){h:Int}{x:Value}{n:Nat}(hn:n<10*turns t.mask)(hfr:∀ i:Nat,t.place[i]?≠some (it t n (t.probeStart h)).j)(hle:(it t n (t.probeStart h)).j<=t.mask)
  (hocc:∀ k,k<n->∃ i':Nat,t.place[i']?=some (it t k (t.probeStart h)).j) :
  (t.put (it t n (t.probeStart h)).j).2<=es.size/\Tb' (t.put (it t n (t.probeStart h)).j).1 (insertAt es (t.put (it t n (t.probeStart h)).j).2 (h,x)):=by
 generalize hj:(it t n (t.probeStart h)).j=j at *
 obtain⟨b1,b2,b3⟩:=as6 T.asc j
 have hp:(t.put j).2=below t.place j:=rfl
 have hd:has t.dummies j=false:=by rw[T.dum];simp[has]
 have ht:(t.put j).1={ t with place:=insertAt t.place (below t.place j) j }:=by
  unfold SetTable.put
  dsimp only
  rw[if_neg (by rw[hd];exact f6)]
 have hm:(t.put j).1.mask=t.mask:=by rw[ht]
 have hpl:(t.put j).1.place=insertAt t.place (below t.place j) j:=by rw[ht]
 have hsz:=T.nf
 have old:∀ (i a:Nat),t.place[i]?=some a->∃ i':Nat,(insertAt t.place (below t.place j) j)[i']?=some a:=fun i a e=>by
  by_cases q:i<below t.place j
  ·exact⟨i,by rw[get_ins b1,if_pos q];exact e⟩
  ·exact⟨i+1,by rw[get_ins b1,if_neg (by omega),if_neg (by omega)];simpa using e⟩
 have hit:∀ k (p:Probe),it (t.put j).1 k p=it t k p:=fun k p=>an5 hm k p
 have hst:∀ z:Int,(t.put j).1.probeStart z=t.probeStart z:=fun z=>by rw[Y5,Y5,hm]
 refine⟨by rw[hp,<- T.len];exact b1,?_⟩
 rw[hp]
 refine⟨by rw[ht];exact T.dum,by rw[hpl,ae1 b1,ae1 (by rw[<- T.len];exact b1),T.len],?_,?_,by rw[hm];exact T.good,?_,?_⟩
 ·rw[hpl]
  intro i k a c hik ea ec
  rw[get_ins b1]at ea ec
  split at ea
  ·rename_i hi
   split at ec
   ·exact T.asc i k a c hik ea ec
   ·split at ec
    ·cases ec;exact b2 i a hi ea
    ·exact T.asc i (k - 1) a c (by omega) ea ec
  ·split at ea
   ·rename_i hi1 hi2
    cases ea
    rw[if_neg (by omega),if_neg (by omega)]at ec
    have h1:=b3 (k - 1) c (by omega) ec
    rcases au0 h1 with h2 | h2
    ·exact h2
    ·subst h2;exact absurd ec (hfr (k - 1))
   ·rw[if_neg (by omega),if_neg (by omega)]at ec
    exact T.asc (i - 1) (k - 1) a c (by omega) ea ec
 ·rw[hpl,hm]
  intro i a ea
  rw[get_ins b1]at ea
  split at ea
  ·exact T.bnd i a ea
  ·split at ea
   ·cases ea;exact hle
   ·exact T.bnd _ a ea
 ·rw[hm,ae1 (by rw[<- T.len];exact b1)]
  have:=T.good
  unfold Good at this
  omega
 ·intro i e he
  rw[hpl,hm]
  have b1':below t.place j<=es.size:=by rw[<- T.len];exact b1
  rw[get_ins b1']at he
  have lift:∀ (i0:Nat) (i':Nat),es[i0]?=some e->(∀ a,t.place[i0]?=some a->(insertAt t.place (below t.place j) j)[i']?=some a) ->
    ∃ n,n<10*turns t.mask/\(insertAt t.place (below t.place j) j)[i']?=some (it (t.put j).1 n ((t.put j).1.probeStart e.1)).j/\∀ k,k<n->∃ i':Nat,(insertAt t.place (below t.place j) j)[i']?=some (it (t.put j).1 k ((t.put j).1.probeStart e.1)).j:=fun i0 i' h0 h1=>by
   obtain⟨n',q1,q2,q3⟩:=T.path i0 e h0
   refine⟨n',q1,?_,fun k hk=>?_⟩
   ·rw[hit,hst];exact h1 _ q2
   ·obtain⟨i2,e2⟩:=q3 k hk
    rw[hit,hst]
    exact old i2 _ e2
  split at he
  ·rename_i hi
   exact lift i i he fun a ea=>by rw[get_ins b1,if_pos hi];exact ea
  ·split at he
   ·rename_i hi1 hi2
    cases he
    refine⟨n,hn,?_,fun k hk=>?_⟩
    ·rw[hit,hst,hj,get_ins b1,if_neg hi1,if_pos hi2]
    ·obtain⟨i2,e2⟩:=hocc k hk
     rw[hit,hst]
     exact old i2 _ e2
   ·rename_i hi1 hi2
    exact lift (i - 1) i he fun a ea=>by rw[get_ins b1,if_neg hi1,if_neg hi2];exact ea
theorem aA1:∀ (k n:Nat) (g:Nat->Nat),(∀ i,i<n->g i<k)->(∀ i j,i<n->j<n->g i=g j->i=j)->n<=k
 | 0,n,g,h,_=>by
  rcases Nat.eq_zero_or_pos n with e | e
  ·omega
  ·exact absurd (h 0 e) (aK4 _)
 | k+1,0,g,_,_=>o8 _
 | k+1,n+1,g,h,inj=>by
  by_cases q:∃ i0,i0<n+1/\g i0=k
  ·obtain⟨i0,h0,e0⟩:=q
   have:=aA1 k n (fun i=>if i=i0 then g n else g i) (fun i hi=>?_) (fun i j hi hj e=>?_)
   ·omega
   ·try dsimp only
    split
    ·rename_i hii
     have h1:=h n (by omega)
     have h2:g n≠k:=fun z=>by have:=inj n i0 (by omega) h0 (by rw[z,e0]);omega
     omega
    ·have h1:=h i (by omega)
     have h2:g i≠k:=fun z=>by have:=inj i i0 (by omega) h0 (by rw[z,e0]);omega
     omega
   ·try dsimp only at e
    split at e
    ·split at e
     ·omega
     ·have:=inj n j (by omega) (by omega) e;omega
    ·split at e
     ·have:=inj i n (by omega) (by omega) e;omega
     ·exact inj i j (by omega) (by omega) e
  ·have:=aA1 k (n+1) g (fun i hi=>?_) inj
   ·omega
   ·have h1:=h i hi
    have h2:g i≠k:=fun z=>q ⟨i,hi,z⟩
    omega
structure LI (t:SetTable) (hs:Array Int) (owner:Array (Option Nat)) (k:Nat):Prop where
 size:owner.size=t.mask+1
 lt:∀ (j i:Nat),owner[j]?=some (some i)->i<k
 inj:∀ (j j' i:Nat),owner[j]?=some (some i)->owner[j']?=some (some i)->j=j'
 has:∀ (i:Nat) (h:Int),i<k->hs[i]?=some h->∃ n,n<10*turns t.mask/\owner[(it t n (t.probeStart h)).j]?=some (some i)/\∀ c,c<n->∃ i':Nat,owner[(it t c (t.probeStart h)).j]?=some (some i')
theorem LI.free {t:SetTable}{hs:Array Int}{owner:Array (Option Nat)}{k:Nat}(L:LI t hs owner k)(hk:k<=t.mask):∃ b,b<=t.mask/\owner[b]?=some none:=by
 apply Classical.byContradiction
 intro z
 have all:∀ b,b<=t.mask->∃ i,owner[b]?=some (some i):=fun b hb=>by
  have e:=getElem?_pos owner b (by rw[L.size];omega)
  cases q:owner[b]'(by rw[L.size];omega) with
  | none=>rw[q]at e;exact absurd ⟨b,hb,e⟩ z
  | some i=>rw[q]at e;exact⟨i,e⟩
 have:=aA1 k (t.mask+1) (fun b=>match owner[b]? with | some (some i)=>i | _=>0) (fun b hb=>?_) (fun b b' hb hb' e=>?_)
 ·omega
 ·obtain⟨i,e⟩:=all b (by omega)
  try dsimp only
  rw[e]
  exact L.lt b i e
 ·obtain⟨i,e1⟩:=all b (by omega)
  obtain⟨i',e2⟩:=all b' (by omega)
  try dsimp only at e
  rw[e1,e2]at e
  dsimp only at e
  subst e
  exact L.inj b b' i e1 e2
theorem ax6 (t:SetTable)(owner:Array (Option Nat))(hz:owner.size=t.mask+1):∀ (fuel i pt:Nat),i<=t.mask->(∃ r,r<fuel/\∃ b,b=(rn t.mask i pt r).1/\owner[b]?=some none) ->
  ∃ n,n<10*fuel/\layClean.free t.mask owner fuel i pt=some (it t n (st t.mask i pt)).j/\owner[(it t n (st t.mask i pt)).j]?=some none/\∀ c,c<n->∃ i':Nat,owner[(it t c (st t.mask i pt)).j]?=some (some i')
 | 0,i,pt,_,⟨r,hr,_⟩=>absurd hr (aK4 _)
 | fuel+1,i,pt,hi,⟨r,hr,b,hb,hbo⟩=>by
  have h9:=ah9 t.mask i
  have hm:=aF1 hi
  unfold layClean.free
  have slotOf:∀ k,k<=runEnd t.mask i - i->(it t k (st t.mask i pt)).j=i+k:=fun k hk=>by rw[aA8 t i pt k hk]
  have getS:∀ k,k<=runEnd t.mask i - i->(owner.getD (i+k) (some 0)).isNone=false->∃ i':Nat,owner[i+k]?=some (some i'):=fun k hk e=>by
   have hlt:i+k<owner.size:=by omega
   have e1:=getElem?_pos owner (i+k) hlt
   have e2:owner.getD (i+k) (some 0)=owner[i+k]:=by simp[bx9,hlt]
   rw[e2]at e
   cases q:owner[i+k] with
   | none=>rw[q]at e;cases e
   | some i'=>rw[q]at e1;exact⟨i',e1⟩
  cases hf:(k8 (runEnd t.mask i+1 - i)).find? (fun k=>(owner.getD (i+k) (some 0)).isNone) with
  | some k =>
   dsimp only
   rw[List.find?_eq_some_iff_getElem]at hf
   obtain⟨hp,k',hk',ek,hbef⟩:=hf
   rw[o6]at hk'
   rw[X6]at ek
   subst ek
   refine⟨k',by omega,by rw[slotOf k' (by omega)],?_,fun c hc=>?_⟩
   ·rw[slotOf k' (by omega)]
    have hlt:i+k'<owner.size:=by omega
    have e2:owner.getD (i+k') (some 0)=owner[i+k']:=by simp[bx9,hlt]
    rw[e2]at hp
    rw[getElem?_pos owner _ hlt]
    cases q:owner[i+k'] with
    | none=>rfl
    | some z=>rw[q]at hp;cases hp
   ·rw[slotOf c (by omega)]
    have:=hbef c hc
    rw[X6]at this
    exact getS c (by omega) (by simpa using this)
  | none =>
   dsimp only
   rw[List.find?_eq_none]at hf
   have all:∀ c,c<=runEnd t.mask i - i->∃ i':Nat,owner[i+c]?=some (some i'):=fun c hc=>getS c hc (by simpa only [bH2] using hf c (p0.mpr (by omega)))
   have hr0:r≠0:=fun z=>by
    subst z
    obtain⟨i',e⟩:=all 0 (o8 _)
    have hb':b=i:=hb
    rw[hb']at hbo
    rw[Nat.add_zero,hbo]at e
    cases e
   obtain⟨r',rfl⟩:∃ r',r=r'+1:=⟨r - 1,by omega⟩
   have shift:∀ r,rn t.mask (leap t.mask i pt).1 (leap t.mask i pt).2 r=rn t.mask i pt (r+1):=fun r=>by
    induction r with
    | zero=>rfl
    | succ r ih =>
     show leap t.mask _ _=leap t.mask _ _
     rw[ih]
   obtain⟨n,hn,e1,e2,e3⟩:=ax6 t owner hz fuel (leap t.mask i pt).1 (leap t.mask i pt).2 (ab6 (bH1 _ (X9 _))) ⟨r',by omega,b,by rw[hb,shift],hbo⟩
   have sh:∀ c,it t (runEnd t.mask i - i+1+c) (st t.mask i pt)=it t c (st t.mask (leap t.mask i pt).1 (leap t.mask i pt).2):=fun c=>by rw[aB0,aA9]
   refine⟨runEnd t.mask i - i+1+n,by omega,by rw[sh];exact e1,by rw[sh];exact e2,fun c hc=>?_⟩
   by_cases q:c<=runEnd t.mask i - i
   ·rw[slotOf c q]
    exact all c q
   ·have:=e3 (c - (runEnd t.mask i - i+1)) (by omega)
    rw[<- sh,show runEnd t.mask i - i+1+(c - (runEnd t.mask i - i+1))=c by omega]at this
    exact this
theorem aH4 (t:SetTable)(g:Good t.mask)(hs:Array Int)(hsz:hs.size<=t.mask):∀ (l:List Int) (k:Nat) (owner:Array (Option Nat)),LI t hs owner k->hs.toList.drop k=l ->
  ∃ owner',(l.foldl (fun acc h=>do
   let (owner,k) <- acc
   let j <- layClean.free t.mask owner (turns t.mask) (bits h % (t.mask+1)) (bits h)
   pure (owner.setIfInBounds j (some k),k+1)) (some (owner,k)))=some (owner',k+l.length)/\LI t hs owner' (k+l.length)
 | [],k,owner,L,_=>⟨owner,rfl,L⟩
 | h::l,k,owner,L,hd=>by
  have hk:k<hs.size:=by
   apply Classical.byContradiction
   intro z
   rw[ad5 (by rw[o4];omega)]at hd
   cases hd
  have hget:hs[k]?=some h:=by
   rw[<- o5]
   have:=congrArg (fun l=>l[0]?) hd
   simpa using this
  obtain⟨b,hb,hbo⟩:=L.free (by omega)
  obtain⟨r,hr,er⟩:=aR0 g (Y4 t h) (aU4 h) hb
  obtain⟨n,hn,e1,e2,e3⟩:=ax6 t owner L.size (turns t.mask) (bits h % (t.mask+1)) (bits h) (Y4 t h) ⟨r,hr,b,er.symm,hbo⟩
  rw[<- Y5]at e1 e2 e3
  have hjs:(it t n (t.probeStart h)).j<owner.size:=(getElem?_eq_some_iff.mp e2).1
  have gs:∀ x,(owner.setIfInBounds (it t n (t.probeStart h)).j (some k))[x]?=if (it t n (t.probeStart h)).j=x then some (some k) else owner[x]?:=fun x=>by
   rw[Array.getElem?_setIfInBounds]
   split
   ·rename_i hx;subst hx;simp[hjs]
   ·rfl
  have occ:∀ (x i:Nat),owner[x]?=some (some i)->∃ i':Nat,(owner.setIfInBounds (it t n (t.probeStart h)).j (some k))[x]?=some (some i'):=fun x i e=>by
   rw[gs];split
   ·exact⟨k,rfl⟩
   ·exact⟨i,e⟩
  have L':LI t hs (owner.setIfInBounds (it t n (t.probeStart h)).j (some k)) (k+1):=by
   refine⟨by rw[Array.size_setIfInBounds];exact L.size,fun j i e=>?_,fun j j' i ea ec=>?_,fun i h' hi hh=>?_⟩
   ·rw[gs]at e
    split at e
    ·cases e;omega
    ·have:=L.lt j i e;omega
   ·rw[gs]at ea ec
    split at ea
    ·rename_i q1
     cases ea
     split at ec
     ·rename_i q2;rw[<- q1,<- q2]
     ·have:=L.lt j' k ec;omega
    ·split at ec
     ·cases ec
      have:=L.lt j k ea;omega
     ·exact L.inj j j' i ea ec
   ·by_cases q:i=k
    ·subst q
     rw[hget]at hh
     cases hh
     refine⟨n,hn,by rw[gs,if_pos rfl],fun c hc=>?_⟩
     obtain⟨i',e⟩:=e3 c hc
     exact occ _ i' e
    ·obtain⟨n',q1,q2,q3⟩:=L.has i h' (by omega) hh
     refine⟨n',q1,?_,fun c hc=>?_⟩
     ·rw[gs]
      split
      ·rename_i q4
       rw[q4]at e2
       rw[e2]at q2
       cases q2
      ·exact q2
     ·obtain⟨i',e⟩:=q3 c hc
      exact occ _ i' e
  obtain⟨owner',f1,f2⟩:=aH4 t g hs hsz l (k+1) _ L' (by
   have e5:hs.toList.drop (k+1)=(hs.toList.drop k).drop 1:=by rw[List.drop_drop]
   rw[e5,hd]
   rfl)
  refine⟨owner',?_,?_⟩
  ·rw[ag9]
   have:(do
     let (owner,k) <- some (owner,k)
     let j <- layClean.free t.mask owner (turns t.mask) (bits h % (t.mask+1)) (bits h)
     pure (owner.setIfInBounds j (some k),k+1))=some (owner.setIfInBounds (it t n (t.probeStart h)).j (some k),k+1):=by
    show (layClean.free t.mask owner (turns t.mask) (bits h % (t.mask+1)) (bits h) >>= fun j=>pure (owner.setIfInBounds j (some k),k+1))=_
    rw[e1]
    rfl
   rw[this,f1,m9]
   congr 2
   omega
  ·rw[m9,show k+(l.length+1)=k+1+l.length by omega]
   exact f2
theorem bs1 {M finger moves:Nat}{led plain:Bool}{es:Array En}(g:Good M)(hsz:es.size*5<M*3) :
  ∃ t2 order,laid M finger moves led plain (es.map (·.1))=some (t2,order)/\Tb t2 (order.filterMap (es[·]?))/\(order.filterMap (es[·]?)).toList.Perm es.toList:=by
 let t:SetTable:={ mask:=M,place:=#[],dummies:=#[],finger:=finger,led:=led,moves:=moves,plain:=plain }
 have ht:t.mask=M:=rfl
 have h0:LI t (es.map (·.1)) (Array.replicate (M+1) none) 0:=by
  refine⟨by simp[ht],fun j i e=>?_,fun j j' i e=>?_,fun i h hi=>by omega⟩
  ·rw[aP0]at e;split at e<;>cases e
  ·rw[aP0]at e;split at e<;>cases e
 obtain⟨owner,f1,L⟩:=aH4 t g (es.map (·.1)) (by rw[X7,ht];omega) (es.map (·.1)).toList 0 _ h0 rfl
 rw[X8,o4,X7]at f1 L
 have hlay:layClean M (es.map (·.1))=some owner:=by
  unfold layClean
  rw[<- Array.foldl_toList]
  have:(aU9 _ _ (es.map (·.1)).toList)=some (owner,es.size):=f1
  rw[this]
  rfl
 let live:List (Nat × Nat):=(k8 (M+1)).filterMap fun j=>(owner.getD j none).map (j,·)
 have hlive:∀ p:Nat × Nat,p∈live↔owner[p.1]?=some (some p.2):=fun p=>by
  obtain⟨j,i⟩:=p
  have hg:∀ j,owner.getD j none=(owner[j]?).getD none:=fun j=>by simp
  show (j,i)∈List.filterMap _ _↔_
  rw[X5]
  constructor
  ·rintro⟨j',hj',e⟩
   rw[hg]at e
   cases q:owner[j']? with
   | none=>rw[q]at e;cases e
   | some z =>
    rw[q]at e
    cases z with
    | none=>cases e
    | some i' =>
     have e':(j',i')=(j,i):=Option.some.inj e
     cases e'
     exact q
  ·intro e
   have hj:j<owner.size:=(getElem?_eq_some_iff.mp e).1
   refine⟨j,p0.mpr (by rw[L.size,ht]at hj;exact hj),?_⟩
   rw[hg,e]
   rfl
 have hpw:live.Pairwise (fun a b=>a.1<b.1):=by
  show (List.filterMap _ _).Pairwise _
  rw[List.pairwise_filterMap]
  refine List.Pairwise.imp ?_ Q0
  intro a b hab p hp q hq
  cases h1:owner.getD a none with
  | none=>rw[h1]at hp;cases hp
  | some i =>
   cases h2:owner.getD b none with
   | none=>rw[h2]at hq;cases hq
   | some i' =>
    rw[h1]at hp
    rw[h2]at hq
    have e1:(a,i)=p:=Option.some.inj hp
    have e2:(b,i')=q:=Option.some.inj hq
    subst e1 e2
    exact hab
 have hnd:(live.map (·.2)).Nodup:=by
  unfold List.Nodup
  rw[E1]
  refine List.Pairwise.imp_of_mem ?_ hpw
  intro a b ha hb hab e
  have h1:=(hlive a).mp ha
  have h2:=(hlive b).mp hb
  rw[<- e]at h2
  have:=L.inj _ _ _ h1 h2
  omega
 have hord:(live.map (·.2)).Perm (k8 es.size):=by
  refine(List.perm_ext_iff_of_nodup hnd List.nodup_range).mpr fun i=>?_
  rw[p0,l5]
  constructor
  ·rintro⟨p,hp,rfl⟩
   exact L.lt _ _ ((hlive p).mp hp)
  ·intro hi
   obtain⟨n,_,q,_⟩:=L.has i ((es.map (·.1))[i]'(by rw[X7];exact hi)) hi (getElem?_pos _ _ _)
   exact⟨(_,i),(hlive _).mpr q,rfl⟩
 have hlen:live.length=es.size:=by have:=hord.length_eq;simpa using this
 have hes:∀ i,i∈live.map (·.2)->∃ e,es[i]?=some e:=fun i hi=>by
  have:=hord.mem_iff.mp hi
  rw[p0]at this
  exact⟨es[i],getElem?_pos es i this⟩
 have fm:∀ (l:List Nat),(∀ i∈l,∃ e,es[i]?=some e)->(l.filterMap (es[·]?)).length=l.length/\∀ (p:Nat),(l.filterMap (es[·]?))[p]?=(l[p]?).bind (es[·]?):=fun l=>by
  induction l with
  | nil=>intro _;exact⟨rfl,fun p=>rfl⟩
  | cons a l ih =>
   intro h
   obtain⟨e,he⟩:=h a d8
   obtain⟨i1,i2⟩:=ih fun i hi=>h i (d5 _ hi)
   rw[List.filterMap_cons_some he]
   refine⟨by rw[m9,i1,m9],fun p=>?_⟩
   cases p with
   | zero=>simp[he]
   | succ p=>simpa using i2 p
 obtain⟨fl,fg⟩:=fm _ hes
 have hperm:((live.map (·.2)).filterMap (es[·]?)).Perm es.toList:=by
  refine(hord.filterMap _).trans (List.Perm.of_eq ?_)
  apply L9
  intro p
  obtain⟨_,g2⟩:=fm (k8 es.size) fun i hi=>⟨es[i]'(p0.mp hi),getElem?_pos es i (p0.mp hi)⟩
  rw[g2,show es.toList[p]?=es[p]? from o5 ..]
  by_cases hp:p<es.size
  ·rw[C4 hp];rfl
  ·rw[j6 (by simp;omega),getElem?_neg es p hp];rfl
 let t2:SetTable:={ mask:=M,place:=(live.map (·.1)).toArray,dummies:=#[],finger:=finger,led:=led,moves:=moves,plain:=plain }
 have hes':((live.map (·.2)).toArray.filterMap (es[·]?)).toList=(live.map (·.2)).filterMap (es[·]?):=by simp
 have getE:∀ (p:Nat) (e:En),((live.map (·.2)).toArray.filterMap (es[·]?))[p]?=some e->∃ j i:Nat,live[p]?=some (j,i)/\es[i]?=some e:=fun p e h=>by
  rw[<- o5,hes',fg,l4]at h
  cases q:live[p]? with
  | none=>rw[q]at h;cases h
  | some ji=>rw[q]at h;exact⟨ji.1,ji.2,rfl,h⟩
 have getP:∀ (p:Nat) (j:Nat),t2.place[p]?=some j↔∃ i,live[p]?=some (j,i):=fun p j=>by
  show (live.map (·.1)).toArray[p]?=some j↔_
  rw[List.getElem?_toArray,l4]
  cases q:live[p]? with
  | none=>simp
  | some ji =>
   obtain⟨a,b⟩:=ji
   simp
 have itE:∀ n (p:Probe),it t2 n p=it t n p:=fun n p=>an5 (t:=t) (t':=t2) rfl n p
 refine⟨t2,(live.map (·.2)).toArray,?_,?_,by rw[hes'];exact hperm⟩
 ·unfold laid
  rw[hlay]
  rfl
 ·refine⟨rfl,?_,?_,?_,g,?_,?_⟩
  ·show (live.map (·.1)).toArray.size=_
   rw[d7,b7,<- o4,hes',fl,b7]
  ·intro i j a b hij ea eb
   obtain⟨_,ea⟩:=(getP i a).mp ea
   obtain⟨_,eb⟩:=(getP j b).mp eb
   obtain⟨h1,e1⟩:=o7.mp ea
   obtain⟨h2,e2⟩:=o7.mp eb
   have:=x5.mp hpw i j h1 h2 hij
   rw[e1,e2]at this
   exact this
  ·intro i j e
   obtain⟨i',e⟩:=(getP i j).mp e
   have:=(hlive _).mp (i6 e)
   have hj:j<owner.size:=(getElem?_eq_some_iff.mp this).1
   rw[L.size]at hj
   show j<=M
   exact ab6 hj
  ·rw[<- o4,hes',fl,b7,hlen]
   exact hsz
  ·intro p e he
   obtain⟨j,i,hl,hi⟩:=getE p e he
   have ho:=(hlive _).mp (i6 hl)
   have hi':i<es.size:=(getElem?_eq_some_iff.mp hi).1
   obtain⟨n,q1,q2,q3⟩:=L.has i e.1 hi' (by rw[Array.getElem?_map,hi];rfl)
   have ej:=L.inj _ _ _ ho q2
   refine⟨n,q1,?_,fun c hc=>?_⟩
   ·rw[itE]
    exact(getP p _).mpr ⟨i,by rw[hl];congr 2⟩
   ·obtain⟨i',e'⟩:=q3 c hc
    obtain⟨p',hp'⟩:=r9.mp ((hlive (_,i')).mpr e')
    exact⟨p',by rw[itE];exact(getP p' _).mpr ⟨i',hp'⟩⟩
end Sett
namespace Sett
open PySem PySem.SetTable PyProof.Rows
def ab1:List Nat->Nat->Bool
 | [],_=>true
 | x::l,acc=>!acc.testBit x && ab1 l (acc ||| 2 ^ x)
theorem af2:∀ (l:List Nat) (acc:Nat),ab1 l acc=true->l.Nodup/\∀ x∈l,acc.testBit x=false
 | [],_,_=>⟨al8,(fun _ h=>nomatch h)⟩
 | x::l,acc,h=>by
  unfold ab1 at h
  rw[A1]at h
  obtain⟨h1,h2⟩:=h
  obtain⟨n,m⟩:=af2 l _ h2
  have m':∀ y∈l,acc.testBit y=false/\x≠y:=fun y hy=>by
   have:=m y hy
   rw[Nat.testBit_or,Bool.or_eq_false_iff,bx8]at this
   exact⟨this.1,of_decide_eq_false this.2⟩
  refine⟨A0.mpr ⟨fun hx=>(m' x hx).2 rfl,n⟩,fun y hy=>?_⟩
  rcases d3.mp hy with rfl | hy
  ·simpa using h1
  ·exact(m' y hy).1
def hp (n:Nat):Nat:=bits (reduceHash (Builtin.Tuple.tupleHashOf [hashInt ((n / 24:Nat):Int),hashInt ((n % 24:Nat):Int)])) % 3708
set_option maxRecDepth 100000 in
theorem bE2:ab1 ((k8 576).map hp) 0=true:=by decide +kernel
theorem bE1 {a b:Nat}(ha:a<576)(hb:b<576)(h:hp a=hp b):a=b:=by
 have:=(af2 _ _ bE2).1
 unfold List.Nodup at this
 rw[E1]at this
 rw[x5]at this
 rcases G5 a b with q | q | q
 ·have:=this a b (by simpa using ha) (by simpa using hb) q
  simp only[X6]at this
  exact absurd h this
 ·exact q
 ·have:=this b a (by simpa using hb) (by simpa using ha) q
  simp only[X6]at this
  exact absurd h.symm this
def al6 (ks:List Int):Prop:=∃ i j:Nat,i<24/\j<24/\ks=[(i:Int),(j:Int)]
theorem aH9 {prog:Program}{w:World}{k k':List Int}(h1:al6 k)(h2:al6 k')(e:tupleKeyHash (intKind prog w) k=tupleKeyHash (intKind prog w) k'):k=k':=by
 obtain⟨i,j,hi,hj,rfl⟩:=h1
 obtain⟨i',j',hi',hj',rfl⟩:=h2
 have e2:hp (24*i+j)=hp (24*i'+j'):=by
  unfold hp
  rw[show (24*i+j) / 24=i by omega,show (24*i+j) % 24=j by omega,show (24*i'+j') / 24=i' by omega,show (24*i'+j') % 24=j' by omega]
  exact congrArg (fun z=>bits z % 3708) e
 have:=bE1 (by omega) (by omega) e2
 have h3:i=i':=by omega
 have h4:j=j':=by omega
 rw[h3,h4]
section
variable {prog:Program} {w:World}
def ab9 (prog:Program)(w:World)(h:Heap)(k:List Int)(e:En):Prop:=∃ a,e.2=.ref a/\IsTupleKey (intKind prog w) h k a/\e.1=tupleKeyHash (intKind prog w) k
def am3 (prog:Program)(w:World)(hk h:Heap)(S:Addr)(ks:List (List Int)):Prop:=
 ∃ o es ep t,h.get? S=some o/\o.ExactSet/\o.data=.set es ep t/\Tb t es/\es.size=ks.length/\ks.Nodup/\(∀ k∈ks,al6 k)/\(∀ k∈ks,∃ e∈es.toList,ab9 prog w hk k e)/\∀ e∈es.toList,∃ k∈ks,ab9 prog w hk k e
theorem bh4 {h h':Heap}{k:List Int}{a:Addr}(x:IsTupleKey (intKind prog w) h k a)(hs:∀ b o,h.get? b=some o->h'.get? b=some o):IsTupleKey (intKind prog w) h' k a:=by
 obtain⟨o,items,n,h2,h3⟩:=x
 exact⟨o,items,n,hs a o h2,h3⟩
theorem ab9.up {h h':Heap}{k:List Int}{e:En}(x:ab9 prog w h k e)(hs:∀ b o,h.get? b=some o->h'.get? b=some o):ab9 prog w h' k e:=by
 obtain⟨a,h1,h2,h6⟩:=x
 exact⟨a,h1,bh4 h2 hs,h6⟩
theorem ab9.inj {h:Heap}{k k':List Int}{e:En}(x:ab9 prog w h k e)(y:ab9 prog w h k' e):k=k':=by
 obtain⟨a,h1,h2,_⟩:=x
 obtain⟨b,h3,h4,_⟩:=y
 rw[h1]at h3
 cases h3
 exact h2.inj h4
variable {A:Around} {E:Value->Shared->Prop} {s:Shared}
theorem aO4 (x:Addr)(es:Array En):byScan (.ref x) es=false:=by
 unfold byScan Value.scannable
 rfl
theorem ai8 {k:List Int}{x:Addr}{Q:Bool->Shared->Prop}(hx:IsTupleKey (intKind prog w) s.heap k x)(h:Q true s):wpAny (model prog w) A (hashByValue 8 (.ref x)) Q E s:=by
 have hT:=hx.typeIs
 obtain⟨o,items,n,ho,hc,hd,hi⟩:=hx
 unfold hashByValue
 refine wpAny_bind (wpAny_specialOf hT F.slot_tuple_hash.lookup ?_)
 dsimp only
 refine wpAny_bind (wpAny_seqItems ho hd ?_)
 show wpAny _ _ (forIn items _ _ >>= _) _ _ s
 rw[<- X1]
 have hv:∀ v∈items.toList,∃ i t,v=.int i t:=fun v hv=>by
  clear ho hd
  generalize items.toList=l at hi hv
  induction hi with
  | nil=>cases hv
  | cons h1 _ ih =>
   rcases d3.mp hv with rfl | hv
   ·obtain⟨t,e⟩:=Value.isInt_shape h1
    exact⟨_,t,e⟩
   ·exact ih hv
 refine wpAny_bind (wpAny_forIn_list _ (fun rest r s'=>r.1=none/\s'=s/\∀ v∈rest,∃ i t,v=.int i t) _ ?_ ?_ _ _ ⟨rfl,rfl,hv⟩)
 ·rintro v rest r s' ⟨hr,rfl,hall⟩
  obtain⟨i,t,rfl⟩:=hall v d8
  have e:hashByValue 7 (.int i t)=pure true:=by unfold hashByValue;rfl
  rw[e]
  refine wpAny_bind (wpAny_pure ?_)
  simp only[T8,j8,if_false]
  exact wpAny_pure ⟨rfl,rfl,fun u hu'=>hall u (d5 _ hu')⟩
 ·rintro⟨r1,r2⟩ s' ⟨hr,rfl,_⟩
  simp only at hr
  subst hr
  exact wpAny_pure h
end
section
variable {prog:Program} {w:World} {A:Around} {E:Value->Shared->Prop} {s:Shared}
theorem au4 {S x:Addr}{o:Obj}{es:Array En}{ep:Nat}{t:SetTable}{h:Int}{Q:SetFound->Shared->Prop}(ho:s.heap.get? S=some o)(hd:o.data=.set es ep t)(T:Tb t es)(hh:∀ e∈es.toList,e.1≠h)
  (hq:∀ n,n<10*turns t.mask->(∀ i:Nat,t.place[i]?≠some (it t n (t.probeStart h)).j)->(it t n (t.probeStart h)).j<=t.mask->(∀ k,k<n->∃ i':Nat,t.place[i']?=some (it t k (t.probeStart h)).j)->Q (.free (it t n (t.probeStart h)).j false) s) :
  wpAny (model prog w) A (setSearch S (.ref x) h true) Q E s:=by
 obtain⟨n,h1,h2,h3,h4,h5⟩:=T.absent hh
 unfold setSearch setSearchFrom
 refine wpAny_bind (wpAny_setState_of ho hd T.fits ?_)
 dsimp only
 rw[T.odd]
 simp only[j8,if_false]
 split
 ·rename_i met hm
  have e:=hm.symm.trans h5
  cases e
  exact wpAny_pure (hq n h1 h2 h3 h4)
 ·rename_i hm
  exact absurd h5 (fun z=>hm _ z)
theorem aJ0 {k:List Int}{x:Addr}{Q:Bool->Shared->Prop}(hx:IsTupleKey (intKind prog w) s.heap k x)(h:Q false s):wpAny (model prog w) A (ofAClassStatement 8 (.ref x)) Q E s:=by
 have hT:=hx.typeIs
 obtain⟨o,items,n,ho,hc,hd,hi⟩:=hx
 unfold ofAClassStatement
 refine wpAny_bind (wpAny_typeOf hT ?_)
 dsimp only
 rw[if_pos (by decide)]
 refine wpAny_bind (wpAny_pure ?_)
 simp only[T8,j8,if_false]
 refine wpAny_bind (wpAny_seqItems ho hd ?_)
 dsimp only
 rw[<- X1]
 have hv:∀ v∈items.toList,∃ i t,v=.int i t:=fun v hv=>by
  clear ho hd
  generalize items.toList=l at hi hv
  induction hi with
  | nil=>cases hv
  | cons h1 _ ih =>
   rcases d3.mp hv with rfl | hv
   ·obtain⟨t,e⟩:=Value.isInt_shape h1
    exact⟨_,t,e⟩
   ·exact ih hv
 refine wpAny_bind (wpAny_forIn_list _ (fun rest r s'=>r.1=none/\s'=s/\∀ v∈rest,∃ i t,v=.int i t) _ ?_ ?_ _ _ ⟨rfl,rfl,hv⟩)
 ·rintro v rest r s' ⟨hr,rfl,hall⟩
  obtain⟨i,t,rfl⟩:=hall v d8
  have e:ofAClassStatement 7 (.int i t)=pure false:=by unfold ofAClassStatement;rfl
  rw[e]
  refine wpAny_bind (wpAny_pure ?_)
  simp only[j8,if_false]
  exact wpAny_pure ⟨rfl,rfl,fun u hu'=>hall u (d5 _ hu')⟩
 ·rintro⟨r1,r2⟩ s' ⟨hr,rfl,_⟩
  simp only at hr
  subst hr
  exact wpAny_pure h
theorem by5 {k:List Int}{x:Addr}{l:List Value}{Q:Bool->Shared->Prop}(hx:IsTupleKey (intKind prog w) s.heap k x)(hl:∀ v∈l,∃ a k',v=.ref a/\IsTupleKey (intKind prog w) s.heap k' a)(h:Q false s) :
  wpAny (model prog w) A (searchCouldBeSeen (.ref x) l) Q E s:=by
 unfold searchCouldBeSeen
 refine wpAny_bind (wpAny_forIn_list _ (fun rest r s'=>r.1=none/\s'=s/\∀ v∈rest,∃ a k',v=.ref a/\IsTupleKey (intKind prog w) s.heap k' a) _ ?_ ?_ _ _ ⟨rfl,rfl,hl⟩)
 ·rintro v rest r s' ⟨hr,rfl,hall⟩
  obtain⟨a,k',rfl,ha⟩:=hall v d8
  have hrest:∀ v∈rest,∃ a k',v=.ref a/\IsTupleKey (intKind prog w) s'.heap k' a:=fun u hu'=>hall u (d5 _ hu')
  dsimp only
  split
  ·exact wpAny_pure ⟨rfl,rfl,hrest⟩
  ·refine wpAny_bind (wpAny_eqIsQuiet_tuple hx ?_)
   simp only[T8,j8,if_false]
   refine wpAny_bind (wpAny_eqIsQuiet_tuple ha ?_)
   simp only[T8,j8,if_false]
   refine wpAny_bind (aJ0 hx ?_)
   simp only[j8,if_false]
   refine wpAny_bind (aJ0 ha ?_)
   simp only[j8,if_false]
   exact wpAny_pure ⟨rfl,rfl,hrest⟩
 ·rintro⟨r1,r2⟩ s' ⟨hr,rfl,_⟩
  simp only at hr
  subst hr
  exact wpAny_pure h
theorem ap0 {S x:Addr}{o:Obj}{es:Array En}{ep:Nat}{t:SetTable}{k:List Int}{i:Nat}{e:En}{Q:SetFound->Shared->Prop}(hu:A.units<cLine)(ho:s.heap.get? S=some o)(hd:o.data=.set es ep t)(T:Tb t es)
  (hx:IsTupleKey (intKind prog w) s.heap k x)(he:es[i]?=some e)(hk:ab9 prog w s.heap k e)(hall:∀ e∈es.toList,∃ k,ab9 prog w s.heap k e)(huq:∀ (c:Nat) (e':En),es[c]?=some e'->e'.1=e.1->c=i)
  (hq:Q (.there none) s):wpAny (model prog w) A (setSearch S (.ref x) (tupleKeyHash (intKind prog w) k) true) Q E s:=by
 obtain⟨y,hy1,hy2,hy3⟩:=hk
 obtain⟨j,q,hp⟩:=T.present he huq
 rw[hy3]at hp
 unfold setSearch setSearchFrom
 refine wpAny_bind (wpAny_setState_of ho hd T.fits ?_)
 dsimp only
 rw[T.odd]
 simp only[j8,if_false]
 have fin:wpAny (model prog w) A (do
   let some (_,y):=es[i]? | unsupported "internal:set-entry"
   let equal <- holding [y] (eqBool y (.ref x))
   let (es',_,t') <- setState S
   if true && equal then return .there none
   let some same:=t'.sameMemory t.moves t.mask | unsupported "set.changed-during-lookup:is-the-new-block-at-the-old-address"
   let still <- match (if same then t'.slot j else .empty) with
    | .live i'=>match es'[i']? with
     | some (_,y')=>do pure (if <- isSame y' y then some i' else none)
     | none=>pure none
    | _=>pure none
   match still with
   | none=>rule "set.search.anew";setSearchFrom S (.ref x) (tupleKeyHash (intKind prog w) k) true 99999 none
   | some i'=>if equal then return .there (some i') else setSearchFrom S (.ref x) (tupleKeyHash (intKind prog w) k) true 99999 (some q)) Q E s:=by
  rw[he]
  obtain⟨e1,e2⟩:=e
  have hy1:e2=.ref y:=hy1
  subst hy1
  dsimp only
  refine wpAny_bind (wpAny_holding (wpAny_eqBool_tuple hu hy2 hx ?_))
  refine wpAny_bind (wpAny_setState_of ho hd T.fits ?_)
  dsimp only
  rw[decide_eq_true rfl]
  simp only[Bool.and_self,if_true]
  exact wpAny_pure hq
 split
 ·rename_i met hm
  have e9:=hm.symm.trans hp
  cases e9
  dsimp only
  cases hled:t.led with
  | true =>
   simp only[T8,j8,if_false]
   exact fin
  | false =>
   simp only[aP1,if_true]
   refine wpAny_bind (by5 hx (fun v hv=>?_) ?_)
   ·rw[l5]at hv
    obtain⟨e',he',rfl⟩:=hv
    have he'':e'∈es.toList:=by
     have:=Array.mem_filter.mp (ah2.mp he')
     exact ah2.mpr this.1
    obtain⟨k',a,h1,h2,_⟩:=hall e' he''
    exact⟨a,k',h1,h2⟩
   ·simp only[j8,if_false]
    exact fin
 ·rename_i hm
  exact absurd hp (fun z=>hm _ z)
end
theorem thr {n m:Nat}(g:Good m)(h1:n*5<m*3)(h2:m*3<=(n+1)*5)(h3:n<300):(m=7/\n+1=5)\/(m=31/\n+1=19)\/(m=127/\n+1=77):=by
 rcases g with rfl | rfl | rfl | rfl<;>omega
theorem aN8 {n m:Nat}(g:Good m)(h1:n*5<m*3)(h2:m*3<=(n+1)*5)(h3:n<300):Good (sizeAbove (grown (n+1)) - 1)/\(n+1)*5<(sizeAbove (grown (n+1)) - 1)*3/\sizeAbove (grown (n+1))<=4096:=by
 rcases thr g h1 h2 h3 with⟨_,e⟩ | ⟨_,e⟩ | ⟨_,e⟩<;>rw[e]<;>refine⟨?_,by decide +kernel,by decide +kernel⟩
 ·exact .inr (.inl (by decide +kernel))
 ·exact .inr (.inr (.inl (by decide +kernel)))
 ·exact .inr (.inr (.inr (by decide +kernel)))
theorem bn1 {t:SetTable}{es:Array En}(T:Tb' t es):t.tooFull=decide (t.mask*3<=es.size*5):=by
 unfold tooFull PySem.SetTable.fill
 rw[T.dum,T.len]
 rfl
section
variable {prog:Program} {w:World} {A:Around} {E:Value->Shared->Prop} {s:Shared}
theorem stored {S:Addr}{o:Obj}{es es':Array En}{ep:Nat}{t t':SetTable}{h:Heap}(ho:h.get? S=some o)(hd:o.data=.set es ep t) :
  (h.update S (Obj.putSet es' t')).get? S=some { o with data:=.set es' (ep+1) t' }:=by
 have:=F4 (Obj.putSet es' t') ho (by rw[putSet_of es' t' hd];rfl)
 rw[putSet_of es' t' hd]at this
 exact this
theorem aE3 {S x:Addr}{ks:List (List Int)}{k:List Int}{Q:Bool->Shared->Prop}{hp:Heap}(hup:∀ b o,hp.get? b=some o->s.heap.get? b=some o)(hu:A.units<cLine)(hS:am3 prog w hp s.heap S ks)(hx0:IsTupleKey (intKind prog w) hp k x)(hk:al6 k)(hn:ks.length<300)
  (hq:∀ (b:Bool) (h':Heap) (tk:Nat),s.toks<=tk->Heap.SameBut S s.heap h'->am3 prog w hp h' S (if k∈ks then ks else k::ks)->Q b { s with heap:=h',toks:=tk }) :
  wpAny (model prog w) A (setAdd S (.ref x)) Q E s:=by
 have hx:=bh4 hx0 hup
 unfold setAdd
 refine wpAny_holding (wpAny_bind (wpAny_pyHash_tuple hu hx ?_))
 obtain⟨o,es,ep,t,ho,hex,hd,T,hsz,hnd,hok,hto,hfrom⟩:=hS
 unfold setAddHashed
 refine wpAny_holding ?_
 unfold setAddHashedIn
 refine wpAny_bind (wpAny_setState_of (s:={ s with toks:=s.toks+(k.length+1) }) ho hd T.fits ?_)
 dsimp only
 rw[aO4]
 simp only[j8,if_false]
 by_cases hmem:k∈ks
 ·-- it is there
  obtain⟨e,he,hek⟩:=hto k hmem
  obtain⟨i,hi⟩:=r9.mp he
  rw[o5]at hi
  have huq:∀ (c:Nat) (e':En),es[c]?=some e'->e'.1=e.1->c=i:=fun c e' hc hh=>by
   apply Classical.byContradiction
   intro hci
   have hkey:∀ (c:Nat),c<es.size->∃ kk,kk∈ks/\∃ e,es[c]?=some e/\ab9 prog w hp kk e:=fun c hc=>by
    have e:=getElem?_pos es c hc
    obtain⟨kk,h1,h2⟩:=hfrom es[c] (by simp)
    exact⟨kk,h1,_,e,h2⟩
   have e'k:ab9 prog w hp k e':=by
    obtain⟨kk,h1,h2⟩:=hfrom e' (i6 (by rw[o5];exact hc))
    have h3:=h2
    obtain⟨_,_,_,h4⟩:=h2
    have h5:=hek
    obtain⟨_,_,_,h6⟩:=h5
    have:kk=k:=aH9 (prog:=prog) (w:=w) (hok kk h1) hk (by rw[<- h4,hh,h6])
    rw[<- this]
    exact h3
   have hch:∀ n,n<ks.length->∃ c,c<es.size/\∃ e,es[c]?=some e/\∃ kk,ks[n]?=some kk/\ab9 prog w hp kk e:=fun n hn'=>by
    obtain⟨e,he,hek⟩:=hto ks[n] (N5 hn')
    obtain⟨c,hc⟩:=r9.mp he
    rw[o5]at hc
    exact⟨c,(getElem?_eq_some_iff.mp hc).1,e,hc,ks[n],c8 hn',hek⟩
   have:=aA1 (es.size - 1) ks.length (fun n=>if hn':n<ks.length then (let c0:=Classical.choose (hch n hn');let c1:=if c0=c then i else c0;if c1<c then c1 else c1 - 1) else 0) ?_ ?_
   ·have hc':=(getElem?_eq_some_iff.mp hc).1
    omega
   ·intro n hn'
    dsimp only
    rw[dif_pos hn']
    have hp:=Classical.choose_spec (hch n hn')
    generalize Classical.choose (hch n hn')=c0 at hp
    obtain⟨p1,_⟩:=hp
    have hc':=(getElem?_eq_some_iff.mp hc).1
    have hi':=(getElem?_eq_some_iff.mp hi).1
    split<;>split<;>omega
   ·intro n n' hn1 hn2 eqn
    dsimp only at eqn
    rw[dif_pos hn1,dif_pos hn2]at eqn
    have hp:=Classical.choose_spec (hch n hn1)
    have hp':=Classical.choose_spec (hch n' hn2)
    generalize Classical.choose (hch n hn1)=c0 at hp eqn
    generalize Classical.choose (hch n' hn2)=c0' at hp' eqn
    obtain⟨p1,e1,p2,kk,p3,p4⟩:=hp
    obtain⟨p1',e1',p2',kk',p3',p4'⟩:=hp'
    have same:kk=kk':=by
     have r1:ab9 prog w hp kk (if c0=c then e else e1):=by
      split
      ·rename_i hcc
       subst hcc
       rw[hc]at p2
       cases p2
       have:=p4.inj e'k
       rw[this]
       exact hek
      ·exact p4
     have r2:ab9 prog w hp kk' (if c0'=c then e else e1'):=by
      split
      ·rename_i hcc
       subst hcc
       rw[hc]at p2'
       cases p2'
       have:=p4'.inj e'k
       rw[this]
       exact hek
      ·exact p4'
     have g1:es[if c0=c then i else c0]?=some (if c0=c then e else e1):=by split<;>assumption
     have g2:es[if c0'=c then i else c0']?=some (if c0'=c then e else e1'):=by split<;>assumption
     have ne1:(if c0=c then i else c0)≠c:=by split<;>omega
     have ne2:(if c0'=c then i else c0')≠c:=by split<;>omega
     have eqc:(if c0=c then i else c0)=(if c0'=c then i else c0'):=by
      generalize (if c0=c then i else c0)=u at eqn ne1
      generalize (if c0'=c then i else c0')=v at eqn ne2
      split at eqn<;>split at eqn<;>omega
     rw[eqc,g2]at g1
     rw[<- Option.some.inj g1]at r1
     exact r1.inj r2
    subst same
    obtain⟨q1,q2⟩:=o7.mp p3
    obtain⟨q3,q4⟩:=o7.mp p3'
    rcases G5 n n' with z | z | z
    ·exact absurd (q2.trans q4.symm) (x5.mp hnd n n' q1 q3 z)
    ·exact z
    ·exact absurd (q4.trans q2.symm) (x5.mp hnd n' n q3 q1 z)
  refine wpAny_bind (ap0 (s:={ s with toks:=s.toks+(k.length+1) }) hu ho hd T hx hi (hek.up hup) (fun e he=>?_) huq ?_)
  ·obtain⟨kk,_,h2⟩:=hfrom e he
   exact⟨kk,h2.up hup⟩
  ·refine wpAny_pure ?_
   have:=hq false s.heap (s.toks+(k.length+1)) (K2 _ _) (Heap.SameBut.refl S s.heap)
   rw[if_pos hmem]at this
   exact this ⟨o,es,ep,t,ho,hex,hd,T,hsz,hnd,hok,hto,hfrom⟩
 ·-- it is new
  have hh:∀ e∈es.toList,e.1≠tupleKeyHash (intKind prog w) k:=fun e he z=>by
   obtain⟨kk,h1,h2⟩:=hfrom e he
   obtain⟨_,_,_,h4⟩:=h2
   have:kk=k:=aH9 (prog:=prog) (w:=w) (hok kk h1) hk (by rw[<- h4,z])
   exact hmem (this ▸ h1)
  refine wpAny_bind (au4 (s:={ s with toks:=s.toks+(k.length+1) }) ho hd T hh fun n hn1 hfr hle hocc=>?_)
  dsimp only
  refine wpAny_bind (wpAny_setState_of (s:={ s with toks:=s.toks+(k.length+1) }) ho hd T.fits ?_)
  dsimp only
  obtain⟨hp1,T1⟩:=T.put (h:=tupleKeyHash (intKind prog w) k) (x:=Value.ref x) hn1 hfr hle hocc
  generalize hpt:t.put (it t n (t.probeStart (tupleKeyHash (intKind prog w) k))).j=tp at hp1 T1 ⊢
  have hled:tp.1.mask=t.mask:=by
   rw[<- hpt]
   unfold SetTable.put
   rfl
  obtain⟨t1,p⟩:=tp
  dsimp only at hp1 T1 hled ⊢
  have hsz1:(insertAt es p (tupleKeyHash (intKind prog w) k,Value.ref x)).size=es.size+1:=ae1 hp1
  have fits1:(insertAt es p (tupleKeyHash (intKind prog w) k,Value.ref x)).size<=sizeLine:=by rw[hsz1,hsz,sizeLine_eq];omega
  have made:∀ (h':Heap) (o':Obj) (es':Array En) (ep':Nat) (t':SetTable),Heap.SameBut S s.heap h'->h'.get? S=some o'->o'.ExactSet->o'.data=.set es' ep' t'->Tb t' es' ->
    es'.toList.Perm (insertAt es p (tupleKeyHash (intKind prog w) k,Value.ref x)).toList->am3 prog w hp h' S (k::ks):=fun h' o' es' ep' t' hsb ho' hex' hd' T' hpm=>by
   have hmemE:∀ e,e∈es'.toList↔e=(tupleKeyHash (intKind prog w) k,Value.ref x)\/e∈es.toList:=fun e=>by rw[hpm.mem_iff];exact br6 hp1 e
   have hnew:ab9 prog w hp k (tupleKeyHash (intKind prog w) k,Value.ref x):=⟨x,rfl,hx0,rfl⟩
   refine⟨o',es',ep',t',ho',hex',hd',T',?_,A0.mpr ⟨hmem,hnd⟩,fun kk hkk=>?_,fun kk hkk=>?_,fun e he=>?_⟩
   ·have:=hpm.length_eq
    rw[o4,o4,hsz1,hsz]at this
    rw[this,m9]
   ·rcases d3.mp hkk with rfl | hkk
    ·exact hk
    ·exact hok kk hkk
   ·rcases d3.mp hkk with rfl | hkk
    ·exact⟨_,(hmemE _).mpr (.inl rfl),hnew⟩
    ·obtain⟨e,he,hek⟩:=hto kk hkk
     exact⟨e,(hmemE e).mpr (.inr he),hek⟩
   ·rcases(hmemE e).mp he with rfl | he
    ·exact⟨k,d8,hnew⟩
    ·obtain⟨kk,h1,h2⟩:=hfrom e he
     exact⟨kk,d5 _ h1,h2⟩
  have rest:∀ b:Bool,wpAny (model prog w) A (do
    storeSet S (insertAt es p (tupleKeyHash (intKind prog w) k,Value.ref x)) (if b=true then t1 else { t1 with plain:=false })
    if (!false && (if b=true then t1 else { t1 with plain:=false }).tooFull)=true then do
     setRelay S (grown (es.size+1))
     pure true
    else pure true) Q E { s with toks:=s.toks+(k.length+1) }:=fun b=>by
   have T2:Tb' (if b=true then t1 else { t1 with plain:=false }) (insertAt es p (tupleKeyHash (intKind prog w) k,Value.ref x)):=by
    split
    ·exact T1
    ·exact T1.plain false
   have hm2:(if b=true then t1 else { t1 with plain:=false }).mask=t.mask:=by split<;>exact hled
   generalize (if b=true then t1 else { t1 with plain:=false })=t2 at T2 hm2
   refine wpAny_bind (wpAny_storeSet_of (s:={ s with toks:=s.toks+(k.length+1) }) ho hd ?_ fits1)
   have ho1:=stored (es':=insertAt es p (tupleKeyHash (intKind prog w) k,Value.ref x)) (t':=t2) ho hd
   have hsb1:=Heap.SameBut.update s.heap S (Obj.putSet (insertAt es p (tupleKeyHash (intKind prog w) k,Value.ref x)) t2)
   rw[bn1 T2]
   simp only[aP1,Bool.true_and,decide_eq_true_eq]
   by_cases hful:t2.mask*3<=(insertAt es p (tupleKeyHash (intKind prog w) k,Value.ref x)).size*5
   ·rw[if_pos hful]
    rw[hsz1,hm2]at hful
    obtain⟨g1,g2,g3⟩:=aN8 T.good T.nf hful (by rw[hsz];exact hn)
    unfold setRelay
    refine wpAny_bind (wpAny_bind (wpAny_setState_of (s:={ s with heap:=s.heap.update S (Obj.putSet (insertAt es p (tupleKeyHash (intKind prog w) k,Value.ref x)) t2),toks:=s.toks+(k.length+1) }) ho1 rfl T2.fits ?_))
    dsimp only
    rw[if_neg (by rw[sizeLine_eq];omega)]
    obtain⟨t3,order,hl3,T3,hpm3⟩:=bs1 (M:=sizeAbove (grown (es.size+1)) - 1) (finger:=t2.finger) (moves:=t2.movedTo (sizeAbove (grown (es.size+1)) - 1)) (led:=t2.led) (plain:=t2.plain) (es:=insertAt es p (tupleKeyHash (intKind prog w) k,Value.ref x)) g1 (by rw[hsz1];exact g2)
    have hrel:t2.relaid ((insertAt es p (tupleKeyHash (intKind prog w) k,Value.ref x)).map (·.1)) (grown (es.size+1))=some (t3,order):=by
     unfold relaid
     exact hl3
    rw[hrel]
    have hsz3:(order.filterMap ((insertAt es p (tupleKeyHash (intKind prog w) k,Value.ref x))[·]?)).size=(insertAt es p (tupleKeyHash (intKind prog w) k,Value.ref x)).size:=by
     rw[<- o4,hpm3.length_eq,o4]
    refine wpAny_bind ?_
    show wpAny _ _ (if ((order.filterMap ((insertAt es p (tupleKeyHash (intKind prog w) k,Value.ref x))[·]?)).size != (insertAt es p (tupleKeyHash (intKind prog w) k,Value.ref x)).size)=true then _ else _) _ _ _
    rw[if_neg (by rw[hsz3];simp)]
    first | refine wpAny_pure ?_ | refine wpAny_bind (wpAny_pure (wpAny_pure ?_))
    dsimp only
    refine wpAny_storeSet_of (s:={ s with heap:=s.heap.update S (Obj.putSet (insertAt es p (tupleKeyHash (intKind prog w) k,Value.ref x)) t2),toks:=s.toks+(k.length+1) }) ho1 rfl ?_ (by rw[hsz3];exact fits1)
    refine wpAny_pure ?_
    have ho2:=stored (es':=order.filterMap ((insertAt es p (tupleKeyHash (intKind prog w) k,Value.ref x))[·]?)) (t':=t3) ho1 rfl
    have hsb2:=hsb1.trans (Heap.SameBut.update _ S (Obj.putSet (order.filterMap ((insertAt es p (tupleKeyHash (intKind prog w) k,Value.ref x))[·]?)) t3))
    have:=hq true _ (s.toks+(k.length+1)) (K2 _ _) hsb2
    rw[if_neg hmem]at this
    exact this (made _ _ _ _ _ hsb2 ho2 hex rfl T3 hpm3)
   ·rw[if_neg hful]
    refine wpAny_pure ?_
    have:=hq true _ (s.toks+(k.length+1)) (K2 _ _) hsb1
    rw[if_neg hmem]at this
    exact this (made _ _ _ _ _ hsb1 ho1 hex rfl (T2.full (by omega)) (List.Perm.refl _))
  cases hpl:t1.plain with
  | true =>
   rw[if_pos rfl]
   refine wpAny_bind (ai8 (s:={ s with toks:=s.toks+(k.length+1) }) hx ?_)
   exact rest true
  | false =>
   rw[if_neg f6]
   refine wpAny_bind (wpAny_pure ?_)
   exact rest true
end
def Q5 (ks:List (List Int))(k:List Int):List (List Int):=if k∈ks then ks else k::ks
theorem bh9 (ks:List (List Int))(k:List Int):(Q5 ks k).length<=ks.length+1:=by unfold Q5;split<;>simp
theorem an8:∀ (l ks:List (List Int)),(l.foldl Q5 ks).length<=ks.length+l.length
 | [],ks=>by simp
 | k::l,ks=>by
  rw[ag9]
  have h1:=an8 l (Q5 ks k)
  have h2:=bh9 ks k
  rw[m9]
  omega
theorem ai9:∀ (l ks:List (List Int)),(l.foldl Q5 ks).length=ks.length+l.length↔l.Nodup/\∀ x∈l,x∉ks
 | [],ks=>by simp
 | k::l,ks=>by
  rw[ag9,m9,A0]
  by_cases h:k∈ks
  ·have e:Q5 ks k=ks:=by unfold Q5;rw[if_pos h]
   rw[e]
   have:=an8 l ks
   constructor
   ·intro q;omega
   ·rintro⟨_,q⟩
    exact absurd h (q k d8)
  ·have e:Q5 ks k=k::ks:=by unfold Q5;rw[if_neg h]
   rw[e]
   have:=ai9 l (k::ks)
   rw[m9]at this
   constructor
   ·intro q
    obtain⟨q1,q2⟩:=this.mp (by omega)
    refine⟨⟨fun hk=>q2 k hk d8,q1⟩,fun x hx=>?_⟩
    rcases d3.mp hx with rfl | hx
    ·exact h
    ·exact fun z=>q2 x hx (d5 _ z)
   ·rintro⟨⟨q1,q2⟩,q3⟩
    have:=this.mpr ⟨q2,fun x hx z=>by
     rcases d3.mp z with rfl | z
     ·exact q1 hx
     ·exact q3 x (d5 _ hx) z⟩
    omega
section
variable {prog:Program} {w:World}
theorem aD4 {A:Around}{R:Result->Shared->Prop}{I:Addr}{fp wr:List Addr}{G:Array GenState->Array GenState->Prop}{n:Nat}{P:Nat->Value->Prop}{St:Nat->Shared->Prop}
  (W:WalksS prog w A.in1 I fp wr G n P St)(hu:A.in1.units<cLine)(S:Addr)(hSf:S∉fp)(hp:Heap)(hS0:hp.get? S=none)(hw0:∀ b∈wr,hp.get? b=none)(keys:List (List Int))(hn:keys.length=n)(hb:n<300)
  (hkey:∀ i v,P i v->∃ x k,v=.ref x/\keys[i]?=some k/\al6 k/\IsTupleKey (intKind prog w) hp k x) :
  ∀ (c i:Nat) (s:Shared),n - i=c->i<=n->St i s->(∀ b o,hp.get? b=some o->s.heap.get? b=some o)->am3 prog w hp s.heap S ((keys.take i).foldl Q5 []) ->
   (∀ s',Moved (S::wr) G s s'->am3 prog w hp s'.heap S (keys.foldl Q5 [])->R (.ok (.ret .none)) s') ->
   codeAny (model prog w) A (.builtin "set.update.loop" ⟨[.ref S,.ref I],[]⟩) R s:=by
 have hSw:S∉wr:=fun h=>hSf (W.sub _ h)
 have hsub:∀ b∈wr,b∈S::wr:=fun b hb=>d5 _ hb
 have nw:∀ b o,hp.get? b=some o->b∉wr:=fun b o e hm=>by rw[hw0 b hm]at e;cases e
 have nS:∀ b o,hp.get? b=some o->b≠S:=fun b o e hm=>by rw[hm,hS0]at e;cases e
 have setKept:∀ {s s':Shared} {ks:List (List Int)},am3 prog w hp s.heap S ks->(∀ b o,b∉wr->s.heap.get? b=some o->s'.heap.get? b=some o)->am3 prog w hp s'.heap S ks:=fun {s s' ks} hS hk=>by
  obtain⟨o,es,ep,t,ho,rest⟩:=hS
  exact⟨o,es,ep,t,hk S o hSw ho,rest⟩
 intro c
 induction c with
 | zero =>
  intro i s hk hi hst hup hS hR
  have hin:i=n:=by omega
  subst hin
  refine codeAny_builtin PyProof.Rows.F.entry_set_update_loop ?_
  rw[Around.under_plainId PyProof.Rows.F.plain_set_update_loop _]
  show wpAny _ A.in1 (pyNext (.ref I) >>= _) _ _ s
  refine wpAny_bind (W.done s _ _ hst fun s' hm=>?_)
  show wpAny _ A.in1 (ret Value.none) _ _ s'
  refine wpAny_pure (hR s' (hm.mono hsub) ?_)
  have:=setKept hS hm.heap
  rw[j0 (by omega)]at this
  exact this
 | succ c ih =>
  intro i s hk hi hst hup hS hR
  have hlt:i<n:=by omega
  refine codeAny_builtin PyProof.Rows.F.entry_set_update_loop ?_
  rw[Around.under_plainId PyProof.Rows.F.plain_set_update_loop _]
  show wpAny _ A.in1 (pyNext (.ref I) >>= _) _ _ s
  refine wpAny_bind (W.item i s _ _ hlt hst fun v s' hP hst' hm=>?_)
  obtain⟨x,k,rfl,hki,hok,hx⟩:=hkey i v hP
  have hup':∀ b o,hp.get? b=some o->s'.heap.get? b=some o:=fun b o e=>hm.heap b o (nw b o e) (hup b o e)
  have hS':=setKept (s':=s') hS hm.heap
  show wpAny _ A.in1 (holding [Value.ref x] (setAdd S (.ref x)) >>= _) _ _ s'
  refine wpAny_bind (wpAny_holding ?_)
  have hlen:((keys.take i).foldl Q5 []).length<300:=by
   have:=an8 (keys.take i) []
   rw[q8]at this
   simp only[aK2]at this
   omega
  refine aE3 hup' hu hS' hx hok hlen fun b h' tk htk hsb hS2=>?_
  have hS3:am3 prog w hp h' S ((keys.take (i+1)).foldl Q5 []):=by
   rw[x9,hki,List.foldl_append]
   exact hS2
  refine wpAny_pure ⟨plainId_quiet PyProof.Rows.F.plain_set_update_loop _,ih (i+1) _ (by omega) hlt (W.frame _ s' _ _ hst' htk fun b hb o e=>?_) (fun b o e=>?_) hS3 fun s'' hm'' hS''=>?_⟩
  ·rw[hsb.2 b (fun h:b=S=>hSf (h ▸ hb))];exact e
  ·show h'.get? b=some o
   rw[hsb.2 b (nS b o e)]
   exact hup' b o e
  ·refine hR s'' (Moved.trans W.gtrans ((hm.mono hsub).then_heap htk fun b o hb e=>?_) hm'') hS''
   rw[hsb.2 b (fun h:b=S=>hb (h ▸ d8))];exact e
variable {A:Around} {E:Value->Shared->Prop} {s:Shared}
set_option maxRecDepth 100000 in
set_option maxHeartbeats 3200000 in
theorem aE1 {l:Addr}{items:Array Value}{keys:List (List Int)}{Q:Value->Shared->Prop}(hh:A.handled=none)(hu:A.units+8<cLine)(hl:s.heap.IsList l items)(hn:keys.length=items.size)(hb:items.size<300)
  (hkey:∀ (i:Nat) (v:Value),items[i]?=some v->∃ x k,v=.ref x/\keys[i]?=some k/\al6 k/\IsTupleKey (intKind prog w) s.heap k x)
  (h:∀ (h':Heap) (tk:Nat),am3 prog w s.heap h' s.heap.objs.size (keys.foldl Q5 [])->(∀ b o,s.heap.get? b=some o->h'.get? b=some o)->Q (.ref s.heap.objs.size) { s with heap:=h',toks:=tk }) :
  wpAny (model prog w) A (call (.type "set") [.ref l]) Q E s:=by
 obtain⟨c,tl,hmro⟩:=F.called_set.mro
 have hmade:=F.called_set.made
 have hsub:=F.called_set.sub
 refine wpAny_call (codeAny_of_tree ?_)
 show wpAny _ _ (callAny (.type "set") _) _ _ _
 refine wpAny_pure ⟨Code.quiet_builtin _ (by decide +kernel),codeAny_builtin F.entry_type_call ?_⟩
 rw[Around.under_plain (weight_type_call_type "set" [.ref l] []) rfl]
 have h1:=F.called_set.notType
 have h2:=F.called_set.canCreate
 have hct:=F.typeCall_set_1 (.ref l)
 repeat (any_goals (first | assumption | wp_step))
 refine codeAny_mono (code_set_new_1 (.ref l) (E:=E) (Q₁:=fun obj s₁=>∃ led:Bool,obj=.ref s.heap.objs.size/\s₁={ s with heap:=s.heap.push { cls:=.type "set",dict:=none,data:=.set #[] 0 (.fresh 0 0 led) } }) fun led=>⟨led,rfl,rfl⟩) fun r s₁ hr=>?_
 cases r with
 | error e=>exact hr
 | ok fl =>
  cases fl with
  | ret obj =>
   obtain⟨led,rfl,rfl⟩:=hr
   have hS:(s.heap.push { cls:=.type "set",dict:=none,data:=.set #[] 0 (.fresh 0 0 led) }).get? s.heap.objs.size=some { cls:=.type "set",dict:=none,data:=.set #[] 0 (.fresh 0 0 led) }:=d6 _ rfl
   have hT:Shared.TypeIs { s with heap:=s.heap.push { cls:=.type "set",dict:=none,data:=.set #[] 0 (.fresh 0 0 led) } } (.ref s.heap.objs.size) "set":=⟨_,hS,rfl⟩
   have hli:=F.called_set.init.lookup
   have hbi:=F.called_set.init.bind (.ref s.heap.objs.size)
   repeat (any_goals (first | assumption | wp_step))
   refine codeAny_mono (codeAny_call_builtin (R:=wants (fun r s₂=>r=.none/\∃ h' tk,s₂={ s with heap:=h',toks:=tk }/\am3 prog w s.heap h' s.heap.objs.size (keys.foldl Q5 [])/\(∀ b o,s.heap.get? b=some o->h'.get? b=some o)) E) F.called_set.init.plain F.entry_set_init (check_set_init_1 hT ?_)) fun r₂ s₂ hr₂=>?_
   ·obtain⟨ol,hol,hcl,nl,hdl⟩:=hl
    obtain⟨ocls,odict,odata,oslots⟩:=ol
    simp only at hcl hdl
    subst hcl;subst hdl
    have hol':(s.heap.push { cls:=.type "set",dict:=none,data:=.set #[] 0 (.fresh 0 0 led) }).get? l=some { cls:=.type "list",dict:=odict,data:=.seq items nl,slots:=oslots }:=b9 _ hol
    have hsls:=F.sub_list_set
    have hslf:=F.sub_list_frozenset
    have hne:(Value.type "list" == Value.type "dict")=false:=by decide
    have hl1:(s.heap.push { cls:=.type "set",dict:=none,data:=.set #[] 0 (.fresh 0 0 led) }).IsList l items:=⟨_,hol',rfl,nl,rfl⟩
    unfold Builtin.«set.__init__» noKeywords Builtin.Frozenset.updateFrom
    generalize hPI:pyIter=PI
    wp_walk
    subst hPI
    refine wpAny_pyIter_list hl1 ?_
    refine wpAny_bind (wpAny_runValue ?_)
    have hlS:l<s.heap.objs.size:=c9 hol
    have hh3:A.in1.in1.in1.handled=none:=by simp[hh]
    have hneI:l≠(s.heap.push { cls:=.type "set",dict:=none,data:=.set #[] 0 (.fresh 0 0 led) }).objs.size:=by
     rw[x6];exact i4 (u9 hlS)
    have hSf:s.heap.objs.size∉[(s.heap.push { cls:=.type "set",dict:=none,data:=.set #[] 0 (.fresh 0 0 led) }).objs.size,l]:=by
     rw[x6];simp only[d3,y6,B5,or_false,not_or]
     exact⟨i4 (T4 _),D9 hlS⟩
    refine aD4 ((Walks.list hh3 _ l hneI items).toS) ?hu s.heap.objs.size hSf s.heap ?hn ?hw keys hn hb hkey (items.size - 0) 0 _ (by omega) (o8 _)
     ⟨⟨_,d6 _ rfl,rfl,rfl⟩,(hl1.push _)⟩ (fun b o e=>b9 _ (b9 _ e)) ?hS0 ?hR
    case hu=>show A.units+1+1+1<cLine;omega
    case hn=>exact aj6 (c7 _)
    case hw =>
     intro b hb
     have e:b=(s.heap.push { cls:=.type "set",dict:=none,data:=.set #[] 0 (.fresh 0 0 led) }).objs.size:=by simpa using hb
     rw[e]
     exact aj6 (by rw[x6];exact R3 _)
    case hS0 =>
     have hget:((s.heap.push { cls:=.type "set",dict:=none,data:=.set #[] 0 (.fresh 0 0 led) }).push { cls:=.type "list_iterator",data:=.fields #[.ref l,.int 0 0] }).get? s.heap.objs.size
       = some { cls:=.type "set",dict:=none,data:=.set #[] 0 (.fresh 0 0 led) }:=b9 _ hS
     refine⟨_,_,_,_,hget,⟨rfl,rfl,rfl⟩,rfl,⟨rfl,rfl,?_,?_,.inl rfl,by show 0*5<7*3;decide,?_⟩,rfl,al8,(fun _ h=>nomatch h),(fun _ h=>nomatch h),(fun _ h=>nomatch h)⟩
     ·intro i j a b hij ea
      simp[SetTable.fresh]at ea
     ·intro i j ea
      simp[SetTable.fresh]at ea
     ·intro i e ea
      simp at ea
    case hR =>
     intro s' hm hS'
     obtain⟨h',g',d',tk',os'⟩:=s'
     have eg:g'=s.gens:=hm.gens
     have ed:d'=s.drawn:=hm.drawn
     have eo:os'=s.os:=hm.os
     subst eg;subst ed;subst eo
     show wpAny _ _ _ _ _ _
     refine wpAny_pure ?_
     show wpAny _ _ (ret Value.none) _ _ _
     refine wpAny_pure ⟨rfl,h',tk',rfl,hS',fun b o e=>?_⟩
     have hlt:=c9 e
     have hb1:b≠s.heap.objs.size:=i4 hlt
     have hb2:b≠(s.heap.push { cls:=.type "set",dict:=none,data:=.set #[] 0 (.fresh 0 0 led) }).objs.size:=by
      rw[x6];exact i4 (u9 hlt)
     exact hm.heap b o (by simp only[d3,y6,B5,or_false,not_or];exact⟨hb1,hb2⟩) (b9 _ (b9 _ e))
   ·cases r₂ with
    | error e=>exact hr₂
    | ok fl₂ =>
     cases fl₂ with
     | ret r =>
      obtain⟨rfl,h',tk,rfl,hS',hk'⟩:=hr₂
      repeat (any_goals (first | assumption | wp_step))
      exact h _ _ hS' hk'
     | _=>exact hr₂.elim
  | _=>exact hr.elim
theorem aN3 {S:Addr}{hp:Heap}{ks:List (List Int)}{Q:Value->Shared->Prop}(hS:am3 prog w hp s.heap S ks)(hn:ks.length<300)(h:∀ t tk,Q (.int ks.length t) { s with toks:=tk }) :
  wpAny (model prog w) A (call (.builtin "len") [.ref S]) Q E s:=by
 obtain⟨o,es,ep,t,ho,hex,hd,T,hsz,_⟩:=hS
 refine call_len_set ho hex hd T.fits (by omega) ?_
 rw[hsz]
 exact h _ _
end
end Sett
namespace L2
open PySem PySem.Spec PyProof.Rows
def x8 (K:W.Frag)(H:Hp)(ys:List V)(ks:List (List Int)):Prop:=Paired (fun y k=>∃ a,y=V.ref a/\SqT K H a (k.map V.int)) ys ks
theorem x8.len {K:W.Frag}{H:Hp}{ys:List V}{ks:List (List Int)}(t:x8 K H ys ks):ys.length=ks.length:=Paired.length t
theorem x8.get {K:W.Frag}{H:Hp}:∀ {ys:List V} {ks:List (List Int)} {i:Nat} {y:V},x8 K H ys ks->ys[i]?=some y->∃ a k,y=V.ref a/\ks[i]?=some k/\SqT K H a (k.map V.int)
 | _,_,_,_,.nil,e=>by simp at e
 | _,_,0,_,.cons r _,e=>by
  simp at e
  subst e
  obtain⟨a,h1,h2⟩:=r
  exact⟨a,_,h1,rfl,h2⟩
 | _,_,i+1,y,.cons _ t,e=>by
  obtain⟨a,k,h1,h2,h3⟩:=x8.get (i:=i) (y:=y) t (by simpa using e)
  exact⟨a,k,h1,by simpa using h2,h3⟩
theorem x8.same {K:W.Frag}{H H':Hp}(hs:∀ b o,H b=some o->H' b=some o):∀ {ys:List V} {ks:List (List Int)},x8 K H ys ks->x8 K H' ys ks
 | _,_,.nil=>.nil
 | _,_,.cons r t=>by
  obtain⟨a,h1,h2⟩:=r
  refine .cons ⟨a,h1,?_⟩ (x8.same hs t)
  rcases h2 with(h | ⟨o,h⟩) | h
  ·exact .inl (.inl (hs _ _ h))
  ·exact .inl (.inr ⟨o,hs _ _ h⟩)
  ·exact .inr h
theorem x8.append {K:W.Frag}{H:Hp}:∀ {ys zs:List V} {ks ls:List (List Int)},x8 K H ys ks->x8 K H zs ls->x8 K H (ys++zs) (ks++ls)
 | _,_,_,_,.nil,s=>s
 | _,_,_,_,.cons r t,s=>.cons r (x8.append t s)
section
variable {X:Cx} {pins:List (Addr × Obj)} {σ:St} {H:Hp} {s:Shared}
theorem aH7 {prog:Program}{w:World}:∀ {k:List Int} {its:List Value},y9 (k.map V.int) its->ItemsAre (intKind prog w) k its
 | [],_,.nil=>.nil
 | i::k,_,.cons r t=>by
  obtain⟨tk,rfl⟩:=r
  exact .cons (by simp[intKind,Value.isInt]) (aH7 t)
theorem bn0 (I:Inv X pins σ H s){a:Addr}{k:List Int}(h:SqT X.K H a (k.map V.int)):IsTupleKey (intKind X.prog X.w) s.heap k a:=by
 obtain⟨its,r,⟨o,ho,hc,n,hd⟩,_⟩:=I.tuple h
 exact⟨o,its.toArray,n,ho,hc,hd,by simpa using aH7 r⟩
theorem U1 (I:Inv X pins σ H s):∀ {ys:List V} {ks:List (List Int)} {us:List Value},x8 X.K H ys ks->y9 ys us->Paired (fun u k=>∃ a,u=Value.ref a/\IsTupleKey (intKind X.prog X.w) s.heap k a) us ks
 | _,_,_,.nil,.nil=>.nil
 | _,_,_,.cons r t,.cons q v=>by
  obtain⟨a,rfl,h⟩:=r
  cases q
  exact .cons ⟨a,rfl,bn0 I h⟩ (U1 I t v)
theorem R6 {α β:Type}{R:α->β->Prop}:∀ {l:List α} {m:List β} {i:Nat} {x:α},Paired R l m->l[i]?=some x->∃ y,m[i]?=some y/\R x y
 | _,_,_,_,.nil,e=>by simp at e
 | _,_,0,_,.cons r _,e=>by simp at e;subst e;exact⟨_,rfl,r⟩
 | _,_,i+1,x,.cons _ t,e=>by
  obtain⟨y,h1,h2⟩:=R6 (i:=i) (x:=x) t (by simpa using e)
  exact⟨y,by simpa using h1,h2⟩
theorem al3 {α β:Type}{R:α->β->Prop}{l l':List α}(p:l'.Perm l):∀ {m:List β},Paired R l m->∃ m',m'.Perm m/\Paired R l' m':=by
 induction p with
 | nil=>intro m h;exact⟨m,List.Perm.refl _,h⟩
 | cons x _ ih =>
  intro m h
  cases h with
  | cons r t =>
   obtain⟨m',p',h'⟩:=ih t
   exact⟨_::m',p'.cons _,.cons r h'⟩
 | swap x y l =>
  intro m h
  cases h with
  | cons r t =>
   cases t with
   | cons r' t'=>exact⟨_::_::_,List.Perm.swap _ _ _,.cons r' (.cons r t')⟩
 | trans _ _ ih1 ih2 =>
  intro m h
  obtain⟨m1,p1,h1⟩:=ih2 h
  obtain⟨m2,p2,h2⟩:=ih1 h1
  exact⟨m2,p2.trans p1,h2⟩
theorem Z4 {α β:Type}{R:α->β->Prop}:∀ {l:List α} {m:List β},Paired R l m->Paired (fun b a=>R a b) m l
 | _,_,.nil=>.nil
 | _,_,.cons r t=>.cons r (Z4 t)
theorem aq2 {α β:Type}{R S:α->β->Prop}(f:∀ a b,R a b->S a b):∀ {l:List α} {m:List β},Paired R l m->Paired S l m
 | _,_,.nil=>.nil
 | _,_,.cons r t=>.cons (f _ _ r) (aq2 f t)
end
section
variable {X:Cx}
def aO6 (P:Program)(w:World)(S:Addr)(n:Nat):HO:=.ext fun h=>∃ hk ks,ks.length=n/\n<300/\Sett.am3 P w hk h S ks
theorem aJ2 (hc:X.calm=true)(hu:X.A.units+8<cLine):L1 X (.type "set") (fun xs H Q=>∃ p ys ks,xs=[.ref p]/\SqL X.K H p ys/\x8 X.K H ys ks/\(∀ k∈ks,Sett.al6 k)/\ks.length<300 /\
  ∀ S,H S=none->Q (.ref S) (upd H S (aO6 X.prog X.w S (ks.foldl Sett.Q5 []).length))):=by
 intro pins s σ H xs us Q I r h
 obtain⟨p,ys,ks,rfl,hq,ht,hok,hb,q⟩:=h
 obtain⟨u,rfl,rx⟩:=vals1 r
 cases rx
 obtain⟨its,r',pl,hz⟩:=I.list hq
 have hlen:=r'.length
 have hk:=U1 I ht r'
 have hkl:=ht.len
 refine Sett.aE1 (keys:=ks) (I.ok.hd hc) hu pl.isList (by simp;omega) (by simp;omega) (fun i v hv=>?_) fun h' tk hS kp=>?_
 ·obtain⟨k,h1,a,rfl,h2⟩:=R6 hk (by simpa using hv)
  exact⟨a,k,rfl,h1,hok k (i6 h1),h2⟩
 ·have hle:=Sett.an8 ks []
  simp only[aK2]at hle
  refine⟨.ref s.heap.objs.size,_,I.laid (o:=aO6 X.prog X.w s.heap.objs.size (ks.foldl Sett.Q5 []).length) (t':=tk) kp (c7 _) ?_,rfl,q _ (I.hok.fresh (c7 _))⟩
  refine⟨⟨s.heap,ks.foldl Sett.Q5 [],rfl,by omega,hS⟩,?_,fun h1 h2 ⟨hk1,ks1,e1,e2,hS1⟩ hkeep=>⟨hk1,ks1,e1,e2,?_⟩⟩
  ·obtain⟨o,_,_,_,ho,_⟩:=hS
   exact⟨o,ho⟩
  ·obtain⟨o,es,ep,t,ho,rest⟩:=hS1
   exact⟨o,es,ep,t,hkeep o ho,rest⟩
theorem call_len_set:L1 X (.builtin "len") (fun xs H Q=>∃ S n,xs=[.ref S]/\H S=some (aO6 X.prog X.w S n)/\Q (.int n) H):=by
 intro pins s σ H xs us Q I r h
 obtain⟨S,n,rfl,hS,q⟩:=h
 obtain⟨u,rfl,rx⟩:=vals1 r
 cases rx
 obtain⟨⟨hk,ks,e1,e2,hS1⟩,_⟩:=I.hok S _ hS
 refine Sett.aN3 hS1 (by omega) fun t tk=>?_
 exact⟨.int n,H,I.tok _,⟨t,by rw[e1]⟩,q⟩
end
def B7 (X:Cx)(scope:Scope)(cl:List (Str × Addr))(N':List Str)(s₃:Shared)(H₃:Hp)(fp:List Addr)(xe':Value->Shared->Prop):Cx:=
 { X with N:=N',s₀:=s₃,H₀:=H₃,env:=compEnvC scope cl s₃.heap.objs.size X.env,outer:=X.stack,ex:=fp,fn:=fun _=>false,pn:=[],xe:=xe' }
def at5 (env:Env):List (Str × Addr)->Prop
 | []=>True
 | (x,c)::r=>env.cells.lookup x=some c/\at5 env r
theorem at5.get {env:Env}:∀ {cl:List (Str × Addr)} {x:Str} {c:Addr},at5 env cl->cl.lookup x=some c->env.cells.lookup x=some c
 | [],_,_,_,h=>by cases h
 | (y,d)::r,x,c,⟨h1,h2⟩,h=>by
  rw[bH3]at h
  cases e:x == y with
  | true =>
   rw[e]at h
   cases h
   rw[eq_of_beq e]
   exact h1
  | false =>
   rw[e]at h
   exact at5.get h2 h
def ag6 (names:List (Str × NameKind))(cl:List (Str × Addr)):Bool:=names.all fun y=>y.2 != .cell && (y.2 != .free || (cl.lookup y.1).isSome)
theorem R9 {env:Env}:∀ {names:List (Str × NameKind)} {x:Str} {k:NameKind},(names.map fun(n,k)=>if (k == NameKind.free && env.scope.kind == .function && env.kindOf n == some .cell) then (n,NameKind.cell) else (n,k)).lookup x=some k ->
  ∃ k',(x,k')∈names/\(k'=k\/(k'=.free/\k=.cell))
 | [],_,_,h=>by cases h
 | (n,k0)::r,x,k,h=>by
  rw[k6]at h
  have hn:∀ k1,(A7 x ((n,k1)::r.map fun(n,k)=>if (k == NameKind.free && env.scope.kind == .function && env.kindOf n == some .cell) then (n,NameKind.cell) else (n,k)))=some k->(x=n/\k1=k)\/∃ k',(x,k')∈r/\(k'=k\/(k'=.free/\k=.cell)):=fun k1 h=>by
   rw[bH3]at h
   cases e:x == n with
   | true=>rw[e]at h;cases h;exact .inl ⟨eq_of_beq e,rfl⟩
   | false=>rw[e]at h;exact .inr (R9 h)
  dsimp only at h
  by_cases hc:(k0 == NameKind.free && env.scope.kind == .function && env.kindOf n == some .cell)=true
  ·rw[if_pos hc]at h
   rcases hn _ h with⟨rfl,rfl⟩ | ⟨k',h1,h2⟩
   ·simp only[A1]at hc
    have e0:k0=.free:=eq_of_beq hc.1.1
    exact⟨k0,d8,.inr ⟨e0,rfl⟩⟩
   ·exact⟨k',d5 _ h1,h2⟩
  ·rw[if_neg hc]at h
   rcases hn _ h with⟨rfl,rfl⟩ | ⟨k',h1,h2⟩
   ·exact⟨k0,d8,.inl rfl⟩
   ·exact⟨k',d5 _ h1,h2⟩
def W9 (lk:List (Option Nat))(σ:St):St:=lk.map fun o=>o.bind fun j=>(σ[j]?).join
def bl1 (X:Cx)(N':List Str)(lk:List (Option Nat))(scope:Scope)(cl:List (Str × Addr)):Prop:=
 lk.length=N'.length/\∀ (i j:Nat) (x:Str),N'[i]?=some x->lk[i]?=some (some j)->X.N[j]?=some x/\(X.env.scope.names.lookup x=some .cell\/X.env.scope.names.lookup x=some .free)/\(cl.lookup x).isSome=true /\
  ((compEnvC scope cl 0 X.env).kindOf x=some .cell\/(compEnvC scope cl 0 X.env).kindOf x=some .free)
section
variable {X:Cx}
theorem as1 {pins:List (Addr × Obj)}{σ:St}{H3:Hp}{s3:Shared}{h1:Heap}{tk:Nat}{scope:Scope}{cl:List (Str × Addr)}{N':List Str}{lk:List (Option Nat)}{fp:List Addr}{xe':Value->Shared->Prop}{m0:Str->Option Value}
  (I:Inv X pins σ H3 s3)(hf:∀ b∈fp,J1 X pins H3 b)(hkind:scope.kind=.function)(hcl:at5 X.env cl)(hfr:ag6 scope.names cl=true)(hlk:bl1 X N' lk scope cl)
  (hn:h1.Ns s3.heap.objs.size m0)(hk:∀ b u,s3.heap.get? b=some u->h1.get? b=some u)(hfs:∀ b∈fp,b<s3.heap.objs.size):Inv (B7 X scope cl N' s3 H3 fp xe') [] (W9 lk σ) H3 { s3 with heap:=h1,toks:=tk }:=by
 have hC:H3 s3.heap.objs.size=none:=I.hok.fresh (c7 _)
 have hmem:∀ y∈scope.names,y.2≠.cell/\(y.2=.free->(cl.lookup y.1).isSome=true):=fun y hy=>by
  unfold ag6 at hfr
  rw[C0]at hfr
  have:=hfr y hy
  rw[A1]at this
  refine⟨by simpa using this.1,fun e=>?_⟩
  have h2:=this.2
  rw[e]at h2
  simpa using h2
 have hcell:∀ x c,cl.lookup x=some c->X.env.cells.lookup x=some c:=fun x c e=>hcl.get e
 have clt:∀ x c,cl.lookup x=some c->c<s3.heap.objs.size:=fun x c e=>by
  obtain⟨v,q⟩:=I.cell x c (hcell x c e)
  exact q.lt
 refine⟨⟨I.ok.mod,hkind,I.ok.glob,I.ok.blt,c7 _,fun x y c e1 e2=>I.ok.inj x y c (hcell x c e1) (hcell y c e2),fun x hx=>?_,(fun x c e=>by cases e),I.ok.hd,I.ok.frames,.inl rfl,fun b hb=>?_,fun b o e=>I.bs b o e,p5 I.ok.bsz I.sz,fun b o e hb=>?_,fun b hb z=>?_,I.stack,I.stkFree⟩,
  rfl,I.bare,Un.kept hk,⟨m0,hn,fun i x v e1 e2 e3=>?_⟩,fun x c e=>?_,hC,fun x c e=>?_,(fun p hp=>nomatch hp),I.hok.kept hk,?_⟩
 ·have hx':(relabel scope X.env).names.lookup x=some .cell\/(relabel scope X.env).names.lookup x=some .free:=hx
  have:∃ k',(x,k')∈scope.names/\k'=.free:=by
   rcases hx' with h | h
   ·obtain⟨k',h1,h2⟩:=R9 h
    rcases h2 with h2 | h2
    ·exact absurd h2 (hmem _ h1).1
    ·exact⟨k',h1,h2.1⟩
   ·obtain⟨k',h1,h2⟩:=R9 h
    rcases h2 with h2 | h2
    ·exact⟨k',h1,h2⟩
    ·exact⟨k',h1,h2.1⟩
  obtain⟨k',h1,h2⟩:=this
  exact k9.mp ((hmem _ h1).2 h2)
 ·obtain⟨f0,f1,f2,f3,f4,f5⟩:=hf b hb
  exact⟨i4 (hfs b hb),fun x c e=>f4 x c (hcell x c e)⟩
 ·obtain⟨f0,f1,f2,f3,f4,f5⟩:=hf b hb
  rcases f3 with f3 | f3
  ·exact I.ok.noex b o e f3
  ·exact absurd (l9 (c9 e) (p5 I.ok.bsz f3)) (u5 _)
 ·obtain⟨f0,f1,f2,f3,f4,f5⟩:=hf b hb
  rcases d3.mp (I.stkSub b z) with e | e
  ·exact f1 e
  ·exact f2 e
 ·-- a captured name
  have e2':(W9 lk σ)[i]?=some (some v):=e2
  unfold W9 at e2'
  rw[l4]at e2'
  cases hq:lk[i]? with
  | none=>rw[hq]at e2';cases e2'
  | some o =>
   rw[hq]at e2'
   have e2'':(o.bind fun j=>(σ[j]?).join)=some v:=Option.some.inj e2'
   cases o with
   | none=>cases e2''
   | some j =>
    obtain⟨q1,q2,q3,q4⟩:=hlk.2 i j x e1 hq
    have hσ:σ[j]?=some (some v):=by
     have z:(σ[j]?).join=some v:=e2''
     cases hh:σ[j]? with
     | none=>rw[hh]at z;cases z
     | some o=>rw[hh]at z;rw[show o=some v from z]
    obtain⟨m,hnX,hl⟩:=I.loc
    obtain⟨u,r,lo⟩:=hl j x v q1 hσ (q2.elim (fun a=>.inr (.inl a)) (fun a=>.inr (.inr a)))
    refine⟨u,r,.inr ?_⟩
    obtain⟨c,hc⟩:=k9.mp q3
    refine⟨q4,c,hc,?_⟩
    have hcX:=hcell x c hc
    rcases lo with⟨k,_⟩ | ⟨_,c',hc',z⟩
    ·have k':X.env.scope.names.lookup x=some .local:=k
     rw[k']at q2
     rcases q2 with q2 | q2<;>cases q2
    ·rw[hcX]at hc'
     cases hc'
     obtain⟨o,ho,hd⟩:=z
     exact⟨o,hk c o ho,hd⟩
 ·obtain⟨v,o,ho,hd⟩:=I.cell x c (hcell x c e)
  exact⟨v,o,hk c o ho,hd⟩
 ·exact I.freeC x c (hcell x c e)
 ·show (W9 lk σ).length=N'.length
  unfold W9
  rw[b7]
  exact hlk.1
def PTs (X:Cx)(ifs:List Expr)(t:TT):Prop:=
 ∀ (pins:List (Addr × Obj)) (s:Shared) (σ:St) (H:Hp) (Q:Bool->Hp->Prop),Inv X pins σ H s->t σ H Q->wpAny (model X.prog X.w) X.A (forIn ifs true fun c r=>if r=true then do let ok <- isTrue c X.env (eval c X.env);pure (ForInStep.yield ok) else pure (ForInStep.yield r)) (TP X pins σ Q) X.xe s
def bv4:TT:=fun _ H Q=>Q true H
theorem K4:PTs X [] bv4:=fun pins s σ H Q I h=>wpAny_tests_nil ⟨H,I,h⟩
theorem aa9 {c:Expr}{t:TT}(h:PT X c t):PTs X [c] t:=fun pins s σ H Q I q=>wpAny_tests_one (h pins s σ H Q I q)
def ba9 (wi:TI)(lk:List (Option Nat))(g:TG)(tt:TT)(te:TE):TE:=fun σ H Q=>wi σ H fun J H1=>∀ D,H1 D=none->∃ W:Nat->Nat->List V->St->Hp->Prop,(∃ m,W 0 m [] (W9 lk σ) (upd H1 D (.lst [])))/\∀ i m xs σ' H',W i m xs σ' H' ->
 H' D=some (.lst xs)/\((J.stop i H'/\Q (.ref D) H')\/(J.go i H'/\xs.length<sizeLine/\∀ x H'',J.yld i H' x H''->g x σ' H'' fun σ2 H2=>tt σ2 H2 fun b H3 =>
  if b=true then te σ2 H3 fun v H4=>H4 D=some (.lst xs)/\∃ m',m'<m/\W (i+1) m' (xs++[v]) σ2 (upd H4 D (.lst (xs++[v]))) else ∃ m',m'<m/\W (i+1) m' xs σ2 H3))
theorem G0 {elt iter tg:Expr}{ifs:List Expr}{scope:Scope}{pos:Pos}{cl:List (Str × Addr)}{N':List Str}{lk:List (Option Nat)}{wi:TI}{g:TG}{tt:TT}{te:TE}(hc:X.calm=true)(hi:PI X tg iter wi)(hclos:closureFor scope X.env=pure cl)(hkind:scope.kind=.function)
  (hnames:∀ y∈scope.names,y.2=.local->scope.names.lookup y.1=some .local)(hcl:at5 X.env cl)(hfr:ag6 scope.names cl=true)(hlk:bl1 X N' lk scope cl)
  (hg:∀ s3 H3 fp,PG (B7 X scope cl N' s3 H3 fp fun _ _=>False) tg g)(ht:∀ s3 H3 fp,PTs (B7 X scope cl N' s3 H3 fp fun _ _=>False) ifs tt)(he:∀ s3 H3 fp,PE (B7 X scope cl N' s3 H3 fp fun _ _=>False) elt te)
  (hs:∀ x,foldedSetIterable iter X.env x=pure x:=by intro _;rfl):PE X (.ListComp elt [⟨tg,iter,ifs,0⟩] scope pos) (ba9 wi lk g tt te):=by
 intro pins s σ H Q I h
 rw[eval_ListComp]
 have hcellN:∀ y∈scope.names,y.2≠.cell:=fun y hy=>by
  unfold ag6 at hfr
  rw[C0]at hfr
  have:=hfr y hy
  rw[A1]at this
  simpa using this.1
 refine wpAny_comprehension_free (use:=none) rfl hs hclos hkind hnames (thn (hi pins s σ H _ I h) fun v s1 h1=>thn h1 fun itv s2 h2=>?_)
 obtain⟨it,fp,tn,J,H2,e,I2,T,st2,f2,q⟩:=h2
 subst e
 refine wpAny_newList ?_ (o8 _)
 have hD:H2 s2.heap.objs.size=none:=I2.hok.fresh (c7 _)
 have I3:=I2.lnew (ys:=[]) (its:=[]) (t':=s2.toks) .nil (o8 _)
 obtain⟨W,⟨m0,w0⟩,turn⟩:=q s2.heap.objs.size hD
 have fpl:∀ b∈fp,b<s2.heap.objs.size:=fun b hb=>by
  obtain⟨o,ho,_⟩:=T.obj 0 s2.heap st2 b hb
  exact c9 ho
 refine wpAny_newFunctionEnv hcellN (by intro y hy;cases hy) (fun h1 hns1 hsb1=>?_) hkind
 dsimp only at hns1 hsb1 ⊢
 have e3:s2.heap.push { cls:=.type "list",dict:=none,data:=.seq ([]:List Value).toArray }=s2.heap.push { cls:=.type "list",data:=.seq ([]:List Value).toArray }:=rfl
 generalize hh3:s2.heap.push { cls:=.type "list",dict:=none,data:=.seq ([]:List Value).toArray }=h3 at *
 have I3':Inv X pins σ (upd H2 s2.heap.objs.size (.lst [])) { s2 with heap:=h3,toks:=s2.toks }:=I3
 have size3:h3.objs.size=s2.heap.objs.size+1:=by rw[<- hh3,x6]
 have f3:∀ b∈fp,J1 X pins (upd H2 s2.heap.objs.size (.lst [])) b:=fun b hb=>by
  obtain⟨f0,fr⟩:=f2 b hb
  exact⟨by rw[m5 (i4 (fpl b hb))];exact f0,fr⟩
 have up:∀ b u,h3.get? b=some u->h1.get? b=some u:=fun b u eb=>by
  rw[hsb1.2 b (i4 (c9 eb))]
  exact b9 _ eb
 have I4:Inv (B7 X scope cl N' { s2 with heap:=h3,toks:=s2.toks } (upd H2 s2.heap.objs.size (.lst [])) fp fun _ _=>False) [] (W9 lk σ) (upd H2 s2.heap.objs.size (.lst [])) { s2 with heap:=h1,toks:=s2.toks+([]:List (Str × Value)).length }:=
  as1 (s3:={ s2 with heap:=h3,toks:=s2.toks }) I3' f3 hkind hcl hfr hlk hns1 up fun b hb=>by show b<h3.objs.size;rw[size3];exact u9 (fpl b hb)
 have st4:tn 0 h1:=T.keep 0 s2.heap h1 st2 fun b hb o eb=>up b o (by rw[<- hh3];exact b9 _ eb)
 have hCs:h3.objs.size=(compEnvC scope cl h3.objs.size X.env).locals:=rfl
 have stat:∀ {H':Hp},(∀ b∈fp,H' b=none)->∀ b∈fp,J1 (B7 X scope cl N' { s2 with heap:=h3,toks:=s2.toks } (upd H2 s2.heap.objs.size (.lst [])) fp fun _ _=>False) [] H' b:=fun {H'} hn b hb=>by
  obtain⟨f0,f1,f2',f3',f4,f5⟩:=f3 b hb
  refine⟨hn b hb,?_,fun z=>?_,.inl hb,fun x c ex=>f4 x c (hcl.get ex),fun p hp=>nomatch hp⟩
  ·show b≠h3.objs.size
   rw[size3]
   exact i4 (u9 (fpl b hb))
  ·rcases d3.mp (I3'.stkSub b z) with q | q
   ·exact f1 q
   ·exact f2' q
 have fin:∀ (s':Shared) (σ':St) (H':Hp),Inv (B7 X scope cl N' { s2 with heap:=h3,toks:=s2.toks } (upd H2 s2.heap.objs.size (.lst [])) fp fun _ _=>False) [] σ' H' s'->Q (.ref s2.heap.objs.size) H' ->
   compPost (model X.prog X.w) X.A X.xe none (EP X pins σ Q) (.ref s2.heap.objs.size) h3.objs.size (.ok .next) s':=fun s' σ' H' I' q'=>by
  obtain⟨m,hm,_⟩:=id I'.loc
  have I5:Inv X pins σ H' s':=I3'.call' (ch:=fp) I'.os I'.base I'.hok I'.bare fun b hb=>by
   obtain⟨f0,f1,f2',f3',f4,f5⟩:=f3 b hb
   exact⟨f3',f1,f4,f5⟩
  refine⟨m,hm,fun h' hsb=>?_⟩
  refine⟨.ref s2.heap.objs.size,H',?_,rfl,q'⟩
  have hfc:H' h3.objs.size=none:=I'.free
  have hcl1:∀ b o,h3.get? b=some o->b≠h3.objs.size:=fun b o eb=>i4 (c9 eb)
  obtain⟨h0',g0,d0,t0,o0⟩:=s'
  refine I5.turned (t':=t0) (it:=h3.objs.size) (fun b o hb eb=>(hsb.2 b hb).trans eb) hfc ?_ (.inr I3'.sz) (fun x c ex z=>?_) (fun p hp z=>?_)
  ·exact D9 I3'.lt
  ·obtain⟨v',q2⟩:=I3'.cell x c ex
   exact absurd q2.lt (by rw[z];exact u5 _)
  ·exact absurd (c9 (I3'.pin p hp).1) (by rw[z];exact u5 _)
 have loop:∀ s5:Shared,s5={ s2 with heap:=h1,toks:=s2.toks+([]:List (Str × Value)).length } ->
   codeAny (model X.prog X.w) X.A (.compLoop (.ListComp elt [⟨tg,iter,ifs,0⟩] scope pos) 0 (.ref it) (.ref s2.heap.objs.size) (compEnvC scope cl h3.objs.size X.env)) (compPost (model X.prog X.w) X.A X.xe none (EP X pins σ Q) (.ref s2.heap.objs.size) h3.objs.size) s5:=by
  rintro s5 rfl
  refine codeAny_loop rfl (fun n s'=>∃ i xs σ' H',Inv (B7 X scope cl N' { s2 with heap:=h3,toks:=s2.toks } (upd H2 s2.heap.objs.size (.lst [])) fp fun _ _=>False) [] σ' H' s'/\tn i s'.heap/\(∀ b∈fp,H' b=none)/\W i n xs σ' H')
   (fun n s6 hI=>?_) m0 ⟨0,[],W9 lk σ,_,I4,st4,fun b hb=>(f3 b hb).1,w0⟩
  obtain⟨i,xs,σ6,H6,I6,st6,fr6,w6⟩:=hI
  show wpAny _ X.A ((compTurn (.ListComp elt [⟨tg,iter,ifs,0⟩] scope pos) 0 (.ref it) (.ref s2.heap.objs.size) (compEnvC scope cl h3.objs.size X.env)).onRaise (fun x=>do noteFrame x (compEnvC scope cl h3.objs.size X.env);theTreesLotGoes x)) _ _ s6
  refine wpAny_noted ?_
  rw[compTurn_list]
  refine wpAny_bind (wpAny_standAt (wpAny_bind ?_))
  obtain⟨hD6,hw⟩:=turn i n xs σ6 H6 w6
  rcases hw with⟨stop,qn⟩ | ⟨go,hlen,step⟩
  ·refine thn (T.done (B7 X scope cl N' { s2 with heap:=h3,toks:=s2.toks } (upd H2 s2.heap.objs.size (.lst [])) fp fun _ _=>False) rfl rfl rfl hc i [] s6 σ6 H6 _ I6 (stat fr6) st6 stop) fun r s7 ⟨hr,I7⟩=>?_
   subst hr
   exact wpAny_pure (fin s7 σ6 H6 I7 qn)
  ·refine thn (T.item (B7 X scope cl N' { s2 with heap:=h3,toks:=s2.toks } (upd H2 s2.heap.objs.size (.lst [])) fp fun _ _=>False) rfl rfl rfl hc i [] s6 σ6 H6 _ I6 (stat fr6) st6 go) fun r s7 ⟨u,hr,h7⟩=>?_
   subst hr
   refine wpAny_bind (thn h7 fun _ s8 ⟨x,H8,I8,r8,y8,st8,fr8⟩=>?_)
   have I8':=I8.pinned (stat fr8) (T.obj _ _ st8)
   refine wpAny_bind (wpAny_mono (hg _ _ _ _ s8 σ6 H8 x u _ I8' r8 (step x H8 y8)) (fun _ s9 ⟨σ9,H9,I9,q9⟩=>?_) (fun _ _ z=>False.elim z))
   refine wpAny_bind (wpAny_mono (ht _ _ _ _ s9 σ9 H9 _ I9 q9) (fun ok s10 ⟨H10,I10,q10⟩=>?_) (fun _ _ z=>False.elim z))
   have again:∀ {σ':St} {H':Hp} {ys:List V} {s':Shared},Inv (B7 X scope cl N' { s2 with heap:=h3,toks:=s2.toks } (upd H2 s2.heap.objs.size (.lst [])) fp fun _ _=>False) ([]++ad1 fp s8.heap) σ' H' s'->(∃ m',m'<n/\W (i+1) m' ys σ' H') ->
     ∃ m',m'<n/\∃ i xs σ' H',Inv (B7 X scope cl N' { s2 with heap:=h3,toks:=s2.toks } (upd H2 s2.heap.objs.size (.lst [])) fp fun _ _=>False) [] σ' H' s'/\tn i s'.heap/\(∀ b∈fp,H' b=none)/\W i m' xs σ' H':=fun {σ' H' ys s'} I' ⟨m',hm,w'⟩=>by
    refine⟨m',hm,i+1,ys,σ',H',I'.unpinned,T.keep _ _ _ st8 fun b hb o eb=>(I'.pin (b,o) (m7 _ (m7 _ (L6 hb eb)))).1,fun b hb=>?_,w'⟩
    obtain⟨o,eb,_⟩:=T.obj _ _ st8 b hb
    exact(I'.pin (b,o) (m7 _ (m7 _ (L6 hb eb)))).2.1
   cases ok with
   | false =>
    have q10':∃ m',m'<n/\W (i+1) m' xs σ9 H10:=by simpa using q10
    exact wpAny_pure ⟨rfl,again I10 q10'⟩
   | true =>
    rw[if_pos rfl]at q10
    refine wpAny_bind (wpAny_bind (wpAny_mono (he _ _ _ _ s10 σ9 H10 _ I10 q10) (fun y s11 ⟨v11,H11,I11,r11,hD11,q11⟩=>?_) (fun _ _ z=>False.elim z)))
    refine wpAny_bind (wpAny_mono (R0 (X:=B7 X scope cl N' { s2 with heap:=h3,toks:=s2.toks } (upd H2 s2.heap.objs.size (.lst [])) fp fun _ _=>False) _ s11 σ9 H11 (.ref s2.heap.objs.size) [v11] (.ref s2.heap.objs.size) [y] (fun _ H'=>∃ m',m'<n/\W (i+1) m' (xs++[v11]) σ9 H') I11 rfl (.cons r11 .nil) ⟨s2.heap.objs.size,xs,v11,rfl,rfl,hD11,hlen,q11⟩) (fun _ s12 ⟨_,H12,I12,_,q12⟩=>?_) (fun _ _ z=>False.elim z))
    exact wpAny_pure (wpAny_pure ⟨rfl,again I12 q12⟩)
 exact codeAny_compStart_list (loop _ rfl) (T.self X.A 0 _ _ _ st4 (loop _ rfl))
end
def Itn (K:W.Frag)(a:Addr):It:=
 ⟨fun i H=>∃ xs x,SqL K H a xs/\xs[i]?=some x,fun i H x H'=>∃ t v,H t=none/\x=.ref t/\(∀ xs,SqL K H a xs->xs[i]?=some v)/\H'=upd H t (.tup [.int i,v]),fun i H=>∃ xs,SqL K H a xs/\xs.length<=i⟩
def bM6 (K:W.Frag)(ta:TA):TI:=fun σ H R=>ta σ H fun vs H1=>∃ a,vs=[.ref a]/\(∃ xs,SqL K H1 a xs)/\R (Itn K a) H1
theorem aV5 {P:Program}{w:World}{K:W.Frag}{elts:List Expr}{x1:Nat}{pos:Pos}(a it e:Addr)(hne:e≠it):Turn P w K (.Tuple elts x1 pos) (Itn K a) [e,it] e (fun i h=>(∃ old,IsEnum h e it (i:Int) old)/\h.IsListIter it a i) where
 mem:=by simp
 obj:=fun i h st b hb=>by
  obtain⟨⟨old,he⟩,o,ho,hc,hd⟩:=st
  rcases d3.mp hb with rfl | hb
  ·exact⟨_,he,fun v z=>by cases z⟩
  ·have eb:b=it:=by simpa using hb
   subst eb
   exact⟨o,ho,fun v z=>by rw[hd]at z;cases z⟩
 keep:=fun i h h' st k=>by
  obtain⟨⟨old,he⟩,hit⟩:=st
  exact⟨⟨old,k e (by simp) _ he⟩,hit.at fun o q=>k it (by simp) o q⟩
 item:=by
  intro X hP hw hK hc i pins s σ H E I hf st hg
  subst hP hw hK
  obtain⟨xs,x,hq,hx⟩:=hg
  obtain⟨⟨old,he⟩,hit⟩:=st
  obtain⟨its,rv,p,hz⟩:=I.list hq
  obtain⟨u,hu,ru⟩:=rv.get hx
  obtain⟨f0,f1,f2,f3,f4,f5⟩:=hf e (by simp)
  obtain⟨g0,g1,g2,g3,g4,g5⟩:=hf it (by simp)
  refine wpAny_pyNext_enum_item he hit p.isList (x:=u) (by simpa using hu) hne fun h1 heo hit1 ht1 hz1 hk1=>?_
  refine⟨_,rfl,?_⟩
  refine wpAny_letOwnedTupleGo_enum heo fun h2 he2 hs2=>?_
  have hlt:e<s.heap.objs.size:=c9 he
  have hs2':Heap.SameBut e h1 h2:=hs2
  have ht2:h2.get? s.heap.objs.size=some { cls:=.type "tuple",data:=.seq #[.int i s.toks,u] }:=(hs2'.2 _ (D9 hlt)).trans ht1
  have kp:∀ b o,b≠e->b≠it->s.heap.get? b=some o->h2.get? b=some o:=fun b o h1' h2' q=>(hs2'.2 b h1').trans (hk1 b o h1' h2' q)
  have hT:H s.heap.objs.size=none:=I.hok.fresh (c7 _)
  have nH:∀ b,H b≠none->b≠e/\b≠it:=fun b hb=>⟨fun z=>hb (z ▸ f0),fun z=>hb (z ▸ g0)⟩
  have keepH:∀ b o,H b=some o->upd H s.heap.objs.size (.tup [.int i,x]) b=some o:=fun b o q=>by rw[m5 (m8 q hT)];exact q
  have hok2:HOk X.prog X.w (upd H s.heap.objs.size (.tup [.int i,x])) h2:=fun b o eb=>by
   by_cases hb:b=s.heap.objs.size
   ·subst hb
    rw[c6]at eb
    cases eb
    exact⟨by show 2<=sizeLine;decide,[.int i s.toks,u],.cons ⟨_,rfl⟩ (.cons ru .nil),⟨_,ht2,rfl,_,rfl⟩⟩
   ·rw[m5 hb]at eb
    refine(I.hok b o eb).stay (fun c v hcc q=>kp c v ?_ ?_ q) (fun c q=>keepH c _ q) fun c ys q=>keepH c _ q
    ·rcases hcc with z | z
     ·exact(nH c (by rw[z,eb];simp)).1
     ·exact(nH c (by rw[z];simp)).1
    ·rcases hcc with z | z
     ·exact(nH c (by rw[z,eb];simp)).2
     ·exact(nH c (by rw[z];simp)).2
  have I2:Inv X pins σ (upd H s.heap.objs.size (.tup [.int i,x])) { s with heap:=h2,toks:=s.toks+1 }:=by
   refine I.step (g':=s.gens) (d':=s.drawn) (t':=s.toks+1) (ch:=[e,it]) (fun b hb=>?_) (fun b o _ _ hcc q _=>kp b o (fun z=>hcc (by simp[z])) (fun z=>hcc (by simp[z])) q) (fun b o _ _ hcc q _=>⟨o.slots,kp b o (fun z=>hcc (by simp[z])) (fun z=>hcc (by simp[z])) q⟩) (fun b o _ q n=>?_)
    (fun b o hcc q=>⟨o,kp b o (fun z=>hcc (by simp[z])) (fun z=>hcc (by simp[z])) q⟩) (fun b ys q=>keepH b _ q) (fun b o v q=>keepH b _ q) (fun b ps q=>⟨#[],by rw[keepH b _ q];simp⟩) (fun m hm=>?_) hok2 I.bare
   ·rcases d3.mp hb with rfl | hb
    ·exact⟨f3,f1,f4,f5⟩
    ·have eb:b=it:=by simpa using hb
     subst eb
     exact⟨g3,g1,g4,g5⟩
   ·rw[m5 (i4 (c9 q))]
    exact n
   ·obtain⟨o,es,ep,ho,r⟩:=hm
    exact⟨o,es,ep,kp _ o (Ne.symm f1) (Ne.symm g1) ho,r⟩
  have hilt:it<s.heap.objs.size:=by
   obtain⟨o,ho,_⟩:=id hit
   exact c9 ho
  refine⟨.ref s.heap.objs.size,_,I2,rfl,⟨s.heap.objs.size,x,hT,rfl,fun ys hy=>by rw[I.list_inj hy hq];exact hx,rfl⟩,⟨⟨u,?_⟩,?_⟩,fun b hb=>?_⟩
  ·have:=he2
   rw[show ((i:Int)+1)=(((i+1:Nat):Int)) by simp]at this
   exact this
  ·exact hit1.at fun o q=>(hs2'.2 it (Ne.symm hne)).trans q
  ·rcases d3.mp hb with rfl | hb
   ·rw[m5 (i4 hlt)];exact f0
   ·have eb:b=it:=by simpa using hb
    subst eb
    rw[m5 (i4 hilt)]
    exact g0
 done:=by
  intro X hP hw hK hc i pins s σ H E I hf st hg
  subst hP hw hK
  obtain⟨xs,hq,hx⟩:=hg
  obtain⟨⟨old,he⟩,hit⟩:=st
  obtain⟨its,rv,p,hz⟩:=I.list hq
  obtain⟨g0,g1,g2,g3,g4,g5⟩:=hf it (by simp)
  have hl:=rv.length
  exact wpAny_pyNext_enum_end (I.ok.hd hc) he hit p.isList (by simp;omega) fun h' eb=>⟨rfl,I.turned (t':=s.toks) (fun b o hb q=>eb b o hb q) g0 g1 g3 g4 g5⟩
 self:=fun _ _ _ _ _ st h=>by
  obtain⟨⟨old,he⟩,_⟩:=st
  exact wpAny_pyIter_enum he h
section
variable {X:Cx}
theorem an1 {a:Expr}{ta:TA}{elts:List Expr}{x1:Nat}{tpos p pos:Pos}(hg:Gl X "enumerate")(hm:X.mg "enumerate"=none)(ha:PA X [a] ta)(hv:bootBuiltins "enumerate"=some (.type "enumerate"):=by rfl)(hs:starEach [a] X.env=[(false,eval a X.env)]:=by rfl) :
  PI X (.Tuple elts x1 tpos) (.Call (.Name "enumerate" p) [a] [] pos) (bM6 X.K ta):=by
 intro pins s σ H R I h
 refine Call_ (P4 I hg hm hv (PyProof.Rows.callWith_type1 (thn (ha pos pins s σ H _ I h) fun us s1 ⟨vs,H1,I1,r1,q1⟩=>?_) hs rfl))
 obtain⟨b,e,⟨xs,hq⟩,q⟩:=q1
 subst e
 obtain⟨u,rfl,rx⟩:=vals1 r1
 cases rx
 obtain⟨its,rv,pl,hz⟩:=I1.list hq
 refine call_enumerate_list pl.isList fun h' he hit hsz kp=>?_
 refine wpAny_pyIter_enum he ?_
 have hne:s1.heap.objs.size+1≠s1.heap.objs.size:=Nat.succ_ne_self _
 refine⟨s1.heap.objs.size+1,[s1.heap.objs.size+1,s1.heap.objs.size],_,_,H1,rfl,I1.kept (t':=s1.toks) kp,aV5 b s1.heap.objs.size (s1.heap.objs.size+1) hne,⟨⟨_,he⟩,hit⟩,fun c hc=>?_,q⟩
 rcases d3.mp hc with rfl | hc
 ·exact I1.fpOk (R3 _) (I1.hok.fresh (R3 _))
 ·have e:c=s1.heap.objs.size:=by simpa using hc
  subst e
  exact I1.fpOk (c7 _) (I1.hok.fresh (c7 _))
end
theorem aI4 {K:W.Frag}{a:Addr}{xs:List V}{g:TG}{tb:TS}{D:Ends}{σ:St}{H:Hp}(Pv:Nat->St->Hp->Prop)(h0:Pv 0 σ H)(hl:∀ i σ H,i<=xs.length->Pv i σ H->SqL K H a xs)
  (hs:∀ i x t σ H,xs[i]?=some x->Pv i σ H->H t=none->g (.ref t) σ (upd H t (.tup [.int i,x])) fun σ2 H2=>tb { D with nx:=Pv (i+1),ct:=Pv (i+1),bk:=D.nx } σ2 H2)(hd:∀ σ H,Pv xs.length σ H->D.nx σ H) :
  ∃ W:Nat->Nat->St->Hp->Prop,(∃ m,W 0 m σ H)/\∀ i m σ H,W i m σ H ->
   ((Itn K a).stop i H/\D.nx σ H)\/((Itn K a).go i H/\∃ N:St->Hp->Prop,(∀ σ' H',N σ' H'->∃ m',m'<m/\W (i+1) m' σ' H')/\∀ x H',(Itn K a).yld i H x H'->g x σ H' fun σ2 H2=>tb { D with nx:=N,ct:=N,bk:=D.nx } σ2 H2):=by
 refine⟨fun i m σ H=>m=xs.length - i/\i<=xs.length/\Pv i σ H,⟨xs.length,by simp,o8 _,h0⟩,?_⟩
 rintro i m σ H ⟨rfl,hi,p⟩
 have q:=hl i σ H hi p
 by_cases hlt:i<xs.length
 ·refine .inr ⟨⟨xs,xs[i],q,by simp[hlt]⟩,Pv (i+1),fun σ' H' p'=>⟨xs.length - (i+1),by omega,rfl,hlt,p'⟩,fun x H' y=>?_⟩
  obtain⟨t,v,ht,e,hv,e'⟩:=y
  subst e e'
  exact hs i v t σ H (hv xs q) p ht
 ·have e:i=xs.length:=by omega
  subst e
  exact .inl ⟨⟨xs,q,c7 _⟩,hd σ H p⟩
theorem O1 {K:W.Frag}{a D:Addr}{ys:List V}{g:TG}{tt:TT}{te:TE}{Qd:Hp->Prop}{σ0:St}{H0:Hp}(Pv:Nat->List V->St->Hp->Prop)(h0:Pv 0 [] σ0 H0)(hz:ys.length<=sizeLine)(hl:∀ i xs σ H,i<=ys.length->Pv i xs σ H->SqL K H a ys/\H D=some (.lst xs)/\xs.length<=i)
  (hs:∀ i xs x σ H (N:List V->St->Hp->Prop),(∀ xs' σ' H',Pv (i+1) xs' σ' H'->N xs' σ' H')->ys[i]?=some x->Pv i xs σ H->g x σ H fun σ2 H2=>tt σ2 H2 fun b H3=>if b=true then te σ2 H3 fun v H4=>H4 D=some (.lst xs)/\N (xs++[v]) σ2 (upd H4 D (.lst (xs++[v]))) else N xs σ2 H3)
  (hd:∀ xs σ H,Pv ys.length xs σ H->Qd H) :
  ∃ W:Nat->Nat->List V->St->Hp->Prop,(∃ m,W 0 m [] σ0 H0)/\∀ i m xs σ' H',W i m xs σ' H'->H' D=some (.lst xs)/\(((Itl K a).stop i H'/\Qd H')\/((Itl K a).go i H'/\xs.length<sizeLine/\∀ x H'',(Itl K a).yld i H' x H''->g x σ' H'' fun σ2 H2=>tt σ2 H2 fun b H3 =>
   if b=true then te σ2 H3 fun v H4=>H4 D=some (.lst xs)/\∃ m',m'<m/\W (i+1) m' (xs++[v]) σ2 (upd H4 D (.lst (xs++[v]))) else ∃ m',m'<m/\W (i+1) m' xs σ2 H3)):=by
 refine⟨fun i m xs σ H=>m=ys.length - i/\i<=ys.length/\Pv i xs σ H,⟨ys.length,by simp,o8 _,h0⟩,?_⟩
 rintro i m xs σ H ⟨rfl,hi,p⟩
 obtain⟨q,hD,hx⟩:=hl i xs σ H hi p
 refine⟨hD,?_⟩
 by_cases hlt:i<ys.length
 ·refine .inr ⟨⟨ys,ys[i],q,by simp[hlt]⟩,by omega,fun x H'' y=>?_⟩
  obtain⟨e,y⟩:=y
  subst e
  exact hs i xs x σ _ (fun zs σ' H'=>∃ m',m'<ys.length - i/\m'=ys.length - (i+1)/\i+1<=ys.length/\Pv (i+1) zs σ' H') (fun zs σ' H' r=>⟨_,by omega,rfl,hlt,r⟩) (y ys q) p
 ·have e:i=ys.length:=by omega
  subst e
  exact .inl ⟨⟨ys,q,c7 _⟩,hd xs σ H p⟩
theorem aI8 {K:W.Frag}{a D:Addr}{ys:List V}{g:TG}{tt:TT}{te:TE}{Qd:Hp->Prop}{σ0:St}{H0:Hp}(Pv:Nat->List V->St->Hp->Prop)(h0:Pv 0 [] σ0 H0)(hz:ys.length<=sizeLine)(hl:∀ i xs σ H,i<=ys.length->Pv i xs σ H->SqT K H a ys/\H D=some (.lst xs)/\xs.length<=i)
  (hs:∀ i xs x σ H (N:List V->St->Hp->Prop),(∀ xs' σ' H',Pv (i+1) xs' σ' H'->N xs' σ' H')->ys[i]?=some x->Pv i xs σ H->g x σ H fun σ2 H2=>tt σ2 H2 fun b H3=>if b=true then te σ2 H3 fun v H4=>H4 D=some (.lst xs)/\N (xs++[v]) σ2 (upd H4 D (.lst (xs++[v]))) else N xs σ2 H3)
  (hd:∀ xs σ H,Pv ys.length xs σ H->Qd H) :
  ∃ W:Nat->Nat->List V->St->Hp->Prop,(∃ m,W 0 m [] σ0 H0)/\∀ i m xs σ' H',W i m xs σ' H'->H' D=some (.lst xs)/\(((Itt K a).stop i H'/\Qd H')\/((Itt K a).go i H'/\xs.length<sizeLine/\∀ x H'',(Itt K a).yld i H' x H''->g x σ' H'' fun σ2 H2=>tt σ2 H2 fun b H3 =>
   if b=true then te σ2 H3 fun v H4=>H4 D=some (.lst xs)/\∃ m',m'<m/\W (i+1) m' (xs++[v]) σ2 (upd H4 D (.lst (xs++[v]))) else ∃ m',m'<m/\W (i+1) m' xs σ2 H3)):=by
 refine⟨fun i m xs σ H=>m=ys.length - i/\i<=ys.length/\Pv i xs σ H,⟨ys.length,by simp,o8 _,h0⟩,?_⟩
 rintro i m xs σ H ⟨rfl,hi,p⟩
 obtain⟨q,hD,hx⟩:=hl i xs σ H hi p
 refine⟨hD,?_⟩
 by_cases hlt:i<ys.length
 ·refine .inr ⟨⟨ys,ys[i],q,by simp[hlt]⟩,by omega,fun x H'' y=>?_⟩
  obtain⟨e,y⟩:=y
  subst e
  exact hs i xs x σ _ (fun zs σ' H'=>∃ m',m'<ys.length - i/\m'=ys.length - (i+1)/\i+1<=ys.length/\Pv (i+1) zs σ' H') (fun zs σ' H' r=>⟨_,by omega,rfl,hlt,r⟩) (y ys q) p
 ·have e:i=ys.length:=by omega
  subst e
  exact .inl ⟨⟨ys,q,c7 _⟩,hd xs σ H p⟩
mutual
def Dt (K:W.Frag)(H:Hp):PyData->V->Prop
 | .none,v=>v=.non
 | .bool b,v=>v=.bl b
 | .int i,v=>v=.int i
 | .str x,v=>v=.str x
 | .list ds,v=>∃ a xs,v=.ref a/\SqL K H a xs/\A5 K H ds xs
 | .tuple ds,v=>∃ a xs,v=.ref a/\SqT K H a xs/\A5 K H ds xs
 | .dict _,_=>False
def A5 (K:W.Frag)(H:Hp):List PyData->List V->Prop
 | [],xs=>xs=[]
 | d::ds,xs=>∃ y ys,xs=y::ys/\Dt K H d y/\A5 K H ds ys
end
section
variable {X:Cx} {pins:List (Addr × Obj)} {σ:St} {H:Hp} {s:Shared}
mutual
theorem Dt.reads (I:Inv X pins σ H s):∀ (d:PyData) (v:V) (u:Value),Dt X.K H d v->RelV v u->∃ as,Reads s.heap u d as
 | .none,v,u,h,r=>by unfold Dt at h;subst h;cases r;exact⟨_,.none⟩
 | .bool b,v,u,h,r=>by unfold Dt at h;subst h;cases r;exact⟨_,.bool b⟩
 | .int i,v,u,h,r=>by unfold Dt at h;subst h;obtain⟨t,rfl⟩:=r;exact⟨_,.int i t⟩
 | .str x,v,u,h,r=>by unfold Dt at h;subst h;obtain⟨t,rfl⟩:=r;exact⟨_,.str x t⟩
 | .list ds,v,u,h,r=>by
  unfold Dt at h
  obtain⟨a,xs,rfl,hq,hd⟩:=h
  cases r
  obtain⟨its,rv,⟨o,n,ho,hc,_,hdd⟩,_⟩:=I.list hq
  obtain⟨as,ra⟩:=A5.reads I ds xs its hd rv
  exact⟨_,.list ho hc hdd (by simpa using ra)⟩
 | .tuple ds,v,u,h,r=>by
  unfold Dt at h
  obtain⟨a,xs,rfl,hq,hd⟩:=h
  cases r
  obtain⟨its,rv,⟨o,ho,hc,n,hdd⟩,_⟩:=I.tuple hq
  obtain⟨as,ra⟩:=A5.reads I ds xs its hd rv
  exact⟨_,.tuple ho hc hdd (by simpa using ra)⟩
 | .dict _,v,u,h,r=>by unfold Dt at h;exact h.elim
theorem A5.reads (I:Inv X pins σ H s):∀ (ds:List PyData) (xs:List V) (us:List Value),A5 X.K H ds xs->y9 xs us->∃ as,ReadsAll s.heap us ds as
 | [],xs,us,h,r=>by unfold A5 at h;subst h;cases r;exact⟨_,.nil⟩
 | d::ds,xs,us,h,r=>by
  unfold A5 at h
  obtain⟨y,ys,rfl,h1,h2⟩:=h
  cases r with
  | cons q t =>
   obtain⟨as,ra⟩:=Dt.reads I d y _ h1 q
   obtain⟨bs,rb⟩:=A5.reads I ds ys _ h2 t
   exact⟨_,.cons ra rb⟩
end
end
mutual
theorem Dt.same {K:W.Frag}{H H':Hp}(hs:∀ b o,H b=some o->H' b=some o):∀ (d:PyData) (v:V),Dt K H d v->Dt K H' d v
 | .none,v,h=>by unfold Dt at h ⊢;exact h
 | .bool b,v,h=>by unfold Dt at h ⊢;exact h
 | .int i,v,h=>by unfold Dt at h ⊢;exact h
 | .str x,v,h=>by unfold Dt at h ⊢;exact h
 | .list ds,v,h=>by
  unfold Dt at h ⊢
  obtain⟨a,xs,rfl,hq,hd⟩:=h
  refine⟨a,xs,rfl,?_,A5.same hs ds xs hd⟩
  rcases hq with(h | ⟨o,h⟩) | h
  ·exact .inl (.inl (hs _ _ h))
  ·exact .inl (.inr ⟨o,hs _ _ h⟩)
  ·exact .inr h
 | .tuple ds,v,h=>by
  unfold Dt at h ⊢
  obtain⟨a,xs,rfl,hq,hd⟩:=h
  refine⟨a,xs,rfl,?_,A5.same hs ds xs hd⟩
  rcases hq with(h | ⟨o,h⟩) | h
  ·exact .inl (.inl (hs _ _ h))
  ·exact .inl (.inr ⟨o,hs _ _ h⟩)
  ·exact .inr h
 | .dict _,v,h=>by unfold Dt at h;exact h.elim
theorem A5.same {K:W.Frag}{H H':Hp}(hs:∀ b o,H b=some o->H' b=some o):∀ (ds:List PyData) (xs:List V),A5 K H ds xs->A5 K H' ds xs
 | [],xs,h=>by unfold A5 at h ⊢;exact h
 | d::ds,xs,h=>by
  unfold A5 at h ⊢
  obtain⟨y,ys,rfl,h1,h2⟩:=h
  exact⟨y,ys,rfl,Dt.same hs d y h1,A5.same hs ds ys h2⟩
end
def dP (k:List Int):PyData:=.tuple (k.map .int)
theorem A5.ints {K:W.Frag}{H:Hp}:∀ (k:List Int),A5 K H (k.map PyData.int) (k.map V.int)
 | []=>by unfold A5;rfl
 | i::k=>by
  rw[k6,k6]
  unfold A5
  exact⟨_,_,rfl,by unfold Dt;rfl,A5.ints k⟩
theorem A5.tups {K:W.Frag}{H:Hp}:∀ {ys:List V} {ks:List (List Int)},x8 K H ys ks->A5 K H (ks.map dP) ys
 | _,_,.nil=>by unfold A5;rfl
 | _,_,.cons r t=>by
  obtain⟨a,rfl,h⟩:=r
  rw[k6]
  unfold A5
  refine⟨_,_,rfl,?_,A5.tups t⟩
  unfold dP Dt
  exact⟨a,_,rfl,h,A5.ints _⟩
theorem lay_ints:∀ k:List Int,PyData.canLayAll0 (k.map .int)=true
 | []=>by simp[PyData.canLayAll0]
 | i::k=>by rw[k6];simp[PyData.canLayAll0,PyData.canLay0,lay_ints k]
theorem aw8:∀ ks:List (List Int),PyData.canLayAll0 (ks.map dP)=true
 | []=>by simp[PyData.canLayAll0]
 | k::ks=>by rw[k6];simp[PyData.canLayAll0,PyData.canLay0,dP,lay_ints k,aw8 ks]
theorem ar9:∀ k k':List Int,PyData.eqvAll (k.map .int) (k'.map .int)=decide (k=k')
 | [],[]=>by simp[PyData.eqvAll]
 | [],_::_=>by simp[PyData.eqvAll]
 | _::_,[]=>by simp[PyData.eqvAll]
 | i::k,j::k'=>by
  rw[k6,k6]
  simp only[PyData.eqvAll,PyData.eqv,ar9 k k']
  by_cases h:i=j
  ·subst h;simp
  ·simp[h]
theorem ax7:∀ ks ks':List (List Int),PyData.eqvAll (ks.map dP) (ks'.map dP)=decide (ks=ks')
 | [],[]=>by simp[PyData.eqvAll]
 | [],_::_=>by simp[PyData.eqvAll]
 | _::_,[]=>by simp[PyData.eqvAll]
 | k::ks,k'::ks'=>by
  rw[k6,k6]
  simp only[PyData.eqvAll,PyData.eqv,dP,ar9 k k']
  rw[ax7 ks ks']
  by_cases h:k=k'
  ·subst h;simp
  ·simp[h]
theorem as0:∀ k:List Int,PyData.depthAll (k.map .int)<=1
 | []=>by simp[PyData.depthAll]
 | i::k=>by
  have:=as0 k
  rw[k6]
  simp only[PyData.depthAll,PyData.depth]
  omega
theorem ax8:∀ ks:List (List Int),PyData.depthAll (ks.map dP)<=2
 | []=>by simp[PyData.depthAll]
 | k::ks=>by
  have h1:=as0 k
  have h2:=ax8 ks
  rw[k6]
  simp only[PyData.depthAll,PyData.depth,dP]at h2 ⊢
  omega
section
variable {X:Cx}
def bL1 (K:W.Frag)(A:Around)(neg:Bool):R2:=fun x y H Q=>∃ dx dy,Dt K H dx x/\Dt K H dy y/\dx.canLay0=true/\dy.canLay0=true/\A.units+min dx.depth dy.depth<cLine/\Q (.bl (if neg then !PyData.eqv dx dy else PyData.eqv dx dy)) H
theorem bf1:OpR X (compareOp .Eq) (bL1 X.K X.A false):=by
 intro pins s σ H x y v u Q I rx ry h
 obtain⟨dx,dy,h1,h2,h3,h4,h5,q⟩:=h
 obtain⟨as,ra⟩:=h1.reads I dx x v rx
 obtain⟨bs,rb⟩:=h2.reads I dy y u ry
 exact SeqAt.compareEq_reads ra rb h3 h4 h5 ⟨.bl _,H,I,rfl,q⟩
def aM2 (K:W.Frag)(A:Around)(neg:Bool):R2:=fun x y H Q=>∃ p xs dx ds,y=.ref p/\(SqL K H p xs\/SqT K H p xs)/\Dt K H dx x/\A5 K H ds xs/\dx.canLay0=true/\PyData.canLayAll0 ds=true/\A.units+1+dx.depth<cLine /\
 Q (.bl (if neg then !ds.any (fun d=>PyData.eqv d dx) else ds.any (fun d=>PyData.eqv d dx))) H
open Classical in
noncomputable def aB3 (h:Heap)(dx:PyData)(v:Value):Bool:=if q:∃ d as,d.canLay0=true/\Reads h v d as then PyData.eqv (Classical.choose q) dx else false
theorem aB2 {h:Heap}{dx d:PyData}{v:Value}{as:List Addr}(hl:d.canLay0=true)(r:Reads h v d as):aB3 h dx v=PyData.eqv d dx:=by
 unfold aB3
 have q:∃ d as,d.canLay0=true/\Reads h v d as:=⟨d,as,hl,r⟩
 rw[dif_pos q]
 obtain⟨as',h1,h2⟩:=Classical.choose_spec q
 rw[SeqAt.Reads.unique _ _ _ _ _ h1 h2 r]
theorem as8 {h:Heap}{dx:PyData}:∀ {ds:List PyData} {us:List Value} {as:List Addr},PyData.canLayAll0 ds=true->ReadsAll h us ds as->us.any (aB3 h dx)=ds.any (fun d=>PyData.eqv d dx)
 | _,_,_,_,.nil=>rfl
 | d::ds,u::us,_,hl,.cons r t=>by
  have hl':d.canLay0=true/\PyData.canLayAll0 ds=true:=by simpa [PyData.canLayAll0] using hl
  rw[U0,U0,aB2 hl'.1 r,as8 hl'.2 t]
theorem ai4 {h:Heap}:∀ {ds:List PyData} {us:List Value} {as:List Addr} {u:Value},PyData.canLayAll0 ds=true->ReadsAll h us ds as->u∈us->∃ d as,d.canLay0=true/\Reads h u d as
 | _,_,_,_,_,.nil,hu=>by cases hu
 | d::ds,_::us,_,u,hl,.cons r t,hu=>by
  have hl':d.canLay0=true/\PyData.canLayAll0 ds=true:=by simpa [PyData.canLayAll0] using hl
  rcases d3.mp hu with rfl | hu
  ·exact⟨d,_,hl'.1,r⟩
  ·exact ai4 hl'.2 t hu
theorem bB5:OpR X (compareOp .In) (aM2 X.K X.A false):=by
 intro pins s σ H x y v u Q I rx ry h
 obtain⟨p,xs,dx,ds,rfl,hq,h1,h2,h3,h4,h5,q⟩:=h
 cases ry
 obtain⟨bs,rb⟩:=h1.reads I dx x v rx
 have he:∀ (its:List Value) (as:List Addr),ReadsAll s.heap its ds as->∀ y,y∈its.toArray->SeqAt.EqAt X.A.in1 s y v (aB3 s.heap dx y):=fun its as ra y hy=>by
  obtain⟨d,cs,hl,rd⟩:=ai4 h4 ra (by simpa using hy)
  rw[aB2 hl rd]
  refine SeqAt.eqAt_reads d dx X.A.in1 s y v cs bs rd rb hl h3 ?_
  show X.A.units+1+min d.depth dx.depth<cLine
  omega
 rcases hq with hq | hq
 ·obtain⟨its,rv,pl,hz⟩:=I.list hq
  obtain⟨as,ra⟩:=h2.reads I ds xs its rv
  refine SeqAt.in_listAt (aB3 s.heap dx) pl.isList (he its as ra) ⟨.bl _,H,I,rfl,?_⟩
  rw[ac6,as8 h4 ra]
  exact q
 ·obtain⟨its,rv,pl,hz⟩:=I.tuple hq
  obtain⟨as,ra⟩:=h2.reads I ds xs its rv
  refine SeqAt.in_tupleAt (aB3 s.heap dx) pl (he its as ra) ⟨.bl _,H,I,rfl,?_⟩
  rw[ac6,as8 h4 ra]
  exact q
theorem aW3:OpR X (compareOp .NotIn) (aM2 X.K X.A true):=by
 intro pins s σ H x y v u Q I rx ry h
 obtain⟨p,xs,dx,ds,rfl,hq,h1,h2,h3,h4,h5,q⟩:=h
 cases ry
 obtain⟨bs,rb⟩:=h1.reads I dx x v rx
 have he:∀ (its:List Value) (as:List Addr),ReadsAll s.heap its ds as->∀ y,y∈its.toArray->SeqAt.EqAt X.A.in1 s y v (aB3 s.heap dx y):=fun its as ra y hy=>by
  obtain⟨d,cs,hl,rd⟩:=ai4 h4 ra (by simpa using hy)
  rw[aB2 hl rd]
  refine SeqAt.eqAt_reads d dx X.A.in1 s y v cs bs rd rb hl h3 ?_
  show X.A.units+1+min d.depth dx.depth<cLine
  omega
 rcases hq with hq | hq
 ·obtain⟨its,rv,pl,hz⟩:=I.list hq
  obtain⟨as,ra⟩:=h2.reads I ds xs its rv
  refine SeqAt.notIn_listAt (aB3 s.heap dx) pl.isList (he its as ra) ⟨.bl _,H,I,rfl,?_⟩
  rw[ac6,as8 h4 ra]
  exact q
 ·obtain⟨its,rv,pl,hz⟩:=I.tuple hq
  obtain⟨as,ra⟩:=h2.reads I ds xs its rv
  refine SeqAt.notIn_tupleAt (aB3 s.heap dx) pl (he its as ra) ⟨.bl _,H,I,rfl,?_⟩
  rw[ac6,as8 h4 ra]
  exact q
theorem aJ3:L1 X (.builtin "isinstance") (fun xs H Q=>∃ x c t b,xs=[x,.ty c]/\ag2 X.K H x t/\PySem.W.kitOne X.K t (.type c)=some b/\Q (.bl b) H):=by
 intro pins s σ H xs us Q I r h
 obtain⟨x,c,t,b,rfl,ty,e,q⟩:=h
 obtain⟨u,v,rfl,ru,rv⟩:=r.two
 cases (show v=Value.type c from rv)
 exact aY0 I ru ty e fun tk=>⟨.bl b,H,I.tok _,rfl,q⟩
end
end L2
namespace L2
open PySem PySem.Spec PyProof.Rows
section
variable {X:Cx}
theorem U8 (hc:X.calm=true):L1 X (.builtin "sum") (fun xs H Q=>∃ (p:Addr) (ns:List Int),xs=[.ref p]/\SqL X.K H p (ns.map V.int)/\Q (.int ns.sum) H):=by
 intro pins s σ H xs us Q I r h
 obtain⟨p,ns,rfl,hq,q⟩:=h
 obtain⟨u,rfl,rx⟩:=vals1 r
 cases rx
 obtain⟨its,r',pl,hz⟩:=I.list hq
 have hi:IntsAre its ns:=intsAre_of r'
 obtain⟨ys,e⟩:=hi.allInts.items
 refine sum_intListG (xs:=ys) (I.ok.hd hc) (by rw[<- e];exact pl.isList) fun h' tk t' hk=>⟨.int ns.sum,H,I.kept (t':=tk) hk,⟨t',?_⟩,q⟩
 have e2:numsOf (intItems ys).toList=ns:=by rw[<- e];exact hi.numsOf
 rw[nums_intItems]at e2
 rw[preSum_eq,j0 (by simp),e2]
end
section
variable {X:Cx}
theorem Q6:L1 X (.builtin "isinstance") (fun xs H Q=>∃ a ys c b,xs=[.ref a,.ty c]/\SqT X.K H a ys/\PySem.W.kitOne X.K (.type "tuple") (.type c)=some b/\Q (.bl b) H):=by
 intro pins s σ H xs us Q I r h
 obtain⟨a,ys,c,b,rfl,hq,e,q⟩:=h
 obtain⟨u,v,rfl,ru,rv⟩:=r.two
 cases (show v=Value.type c from rv)
 cases ru
 obtain⟨its,rt,⟨o,h1,h2,_⟩,hz⟩:=I.tuple hq
 exact PySem.W.kia_one PySem.W.kitx_tuple I.kIn ⟨o,h1,h2⟩ e (fun z=>nomatch z) fun tk=>⟨.bl b,H,I.tok _,rfl,q⟩
end
def LkL (X:Cx)(scope:Scope)(cl:List (Str × Addr)):List Str->List (Option Nat)->Prop
 | [],[]=>True
 | _::N,none::lk=>LkL X scope cl N lk
 | x::N,some j::lk=>(X.N[j]?=some x/\(X.env.scope.names.lookup x=some .cell\/X.env.scope.names.lookup x=some .free)/\(cl.lookup x).isSome=true /\
  ((compEnvC scope cl 0 X.env).kindOf x=some .cell\/(compEnvC scope cl 0 X.env).kindOf x=some .free))/\LkL X scope cl N lk
 | _,_=>False
theorem LkL.len {X:Cx}{scope:Scope}{cl:List (Str × Addr)}:∀ {N:List Str} {lk:List (Option Nat)},LkL X scope cl N lk->lk.length=N.length
 | [],[],_=>rfl
 | _::N,none::lk,h=>congrArg (·+1) (LkL.len (N:=N) (lk:=lk) h)
 | _::N,some _::lk,h=>congrArg (·+1) (LkL.len (N:=N) (lk:=lk) h.2)
 | [],_::_,h=>h.elim
 | _::_,[],h=>h.elim
theorem LkL.get {X:Cx}{scope:Scope}{cl:List (Str × Addr)}:∀ {N:List Str} {lk:List (Option Nat)},LkL X scope cl N lk->∀ (i j:Nat) (x:Str),N[i]?=some x->lk[i]?=some (some j) ->
  X.N[j]?=some x/\(X.env.scope.names.lookup x=some .cell\/X.env.scope.names.lookup x=some .free)/\(cl.lookup x).isSome=true/\((compEnvC scope cl 0 X.env).kindOf x=some .cell\/(compEnvC scope cl 0 X.env).kindOf x=some .free)
 | [],[],_,i,j,x,h1,_=>by simp at h1
 | _::N,none::lk,h,0,j,x,h1,h2=>by simp at h2
 | _::N,none::lk,h,i+1,j,x,h1,h2=>LkL.get (N:=N) (lk:=lk) h i j x (by simpa using h1) (by simpa using h2)
 | y::N,some k::lk,h,0,j,x,h1,h2=>by
  simp at h1 h2
  subst h1 h2
  exact h.1
 | _::N,some _::lk,h,i+1,j,x,h1,h2=>LkL.get (N:=N) (lk:=lk) h.2 i j x (by simpa using h1) (by simpa using h2)
 | [],_::_,h,_,_,_,_,_=>h.elim
 | _::_,[],h,_,_,_,_,_=>h.elim
theorem LkL.ok {X:Cx}{scope:Scope}{cl:List (Str × Addr)}{N:List Str}{lk:List (Option Nat)}(h:LkL X scope cl N lk):bl1 X N lk scope cl:=⟨h.len,h.get⟩
theorem F1 {σ:St}{H:Hp}{A B:Hp->Prop}(h:A H):bv4 σ H (fun b H3=>if b=true then A H3 else B H3):=by
 show if true=true then A H else B H
 exact N2 h
theorem u0 {i:Nat}{v:V}{σ:St}{H:Hp}{Q:St->Hp->Prop}(h:Q (σ.set i (some v)) H):aI1 i v σ H Q:=h
theorem SqT.updL {K:W.Frag}{H:Hp}{a l:Addr}{xs:List V}{ys zs:List V}(h:SqT K H a ys)(hl:H l=some (.lst xs)):SqT K (upd H l (.lst zs)) a ys:=by
 rcases h with(h | ⟨o,h⟩) | h
 ·exact .inl (.inl (by rw[m5 (bf9 h hl (by intro z;cases z))];exact h))
 ·exact .inl (.inr ⟨o,by rw[m5 (bf9 h hl (by intro z;cases z))];exact h⟩)
 ·exact .inr h
theorem x8.updL {K:W.Frag}{H:Hp}{l:Addr}{xs zs:List V}(hl:H l=some (.lst xs)):∀ {ys:List V} {ks:List (List Int)},x8 K H ys ks->x8 K (upd H l (.lst zs)) ys ks
 | _,_,.nil=>.nil
 | _,_,.cons r t=>by
  obtain⟨a,h1,h2⟩:=r
  exact .cons ⟨a,h1,h2.updL hl⟩ (x8.updL hl t)
theorem x8.one {K:W.Frag}{H:Hp}{a:Addr}{k:List Int}(h:SqT K H a (k.map V.int)):x8 K H [.ref a] [k]:=.cons ⟨a,rfl,h⟩ .nil
theorem p7.seqT {K:W.Frag}{H H':Hp}{a:Addr}{xs:List V}(e:p7 H H')(h:SqT K H a xs):SqT K H' a xs:=by
 rcases h with(h | ⟨o,h⟩) | h
 ·exact .inl (.inl (e _ _ h))
 ·exact .inl (.inr ⟨o,e _ _ h⟩)
 ·exact .inr h
theorem p7.tups {K:W.Frag}{H H':Hp}{ys:List V}{ks:List (List Int)}(e:p7 H H')(h:x8 K H ys ks):x8 K H' ys ks:=x8.same e h
theorem p7.upd {H H':Hp}{l:Addr}{o:HO}(e:p7 H H')(h:H l=none):p7 H (upd H' l o):=fun b u q=>by
 rw[m5 (m8 q h)]
 exact e b u q
end L2
namespace L2
open PySem
theorem aY9 (xs:List V)(k:Nat):aj1 xs (some (k:Int)) none=xs.drop k:=by
 unfold aj1
 rw[HT.aQ8,HT.aE6]
 rcases Nat.le_total k xs.length with h | h
 ·rw[Nat.min_eq_left h]
  exact j0 (by rw[K1];omega)
 ·rw[Nat.min_eq_right h,ba2 h,ba2 (c7 _)]
  simp
theorem bt9 (xs:List V)(k:Nat):aj1 xs none (some (k:Int))=xs.take k:=by
 unfold aj1
 rw[HT.aQ8,HT.aE6,List.drop_zero,Nat.sub_zero]
 rcases Nat.le_total k xs.length with h | h
 ·rw[Nat.min_eq_left h]
 ·rw[Nat.min_eq_right h,j0 h,j0 (c7 _)]
theorem af9 {X:Cx}(K:W.Frag)(hK:X.K=K):L1 X (.builtin "isinstance") (fun xs H Q=>∃ x c t b,xs=[x,.ty c]/\ag2 K H x t/\PySem.W.kitOne K t (.type c)=some b/\Q (.bl b) H):=by
 subst hK
 exact aJ3
theorem aK7 {u d:Nat}(h:u+64<cLine)(hd:d<=60):u+1+d<cLine:=by omega
theorem bv3 {u d:Nat}(h:u+64<cLine)(hd:d<=64):u+d<cLine:=by omega
theorem Dt.mkInt {K:W.Frag}{H:Hp}{i:Int}:Dt K H (.int i) (.int i):=by unfold Dt;rfl
theorem Dt.mkL {K:W.Frag}{H:Hp}{a:Addr}{xs:List V}{ds:List PyData}(h:SqL K H a xs)(d:A5 K H ds xs):Dt K H (.list ds) (.ref a):=by unfold Dt;exact⟨a,xs,rfl,h,d⟩
theorem Dt.mkT {K:W.Frag}{H:Hp}{a:Addr}{xs:List V}{ds:List PyData}(h:SqT K H a xs)(d:A5 K H ds xs):Dt K H (.tuple ds) (.ref a):=by unfold Dt;exact⟨a,xs,rfl,h,d⟩
theorem A5.mkN {K:W.Frag}{H:Hp}:A5 K H [] []:=by unfold A5;rfl
theorem A5.mkC {K:W.Frag}{H:Hp}{d:PyData}{x:V}{ds:List PyData}{xs:List V}(h:Dt K H d x)(t:A5 K H ds xs):A5 K H (d::ds) (x::xs):=by unfold A5;exact⟨x,xs,rfl,h,t⟩
theorem ax5 {i:Nat}{z:Int}{σ:St}{H:Hp}{Q:St->Hp->Prop}(h:∀ c:Int,c=z->aI1 i (.int c) σ H Q):aI1 i (.int z) σ H Q:=h z rfl
theorem int_at {ns:List Int}{i:Nat}{x:V}(h:(ns.map V.int)[i]?=some x):∃ z:Int,x=V.int z:=by
 rw[l4]at h
 cases e:ns[i]? with
 | none=>rw[e]at h;cases h
 | some z=>rw[e]at h;exact⟨z,(Option.some.inj h).symm⟩
theorem aY8 (ns:List Int)(lo hi:Option Int):∃ ms:List Int,aj1 (ns.map V.int) lo hi=ms.map V.int/\ms.length<=ns.length:=by
 unfold aj1
 rw[<- at6,<- at7]
 exact⟨_,rfl,by rw[q8,K1];omega⟩
theorem af5 {n j:Nat}(h:j<n):ixN n (j:Int)=some j:=by
 unfold ixN
 rw[if_pos (by omega),if_pos (by omega)]
 simp
theorem bg6 (k:List Int):(PyData.list (k.map .int)).canLay0=true:=by simp[PyData.canLay0,lay_ints]
theorem bF3 (k:List Int):(PyData.list (k.map .int)).depth<=2:=by
 have:=as0 k
 simp only[PyData.depth]
 omega
theorem bF0 (a b:List Int):PyData.eqv (.list (a.map .int)) (.list (b.map .int))=decide (a=b):=by
 simp only[PyData.eqv]
 exact ar9 a b
theorem Dt.mkLi {K:W.Frag}{H:Hp}{a:Addr}{k:List Int}(h:SqL K H a (k.map V.int)):Dt K H (.list (k.map .int)) (.ref a):=Dt.mkL h (A5.ints k)
theorem x8.dtAll {K:W.Frag}{H:Hp}{ys:List V}{ks:List (List Int)}(t:x8 K H ys ks):A5 K H (ks.map dP) ys:=A5.tups t
def dW (n:Int)(ks:List (List Int)):PyData:=.tuple [.int n,.tuple (ks.map dP)]
theorem bL8 (n:Int)(ks:List (List Int)):(dW n ks).canLay0=true:=by simp[dW,PyData.canLay0,PyData.canLayAll0,aw8]
theorem bN7 (n:Int)(ks:List (List Int)):(dW n ks).depth<=4:=by
 have:=ax8 ks
 simp only[dW,PyData.depth,PyData.depthAll]
 omega
theorem bN4 (n m:Int)(ks ls:List (List Int)):PyData.eqv (dW n ks) (dW m ls)=(decide (n=m) && decide (ks=ls)):=by
 simp only[dW,PyData.eqv,PyData.eqvAll,ax7,Bool.and_true]
 by_cases h:n=m
 ·subst h;simp
 ·simp[h]
end L2
namespace Web
open PySem L2
def V8 (i m:Nat):List (List Int):=(k8 m).map fun(d:Nat)=>([(i:Int),(i:Int)+1+(d:Int)]:List Int)
def j5 (n:Nat):List (List Int):=(k8 n).flatMap fun i=>V8 i (n - (i+1))
def Up (n:Nat)(k:List Int):Prop:=∃ i j:Nat,i<j/\j<n/\k=[(i:Int),(j:Int)]
theorem ai5 {n:Nat}{k:List Int}(h:k∈j5 n):Up n k:=by
 unfold j5 at h
 obtain⟨i,hi,hk⟩:=bH4.mp h
 unfold V8 at hk
 obtain⟨d,hd,rfl⟩:=l5.mp hk
 rw[p0]at hi hd
 exact⟨i,i+1+d,by omega,by omega,by simp⟩
def Asc (ks:List (List Int)):Prop:=ks.Pairwise fun a b=>Tim.D0 a b=true
theorem bu1 (i m:Nat):Asc (V8 i m):=by
 unfold Asc V8
 rw[E1]
 refine List.Pairwise.imp ?_ Q0
 intro a b hab
 unfold Tim.D0
 rw[if_pos rfl]
 unfold Tim.D0
 rw[if_neg (by omega)]
 exact decide_eq_true (by omega)
theorem ay6 (n:Nat):Asc (j5 n):=by
 unfold Asc j5
 rw[List.pairwise_flatMap]
 refine⟨fun i _=>bu1 i _,?_⟩
 refine List.Pairwise.imp ?_ Q0
 intro a b hab x hx y hy
 unfold V8 at hx hy
 obtain⟨d,hd,rfl⟩:=l5.mp hx
 obtain⟨e,he,rfl⟩:=l5.mp hy
 unfold Tim.D0
 rw[if_neg (by omega)]
 exact decide_eq_true (by omega)
theorem aw6:∀ n:Nat,n<=24->(j5 n).length<=276:=by decide +kernel
theorem aq1 (n i:Nat):((k8 (i+1)).flatMap fun j=>V8 j (n - (j+1)))=((k8 i).flatMap fun j=>V8 j (n - (j+1)))++V8 i (n - (i+1)):=by
 rw[v7,bu8]
 simp
theorem aV8 (i m:Nat):V8 i (m+1)=V8 i m++[[(i:Int),(i:Int)+1+(m:Int)]]:=by
 unfold V8
 rw[v7,i5]
 rfl
theorem bg3 (n:Nat):∀ i:Nat,i<=n->((k8 i).flatMap fun j=>V8 j (n - (j+1))).length<=(j5 n).length:=by
 intro i hi
 unfold j5
 obtain⟨d,rfl⟩:=Nat.exists_eq_add_of_le hi
 rw[List.range_add,bu8,p9]
 omega
theorem ay7 {ks:List (List Int)}(h:Asc ks):ks.Nodup:=by
 refine List.Pairwise.imp ?_ h
 intro a b hab e
 subst e
 rw[Tim.ar0]at hab
 cases hab
theorem aJ7:∀ {ks ls:List (List Int)},Asc ks->ls.Perm ks->ls.Pairwise (fun a b=>Tim.D0 b a=false)->ls=ks
 | [],ls,_,p,_=>p.eq_nil
 | k::ks,[],_,p,_=>by
  have:=p.length_eq
  simp at this
 | k::ks,l::ls,h,p,q=>by
  have hkl:l=k:=by
   have h1:l∈k::ks:=p.mem_iff.mp d8
   have h2:k∈l::ls:=p.mem_iff.mpr d8
   rcases d3.mp h1 with e | e
   ·exact e
   ·rcases d3.mp h2 with e2 | e2
    ·exact e2.symm
    ·have a1:=(B8.mp h).1 l e
     have a2:=(B8.mp q).1 k e2
     rw[a1]at a2
     cases a2
  subst hkl
  rw[aJ7 (B8.mp h).2 ((List.perm_cons _).mp p) (B8.mp q).2]
def up:List Int->List Int
 | [a,b]=>[if b<a then b else a,if b > a then b else a]
 | k=>k
theorem Up.key {n:Nat}{k:List Int}(h:Up n k)(hn:n<=24):Sett.al6 k:=by
 obtain⟨i,j,h1,h2,rfl⟩:=h
 exact⟨i,j,by omega,by omega,rfl⟩
theorem Up.len {n:Nat}{k:List Int}(h:Up n k):k.length=2:=by
 obtain⟨i,j,h1,h2,rfl⟩:=h
 rfl
def al7 (n:Nat)(k:List Int):Prop:=∃ i j:Nat,i<n/\j<n/\i≠j/\k=[(i:Int),(j:Int)]
theorem al7.up {n:Nat}{k:List Int}(h:al7 n k):Up n (up k):=by
 obtain⟨i,j,h1,h2,h3,rfl⟩:=h
 show Up n [if (j:Int)<i then (j:Int) else i,if (j:Int) > i then (j:Int) else i]
 by_cases h:i<j
 ·rw[if_neg (by omega),if_pos (by omega)]
  exact⟨i,j,h,h2,rfl⟩
 ·rw[if_pos (by omega),if_neg (by omega)]
  exact⟨j,i,by omega,h1,rfl⟩
end Web
namespace L2
open PySem
def P6.around {k:Nat}{A:Around}(_:P6 k A):Around:=A
theorem aR8 {X:Cx}(K:W.Frag)(A:Around)(hK:X.K=K)(hA:X.A=A):OpR X (compareOp .In) (aM2 K A false):=by subst hK hA;exact bB5
theorem aM8 {X:Cx}(K:W.Frag)(A:Around)(hK:X.K=K)(hA:X.A=A):OpR X (compareOp .NotIn) (aM2 K A true):=by subst hK hA;exact aW3
end L2
namespace L2
open PySem PySem.Spec PyProof.Rows
section
variable {X:Cx} {o e:Expr} {es:List Expr} {to:TE} {t:TA} {name:Str} {apos cpos:Pos} {T id:String} {r:V->List V->Hp->VK->Prop}
theorem af6 (p:Int):∀ k:List Int,(k.map PyData.int).any (fun d=>PyData.eqv d (.int p))=decide (p∈k)
 | []=>by simp
 | i::k=>by
  rw[k6,U0,af6 p k]
  by_cases h:i=p
  ·subst h;simp[PyData.eqv]
  ·have h':p≠i:=fun e=>h e.symm
   simp[PyData.eqv,h,h']
end
section
variable {prog:Program} {w:World} {A:Around} {E:Value->Shared->Prop} {s:Shared}
theorem aS4:∀ {vs:List Value} {n i:Nat},vs.length=n->(∀ j v,vs[j]?=some v->∃ t,v=Value.int (((i+j:Nat):Int)) t)->IntsAre vs ((ac0 i n).map fun k:Nat=>(k:Int))
 | [],n,i,e,_=>by subst e;exact .nil
 | v::vs,0,i,e,_=>by cases e
 | v::vs,n+1,i,e,h=>by
  obtain⟨t,rfl⟩:=h 0 v rfl
  rw[List.range'_succ,k6]
  refine .cons _ t (aS4 (by simpa using e) fun j v hv=>?_)
  obtain⟨t',e'⟩:=h (j+1) v (by simpa using hv)
  exact⟨t',by rw[e'];congr 2;omega⟩
theorem aI9 {r:Addr}{n:Nat}{t u v:Tok}{Q:List Value->Shared->Prop}(hh:A.handled=none)(hr:IsRange s.heap r 0 n 1 t u v)(hn:n<=1000)
  (h:∀ h' tk vs,(∀ b o,s.heap.get? b=some o->h'.get? b=some o)->IntsAre vs ((ac0 0 n).map fun k:Nat=>(k:Int))->Q vs { s with heap:=h',toks:=tk }) :
  wpAny (model prog w) A (collect (.ref r)) Q E s:=by
 unfold collect
 refine wpAny_bind (wpAny_runValue (codeAny_builtin F.entry_proto_collect ?_))
 rw[Around.under_plainId F.plain_proto_collect _]
 show wpAny _ A.in1 (newList [] >>= fun l=>again (.builtin "list.__iadd__" ⟨[l,.ref r],[]⟩)) _ _ s
 refine wpAny_bind (wpAny_newObj_type ?_)
 refine wpAny_pure ⟨plainId_quiet F.plain_list_iadd _,codeAny_builtin F.entry_list_iadd ?_⟩
 rw[Around.under_plainId F.plain_list_iadd _]
 show wpAny _ A.in1 (Builtin.List.listExtendWith (.ref s.heap.objs.size) (.ref r) (.ref s.heap.objs.size)) _ _ _
 have hS:(s.heap.push { cls:=.type "list",data:=.seq ([]:List Value).toArray }).get? s.heap.objs.size=some { cls:=.type "list",data:=.seq #[] }:=d6 _ rfl
 have hrs:Builtin.Range.rangeSize 0 n 1=(n:Int):=by rw[rangeSize_one];split<;>omega
 refine wpAny_extend_range (R:=fun rr s'=>match rr with
  | .ok (.ret v)=>wpAny (model prog w) A (match v with
   | .ref a=>(do
    let o <- load a
    match o.data with
    | .seq xs _=>pure xs.toList
    | _=>unsupported "internal:collect")
   | _=>unsupported "internal:collect") Q E s'
  | .ok _=>False
  | .error e=>E e s') (s:={ s with heap:=s.heap.push { cls:=.type "list",data:=.seq ([]:List Value).toArray } }) (n:=n) hh (b9 _ hr) (small_one (by omega) (by omega) (by omega) (by omega)) hrs (by omega) s.heap.objs.size _ 0 hS fun h' tk acc' c' hk hS' hacc=>?_
 show wpAny _ A (load s.heap.objs.size >>= _) _ _ _
 refine wpAny_bind (wpAny_load hS' ?_)
 refine wpAny_pure (h h' tk _ (fun b o e=>hk b o (i4 (c9 e)) (b9 _ e)) (aS4 (by rw[o4];exact hacc.1) fun j v hj=>?_))
 obtain⟨t',e⟩:=hacc.2 j v (by rw[<- o5];exact hj)
 exact⟨t',by rw[e];congr 1;omega⟩
end
section
variable {X:Cx} {pins:List (Addr × Obj)} {σ:St} {H:Hp} {s:Shared} {A:Around} {E:Value->Shared->Prop}
theorem J1.to {H':Hp}{b:Addr}(f:J1 X pins H b)(h:H' b=none):J1 X pins H' b:=⟨h,f.2⟩
theorem Inv.turn {h':Heap}{t':Nat}{it:Addr}(I:Inv X pins σ H s)(f:J1 X pins H it)(k:∀ b o,b≠it->s.heap.get? b=some o->h'.get? b=some o):Inv X pins σ H { s with heap:=h',toks:=t' }:=
 I.turned k f.1 f.2.1 f.2.2.2.1 f.2.2.2.2.1 f.2.2.2.2.2
theorem Inv.take {h':Heap}{t':Nat}{a:Addr}{o:HO}(I:Inv X pins σ H s)(f:J1 X pins H a)(k:∀ b u,b≠a->s.heap.get? b=some u->h'.get? b=some u)(new:B9 X.prog X.w (upd H a o) h' a o):Inv X pins σ (upd H a o) { s with heap:=h',toks:=t' }:=by
 have hn:=f.1
 have ne:∀ b u,H b=some u->b≠a:=fun b u e=>m8 e hn
 have kp:∀ b u,H b=some u->upd H a o b=some u:=fun b u e=>by rw[m5 (ne b u e)];exact e
 refine I.step (g':=s.gens) (d':=s.drawn) (ch:=[a]) (fun b hb=>?_) (fun b u _ _ hc e _=>k b u (fun z=>hc (by simp[z])) e) (fun b u _ _ hc e _=>⟨u.slots,k b u (fun z=>hc (by simp[z])) e⟩) (fun b u hc _ n=>by rw[m5 (fun z=>hc (by simp[z]))];exact n)
  (fun b u hc e=>⟨u,k b u (fun z=>hc (by simp[z])) e⟩) (fun b xs e=>kp b _ e) (fun b u xs e=>kp b _ e) (fun b ps e=>⟨#[],by rw[kp b _ e];simp⟩) (fun m hm=>?_) (fun b u e=>?_) I.bare
 ·have e:b=a:=by simpa using hb
  subst e
  exact⟨f.2.2.2.1,f.2.1,f.2.2.2.2.1,f.2.2.2.2.2⟩
 ·obtain⟨o',es,ep,ho,r⟩:=hm
  exact⟨o',es,ep,k _ o' (Ne.symm f.2.1) ho,r⟩
 ·by_cases hb:b=a
  ·subst hb
   rw[c6]at e
   cases e
   exact new
  ·rw[m5 hb]at e
   refine(I.hok b u e).stay (fun c v hc q=>k c v ?_ q) (fun c q=>?_) fun c xs q=>?_
   ·rcases hc with z | z
    ·rw[z];exact hb
    ·exact ne c _ z
   ·exact kp _ _ q
   ·exact kp _ _ q
end
section
variable {X:Cx} {pins:List (Addr × Obj)} {σ:St} {H:Hp} {s:Shared} {A:Around} {E:Value->Shared->Prop}
abbrev aC4 (X:Cx)(A:Around)(σ:St)(H:Hp)(f:Value)(key:Int->List Int)(z:Int):Prop:=∀ (t:Tok) (pins':List (Addr × Obj)) (s':Shared) (H':Hp),Inv X pins' σ H' s'->p7 H H' ->
 wpAny (model X.prog X.w) A (call f [.int z t]) (fun u s''=>∃ k H'',u=.ref k/\H'' k=some (.tup ((key z).map V.int))/\Inv X pins' σ H'' s''/\p7 H' H'') (fun _ _=>False) s'
abbrev aC5 (X:Cx)(pins:List (Addr × Obj))(σ:St)(H:Hp)(a:Addr)(zs:List Int)(key:Int->List Int)(P:PySem.Fin->Shared->Prop):Prop:=∀ (H':Hp) (s':Shared) (out:List Value) (zs':List Int) (c:Nat),Inv X pins σ H' s'->p7 H H'->J1 X pins H' a ->
 s'.heap.get? a=some (seqObj "list" out.toArray c)->IntsAre out zs'->zs'.Perm zs->zs'.Pairwise (fun x y=>Tim.D0 (key y) (key x)=false)->P (.done (.ret .none)) s'
theorem ar3 {prog:Program}{w:World}{h:Heap}{key:Int->List Int}:∀ {ks vs:List Value} {zs:List Int},Paired (fun u k=>Tim.IsK prog w h k u) ks (zs.map key)->IntsAre vs zs ->
  (∀ p∈ks.zip vs,Tim.IsK prog w h (key (numOf p.2)) p.1)/\(ks.zip vs).map (fun p=>numOf p.2)=zs
 | _,_,[],.nil,.nil=>⟨fun p h=>(nomatch h),rfl⟩
 | _,_,z::zs,.cons r t,.cons _ t' q=>by
  obtain⟨h1,h2⟩:=ar3 t q
  refine⟨fun p hp=>?_,by rw[O8,k6,h2];rfl⟩
  rw[O8]at hp
  rcases d3.mp hp with rfl | hp
  ·exact r
  ·exact h1 p hp
theorem ax2:∀ {vs:List Value} {zs:List Int},IntsAre vs zs->∀ v∈vs,∃ t,v=.int (numOf v) t
 | _,_,.nil,v,h=>by cases h
 | _,_,.cons z t q,v,h=>by
  rcases d3.mp h with rfl | h
  ·exact⟨t,rfl⟩
  ·exact ax2 q v h
theorem aS5:∀ {vs:List Value},(∀ v∈vs,∃ t,v=.int (numOf v) t)->IntsAre vs (vs.map numOf)
 | [],_=>.nil
 | v::vs,h=>by
  obtain⟨t,e⟩:=h v d8
  rw[k6]
  rw[e]
  exact .cons _ t (aS5 fun v hv=>h v (d5 _ hv))
set_option maxHeartbeats 2000000 in
theorem aH5 {a kS:Addr}{vs:List Value}{zs:List Int}{keys:Array Value}{e e1:Nat}{key:Int->List Int}{P:PySem.Fin->Shared->Prop}{st:SortSt}{H0:Hp}(I:Inv X pins σ H s)(hS:p7 H0 H)(hk:s.heap.get? kS=some (seqObj "list" keys e))(ha:s.heap.get? a=some (seqObj "list" #[] e1))
  (fk:J1 X pins H kS)(fa:J1 X pins H a)(hka:kS≠a)(hz:vs.length<=1000)(hkl:keys.size=vs.length)(hi:IntsAre vs zs)
  (hK:Paired (fun u k=>Tim.IsK X.prog X.w s.heap k u) keys.toList (zs.map key))(hp:(arrOf st).Perm (keys.zip vs.toArray))(hf:failedOf st=none)
  (hs:(arrOf st).toList.Pairwise (Tim.le (Tim.Bf (O:=Tim.aN2) fun p=>Tim.N8 X.prog X.w s.heap p.1)))(h:aC5 X pins σ H0 a zs key P) :
  wpAny (model X.prog X.w) A (ksk_tail a false e1 (.ref kS) st) P E s:=by
 obtain⟨k1,k2⟩:=ar3 hK hi
 have hl:(arrOf st).toList.Perm (keys.toList.zip vs):=by rw[<- ksk_zip];exact V2.mp hp
 have hsz2:(arrOf st).size=vs.length:=by rw[hp.size_eq,aK5,hkl,d7,Nat.min_self]
 have s1:=Heap.SameBut.update s.heap kS (Obj.mapSeq fun _=>(#[]:Array Value))
 have na1:(s.heap.update kS (Obj.mapSeq fun _=>(#[]:Array Value))).get? a=some (seqObj "list" #[] e1):=(s1.2 a hka.symm).trans ha
 have hout:((arrOf st).map (·.2)).size=vs.length:=by rw[X7];exact hsz2
 have hmem:∀ v∈(arrOf st).toList.map (·.2),∃ t,v=.int (numOf v) t:=fun v hv=>by
  obtain⟨p,hp',rfl⟩:=l5.mp hv
  exact ax2 hi _ (ag8 (hl.mem_iff.mp hp')).2
 unfold ksk_tail
 dsimp only
 refine wpAny_bind (listUpdate_at hk rfl ?_ (by rw[hkl,sizeLine_eq];omega) (o8 _))
 refine wpAny_bind (wpAny_letGo ?_)
 refine wpAny_bind (seqEpoch_at na1 rfl ?_)
 refine wpAny_bind (listUpdate_at na1 rfl ?_ (o8 _) (p5 (ah4 hout) (by rw[sizeLine_eq];omega)))
 rw[hf]
 simp only[bne_self_eq_false,j8,if_false]
 have I1:Inv X pins σ H { s with heap:=s.heap.update kS (Obj.mapSeq fun _=>(#[]:Array Value)),toks:=s.toks }:=I.turn fk fun b o hb q=>(s1.2 b hb).trans q
 have s2:=Heap.SameBut.update (s.heap.update kS (Obj.mapSeq fun _=>(#[]:Array Value))) a (Obj.mapSeq fun _=>(arrOf st).map (·.2))
 have I2:Inv X pins σ H { s with heap:=(s.heap.update kS (Obj.mapSeq fun _=>(#[]:Array Value))).update a (Obj.mapSeq fun _=>(arrOf st).map (·.2)),toks:=s.toks }:=
  I1.turn (t':=s.toks) fa fun b o hb q=>(s2.2 b hb).trans q
 obtain⟨c2,hc2⟩:∃ c2,((s.heap.update kS (Obj.mapSeq fun _=>(#[]:Array Value))).update a (Obj.mapSeq fun _=>(arrOf st).map (·.2))).get? a=some (seqObj "list" ((arrOf st).map (·.2)) c2):=⟨_,get?_update_seq na1 fun _=>(arrOf st).map (·.2)⟩
 have eo:((arrOf st).toList.map (·.2)).toArray=(arrOf st).map (·.2):=by rw[<- bG5,ah5]
 refine wpAny_pure (h H _ ((arrOf st).toList.map (·.2)) (((arrOf st).toList.map (·.2)).map numOf) c2 I2 hS fa (by rw[eo];exact hc2) (aS5 hmem) ?_ ?_)
 ·have:=hl.map fun p=>numOf p.2
  rw[k2]at this
  rw[F5]
  exact this
 ·rw[F5,E1]
  refine List.Pairwise.imp_of_mem ?_ hs
  intro x y hx hy hxy
  have ex:=Tim.N1 (k1 x (hl.mem_iff.mp hx))
  have ey:=Tim.N1 (k1 y (hl.mem_iff.mp hy))
  have hxy':Tim.D0 (Tim.N8 X.prog X.w s.heap y.1) (Tim.N8 X.prog X.w s.heap x.1)=false:=hxy
  rw[ex,ey]at hxy'
  exact hxy'
theorem bi1:∀ {vs:List Value} {zs:List Int} {j:Nat} {x:Value},IntsAre vs zs->vs[j]?=some x->∃ z t,zs[j]?=some z/\x=.int z t
 | _,_,_,_,.nil,h=>by simp at h
 | _,_,0,_,.cons n t q,h=>by simp at h;exact⟨n,t,rfl,h.symm⟩
 | _,_,j+1,_,.cons n t q,h=>by
  obtain⟨z,t',h1,h2⟩:=bi1 q (by simpa using h)
  exact⟨z,t',by simpa using h1,h2⟩
theorem bi8 {H':Hp}{s':Shared}{fp:List Addr}{h:Heap}{b:Addr}{o:Obj}(I:Inv X (pins++ad1 fp h) σ H' s')(hb:b∈fp)(e:h.get? b=some o):s'.heap.get? b=some o/\H' b=none:=
 let p:=I.pin (b,o) (m7 _ (m7 _ (L6 hb e)))
 ⟨p.1,p.2.1⟩
end
section
variable {X:Cx} {pins:List (Addr × Obj)} {σ:St} {H:Hp} {s:Shared} {A:Around} {E:Value->Shared->Prop}
end
abbrev ad3 (qual:Str)(scope:Scope)(cl:List (Str × Addr))(f:Addr)(cv:Value)(s:Shared):Env:=PySem.W.envX qual scope s.heap.objs.size f cv cl
def bg9 (X:Cx)(A:Around)(qual:Str)(scope:Scope)(cl:List (Str × Addr))(N':List Str)(f:Addr)(cv:Value)(s:Shared)(H:Hp):Cx:=
 { X with A:=A.deeper (ad3 qual scope cl f cv s),N:=N',s₀:=s,H₀:=H,env:=ad3 qual scope cl f cv s,outer:=X.stack,stack:=List.cons (ad3 qual scope cl f cv s) X.stack,ex:=[],fn:=fun _=>false,calm:=true,pn:=[],xe:=fun _ _=>False }
def ay8 (X:Cx)(N':List Str)(lk:List (Option Nat))(scope:Scope)(cl:List (Str × Addr)):Prop:=
 lk.length=N'.length/\∀ (i j:Nat) (x:Str),N'[i]?=some x->lk[i]?=some (some j)->X.N[j]?=some x/\(X.env.scope.names.lookup x=some .cell\/X.env.scope.names.lookup x=some .free)/\(cl.lookup x).isSome=true /\
  (scope.names.lookup x=some .cell\/scope.names.lookup x=some .free)
section
variable {X:Cx} {pins:List (Addr × Obj)} {σ:St} {H:Hp} {s:Shared} {A:Around}
theorem aX3 {h1:Heap}{tk:Nat}{qual p:Str}{scope:Scope}{cl:List (Str × Addr)}{N':List Str}{lk:List (Option Nat)}{f:Addr}{cv u:Value}{v:V}(I:Inv X pins σ H s)(hA:A.frames=some X.stack)(hh:A.handled=none)(hkind:scope.kind=.function)(hcl:at5 X.env cl)(hfr:ag6 scope.names cl=true)(hlk:ay8 X N' lk scope cl)
  (hp:scope.names.lookup p=some .local)(rv:RelV v u)(hn:h1.Ns s.heap.objs.size (fun y=>[(p,u)].reverse.lookup y))(hk:∀ b o,s.heap.get? b=some o->h1.get? b=some o) :
  Inv (bg9 X A qual scope cl (p::N') f cv s H) [] (some v::W9 lk σ) H { s with heap:=h1,toks:=tk }:=by
 have hC:H s.heap.objs.size=none:=I.hok.fresh (c7 _)
 have hmem:∀ y∈scope.names,y.2≠.cell/\(y.2=.free->(cl.lookup y.1).isSome=true):=fun y hy=>by
  unfold ag6 at hfr
  rw[C0]at hfr
  have:=hfr y hy
  rw[A1]at this
  refine⟨by simpa using this.1,fun e=>?_⟩
  have h2:=this.2
  rw[e]at h2
  simpa using h2
 have hcell:∀ x c,cl.lookup x=some c->X.env.cells.lookup x=some c:=fun x c e=>hcl.get e
 have noE:∀ b:Addr,b∉([]:List Addr):=fun b z=>nomatch z
 refine⟨⟨I.ok.mod,hkind,rfl,rfl,c7 _,fun x y c e1 e2=>I.ok.inj x y c (hcell x c e1) (hcell y c e2),fun x hx=>?_,(fun x c e=>by cases e),fun _=>hh,Around.frames_deeper hA,.inr ⟨rfl,rfl⟩,fun b z=>absurd z (noE b),fun b o e=>I.bs b o e,p5 I.ok.bsz I.sz,fun b _ _=>noE b,fun b z=>absurd z (noE b),I.stack,I.stkFree⟩,
  rfl,I.bare,Un.kept hk,⟨_,hn,fun i x w e1 e2 e3=>?_⟩,fun x c e=>?_,hC,fun x c e=>I.freeC x c (hcell x c e),(fun q hq=>nomatch hq),I.hok.kept hk,?_⟩
 ·have hx':scope.names.lookup x=some .cell\/scope.names.lookup x=some .free:=hx
  rcases hx' with h | h
  ·exact absurd rfl (hmem _ (PySem.mem_of_lookup h)).1
  ·exact k9.mp ((hmem _ (PySem.mem_of_lookup h)).2 rfl)
 ·cases i with
  | zero =>
   have e1':p=x:=by simpa using (show (p::N')[0]?=some x from e1)
   have e2':v=w:=by simpa using (show (some v::W9 lk σ)[0]?=some (some w) from e2)
   subst e1' e2'
   refine⟨u,rv,.inl ⟨hp,?_⟩⟩
   show [(p,u)].reverse.lookup p=some u
   simp[A7]
  | succ i =>
   have e1':N'[i]?=some x:=by simpa using (show (p::N')[i+1]?=some x from e1)
   have e2':(W9 lk σ)[i]?=some (some w):=by simpa using (show (some v::W9 lk σ)[i+1]?=some (some w) from e2)
   unfold W9 at e2'
   rw[l4]at e2'
   cases hq:lk[i]? with
   | none=>rw[hq]at e2';cases e2'
   | some o =>
    rw[hq]at e2'
    have e2'':(o.bind fun j=>(σ[j]?).join)=some w:=Option.some.inj e2'
    cases o with
    | none=>cases e2''
    | some j =>
     obtain⟨q1,q2,q3,q4⟩:=hlk.2 i j x e1' hq
     have hσ:σ[j]?=some (some w):=by
      have z:(σ[j]?).join=some w:=e2''
      cases hh:σ[j]? with
      | none=>rw[hh]at z;cases z
      | some o=>rw[hh]at z;rw[show o=some w from z]
     obtain⟨m,hnX,hl⟩:=I.loc
     obtain⟨u',r,lo⟩:=hl j x w q1 hσ (q2.elim (fun a=>.inr (.inl a)) (fun a=>.inr (.inr a)))
     refine⟨u',r,.inr ?_⟩
     obtain⟨c,hc⟩:=k9.mp q3
     refine⟨q4,c,hc,?_⟩
     have hcX:=hcell x c hc
     rcases lo with⟨k,_⟩ | ⟨_,c',hc',z⟩
     ·have k':X.env.scope.names.lookup x=some .local:=k
      rw[k']at q2
      rcases q2 with q2 | q2<;>cases q2
     ·rw[hcX]at hc'
      cases hc'
      obtain⟨o,ho,hd⟩:=z
      exact⟨o,hk c o ho,hd⟩
 ·obtain⟨w,o,ho,hd⟩:=I.cell x c (hcell x c e)
  exact⟨w,o,hk c o ho,hd⟩
 ·show (some v::W9 lk σ).length=(p::N').length
  unfold W9
  rw[m9,b7,m9,hlk.1]
theorem bg8 {name qual p:Str}{params:Arguments}{body:Expr}{scope:Scope}{cl:List (Str × Addr)}{N':List Str}{lk:List (Option Nat)}{f c':Addr}{pm ctv u:Value}{v:V}{te:TE}{Q:VK}(I:Inv X pins σ H s)(hA:A.frames=some X.stack)(hh:A.handled=none)(hroom:A.depth<recursionLimit)
  (ho:s.heap.get? f=some (PySem.W.kla_obj name qual params body scope cl pm c' ctv))(hcd:s.heap.CodeRec (.ref c') qual)(hbind:bindArgs (PySem.W.kla_fn name qual params body scope cl pm (.ref c') ctv) ⟨[u],[]⟩=pure [(p,u)])
  (hkind:scope.kind=.function)(hco:scope.isCoroutine=false)(hgen:scope.isGenerator=false)(hcl:at5 X.env cl)(hfr:ag6 scope.names cl=true)(hlk:ay8 X N' lk scope cl)(hp:scope.names.lookup p=some .local)(rv:RelV v u)
  (he:PE (bg9 X A qual scope cl (p::N') f (.ref c') s H) body te)(ht:te (some v::W9 lk σ) H Q) :
  wpAny (model X.prog X.w) A (call (.ref f) [u]) (fun u' s'=>∃ v' H',Inv X pins σ H' s'/\RelV v' u'/\Q v' H') (fun _ _=>False) s:=by
 have hcellN:∀ y∈scope.names,y.2≠.cell:=fun y hy=>by
  unfold ag6 at hfr
  rw[C0]at hfr
  have:=hfr y hy
  rw[A1]at this
  simpa using this.1
 refine wpAny_call (PySem.W.kla_callFunE hroom ho rfl hco hgen rfl hcd ?_)
 show wpAny _ _ (bindArgs (PySem.W.kla_fn name qual params body scope cl pm (.ref c') ctv) ⟨[u],[]⟩) _ _ s
 rw[hbind]
 refine wpAny_pure (wpAny_newFunctionEnv hcellN (fun y hy=>by rw[y6.mp hy];exact hp) (fun h1 hns hsb=>?_) hkind)
 have hk₁:∀ b o,s.heap.get? b=some o->h1.get? b=some o:=fun b o e=>hsb.extBut b o (i4 (c9 e)) (b9 _ e)
 refine⟨I.nolimit.keeps hk₁,?_⟩
 show codeAny _ _ (.expr body (PySem.W.envX qual scope s.heap.objs.size f (.ref c') cl)) _ _
 have I1:=aX3 (tk:=s.toks+[(p,u)].length) (qual:=qual) (f:=f) (cv:=.ref c') I hA hh hkind hcl hfr hlk hp rv hns hk₁
 refine PySem.W.kla_codeExpr (wpAny_mono (he [] _ _ H Q I1 ht) (fun u' s' hq=>?_) fun _ _ z=>False.elim z)
 obtain⟨v',H',J,r',q⟩:=hq
 exact⟨v',H',I.call' (ch:=[]) J.os J.base J.hok J.bare (fun b z=>nomatch z),r',q⟩
end
def ag7 (c:Addr)(qual:Str):HO:=.ext fun h=>h.CodeRec (.ref c) qual
def K7 (f:Addr)(o:Obj):HO:=.ext fun h=>h.get? f=some o
def K8 (P:Addr)(pos:Pos)(qual:Str)(H:Hp):Prop:=∃ ps,H P=some (.tbl ps)/\TriplesOk ps.toList/\(codeAmong pos ps.toList=none\/∃ c',codeAmong pos ps.toList=some (.ref c')/\H c'=some (ag7 c' qual))
def L7 (P:Addr)(H H':Hp):Prop:=∀ b o,b≠P->H b=some o->H' b=some o
theorem L7.trans {P:Addr}{H H1 H2:Hp}(a:L7 P H H1)(b:L7 P H1 H2):L7 P H H2:=fun c o n h=>b c o n (a c o n h)
theorem p7.grow {H H':Hp}(P:Addr)(h:p7 H H'):L7 P H H':=fun b o _ q=>h b o q
theorem K8.same {P:Addr}{pos:Pos}{qual:Str}{H H':Hp}(t:K8 P pos qual H)(h:p7 H H'):K8 P pos qual H':=by
 obtain⟨ps,h1,h2,h3⟩:=t
 refine⟨ps,h _ _ h1,h2,?_⟩
 rcases h3 with h3 | ⟨c',h3,h4⟩
 ·exact .inl h3
 ·exact .inr ⟨c',h3,h _ _ h4⟩
structure ag5 (base:Heap) (mg:Str->Option Value) (c P:Addr):Prop where
 hd:PySem.W.CodeHd base c P
 blt:base.BuiltinsAt mg P
 ne:mainGlobals≠P
theorem ba1 {pos:Pos}{c:Value}{l:List Value}(h:TriplesOk l)(hn:codeAmong pos l=none):codeAmong pos (l++[rawInt pos.line,rawInt pos.col,c])=some c:=codeAmong_snoc l h hn
def bI7 (P:Addr)(pos:Pos)(qual:Str)(params:Arguments)(body:Expr)(scope:Scope)(cl:List (Str × Addr))(pm:Value):TE:=fun σ H Q=>K8 P pos qual H/\∀ f c' ctv H',L7 P H H'->K8 P pos qual H'->H f=none ->
 H' f=some (K7 f (PySem.W.kla_obj "<lambda>" qual params body scope cl pm c' ctv))->H' c'=some (ag7 c' qual)->Q (.ref f) H'
section
variable {X:Cx}
theorem be3 {params:Arguments}{body:Expr}{scope:Scope}{pos:Pos}{c P:Addr}{cl:List (Str × Addr)}(B:ag5 X.base X.mg c P)(hcode:X.env.code=.ref c)(hcl:closureFor scope X.env=pure cl)(hdef:defaultsOf params X.env=([],[])) :
  PE X (.Lambda params body scope pos) (bI7 P pos (X.env.qual++"<lambda>") params body scope cl ((X.mg "__name__").getD .none)):=by
 intro pins s σ H Q I h
 obtain⟨⟨ps,hP,ht,hin⟩,q⟩:=h
 have hPh:s.heap.get? P=some (PySem.W.tabObj ps):=I.hok P _ hP
 have C:=B.hd.keeps I.bk
 have hb:s.heap.BuiltinsAt X.mg P:=by
  obtain⟨bm,ob,b1,b2,b3,b4,b5,b6⟩:=B.blt
  exact⟨bm,ob,b1,b2,b3,b4,I.bk _ _ b5,b6⟩
 refine PySem.W.kla_eval hdef ?_
 rcases hin with hnf | ⟨c',hf,hc'⟩
 ·refine PySem.W.kla_makeFunction hcl I.ok.glob (I.mod.glob.keeps I.bk) hcode C hPh ht hnf B.ne hb fun c' ctv h' tk hx hge hlt hrec htb=>?_
  have hPlt:P<s.heap.objs.size:=c9 hPh
  have hsz:s.heap.objs.size<=h'.objs.size:=p5 hge (S3 hlt)
  have cP:P≠c':=i4 (l9 hPlt hge)
  have fP:P≠h'.objs.size:=i4 (l9 hPlt hsz)
  have fc:c'≠h'.objs.size:=i4 hlt
  have hcn:H c'=none:=I.hok.fresh hge
  have hfn:H h'.objs.size=none:=I.hok.fresh hsz
  have hfr:(PySem.W.kla_obj "<lambda>" (X.env.qual++"<lambda>") params body scope cl ((X.mg "__name__").getD .none) c' ctv).isFreed=false:=rfl
  generalize hobj:PySem.W.kla_obj "<lambda>" (X.env.qual++"<lambda>") params body scope cl ((X.mg "__name__").getD .none) c' ctv=ob at *
  generalize hps:ps++#[rawInt pos.line,rawInt pos.col,.ref c']=ps' at *
  have hps2:ps'.toList=ps.toList++[rawInt pos.line,rawInt pos.col,.ref c']:=by rw[<- hps];simp
  generalize hH1:upd (upd (upd H P (.tbl ps')) c' (ag7 c' (X.env.qual++"<lambda>"))) h'.objs.size (K7 h'.objs.size ob)=H1
  have v1:H1 h'.objs.size=some (K7 h'.objs.size ob):=by rw[<- hH1];exact c6
  have v2:H1 c'=some (ag7 c' (X.env.qual++"<lambda>")):=by rw[<- hH1,m5 fc];exact c6
  have v3:H1 P=some (.tbl ps'):=by rw[<- hH1,m5 fP,m5 cP];exact c6
  have v4:∀ b,b≠P->b≠c'->b≠h'.objs.size->H1 b=H b:=fun b n1 n2 n3=>by rw[<- hH1,m5 n3,m5 n2,m5 n1]
  have v5:∀ b u,b≠P->H b=some u->H1 b=some u:=fun b u n e=>by rw[v4 b n (m8 e hcn) (m8 e hfn)];exact e
  have k1:∀ b o,b≠P->s.heap.get? b=some o->(h'.push ob).get? b=some o:=fun b o n e=>b9 _ (hx b o n e)
  have neP:∀ b,H b=none->b≠P:=fun b n z=>by rw[z,hP]at n;cases n
  have hPn:(h'.push ob).get? P=some (PySem.W.tabObj ps'):=b9 _ htb
  have un:Un X.fs [] H H1 s.heap (h'.push ob):=by
   refine⟨fun b o e n _ _=>k1 b o (neP b n) e,fun b o e n _ _=>⟨o.slots,k1 b o (neP b n) e⟩,fun b o e n _=>?_,fun b o e _=>?_,fun b xs e=>v5 b _ (fun z=>by rw[z,hP]at e;cases e) e,fun b o u e=>v5 b _ (fun z=>by rw[z,hP]at e;cases e) e,fun b qs e=>?_⟩
   ·rw[v4 b (neP b n) (i4 (l9 (c9 e) hge)) (i4 (l9 (c9 e) hsz))]
    exact n
   ·by_cases hb:b=P
    ·rw[hb];exact⟨_,hPn⟩
    ·exact⟨o,k1 b o hb e⟩
   ·by_cases hb:b=P
    ·rw[hb,hP]at e
     cases e
     rw[hb]
     exact⟨#[rawInt pos.line,rawInt pos.col,.ref c'],by rw[v3,<- hps]⟩
    ·exact⟨#[],by rw[v5 b _ hb e];simp⟩
  have hok:HOk X.prog X.w H1 (h'.push ob):=by
   intro b u e
   by_cases hb1:b=h'.objs.size
   ·subst hb1
    rw[v1]at e
    cases e
    exact⟨d6 _ hfr,⟨_,d6 _ hfr⟩,fun h1 h2 q z=>z _ q⟩
   ·by_cases hb2:b=c'
    ·subst hb2
     rw[v2]at e
     cases e
     obtain⟨c2,oc,vs,tq,e1,e2,e3,e4⟩:=hrec
     cases e1
     exact⟨⟨_,oc,vs,tq,rfl,b9 _ e2,e3,e4⟩,⟨oc,b9 _ e2⟩,fun h1 h2 ⟨c3,o3,vs3,t3,q1,q2,q3,q4⟩ z=>by cases q1;exact⟨_,o3,vs3,t3,rfl,z _ q2,q3,q4⟩⟩
    ·by_cases hb3:b=P
     ·subst hb3
      rw[v3]at e
      cases e
      exact hPn
     ·rw[v4 b hb3 hb2 hb1]at e
      refine(I.hok b u e).stay (fun d v hd z=>k1 d v ?_ z) (fun d z=>v5 _ _ ?_ z) fun d xs z=>v5 _ _ ?_ z
      ·rcases hd with hd | hd
       ·rw[hd];exact hb3
       ·intro zz;rw[zz,hP]at hd;cases hd
      ·intro zz;rw[zz,hP]at z;cases z
      ·intro zz;rw[zz,hP]at z;cases z
  have I1:Inv X pins σ H1 { s with heap:=h'.push ob,toks:=tk }:=I.un un hok
  refine⟨.ref h'.objs.size,H1,I1,rfl,q _ c' ctv H1 (fun b o n e=>v5 b o n e) ⟨ps',v3,?_,.inr ⟨c',?_,v2⟩⟩ hfn ?_ v2⟩
  ·rw[hps2];exact TriplesOk_snoc _ _ _ _ ht
  ·rw[hps2];exact ba1 ht hnf
  ·rw[hobj];exact v1
 ·refine PySem.W.kla_makeFunctionHit hcl I.ok.glob (I.mod.glob.keeps I.bk) hcode C hPh ht hf hb fun ctv h' tk hk hsz=>?_
  have hfn:H h'.objs.size=none:=I.hok.fresh hsz
  have hfr:(PySem.W.kla_obj "<lambda>" (X.env.qual++"<lambda>") params body scope cl ((X.mg "__name__").getD .none) c' ctv).isFreed=false:=rfl
  generalize hobj:PySem.W.kla_obj "<lambda>" (X.env.qual++"<lambda>") params body scope cl ((X.mg "__name__").getD .none) c' ctv=ob at *
  have I1:Inv X pins σ (upd H h'.objs.size (K7 h'.objs.size ob)) { s with heap:=h'.push ob,toks:=tk }:=I.laid (fun b o e=>b9 _ (hk b o e)) hsz ⟨d6 _ hfr,⟨_,d6 _ hfr⟩,fun h1 h2 q z=>z _ q⟩
  have sm:p7 H (upd H h'.objs.size (K7 h'.objs.size ob)):=fun b o e=>by rw[m5 (m8 e hfn)];exact e
  refine⟨.ref h'.objs.size,_,by rw[<- hobj]at I1;rw[<- hobj];exact I1,rfl,q _ c' ctv _ (sm.grow P) (K8.same ⟨ps,hP,ht,.inr ⟨c',hf,hc'⟩⟩ sm) hfn (by rw[hobj];exact c6) (sm _ _ hc')⟩
end
def bI2 (ta:TA):TE:=fun σ H Q=>ta σ H fun vs H1=>∃ n:Nat,vs=[.int n]/\n<=1000/\∀ r,H1 r=none->Q (.ref r) (upd H1 r (.rng 0 n))
section
variable {X:Cx}
theorem bp0 {a:Expr}{ta:TA}{p pos:Pos}(hg:Gl X "range")(hm:X.mg "range"=none)(ha:PA X [a] ta)(hs:starEach [a] X.env=[(false,eval a X.env)]:=by rfl):PE X (.Call (.Name "range" p) [a] [] pos) (bI2 ta):=by
 intro pins s σ H Q I h
 refine Call_ (P4 I hg hm boot_range (PyProof.Rows.callWith_type1 (thn (ha pos pins s σ H _ I h) fun us s1 ⟨vs,H1,I1,r1,q1⟩=>?_) hs rfl))
 obtain⟨n,e,hn,q⟩:=q1
 subst e
 cases r1 with
 | cons r rr =>
  cases rr
  obtain⟨t,rfl⟩:=r
  refine call_range_1 ?_
  have hf:H1 s1.heap.objs.size=none:=I1.hok.fresh (c7 _)
  exact⟨.ref s1.heap.objs.size,upd H1 s1.heap.objs.size (.rng 0 n),I1.laid (fun b o e=>b9 _ e) (c7 _) ⟨_,_,_,d6 _ rfl⟩,rfl,q _ hf⟩
end
theorem B9.there {P:Program}{w:World}{H:Hp}{h:Heap}{a:Addr}{o:HO}(x:B9 P w H h a o):∃ ob,h.get? a=some ob:=by
 cases o with
 | lst xs=>obtain⟨_,_,_,_,e⟩:=x;exact⟨_,e⟩
 | tup xs=>obtain⟨_,_,_,ob,e,_⟩:=x;exact⟨_,e⟩
 | dK kvs=>obtain⟨_,_,_,_,o,_,_,e,_⟩:=x;exact⟨_,e⟩
 | dT kvs=>obtain⟨_,_,_,_,o,_,_,e,_⟩:=x;exact⟨_,e⟩
 | set S n=>obtain⟨o,_,_,_,e,_⟩:=x;exact⟨_,e⟩
 | ins C dx fs=>obtain⟨_,_,_,e,_⟩:=x;exact⟨_,e⟩
 | own y=>obtain⟨ob,e⟩:=x;exact⟨ob,e⟩
 | xd fs=>obtain⟨_,⟨_,_,_,e,_⟩,_⟩:=x;exact⟨_,e⟩
 | rng lo hi=>obtain⟨_,_,_,e⟩:=x;exact⟨_,e⟩
 | frz ob u=>obtain⟨e,_⟩:=x;exact⟨_,e⟩
 | tbl ps=>exact⟨_,(show h.get? a=some _ from x)⟩
 | met f y=>exact⟨_,(show h.get? a=some _ from x)⟩
 | ext φ=>obtain⟨_,⟨ob,e⟩,_⟩:=x;exact⟨ob,e⟩
theorem HOk.stays {P:Program} {w:World} {H:Hp} {h h':Heap} (ok:HOk P w H h) (k:∀ b o,h.get? b=some o->H b≠none->h'.get? b=some o):HOk P w H h':=fun a o e =>
 (ok a o e).stay (fun b u hb q => k b u q (by
  rcases hb with z | z
  ·rw[z,e];simp
  ·rw[z];simp)) (fun _ q=>q) fun _ _ q=>q
def bO3 (outer:List Env)(x:Addr)(cls:Value)(h0:Heap)(H':Hp)(h':Heap):Prop:=
 ∃ (B:Heap) (a0:Value),Heap.FlyingW B outer x cls a0 h'/\∀ b o,h'.get? b=some o->(H' b≠none\/h0.get? b≠none)->b∉frs outer->B.get? b=some o
def CXE (P:Program)(w:World):CXT:=fun outer H s E e s' =>
 ∃ (x:Addr) (cls:Value) (H':Hp),e=.ref x/\s'.os=s.os/\AllBare s'.gens/\Un (frs outer) [] H H' s.heap s'.heap/\HOk P w H' s'.heap/\s.heap.get? x=none/\H' x=none/\bO3 outer x cls s.heap H' s'.heap/\E cls none H'
theorem Un.onto {fs:List Addr}{H H':Hp}{h h' h'':Heap}(u:Un fs [] H H' h h')(stay:∀ b o,h'.get? b=some o->h.get? b≠none->b∉fs->h''.get? b=some o)
  (slots:∀ b o,h'.get? b=some o->h.get? b≠none->b∈fs->∃ sl,h''.get? b=some { o with slots:=sl }):Un fs [] H H' h h'' where
 keep:=fun b o e n hb hx=>stay b o (u.keep b o e n hb hx) (by rw[e];simp) hb
 slot:=fun b o e n hb hx=>by
  obtain⟨sl,e1⟩:=u.slot b o e n hb hx
  obtain⟨sl2,e2⟩:=slots b _ e1 (by rw[e];simp) hb
  exact⟨sl2,e2⟩
 free:=u.free
 there:=fun b o e hx=>by
  obtain⟨o',e1⟩:=u.there b o e hx
  by_cases hb:b∈fs
  ·obtain⟨sl,e2⟩:=slots b o' e1 (by rw[e];simp) hb
   exact⟨_,e2⟩
  ·exact⟨o',stay b o' e1 (by rw[e];simp) hb⟩
 tups:=u.tups
 frzs:=u.frzs
 tbls:=u.tbls
theorem N9 {α:Type}{o:Option α}(h:o≠none):∃ x,o=some x:=by
 cases o with
 | none=>exact absurd rfl h
 | some x=>exact⟨x,rfl⟩
theorem aI3 {env:Env}{outer:List Env}{L:Addr}(h:env.frame=some L):frs (env::outer)=L::frs outer:=by
 unfold frs
 rw[N6,h]
section
variable {P:Program} {w:World} {K:W.Frag} {mg:Str->Option Value} {base:Heap} {N:List Str} {qual:Str} {scope:Scope} {f:Addr} {cd:Value} {A:Around} {outer:List Env} {s:Shared} {H:Hp} {E:XK}
 {pins:List (Addr × Obj)} {σ:St} {H1:Hp} {s1:Shared}
theorem bm5 {e:Addr}{cls:Value}{vs:List Value}{h2:Heap}(I:Inv (Z8 (CXE P w) P w K mg base N qual scope f cd A outer s H E) pins σ H1 s1)(hx:Heap.MadeExcOf s1.heap h2 e cls vs)(hE:E cls none H1) :
  (Z8 (CXE P w) P w K mg base N qual scope f cd A outer s H E).xe (.ref e) { s1 with heap:=h2 }:=by
 have hst:=I.stack
 have hfr:=I.ok.frames
 have hlt:=I.lt
 have hL:=I.free
 have hab:=I.ok.above
 have hbs:Un (frs outer) [] H H1 s.heap s1.heap:=I.base
 change s1.heap.FunFrames base (envOfC qual scope s.heap.objs.size f cd::outer) at hst
 change (A.deeper (envOfC qual scope s.heap.objs.size f cd)).frames=some (envOfC qual scope s.heap.objs.size f cd::outer) at hfr
 change H1 s.heap.objs.size=none at hL
 have hff:frs (envOfC qual scope s.heap.objs.size f cd::outer)=s.heap.objs.size::frs outer:=aI3 rfl
 have hin:∀ env∈(envOfC qual scope s.heap.objs.size f cd::outer),∀ b,env.frame=some b->b∈frs (envOfC qual scope s.heap.objs.size f cd::outer):=fun env he b hb=>X5.mpr ⟨env,he,hb⟩
 have old:∀ b,(H1 b≠none\/s.heap.get? b≠none)->b∉frs outer->∃ o,s1.heap.get? b=some o/\b∉frs (envOfC qual scope s.heap.objs.size f cd::outer):=fun b hb hno=>by
  have hne:b≠s.heap.objs.size:=by
   rcases hb with z | z
   ·intro q;rw[q]at z;exact z hL
   ·obtain⟨o,z⟩:=N9 z
    exact i4 (c9 z)
  have hex:∃ o,s1.heap.get? b=some o:=by
   rcases hb with z | z
   ·obtain⟨o,z⟩:=N9 z
    exact(I.hok b o z).there
   ·obtain⟨o,z⟩:=N9 z
    exact hbs.there b o z (by simp)
  obtain⟨o,ho⟩:=hex
  refine⟨o,ho,?_⟩
  rw[hff]
  intro hm
  rcases d3.mp hm with q | q
  ·exact hne q
  ·exact hno q
 have eNew:s.heap.get? e=none:=by
  cases q:s.heap.get? e with
  | none=>rfl
  | some o =>
   obtain⟨o',z⟩:=hbs.there e o q (by simp)
   rw[hx.new]at z
   cases z
 have eFree:H1 e=none:=by
  cases q:H1 e with
  | none=>rfl
  | some o =>
   obtain⟨o',z⟩:=(I.hok e o q).there
   rw[hx.new]at z
   cases z
 refine wpAny_leaves_madeW (base:=PySem.W.hideAll s1.heap (frs (envOfC qual scope s.heap.objs.size f cd::outer))) hfr rfl (fun b o q=>PySem.W.of_hideAll _ q) (PySem.W.funFrames_hide hst hin) hx fun h' t x1 x2 x3 x4=>?_
 have stay:∀ b o,s1.heap.get? b=some o->(H1 b≠none\/s.heap.get? b≠none)->b∉frs outer->h'.get? b=some o:=fun b o ho hb hno=>by
  obtain⟨o',ho',hm⟩:=old b hb hno
  rw[ho]at ho'
  cases ho'
  exact x1.1 b o (PySem.W.hideAll_get _ ho hm)
 have frNone:∀ b∈frs outer,H1 b=none:=fun b hb=>I.stkFree b (by
  show b∈frs (envOfC qual scope s.heap.objs.size f cd::outer)
  rw[hff]
  exact d5 _ hb)
 refine⟨e,cls,H1,rfl,I.os,I.bare,hbs.onto (fun b o ho hh hno=>stay b o ho (.inr hh) hno) (fun b o ho hh hm=>?_),I.hok.stays fun b o ho hh=>stay b o ho (.inl hh) fun hm=>hh (frNone b hm),eNew,eFree,⟨_,_,x1,fun b o ho hb hno=>?_⟩,hE⟩
 ·obtain⟨_,o',ho',hd⟩:=hst.mem (b:=b) (by
   show b∈frs (envOfC qual scope s.heap.objs.size f cd::outer)
   rw[hff]
   exact d5 _ hm)
  rw[ho]at ho'
  cases ho'
  exact x4 b o (hx.keeps b o ho) hd
 ·obtain⟨o',ho',hm⟩:=old b hb hno
  have:=stay b o' ho' hb hno
  rw[ho]at this
  cases this
  exact PySem.W.hideAll_get _ ho' hm
theorem al0:at4 (CXE P w) (Z8 (CXE P w) P w K mg base N qual scope f cd A outer s H E) E:=by
 intro pins σ H1 s1 e s2 I hc
 obtain⟨x,cls,H2,rfl,hos,hb2,u,hok,new,hxn,⟨B,a0,fl,st⟩,hE⟩:=hc
 have hst:=I.stack
 have hfr:=I.ok.frames
 have hL:=I.free
 have hbs:Un (frs outer) [] H H1 s.heap s1.heap:=I.base
 change s1.heap.FunFrames base (envOfC qual scope s.heap.objs.size f cd::outer) at hst
 change (A.deeper (envOfC qual scope s.heap.objs.size f cd)).frames=some (envOfC qual scope s.heap.objs.size f cd::outer) at hfr
 change H1 s.heap.objs.size=none at hL
 change Un (frs (envOfC qual scope s.heap.objs.size f cd::outer)) [] H1 H2 s1.heap s2.heap at u
 change Heap.FlyingW B (envOfC qual scope s.heap.objs.size f cd::outer) x cls a0 s2.heap at fl
 have hff:frs (envOfC qual scope s.heap.objs.size f cd::outer)=s.heap.objs.size::frs outer:=aI3 rfl
 have st':∀ b o,s2.heap.get? b=some o->(H2 b≠none\/s1.heap.get? b≠none)->b∉frs (envOfC qual scope s.heap.objs.size f cd::outer)->B.get? b=some o:=st
 rw[hff]at u st'
 have hLo:∃ o,s1.heap.get? s.heap.objs.size=some o:=by
  obtain⟨m,⟨o,_,_,ho,_⟩,_⟩:=I.loc
  exact⟨o,ho⟩
 have hL2:H2 s.heap.objs.size=none:=by
  obtain⟨o,ho⟩:=hLo
  exact u.free _ o ho hL (by simp)
 have old:∀ b,(H2 b≠none\/s.heap.get? b≠none)->b∉frs outer->∃ o,s2.heap.get? b=some o/\B.get? b=some o:=fun b hb hno=>by
  have hne:b≠s.heap.objs.size:=by
   rcases hb with z | z
   ·intro q;rw[q]at z;exact z hL2
   ·obtain⟨o,z⟩:=N9 z
    exact i4 (c9 z)
  have hm:b∉s.heap.objs.size::frs outer:=fun hm=>by
   rcases d3.mp hm with q | q
   ·exact hne q
   ·exact hno q
  rcases hb with z | z
  ·obtain⟨o,z'⟩:=N9 z
   obtain⟨o',ho⟩:=(hok b o z').there
   exact⟨o',ho,st' b o' ho (.inl z) hm⟩
  ·obtain⟨o,z⟩:=N9 z
   obtain⟨o1,h1⟩:=hbs.there b o z (by simp)
   obtain⟨o2,h2⟩:=u.there b o1 h1 (by simp)
   exact⟨o2,h2,st' b o2 h2 (.inr (by rw[h1];simp)) hm⟩
 have u2:Un (frs outer) [] H H2 s.heap s2.heap:=by
  refine⟨fun b o e n hb hx=>?_,fun b o e n hb hx=>?_,fun b o e n hx=>?_,fun b o e hx=>?_,fun b xs e=>u.tups b xs (hbs.tups b xs e),fun b o v e=>u.frzs b o v (hbs.frzs b o v e),fun b ps e=>?_⟩
  ·refine u.keep b o (hbs.keep b o e n hb hx) (hbs.free b o e n hx) (fun hm=>?_) hx
   rcases d3.mp hm with q | q
   ·exact i4 (c9 e) q
   ·exact hb q
  ·obtain⟨sl,e1⟩:=hbs.slot b o e n hb hx
   obtain⟨sl2,e2⟩:=u.slot b _ e1 (hbs.free b o e n hx) (d5 _ hb) hx
   exact⟨sl2,e2⟩
  ·obtain⟨o',e1⟩:=hbs.there b o e hx
   exact u.free b o' e1 (hbs.free b o e n hx) hx
  ·obtain⟨o',e1⟩:=hbs.there b o e hx
   exact u.there b o' e1 hx
  ·obtain⟨m1,e1⟩:=hbs.tbls b ps e
   obtain⟨m2,e2⟩:=u.tbls b _ e1
   exact⟨m1++m2,by rw[e2,bu7]⟩
 have frNone:∀ b∈frs outer,H2 b=none:=fun b hb=>by
  have h1:=I.stkFree b (by
   show b∈frs (envOfC qual scope s.heap.objs.size f cd::outer)
   rw[hff]
   exact d5 _ hb)
  obtain⟨_,o,ho,_⟩:=hst.mem (b:=b) (by
   show b∈frs (envOfC qual scope s.heap.objs.size f cd::outer)
   rw[hff]
   exact d5 _ hb)
  exact u.free b o ho h1 (by simp)
 refine wpAny_leaves_onW hfr rfl fl fun h' x1 x2=>?_
 have stay:∀ b o,s2.heap.get? b=some o->(H2 b≠none\/s.heap.get? b≠none)->b∉frs outer->h'.get? b=some o:=fun b o ho hb hno=>by
  obtain⟨o',ho',hB⟩:=old b hb hno
  rw[ho]at ho'
  cases ho'
  exact x1.1 b o hB
 refine⟨x,cls,H2,rfl,hos.trans I.os,hb2,u2.onto (fun b o ho hh hno=>stay b o ho (.inr hh) hno) (fun b o ho hh hm=>?_),hok.stays fun b o ho hh=>stay b o ho (.inl hh) fun hm=>hh (frNone b hm),?_,hxn,⟨B,a0,x1,fun b o ho hb hno=>?_⟩,hE⟩
 ·obtain⟨_,o',ho',hd⟩:=fl.2.2.1.mem (b:=b) (by
   show b∈frs (envOfC qual scope s.heap.objs.size f cd::outer)
   rw[hff]
   exact d5 _ hm)
  rw[ho]at ho'
  cases ho'
  exact x2 b o ho hd
 ·cases q:s.heap.get? x with
  | none=>rfl
  | some o =>
   obtain⟨o',z⟩:=hbs.there x o q (by simp)
   rw[new]at z
   cases z
 ·obtain⟨o',ho',hB⟩:=old b hb hno
  have:=stay b o' ho' hb hno
  rw[ho]at this
  cases this
  exact hB
end
theorem Fun.okX {P:Program} {w:World} {K:W.Frag} {mg:Str->Option Value} {base:Heap} {x qual:Str} {st:Stmt} {f:Addr} {fd:FuncData} {N ps:List Str} {k:Nat} {sp:Sp} (F:Fun K x qual st f fd) (S:t8 N ps (g6 st)) (len:∀ vs H Q E,sp vs H Q E->vs.length=ps.length)
  (hbody : ∀ (cdv : Value) (A : Around) (outer : List Env) (s : Shared) (H : Hp) (vs : List V) (Q : VK) (E : XK), P6 k (A.deeper (envOfC qual (g6 st) s.heap.objs.size f cdv)) -> sp vs H Q E ->
   ∃ t,PSs (Z8 (CXE P w) P w K mg base N qual (g6 st) f cdv A outer s H E) (p8 st) t/\t { nx:=fun _ H'=>Q .non H',rt:=Q } (start N vs) H):t9 P w K mg base (CXE P w) (k+1) f fd ps sp:=by
 obtain⟨oc,od,kV,doc,pm,an,cdv,ct,osl,rfl,lk,hcd⟩:=F.ex
 exact bi9 lk hcd S len fun A outer s H vs Q E hr hsp=>hbody cdv A outer s H vs Q E hr hsp
theorem bd8 {P:Program}{w:World}{K:W.Frag}{mg:Str->Option Value}{base:Heap}{N:List Str}{qual:Str}{scope:Scope}{f:Addr}{cd:Value}{A:Around}{outer:List Env}{s:Shared}{H:Hp}{E:XK} :
  PassesOwn (model P w) (Z8 (CXE P w) P w K mg base N qual scope f cd A outer s H E).A (Z8 (CXE P w) P w K mg base N qual scope f cd A outer s H E).env (Z8 (CXE P w) P w K mg base N qual scope f cd A outer s H E).xe:=PassesOwn.leaving
structure aa2 (K:W.Frag) (C:Addr):Prop where
 q:PySem.W.excIn K C [.type "ValueError",.type "Exception",.type "BaseException",.type "object"] "ValueError.__new__"=true
abbrev bmV:List Value:=[.type "ValueError",.type "Exception",.type "BaseException",.type "object"]
theorem bE9 {K:W.Frag}{h:Heap}{C:Addr}(KI:K.In h)(c:aa2 K C):∃ bm N nm q bs hd sn sub ab col dd k0 k1 k2 k3 k5 mN,h.get? C=some (excClassObj nm q C N bs bm hd sn sub ab col dd k0 k1 k2 k3 k5 "ValueError.__new__") /\
  h.Ns N mN/\mN "__init__"=none/\OwnTail h bmV bm:=by
 have z:=c.q
 revert z
 unfold PySem.W.excIn
 split
 ·rename_i d1 c1 s1 hl
  split
  ·rename_i D bm y0 y1 y2 y3 nn y5 e1 e2
   intro z
   rw[A1,A1,A1,A1,A1]at z
   obtain⟨⟨⟨⟨⟨z1,z2⟩,z3⟩,z4⟩,z5⟩,z6⟩:=z
   have z1':D=C:=beq_iff_eq.mp z1
   have z2':nn="ValueError.__new__":=beq_iff_eq.mp z2
   have z6':=beq_iff_eq.mp z6
   subst z1' z2'
   obtain⟨w1,w2,w3,w4,w5,w6,w7,w8,w9,w10,w11⟩:=c1
   dsimp only at e1 z3 z5 z6'
   subst e1
   have z3':w11=false:=by simpa using z3
   subst z3'
   have e3:s1=#[y0,y1,y2,y3,some (.builtin "ValueError.__new__"),y5]:=by
    obtain⟨l1⟩:=s1
    exact congrArg Array.mk e2
   subst e3
   exact⟨bm,w4,w1,w5,w2,w6,w7,w8,w9,w10,d1,y0,y1,y2,y3,y5,_,KI _ _ hl,.of_isNs (PySem.W.isNs_of_in KI z5),PySem.W.nsMap_none_of_in KI z5 z6',PySem.W.tail_of_in KI z4⟩
  ·intro z;cases z
 ·intro z;cases z
section
variable {P:Program} {w:World} {K:W.Frag} {mg:Str->Option Value} {base:Heap} {N:List Str} {qual:Str} {scope:Scope} {f:Addr} {cd:Value} {A:Around} {outer:List Env} {s:Shared} {H:Hp} {E:XK}
def bz1 (E:XK)(C:Addr):TS:=fun _ _ H=>E (.ref C) none H
theorem ap7 {x txt:Str}{C:Addr}{j:Nat}{np cp ep pos:Pos}(hg:Gl (Z8 (CXE P w) P w K mg base N qual scope f cd A outer s H E) x)(hm:mg x=some (.ref C))(c:aa2 K C)(hd:(x == ("__debug__":Str))=false:=by decide) :
  PS (Z8 (CXE P w) P w K mg base N qual scope f cd A outer s H E) (.Raise (some (.Call (.Name x np) [.Constant (.str txt) j cp] [] ep)) none pos) (bz1 E C):=by
 intro pins s1 σ H1 D I hE
 have hh:(Z8 (CXE P w) P w K mg base N qual scope f cd A outer s H E).A.handled=none:=I.ok.hd rfl
 obtain⟨bm,N',nm,q,bs,hdc,sn,sub,ab,col,dd,k0,k1,k2,k3,k5,mN,hC,hN,hni,T⟩:=bE9 I.kIn c
 refine wpAny_Raise_call_subT (C:=C) (nm:=nm) (q:=q) (N:=N') (bs:=bs) (bm:=bm) (hdct:=hdc) (sn:=sn) (sub:=sub) (ab:=ab) (col:=col) (dd:=dd) (k0:=k0) (k1:=k1) (k2:=k2) (k3:=k3) (k5:=k5)
  PySem.F.excBase_ValueError (mN:=mN) (T.hasType (by decide +kernel)) hh rfl hni (an4 I hg hm ⟨rfl,?_⟩ hd)
 refine Calls.evalArgs_plain ?_
 refine PyProof.Rows.spliced_more (Calls.Constant_str ?_)
 refine PyProof.Rows.spliced_none ⟨rfl,by show 1<=sizeLine;decide,hC,hN,T,fun h' e hx=>?_⟩
 exact bm5 (I.tok _) hx hE
end
section
variable {X:Cx} {pins pins':List (Addr × Obj)} {σ:St} {H:Hp} {s:Shared} {E:St->XK}
end
section
variable {X:Cx} {CX:CXT} {k:Nat} {f:Addr} {fd:FuncData} {ps:List Str} {sp:Sp} {E:St->XK} {x:Str} {p pos:Pos} {e:Expr} {es:List Expr} {t:TA}
end
section
variable {X:Cx} {pins:List (Addr × Obj)} {σ:St} {H:Hp} {s:Shared}
end
end L2
set_option maxRecDepth 100000
namespace L2
open PySem PySem.Spec PyProof.Rows PySem.W
structure bR5 (K:W.Frag) (C:Addr):Prop where
 ga:findIn K (.ref C) "__getattribute__"=some (some (.builtin "BaseException.__getattribute__"))
 na:findIn K (.ref C) "__getattr__"=some none
 cl:findIn K (.ref C) "__class__"=some (some (.builtin "object.__class__"))
 sb:subIn K (.ref C) (.type "BaseException")=some true
 so:subIn K (.ref C) (.type "object")=some true
 cs:(clsIn K C).isSome=true
section
variable {prog:Program} {w:World} {A:Around} {E:Value->Shared->Prop} {h:Heap} {g:Array GenState} {d:Drawn} {t:Nat} {os:OsState} {a C:Addr} {o:Obj} {K:W.Frag}
end
section
variable {X:Cx}
end
end L2
namespace L2
open PySem PySem.Spec PyProof.Rows
theorem Fun.okXC {P:Program} {w:World} {K:W.Frag} {mg:Str->Option Value} {base:Heap} {x qual:Str} {st:Stmt} {f c:Addr} {fd:FuncData} {N ps:List Str} {k:Nat} {sp:Sp} (F:Fun K x qual st f fd) (hc:fd.code=.ref c) (S:t8 N ps (g6 st)) (len:∀ vs H Q E,sp vs H Q E->vs.length=ps.length)
  (hbody : ∀ (A : Around) (outer : List Env) (s : Shared) (H : Hp) (vs : List V) (Q : VK) (E : XK), P6 k (A.deeper (envOfC qual (g6 st) s.heap.objs.size f (.ref c))) -> sp vs H Q E ->
   ∃ t,PSs (Z8 (CXE P w) P w K mg base N qual (g6 st) f (.ref c) A outer s H E) (p8 st) t/\t { nx:=fun _ H'=>Q .non H',rt:=Q } (start N vs) H):t9 P w K mg base (CXE P w) (k+1) f fd ps sp:=by
 obtain⟨oc,od,kV,doc,pm,an,cdv,ct,osl,rfl,lk,hcd⟩:=F.ex
 have hc':cdv=.ref c:=hc
 subst hc'
 exact bi9 lk hcd S len fun A outer s H vs Q E hr hsp=>hbody A outer s H vs Q E hr hsp
theorem aD6 {K:W.Frag}{x:Str}{c P f:Addr}{oc:Value}{od:Option Addr}{fd:FuncData}{sl:Array (Option Value)}(ht:PySem.W.tabIn K x=some (c,P))(hn:i3 K mainGlobals x=some (some (.ref f)))(hl:K.lookup f=some ⟨oc,od,.func fd,sl⟩):fd.code=.ref c:=by
 unfold PySem.W.tabIn at ht
 rw[hn]at ht
 dsimp only at ht
 rw[hl]at ht
 dsimp only at ht
 split at ht
 ·rename_i c₂ hc
  split at ht
  ·split at ht
   ·cases ht;exact hc
   ·cases ht
  ·cases ht
 ·cases ht
theorem aX2 {P:Program}{w:World}{K:W.Frag}{mg mb:Str->Option Value}{CX:CXT}{k:Nat}{fa a:Addr}{fd:FuncData}{x:Str}{sp:Sp}{s₁:Shared}{vs:List Value}{ns:List Int}{ts:List (Addr × Addr)}(hT:PySem.W.TabsAt ts s₁.heap)(hK0:PySem.W.noTabs K=true)
  (hbm:∃ bm ob,mg "__builtins__"=some (.ref bm)/\bm≠builtinsNs/\s₁.heap.get? bm=some ob/\ob.cls=.type "module"/\ob.dict=some builtinsNs/\ob.data=.plain)
  (KX:K.In s₁.heap)(hns:s₁.heap.Ns mainGlobals mg)(hb:s₁.heap.Ns builtinsNs mb)(hbb:∀ x:Str,x≠"__name__"->mb x=bootBuiltins x)(hlim:s₁.heap.NoLimit)(hg:s₁.gens=#[])
  (ha:s₁.heap.get? a=some { cls:=.type "list",data:=.seq vs.toArray })(hi:IntsAre vs ns)(hl:ns.length<=sizeLine)(hr:P6 k callerA)
  (F:∀ base:Heap,K.In base->base.Ns mainGlobals mg->(∀ q∈ts,ag5 base mg q.1 q.2)->t9 P w K mg base CX k fa fd [x] sp)(hbind:∀ (s:Shared) (u:Value),BindsTo s fd ⟨[u],[]⟩ [(x,u)])
  (hsp:∀ H:Hp,(∀ q∈ts,H q.2=some (.tbl #[]))->SqL K H a (ns.map V.int)->sp [.ref a] H (fun v _=>v=.bl true) fun _ _ _=>False)
  (hCX:∀ H e s',CX [] H s₁ (fun _ _ _=>False) e s'->False) :
  codeAny (model P w) callerA (.call (.ref fa) ⟨[.ref a],[]⟩) (fun r s'=>r=.ok (.ret (.bool true))/\OldK s₁.heap s'.heap/\s'.os=s₁.os/\AllBare s'.gens) s₁:=by
 have rv:=aa5 hi
 have lenV:=hi.length
 have tabO:∀ b,b∈ts.map (·.2)->s₁.heap.get? b=some (PySem.W.tabObj #[]):=fun b hb=>by
  obtain⟨q,hq,rfl⟩:=l5.mp hb
  exact(hT q hq).2
 have aT:a∉ts.map (·.2):=fun z=>by
  have e:=tabO a z
  rw[ha]at e
  cases e
 have core:∀ H:Hp,(∀ b,b∈ts.map (·.2)->H b=some (.tbl #[]))->(∀ b,b∉ts.map (·.2)->H b=none\/∃ o xs,H b=some (.frz o (.lst xs)))->SqL K H a (ns.map V.int)->HOk P w H s₁.heap->(∀ b,H b≠none->b=a\/b∈ts.map (·.2))->(H a≠none->K.lookup a=none) ->
   codeAny (model P w) callerA (.call (.ref fa) ⟨[.ref a],[]⟩) (fun r s'=>r=.ok (.ret (.bool true))/\OldK s₁.heap s'.heap/\s'.os=s₁.os/\AllBare s'.gens) s₁:=by
  intro H hHt hO hS hok hA hK
  have base_of:∀ {b:Addr} {o:Obj},s₁.heap.get? b=some o->H b=none->(au6 s₁.heap H).get? b=some o:=fun e n=>bi2 e n
  have free_of:∀ {b:Addr} {o:Obj},s₁.heap.get? b=some o->(∀ xs n,o≠{ cls:=.type "list",data:=.seq xs n })->o≠PySem.W.tabObj #[]->H b=none:=fun {b o} e n1 n2=>by
   cases q:H b with
   | none=>rfl
   | some u =>
    rcases hA b (by rw[q];simp) with e' | e'
    ·subst e'
     rw[ha]at e;cases e
     exact absurd rfl (n1 _ _)
    ·rw[tabO b e']at e;cases e
     exact absurd rfl n2
  have noA:∀ {b:Addr} {o:Obj} {es:Array DictEntry} {ep:Nat},s₁.heap.get? b=some o->o.data=.dict es ep->H b=none:=fun {b o es ep} e d=>free_of e (fun xs n z=>by subst z;cases d) (fun z=>by subst z;cases d)
  have nsK:∀ {b:Addr} {m:Str->Option Value},s₁.heap.Ns b m->(au6 s₁.heap H).Ns b m:=fun {b m} ⟨o,es,ep,e,d,r⟩=>⟨o,es,ep,base_of e (noA e d),d,r⟩
  have hKb:K.In (au6 s₁.heap H):=fun b o e=>base_of (KX b o e) (by
   cases q:H b with
   | none=>rfl
   | some u =>
    rcases hA b (by rw[q];simp) with e' | e'
    ·subst e'
     rw[hK (by rw[q];simp)]at e;cases e
    ·have e1:=KX b o e
     rw[tabO b e']at e1
     cases e1
     have h2:=C0.mp hK0 _ (PySem.W.mem_of_lookupK e)
     exact absurd (show false=true from h2) f6)
  have hM:Mod K mg (au6 s₁.heap H):=⟨hKb,nsK hns,⟨mb,nsK hb,hbb⟩,let ⟨mc,h1,h2⟩:=hlim;⟨mc,nsK h1,h2⟩⟩
  have hLB:∀ q∈ts,ag5 (au6 s₁.heap H) mg q.1 q.2:=fun q hq=>by
   obtain⟨C,eP⟩:=hT q hq
   refine⟨?_,?_,?_⟩
   ·obtain⟨o,vs,file,tf,flags,tg,inF,text,tt,e1,r1,r2⟩:=C
    exact⟨o,vs,file,tf,flags,tg,inF,text,tt,base_of e1 (free_of e1 (fun xs n z=>by subst z;exact absurd (show Value.type "list"=Value.type "code" from r1) (by decide)) (fun z=>by subst z;cases r1)),r1,r2⟩
   ·obtain⟨bm,ob,b1,b2,b3,b4,b5,b6⟩:=hbm
    refine⟨bm,ob,b1,b2,fun z=>?_,fun z=>?_,base_of b3 (free_of b3 (fun xs n z=>by subst z;exact absurd (show Value.type "list"=Value.type "module" from b4) (by decide)) (fun z=>by subst z;cases b4)),b4,b5,b6⟩
    ·obtain⟨o,es,ep,e,d,_⟩:=hns
     rw[z,e]at b3;cases b3;rw[d]at b6;cases b6
    ·rw[z,eP]at b3;cases b3;cases b4
   ·intro z
    obtain⟨o,es,ep,e,d,_⟩:=hns
    rw[z,eP]at e;cases e;cases d
  have e0:bl3 P w K mg (au6 s₁.heap H) callerA [] s₁ H:=⟨rfl,hM,fun b o e=>br2 e,ah4 (aY3 _ _),trivial,fun b hb=>absurd (show b∈([]:List Addr) from hb) (by simp),hok,.of_eq hg⟩
  refine codeAny_mono ((F _ hKb (nsK hns) hLB).run callerA [] s₁ H ⟨[.ref a],[]⟩ [.ref a] [.ref a] _ _ hr e0 (hbind s₁ (.ref a)) (.cons rfl .nil) (hsp H (fun q hq=>hHt _ (List.mem_map_of_mem hq)) hS)) fun r s' h=>?_
  cases r with
  | error e=>exact(hCX H e s' h).elim
  | ok fl =>
   cases fl with
   | next=>exact False.elim h
   | brk=>exact False.elim h
   | cont=>exact False.elim h
   | ret u =>
    obtain⟨v,H',os,bare,un,hok',r',q⟩:=h
    have q':v=.bl true:=q
    subst q'
    obtain rfl:u=Value.bool true:=r'
    have keep:∀ b o,b∉ts.map (·.2)->s₁.heap.get? b=some o->s'.heap.get? b=some o:=fun b o hb e=>by
     rcases hO b hb with z | ⟨ob,xs,z⟩
     ·exact un.keep b o e z (by intro z;exact absurd (show b∈([]:List Addr) from z) (by simp)) (by simp)
     ·have z2:=un.frzs b ob _ z
      obtain⟨e1,_⟩:=hok b _ z
      obtain⟨e2,_⟩:=hok' b _ z2
      rw[e]at e1;cases e1
      exact e2
    have grown:∀ b o,b∈ts.map (·.2)->s₁.heap.get? b=some o->isCodeTable s₁.heap b/\o=PySem.W.tabObj #[]/\∃ ps,s'.heap.get? b=some (PySem.W.tabObj ps):=fun b o hb e=>by
     obtain⟨ps,hp⟩:=un.tbls b #[] (hHt b hb)
     have e2:=tabO b hb
     rw[e]at e2
     obtain⟨q,hq,eq⟩:=l5.mp hb
     have e3:s'.heap.get? b=some (PySem.W.tabObj (#[]++ps)):=hok' b _ hp
     refine⟨?_,Option.some.inj e2,_,e3⟩
     rw[<- eq]
     exact((hT q hq).1.tab (hT q hq).2).isCodeTable
    refine⟨rfl,⟨fun b o e=>?_,fun b o e=>?_⟩,os,bare⟩
    ·by_cases hb:b∈ts.map (·.2)
     ·obtain⟨ht,rfl,ps,hP⟩:=grown b o hb e
      exact .inr (.inl ⟨ht,rfl,#[],ps,rfl,by rw[Array.empty_append];exact hP⟩)
     ·exact .inl (keep b o hb e)
    ·by_cases hb:b∈ts.map (·.2)
     ·obtain⟨_,_,ps,hP⟩:=grown b o hb e
      exact⟨_,hP⟩
     ·exact⟨o,keep b o hb e⟩
 cases hk:K.lookup a with
 | some o =>
  have e:=KX a o hk
  rw[ha]at e
  cases e
  refine core (fun b=>if b∈ts.map (·.2) then some (.tbl #[]) else none) (fun b hb=>if_pos hb) (fun b hb=>.inl (if_neg hb)) (.inr ⟨_,vs.toArray,_,hk,rfl,rfl,rfl,by rw[d7,lenV];exact hl,by simpa using rv⟩) (fun b u z=>?_) (fun b z=>?_) fun z=>absurd (if_neg aT) z
  ·by_cases hb:b∈ts.map (·.2)
   ·have z':=(if_pos hb).symm.trans z
    cases z'
    exact tabO b hb
   ·have z':=(if_neg hb).symm.trans z
    cases z'
  ·by_cases hb:b∈ts.map (·.2)
   ·exact .inr hb
   ·exact absurd (if_neg hb) z
 | none =>
  have e1:∀ b,b∈ts.map (·.2)->(if b∈ts.map (·.2) then some (HO.tbl #[]) else if b=a then some (.frz { cls:=.type "list",data:=.seq vs.toArray } (.lst (ns.map V.int))) else none)=some (HO.tbl #[]):=fun b hb=>if_pos hb
  have e2:∀ b,b∉ts.map (·.2)->(if b∈ts.map (·.2) then some (HO.tbl #[]) else if b=a then some (.frz { cls:=.type "list",data:=.seq vs.toArray } (.lst (ns.map V.int))) else none)=(if b=a then some (.frz { cls:=.type "list",data:=.seq vs.toArray } (.lst (ns.map V.int))) else none):=fun b hb=>if_neg hb
  refine core (fun b=>if b∈ts.map (·.2) then some (HO.tbl #[]) else if b=a then some (.frz { cls:=.type "list",data:=.seq vs.toArray } (.lst (ns.map V.int))) else none) e1 (fun b hb=>?_) (.inl (.inr ⟨{ cls:=.type "list",data:=.seq vs.toArray },(e2 a aT).trans (if_pos rfl)⟩)) (fun b u z=>?_) (fun b z=>?_) fun _=>hk
  ·rw[e2 b hb]
   by_cases hba:b=a
   ·exact .inr ⟨_,_,if_pos hba⟩
   ·exact .inl (if_neg hba)
  ·by_cases hb:b∈ts.map (·.2)
   ·have z':=(e1 b hb).symm.trans z
    cases z'
    exact tabO b hb
   ·have z1:=(e2 b hb).symm.trans z
    by_cases hba:b=a
    ·have z':=(if_pos hba).symm.trans z1
     cases z'
     subst hba
     exact⟨ha,by rw[b7];exact hl,vs,_,rv,ha⟩
    ·have z':=(if_neg hba).symm.trans z1
     cases z'
  ·by_cases hb:b∈ts.map (·.2)
   ·exact .inr hb
   ·by_cases hba:b=a
    ·exact .inl hba
    ·exact absurd ((e2 b hb).trans (if_neg hba)) z
theorem walk_ofT {l:PySem.W.OpenLaw} {n k:Nat} {q:Program} {loose:List Str} {XP:(Str->Option Value)->Heap->Prop} {YP:World->Heap->Prop} {d:DefRec} {K:Params->PySem.W.Frag} {CX:World->CXT} {sp:World->List (Addr × Addr)->Sp} {x:Str} {ts:World->List (Addr × Addr)}
  (hn:l.most=some n) (hn2:n<=sizeLine) (hdf:d.params.defaults=[]) (hr:P6 k callerA)
  (hY:∀ (w:World) (h:Heap),YP w h->(K w.params).In h) (hK0:∀ w:World,PySem.W.noTabs (K w.params)=true)
  (hts:∀ (w:World) (loose:List Str) (mean:ExcName->Option Value) (mg mb:Str->Option Value) (h:Heap),Top q loose mean mg mb h->(K w.params).In h->PySem.W.TabsAt (ts w) h)
  (F : ∀ (w : World) (mg : Str -> Option Value) (fa : Addr) (h : Heap), (K w.params).In h -> h.Ns mainGlobals mg -> mg d.name = some (.ref fa) ->
   ∃ fd:FuncData,(∀ (s:Shared) (u:Value),BindsTo s fd ⟨[u],[]⟩ [(x,u)]) /\
    ∀ base:Heap,(K w.params).In base->base.Ns mainGlobals mg->(∀ q∈ts w,ag5 base mg q.1 q.2)->t9 l.prog w (K w.params) mg base (CX w) k fa fd [x] (sp w (ts w)))
  (hsp:∀ (w:World) (H:Hp) (a:Addr) (ns:List Int),ns.length<=n->(∀ q∈ts w,H q.2=some (.tbl #[]))->SqL (K w.params) H a (ns.map V.int)->sp w (ts w) [.ref a] H (fun v _=>v=.bl true) fun _ _ _=>False)
  (hCX:∀ (w:World) (H:Hp) (s:Shared) (e:Value) (s':Shared),CX w [] H s (fun _ _ _=>False) e s'->False) :
  PySem.W.WalkO q loose XP YP l.row.toRowW d [] (fun f vs=>PySem.call f vs):=by
 refine Att.attach_call hn hdf fun w s₀ s₁ mg mb fa o pm cd doc a vs ns G Y ho hd hcd hmg hobj hints hlen hg=>?_
 have KX:=hY w _ Y
 obtain⟨fd,hb,hF⟩:=F w mg fa _ KX G.T.g hmg
 exact aX2 (hts w _ _ _ _ _ G.T KX) (hK0 w) G.T.bmain KX G.T.g G.T.b G.T.builtins G.T.nolimit hg hobj hints (p5 hlen hn2) hr hF hb (fun H hO hS=>hsp w H a ns hlen hO hS) fun H e s'=>hCX w H s₁ e s'
section
variable {X:Cx}
end
def aW4 (ns:List Int)(z:Int):List Int:=[-(ns.getD z.toNat 0),z]
theorem bp9 (ns:List Int)(z:Int):∃ i k,aW4 ns z=i::k:=⟨_,_,rfl⟩
def ole (ns:List Int)(x y:Int):Prop:=Tim.D0 (aW4 ns y) (aW4 ns x)=false
theorem af1 {ns:List Int}{x y:Int}:ole ns x y↔(ns.getD y.toNat 0<ns.getD x.toNat 0\/(ns.getD x.toNat 0=ns.getD y.toNat 0/\x<=y)):=by
 unfold ole aW4 Tim.D0
 by_cases h:-(ns.getD y.toNat 0) = -(ns.getD x.toNat 0)
 ·rw[if_pos h]
  unfold Tim.D0
  by_cases h2:y=x
  ·rw[if_pos h2]
   simp only[Tim.D0,true_iff]
   exact .inr ⟨by omega,by omega⟩
  ·rw[if_neg h2,decide_eq_false_iff_not]
   constructor
   ·intro h3;exact .inr ⟨by omega,by omega⟩
   ·intro h3 h4;omega
 ·rw[if_neg h,decide_eq_false_iff_not]
  constructor
  ·intro h3;exact .inl (by omega)
  ·intro h3 h4;omega
theorem aG0 {ns:List Int}{x y:Int}(h1:ole ns x y)(h2:ole ns y x):x=y:=by
 rw[af1]at h1 h2
 omega
theorem aq5 {ns zs zs' l:List Int}(p1:zs.Perm l)(p2:zs'.Perm l)(s1:zs.Pairwise (ole ns))(s2:zs'.Pairwise (ole ns)):zs=zs':=
 (p1.trans p2.symm).eq_of_pairwise (fun x y _ _ h1 h2=>aG0 h1 h2) s1 s2
end L2
namespace Web
open PySem L2
def J9 (ks:List (List Int))(p:Nat):Nat:=ks.countP fun k=>decide ((p:Int)∈k)
def tal (n:Nat)(ks:List (List Int)):List Int:=(k8 n).map fun p=>(J9 ks p:Int)
theorem O3 (n:Nat)(ks:List (List Int)):(tal n ks).length=n:=by simp[tal]
theorem Q2 {n:Nat}{ks:List (List Int)}{p:Nat}(h:p<n):(tal n ks)[p]?=some (J9 ks p:Int):=by
 unfold tal
 rw[l4,C4 h]
 rfl
theorem aZ2 {ks ls:List (List Int)}(h:ks.Perm ls)(p:Nat):J9 ks p=J9 ls p:=h.countP_eq _
theorem ba6 {ks ls:List (List Int)}(h:ks.Perm ls)(n:Nat):tal n ks=tal n ls:=by
 unfold tal
 exact J2 fun p _=>by rw[aZ2 h]
theorem as5 (ks ls:List (List Int))(p:Nat):J9 (ks++ls) p=J9 ks p+J9 ls p:=List.countP_append
theorem bk0 (i j p:Nat):J9 [[(i:Int),(j:Int)]] p=if p=i\/p=j then 1 else 0:=by
 unfold J9
 rw[List.countP_singleton]
 by_cases h:p=i\/p=j
 ·rw[if_pos h,if_pos]
  simp only[decide_eq_true_eq,d3,B5,or_false]
  omega
 ·rw[if_neg h,if_neg]
  simp only[decide_eq_true_eq,d3,B5,or_false]
  omega
theorem bn2 (n:Nat):tal n []=v9 n 0:=by
 unfold tal J9
 rw[List.eq_replicate_iff]
 simp
theorem aP6 {n i j:Nat}(hi:i<n)(hj:j<n)(h:i≠j)(ks:List (List Int))(z1 z2:Int)(e1:z1=J9 ks i)(e2:z2=J9 ks j) :
  ((tal n ks).set i (z1+1)).set j (z2+1)=tal n (ks++[[(i:Int),(j:Int)]]):=by
 subst e1 e2
 refine L9 fun p=>?_
 by_cases hp:p<n
 ·rw[Q2 hp,as5,bk0,bG6,bG6,V1,O3,Q2 hp]
  by_cases q1:j=p
  ·subst q1
   rw[if_pos rfl,if_pos hj,if_pos (.inr rfl)]
   simp
  ·rw[if_neg q1]
   by_cases q2:i=p
   ·subst q2
    rw[if_pos rfl,if_pos hi,if_pos (.inl rfl)]
    simp
   ·rw[if_neg q2,if_neg (by omega)]
    simp
 ·rw[j6 (by simp[O3];omega),j6 (by rw[O3];omega)]
end Web
namespace HT
open PySem PyProof.Rows
section
variable {prog:Program} {w:World} {A:Around} {E:Value->Shared->Prop} {s:Shared}
end
end HT
namespace L2
open PySem PySem.Spec PyProof.Rows
section
variable {X:Cx} {e st:Expr} {te ts:TE} {pos p2:Pos}
def bP3 (t u:TS):TS:=fun D σ H=>∃ Mid:St->Hp->Prop,t { D with nx:=Mid } σ H/\∀ σ' H',Mid σ' H'->u D σ' H'
theorem aR2 {stm:Stmt}{rest:List Stmt}{t u:TS}(h1:PS X stm t)(h2:PSs X rest u):PSs X (stm::rest) (bP3 t u):=by
 intro pins s σ H D I ⟨Mid,h,k⟩
 refine wpAny_execs_cons (thn (h1 pins s σ H { D with nx:=Mid } I h) fun f s1 q=>?_)
 cases f with
 | next =>
  obtain⟨σ',H',I',q⟩:=q
  exact h2 pins s1 σ' H' D I' (k _ _ q)
 | ret v=>exact q
 | brk=>exact q
 | cont=>exact q
end
end L2
set_option Elab.async false
set_option maxRecDepth 100000
namespace L2
open PySem PySem.Spec PyProof.Rows
section
variable (P:Program) (w:World)
end
section
variable {P:Program} {w:World} {H H':Hp} {h h':Heap} {a:Addr} {o:HO}
end
section
variable {P:Program} {w:World} {H:Hp} {h h':Heap} {x e:Addr} {o':HO}
end
section
variable {fs fs' ex ex':List Addr} {H H1 H2:Hp} {h h1 h2 h':Heap} {a x e:Addr} {o:HO}
end
section
variable {X:Cx} {pins:List (Addr × Obj)} {σ:List (Option V)} {H H':Hp} {s:Shared} {h':Heap}
end
section
variable {X:Cx}
variable {a b:Expr} {ta tb:TE} {pos:Pos}
variable {tA tB':TT} {rest:List Expr}
end
section
variable {X:Cx} {pins:List (Addr × Obj)} {σ:St} {H:Hp} {s:Shared} {a:Addr} {xs ys:List V}
end
section
variable {X:Cx} {pins:List (Addr × Obj)} {σ:St} {H:Hp} {s:Shared} {E:Value->Shared->Prop}
end
section
variable {X:Cx} {st:Stmt} {rest:List Stmt} {t u:TS} {e:Expr} {te:TE} {pos:Pos}
end
section
variable {X:Cx} {pos:Pos}
end
section
variable {X:Cx} {pos:Pos}
end
section
variable {X:Cx} {tg:Expr}
end
section
variable {X:Cx} {a b c:Expr} {ta tb tc:TE} {pos:Pos}
end
section
variable {X:Cx} {a b c:Expr} {ta tb tc:TE} {pos:Pos}
end
section
variable {prog:Program} {w:World} {A:Around} {E:Value->Shared->Prop} {s:Shared} {K:W.Frag} {x dx C f:Addr} {mA:Str->Option Value} {name:Str} {v:Value}
end
section
variable {P:Program} {w:World} {H H':Hp} {h h':Heap} {a C dx:Addr} {fs fs':List (Str × V)}
end
section
variable {X:Cx} {pins:List (Addr × Obj)} {σ:St} {H:Hp} {s:Shared} {a C dx:Addr} {fs:List (Str × V)} {f:Str} {v:V} {A:Around} {E:Value->Shared->Prop}
end
section
variable {X:Cx} {o e value:Expr} {f:Str} {pos pos' tpos:Pos} {ta tv:TE}
end
section
variable {X:Cx} {pins:List (Addr × Obj)} {σ:St} {H:Hp} {s:Shared} {A:Around} {E:Value->Shared->Prop} {Q:Value->Shared->Prop} {c:Value} {b:Bool}
end
section
variable {X:Cx} {e:Expr} {es:List Expr} {te:TE} {t:TA} {pos:Pos}
end
section
variable {X:Cx} {pins:List (Addr × Obj)} {σ:St} {H:Hp} {s s':Shared}
end
section
variable {X:Cx} {CX:CXT} {k:Nat} {f C:Addr} {fd:FuncData} {ps:List Str} {sp:Sp} {dvs:List V} {ds:List Value} {E:XK} {x m:Str} {p pos apos:Pos} {e o:Expr} {es:List Expr} {ta:TE} {t:TA}
end
section
variable {X:Cx} {CX:CXT} {k:Nat} {f C:Addr} {fd:FuncData} {ps ks:List Str} {sp:Sp} {E:XK} {x m:Str} {p pos apos kpos:Pos} {e o:Expr} {es:List Expr} {kws:List Keyword} {te ta:TE} {t tk:TA} {nm:Option Str}
variable {g:List Value->List Value->List Value} {gV:List V->List V->List V}
end
section
variable {X:Cx} {x:Str} {p pos:Pos} {e:Expr} {es:List Expr} {t:TA} {id T:String} {r:List V->Hp->VK->Prop}
end
section
variable {κ:Type} [DecidableEq κ]
def G6 (kvs:List (κ × V))(k:κ):Option V:=(kvs.find? fun kv=>decide (kv.1=k)).map (·.2)
def putK (kvs:List (κ × V))(k:κ)(v:V):List (κ × V):=
 if (kvs.any fun kv=>decide (kv.1=k))=true then kvs.map (fun kv=>if kv.1=k then (kv.1,v) else kv) else kvs++[(k,v)]
theorem J5 {p:κ × V}{r:List (κ × V)}{k:κ}(e:p.1=k):G6 (p::r) k=some p.2:=by simp[G6,O9,e]
theorem J6 {p:κ × V}{r:List (κ × V)}{k:κ}(e:¬ p.1=k):G6 (p::r) k=G6 r k:=by simp[G6,O9,e]
theorem Y1 (k:κ):∀ kvs:List (κ × V),(kvs.any fun kv=>decide (kv.1=k))=(G6 kvs k).isSome
 | []=>rfl
 | p::r=>by
  rw[U0]
  by_cases e:p.1=k
  ·simp only[J5 e,decide_eq_true e,Bool.true_or,Option.isSome_some]
  ·rw[J6 e,decide_eq_false e,Bool.false_or];exact Y1 k r
theorem aD3 (k j:κ)(y:V):∀ kvs:List (κ × V),G6 (kvs.map fun kv=>if kv.1=k then (kv.1,y) else kv) j=(G6 kvs j).map fun x=>if j=k then y else x
 | []=>rfl
 | p::r=>by
  have ih:=aD3 k j y r
  rw[k6]
  by_cases h:p.1=k
  ·rw[if_pos h]
   by_cases e:p.1=j
   ·rw[J5 (p:=(p.1,y)) e,J5 e,ad6,if_pos (e.symm.trans h)]
   ·rw[J6 (p:=(p.1,y)) e,J6 e,ih]
  ·rw[if_neg h]
   by_cases e:p.1=j
   ·rw[J5 (p:=p) e,J5 e,ad6,if_neg (fun z=>h (e.trans z))]
   ·rw[J6 (p:=p) e,J6 e,ih]
theorem av3 (k j:κ)(y:V):∀ kvs:List (κ × V),G6 kvs k=none->G6 (kvs++[(k,y)]) j=if j=k then some y else G6 kvs j
 | [],_=>by
  by_cases e:k=j
  ·rw[if_pos e.symm];exact J5 (p:=(k,y)) e
  ·rw[if_neg (fun z=>e z.symm)];exact J6 (p:=(k,y)) e
 | p::r,hn=>by
  rw[bH5]
  have hk:¬ p.1=k:=fun z=>by rw[J5 z]at hn;cases hn
  rw[J6 hk]at hn
  have ih:=av3 k j y r hn
  by_cases e:p.1=j
  ·rw[J5 e,J5 e,if_neg (fun z=>hk (e.trans z))]
  ·rw[J6 e,J6 e,ih]
theorem Y0 (kvs:List (κ × V))(k j:κ)(y:V):G6 (putK kvs k y) j=if j=k then some y else G6 kvs j:=by
 unfold putK
 by_cases a:(kvs.any fun kv=>decide (kv.1=k))=true
 ·rw[if_pos a,aD3]
  rw[Y1]at a
  by_cases e:j=k
  ·obtain⟨x,hx⟩:=k9.mp a
   rw[if_pos e,e,hx,ad6,if_pos rfl]
  ·rw[if_neg e]
   cases G6 kvs j with
   | none=>rfl
   | some x=>rw[ad6,if_neg e]
 ·rw[if_neg a]
  refine av3 k j y kvs ?_
  rw[Y1]at a
  cases q:G6 kvs k with
  | none=>rfl
  | some x=>rw[q]at a;exact(a rfl).elim
theorem Z7 (kvs:List (κ × V))(k:κ)(v:V):(putK kvs k v).length<=kvs.length+1:=by
 unfold putK
 split
 ·rw[b7];omega
 ·rw[p9,m9,aK2];omega
theorem at3.isSome_eq {o:Option V}{u:Option Value}(r:at3 o u):o.isSome=u.isSome:=by
 cases o with
 | none=>cases u with
  | none=>rfl
  | some _=>exact(show False from r).elim
 | some _=>cases u with
  | none=>exact(show False from r).elim
  | some _=>rfl
theorem KV.val {kvs:List (κ × V)}{vs:List (κ × Value)}(r:KV kvs vs)(k:κ):at3 (G6 kvs k) (valueAt vs k):=by
 unfold KV at r
 induction r with
 | nil=>exact True.intro
 | @cons p q ps qs h t ih =>
  obtain⟨h1,h2⟩:=h
  by_cases e:p.1=k
  ·have e':q.1=k:=h1.symm.trans e
   have b:valueAt (q::qs) k=some q.2:=by simp[valueAt,O9,e']
   rw[J5 e,b];exact h2
  ·have e':¬ q.1=k:=fun z=>e (h1.trans z)
   have b:valueAt (q::qs) k=valueAt qs k:=by simp[valueAt,O9,e']
   rw[J6 e,b];exact ih
theorem KV.any {kvs:List (κ × V)}{vs:List (κ × Value)}(r:KV kvs vs)(k:κ):(kvs.any fun kv=>decide (kv.1=k))=vs.any fun kv=>decide (kv.1=k):=by
 unfold KV at r
 induction r with
 | nil=>rfl
 | cons h t ih=>rw[U0,U0,ih,h.1]
theorem KV.repl {kvs:List (κ × V)}{vs:List (κ × Value)}(r:KV kvs vs)(k:κ){y:V}{u:Value}(ry:RelV y u) :
  KV (kvs.map fun kv=>if kv.1=k then (kv.1,y) else kv) (vs.map fun kv=>if kv.1=k then (kv.1,u) else kv):=by
 unfold KV at r ⊢
 induction r with
 | nil=>exact .nil
 | @cons p q ps qs h t ih =>
  rw[k6,k6]
  refine .cons ?_ ih
  obtain⟨h1,h2⟩:=h
  by_cases e:p.1=k
  ·rw[if_pos e,if_pos (h1.symm.trans e)];exact⟨h1,ry⟩
  ·rw[if_neg e,if_neg (fun z=>e (h1.trans z))];exact⟨h1,h2⟩
theorem KV.put {kvs:List (κ × V)}{vs:List (κ × Value)}(r:KV kvs vs)(k:κ){y:V}{u:Value}(ry:RelV y u):KV (putK kvs k y) (stored vs k u):=by
 unfold putK stored
 rw[r.any k]
 by_cases e:(vs.any fun kv=>decide (kv.1=k))=true
 ·rw[if_pos e,if_pos e];exact r.repl k ry
 ·rw[if_neg e,if_neg e];exact Paired.snoc r ⟨rfl,ry⟩
theorem KV.length {kvs:List (κ × V)}{vs:List (κ × Value)}(r:KV kvs vs):kvs.length=vs.length:=Paired.length r
end
theorem aS2 {P:Program}{w:World}{k:Key}{u:Value}(r:RelV (kV k) u):(G9 P w).is k u=true:=by
 cases k with
 | inl i=>obtain⟨t,e⟩:=(show ∃ t,u=Value.int i t from r);subst e;exact aH1 P w i t
 | inr x=>obtain⟨t,e⟩:=(show ∃ t,u=Value.str x t from r);subst e;exact aH0 P w x t
theorem ax1 {P:Program}{w:World}:∀ {ks:List Key} {us:List Value},y9 (ks.map kV) us->ItemsAre (G9 P w) ks us
 | [],_,r=>by rw[bl5]at r;cases r;exact .nil
 | k::ks,_,r=>by
  rw[k6]at r
  cases r with
  | cons h t=>exact .cons (aS2 h) (ax1 t)
abbrev KT (H:Hp):List (List Key × V)->List (List Key × Addr × Value)->Prop:=Paired fun p q=>p.1=q.1/\H q.2.1=some (.tup (p.1.map kV))/\RelV p.2 q.2.2
theorem KT.val {H:Hp}{kvs:List (List Key × V)}{xs:List (List Key × Addr × Value)}(r:KT H kvs xs)(k:List Key):at3 (G6 kvs k) ((atKey xs k).map (·.2)):=by
 induction r with
 | nil=>exact True.intro
 | @cons p q ps qs h t ih =>
  obtain⟨h1,_,h2⟩:=h
  by_cases e:p.1=k
  ·have e':q.1=k:=h1.symm.trans e
   have b:atKey (q::qs) k=some q.2:=by simp[atKey,O9,e']
   rw[J5 e,b];exact h2
  ·have e':¬ q.1=k:=fun z=>e (h1.trans z)
   have b:atKey (q::qs) k=atKey qs k:=by simp[atKey,O9,e']
   rw[J6 e,b];exact ih
theorem KT.repl {H:Hp}{kvs:List (List Key × V)}{xs:List (List Key × Addr × Value)}(r:KT H kvs xs)(k:List Key){y:V}{u:Value}(ry:RelV y u) :
  KT H (kvs.map fun kv=>if kv.1=k then (kv.1,y) else kv) (xs.map (putAt k u)):=by
 induction r with
 | nil=>exact .nil
 | @cons p q ps qs h t ih =>
  rw[k6,k6]
  refine .cons ?_ ih
  obtain⟨h1,h2,h3⟩:=h
  unfold putAt
  by_cases e:p.1=k
  ·rw[if_pos e,if_pos (h1.symm.trans e)];exact⟨h1,h2,ry⟩
  ·rw[if_neg e,if_neg (fun z=>e (h1.trans z))];exact⟨h1,h2,h3⟩
theorem KT.put {H:Hp}{kvs:List (List Key × V)}{xs:List (List Key × Addr × Value)}(r:KT H kvs xs)(k:List Key){b:Addr}{y:V}{u:Value}(hb:H b=some (.tup (k.map kV)))(ry:RelV y u) :
  KT H (putK kvs k y) (storedH xs k b u):=by
 have e:(kvs.any fun kv=>decide (kv.1=k))=(atKey xs k).isSome:=by
  rw[Y1,(r.val k).isSome_eq,bu9]
 unfold putK storedH
 rw[e]
 by_cases q:(atKey xs k).isSome=true
 ·rw[if_pos q,if_pos q];exact r.repl k ry
 ·rw[if_neg q,if_neg q];exact Paired.snoc r ⟨rfl,hb,ry⟩
theorem KT.keeps {H H':Hp}{kvs:List (List Key × V)}{xs:List (List Key × Addr × Value)}(r:KT H kvs xs)(ht:∀ b ys,H b=some (.tup ys)->H' b=some (.tup ys)):KT H' kvs xs:=
 Paired.mapP r fun _ _ z=>⟨z.1,ht _ _ z.2.1,z.2.2⟩
section
variable {P:Program} {w:World} {H:Hp} {h:Heap} {a:Addr}
theorem bw5 {u:HO}(ok:HOk P w H h)(e:Rd H a u):B9 P w H h a u:=e.ok ok
theorem aT8 {kvs:List (Key × V)}(ok:HOk P w H h)(e:Rd H a (.dK kvs)):kvs.length<=sizeLine/\(a == sysModules)=false/\∃ vs,KV kvs vs/\h.DictOf (G9 P w) a vs:=
 show B9 P w H h a (.dK kvs) from bw5 ok e
theorem bN6 {kvs:List (Key × V)}(ok:HOk P w H h)(e:H a=some (.dK kvs)):kvs.length<=sizeLine/\(a == sysModules)=false/\∃ vs,KV kvs vs/\h.DictOf (G9 P w) a vs:=aT8 ok (.inl e)
theorem aA7 {ks:List Key}(ok:HOk P w H h)(e:H a=some (.tup (ks.map kV))):(tupleKind (G9 P w)).is h ks a:=by
 obtain⟨_,its,r,o,h1,h2,n,h3⟩:=(show B9 P w H h a (.tup (ks.map kV)) from ok a _ e)
 exact⟨o,its.toArray,n,h1,h2,h3,by simpa using ax1 r⟩
theorem aT7 {kvs:List (List Key × V)}(ok:HOk P w H h)(e:Rd H a (.dT kvs)):kvs.length<=sizeLine/\(a == sysModules)=false /\
  ∃ xs,KT H kvs xs/\h.DictOfH (tupleKind (G9 P w)) a xs:=by
 obtain⟨z,y,xs,r,o,es,ep,h1,h2,h3,h4,h5⟩:=(show B9 P w H h a (.dT kvs) from bw5 ok e)
 refine⟨z,y,xs,r,o,es,ep,h1,h2,h3,h4,fun x hx=>?_,h5⟩
 have all:∀ {l:List (List Key × V)} {m:List (List Key × Addr × Value)},KT H l m->∀ x∈m,(tupleKind (G9 P w)).is h x.1 x.2.1:=by
  intro l m q
  induction q with
  | nil=>intro x hx;exact nomatch hx
  | @cons p q ps qs hq t ih =>
   intro x hx
   rcases d3.mp hx with e | hx
   ·subst e
    exact aA7 ok (by rw[<- hq.1];exact hq.2.1)
   ·exact ih x hx
 exact all r x hx
theorem bN5 {kvs:List (List Key × V)}(ok:HOk P w H h)(e:H a=some (.dT kvs)):kvs.length<=sizeLine/\(a == sysModules)=false /\
  ∃ xs,KT H kvs xs/\h.DictOfH (tupleKind (G9 P w)) a xs:=aT7 ok (.inl e)
end
def aC6 (H:Hp)(a:Addr)(y:V)(r:Option V):Prop:=
 (∃ kvs k,Rd H a (.dK kvs)/\y=kV k/\r=G6 kvs k)\/∃ kvs k b,Rd H a (.dT kvs)/\y=.ref b/\H b=some (.tup (k.map kV))/\r=G6 kvs k
def bl4 (H:Hp)(a:Addr)(y v:V)(H':Hp):Prop:=
 (∃ kvs k,H a=some (.dK kvs)/\y=kV k/\kvs.length<sizeLine/\H'=upd H a (.dK (putK kvs k v))) \/
 ∃ kvs k b,H a=some (.dT kvs)/\y=.ref b/\H b=some (.tup (k.map kV))/\kvs.length<sizeLine/\H'=upd H a (.dT (putK kvs k v))
theorem aC6.t {H:Hp}{a b:Addr}{kvs:List (List Key × V)}{k:List Key}(e:H a=some (.dT kvs))(eb:H b=some (.tup (k.map kV))):aC6 H a (.ref b) (G6 kvs k):=.inr ⟨kvs,k,b,.inl e,rfl,eb,rfl⟩
theorem bl4.t {H:Hp}{a b:Addr}{kvs:List (List Key × V)}{k:List Key}{v:V}(e:H a=some (.dT kvs))(eb:H b=some (.tup (k.map kV)))(hl:kvs.length<sizeLine) :
  bl4 H a (.ref b) v (upd H a (.dT (putK kvs k v))):=.inr ⟨kvs,k,b,e,rfl,eb,hl,rfl⟩
section
variable {X:Cx} {pins:List (Addr × Obj)} {σ:St} {H:Hp} {s:Shared} {a:Addr} {y v:V} {u r:Value} {o:Option V} {A:Around} {E:Value->Shared->Prop}
theorem Inv.big (I:Inv X pins σ H s):sysModules<s.heap.objs.size:=by
 have h:mainGlobals<s.heap.objs.size:=(I.mod.glob.keeps I.bk).lt
 exact bl6 (by decide) h
theorem aY7 {Q:Value->Shared->Prop}(hu:A.units+1<cLine)(I:Inv X pins σ H s)(g:aC6 H a y (some v))(ry:RelV y u)(h:∀ w' s',Inv X pins σ H s'->RelV v w'->Q w' s') :
  wpAny (model X.prog X.w) A (getItem (.ref a) u) Q E s:=by
 rcases g with⟨kvs,k,e,ey,l⟩ | ⟨kvs,k,b,e,ey,eb,l⟩
 ·subst ey
  obtain⟨z,hd,vs,rel,dd⟩:=aT8 I.hok e
  obtain⟨w',hw,rw'⟩:=at3.some_of (v:=v) (o:=valueAt vs k) (by rw[l];exact rel.val k)
  exact wpAny_getItem_of (aS2 ry) dd.mapOf hw (h w' _ (I.tok _) rw')
 ·subst ey
  cases (show u=Value.ref b from ry)
  obtain⟨z,hd,xs,rel,dd⟩:=aT7 I.hok e
  obtain⟨w',hw,rw'⟩:=at3.some_of (v:=v) (o:=(atKey xs k).map (·.2)) (by rw[l];exact rel.val k)
  obtain⟨p,hp,hp2⟩:=Option.map_eq_some_iff.mp hw
  refine wpAny_getItem_heap (tupleKind_room_in1 hu) (aA7 I.hok eb) dd hp ?_
  rw[hp2]
  exact h w' _ (I.tok _) rw'
theorem bt8 {Q:Value->Shared->Prop}(hu:A.units+1<cLine)(I:Inv X pins σ H s)(g:aC6 H a y o)(ry:RelV y u)(h:∀ s',Inv X pins σ H s'->Q (.bool (!o.isSome)) s') :
  wpAny (model X.prog X.w) A (compareOp .NotIn u (.ref a)) Q E s:=by
 rcases g with⟨kvs,k,e,ey,l⟩ | ⟨kvs,k,b,e,ey,eb,l⟩
 ·subst ey
  obtain⟨z,hd,vs,rel,dd⟩:=aT8 I.hok e
  refine wpAny_notIn_of (aS2 ry) hd dd.mapOf ?_
  rw[<- (rel.val k).isSome_eq,<- l]
  exact h _ (I.tok _)
 ·subst ey
  cases (show u=Value.ref b from ry)
  obtain⟨z,hd,xs,rel,dd⟩:=aT7 I.hok e
  refine wpAny_notIn_heap (tupleKind_room_in1 hu) (aA7 I.hok eb) hd dd ?_
  have q:=(rel.val k).isSome_eq
  rw[bu9]at q
  rw[<- q,<- l]
  exact h _ (I.tok _)
theorem aB4 {h':Heap}{t':Nat}{ob:HO}(I:Inv X pins σ H s)(mu:Mut (H a))(hs:Heap.SameBut a s.heap h')(he:∃ q,h'.get? a=some q)(new:B9 X.prog X.w (upd H a ob) h' a ob) :
  Inv X pins σ (upd H a ob) { s with heap:=h',toks:=t' }:=
 I.write (x:=a) (e:=a) mu (.inl rfl) (fun b q hb z=>(hs.2 b hb).trans z) he new
theorem bF2 {P:Program}{w:World}{H':Hp}{h':Heap}{kvs:List (Key × V)}{vs:List (Key × Value)}(z:kvs.length<=sizeLine)(hd:(a == sysModules)=false)(rel:KV kvs vs)(dd:h'.DictOf (G9 P w) a vs) :
  B9 P w H' h' a (.dK kvs):=⟨z,hd,vs,rel,dd⟩
theorem aY6 {H':Hp}{Q:Unit->Shared->Prop}(hu:A.units+1<cLine)(I:Inv X pins σ H s)(g:bl4 H a y v H')(ry:RelV y u)(rv:RelV v r)(h:∀ s',Inv X pins σ H' s'->Q () s') :
  wpAny (model X.prog X.w) A (setItem (.ref a) u r) Q E s:=by
 rcases g with⟨kvs,k,e,ey,l,eH⟩ | ⟨kvs,k,b,e,ey,eb,l,eH⟩
 ·subst ey eH
  obtain⟨z,hd,vs,rel,dd⟩:=bN6 I.hok e
  have hz:vs.length<=sizeLine:=by rw[<- rel.length];exact z
  have hl:(putK kvs k v).length<=sizeLine:=by have:=Z7 kvs k v;omega
  refine wpAny_setItem_pairs (hsz:=hz) (aS2 ry) dd fun h' dd' hs=>h _ ?_
  have he:∃ q,h'.get? a=some q:=let ⟨q,_,_,hq,_⟩:=dd';⟨q,hq⟩
  exact aB4 I (by rw[e];exact True.intro) hs he (bF2 hl hd (rel.put k rv) dd')
 ·subst ey eH
  cases (show u=Value.ref b from ry)
  obtain⟨z,hd,xs,rel,dd⟩:=bN5 I.hok e
  have hz:xs.length<=sizeLine:=by rw[<- Paired.length rel];exact z
  have hl:(putK kvs k v).length<=sizeLine:=by have:=Z7 kvs k v;omega
  refine wpAny_setItem_heap (hsz:=hz) (tupleKind_room_in1 hu) (aA7 I.hok eb) dd fun h' dd' hs=>h _ ?_
  obtain⟨q,es,ep,hq,h2,h3,h4,_,h5⟩:=dd'
  refine aB4 I (by rw[e];exact True.intro) hs ⟨q,hq⟩ ⟨hl,hd,_,(rel.put k eb rv).keeps fun c ys ec=>?_,q,es,ep,hq,h2,h3,h4,h5⟩
  rw[m5 (bf9 ec e (fun z=>nomatch z))]
  exact ec
end
section
variable {X:Cx} {pins:List (Addr × Obj)} {σ:St} {H:Hp} {s:Shared} {a:Addr} {kvs:List (Key × V)} {k:Key} {u:Value} {A:Around} {E:Value->Shared->Prop}
end
def bO2 (i:Expr):Prop:=∀ ov iv,subscripted i false ov iv=operate [ov,iv] (getItem ov iv)
theorem bn6 {prog:Program}{w:World}{A:Around}{E:Value->Shared->Prop}{s:Shared}{env:Env}{value slice:Expr}{pos:Pos}{T id:String}{Q:Value->Shared->Prop}
  (hl:typeLookup (.type T) "__getitem__"=pure (some (.builtin id)))(hs:bO2 slice)
  (h:wpAny (model prog w) A (eval value env) (fun o s₁=>wpAny (model prog w) A (eval slice env) (fun i s₂=>s₂.TypeIs o T/\wpAny (model prog w) A (getItem o i) Q E s₂) E s₁) E s) :
  wpAny (model prog w) A (eval (.Subscript value slice pos) env) Q E s:=by
 refine Subscript_ (wpAny_mono h (fun o s₁ h₁=>wpAny_mono h₁ (fun i s₂ h₂=>?_) fun _ _ x=>x) fun _ _ x=>x)
 obtain⟨hT,h₂⟩:=h₂
 unfold subscriptTail
 refine wpAny_bind ?_
 rw[getitemInPython_of_ne hT.not_modules]
 refine wpAny_bind (wpAny_specialOf hT hl ?_)
 have fin:wpAny (model prog w) A (subscripted slice false o i) (fun r s₃=>wpAny (model prog w) A (letTemporaryGo value o r >>= fun _=>pure r) Q E s₃) E s₂:=by
  rw[hs o i]
  exact wpAny_operating (wpAny_mono h₂ (fun r s₃ h₃=>wpAny_bind (wpAny_letTemporaryGo (wpAny_pure h₃))) fun _ _ x=>x)
 first
  | exact wpAny_pure (wpAny_bind fin)
  | exact wpAny_bind (wpAny_pure (wpAny_bind fin))
  | exact wpAny_bind fin
theorem aI6 {X:Cx}{pins:List (Addr × Obj)}{σ:St}{H:Hp}{s:Shared}{a:Addr}{y:V}{o:Option V}(I:Inv X pins σ H s)(g:aC6 H a y o):s.TypeIs (.ref a) "dict":=by
 rcases g with⟨kvs,k,e,_,_⟩ | ⟨kvs,k,b,e,_,_,_⟩
 ·obtain⟨_,_,vs,_,dd⟩:=aT8 I.hok e
  exact dd.typeIs
 ·obtain⟨_,_,xs,_,dd⟩:=aT7 I.hok e
  exact dd.typeIs
def bI9 (td ty:TE):TE:=fun σ H Q=>td σ H fun x H1=>ty σ H1 fun y H2=>∃ a v,x=.ref a/\aC6 H2 a y (some v)/\Q v H2
def bn5 (ty td:TE):TE:=fun σ H Q=>ty σ H fun y H1=>td σ H1 fun x H2=>∃ a o,x=.ref a/\aC6 H2 a y o/\Q (.bl (!o.isSome)) H2
def bK4 (td ty tv:TE):TS:=fun D σ H=>tv σ H fun v H1=>td σ H1 fun x H2=>ty σ H2 fun y H3=>∃ a H4,x=.ref a/\bl4 H3 a y v H4/\D.nx σ H4
section
variable {X:Cx} {o i e value:Expr} {pos pos' tpos:Pos} {td ty tv:TE}
theorem bp2 (hu:X.A.units+1<cLine)(ho:PE X o td)(hi:PE X i ty)(hs:bO2 i):PE X (.Subscript o i pos) (bI9 td ty):=by
 intro pins s σ H Q I h
 refine bn6 PySem.F.slot_dict_getitem.lookup hs (thn (ho pins s σ H _ I h) fun u s1 ⟨x,H1,I1,rx,q1⟩=>thn (hi pins s1 σ H1 _ I1 q1) fun iv s2 ⟨y,H2,I2,ry,a,v,ex,g,q2⟩=>?_)
 subst ex
 obtain rfl:u=Value.ref a:=rx
 exact⟨aI6 I2 g,aY7 hu I2 g ry fun w' s3 I3 rw'=>⟨v,H2,I3,rw',q2⟩⟩
theorem aW2 (hu:X.A.units+1<cLine)(hi:PE X i ty)(ho:PE X o td):PC X .NotIn i o (bn5 ty td):=by
 intro pins s σ H Q I h
 refine thn (hi pins s σ H _ I h) fun iv s1 ⟨y,H1,I1,ry,q1⟩=>thn (ho pins s1 σ H1 _ I1 q1) fun u s2 ⟨x,H2,I2,rx,a,ov,ex,g,q2⟩=>?_
 subst ex
 obtain rfl:u=Value.ref a:=rx
 exact bt8 hu I2 g ry fun s3 I3=>⟨.bl (!ov.isSome),H2,I3,rfl,q2⟩
theorem bo9 (hu:X.A.units+1<cLine)(ho:PE X o td)(hi:PE X i ty)(hv:PE X value tv)(hs:swapsWith value (some (.Subscript o i pos')) pos.line X.env=pure false) :
  PS X (.Assign [.Subscript o i pos'] value pos) (bK4 td ty tv):=by
 intro pins s σ H D I h
 refine wpAny_Assign_Subscript (thn (hv pins s σ H _ I h) fun r s1 ⟨v,H1,I1,rv,q1⟩=>thn (ho pins s1 σ H1 _ I1 q1) fun u s2 ⟨x,H2,I2,rx,q2⟩=>thn (hi pins s2 σ H2 _ I2 q2) fun iv s3 ⟨y,H3,I3,ry,a,H4,ex,g,q3⟩=>?_) hs
 subst ex
 obtain rfl:u=Value.ref a:=rx
 exact aY6 hu I3 g ry rv fun s4 I4=>⟨σ,H4,I4,q3⟩
end
theorem bj4 {P:Program}{w:World}{H:Hp}(h:Heap)(hb:sysModules<h.objs.size):B9 P w H (h.push { cls:=.type "dict",data:=.dict #[] }) h.objs.size (.dT []) :=
 ⟨o8 _,beq_eq_false_iff_ne.mpr (Ne.symm (i4 hb)),[],.nil,_,#[],0,d6 _ rfl,⟨rfl,rfl,rfl⟩,rfl,rfl,al8⟩
def bz3:TE:=fun _ H Q=>∀ p,H p=none->Q (.ref p) (upd H p (.dT []))
section
variable {X:Cx} {pos:Pos}
theorem be4:PE X (.Dict [] [] pos) bz3:=fun pins s σ H Q I h =>
 wpAny_Dict_empty ⟨.ref s.heap.objs.size,_,I.laid (a:=s.heap.objs.size) (o:=.dT []) (t':=s.toks) (fun _ _ q=>b9 _ q) (c7 _) (bj4 s.heap I.big),rfl,h _ (I.hok.fresh (c7 _))⟩
end
structure M1 (X:Cx) (o:Expr) (m:Str) (apos:Pos) (e:Expr) (cpos:Pos):Prop where
 base:attributeBase o m X.env (eval o X.env)=eval o X.env
 few:((backTo cpos (starEach [e] X.env)).all (fun x=>!x.1) && (backToKw cpos (keywordEach [] X.env)).all (fun x=>x.1.isSome)
  && decide (([e]:List Expr).length+([]:List Keyword).length+(if ([]:List Keyword).isEmpty then 0 else 1)<30))=true
 line:(apos.endLine == cpos.line)=true
 trees:backTo cpos (starEach [e] X.env)=[(false,eval e X.env)]
structure M2 (X:Cx) (o:Expr) (m:Str) (apos:Pos) (e f:Expr) (cpos:Pos):Prop where
 base:attributeBase o m X.env (eval o X.env)=eval o X.env
 few:((backTo cpos (starEach [e,f] X.env)).all (fun x=>!x.1) && (backToKw cpos (keywordEach [] X.env)).all (fun x=>x.1.isSome)
  && decide (([e,f]:List Expr).length+([]:List Keyword).length+(if ([]:List Keyword).isEmpty then 0 else 1)<30))=true
 line:(apos.endLine == cpos.line)=true
 trees:backTo cpos (starEach [e,f] X.env)=[(false,eval e X.env),(false,eval f X.env)]
section
variable {X:Cx} {pins:List (Addr × Obj)} {σ:St} {H:Hp} {s:Shared} {a:Addr} {y d:V} {u r:Value} {o:Option V} {A:Around} {E:Value->Shared->Prop}
end
section
variable {X:Cx} {o e f:Expr} {apos cpos:Pos} {td ty tx:TE}
end
section
variable {X:Cx} {pins:List (Addr × Obj)} {σ:St} {H:Hp} {s:Shared} {a:Addr} {kvs:List (Key × V)} {A:Around} {E:Value->Shared->Prop}
end
section
variable {X:Cx} {pins:List (Addr × Obj)} {σ:St} {H:Hp} {s:Shared} {a:Addr} {y:V} {u:Value} {A:Around} {E:Value->Shared->Prop}
end
end L2
namespace Att
open PySem PySem.W PySem.Calls PyProof.Rows
section
variable {prog:Program} {w:World} {A:Around} {E:Value->Shared->Prop} {s:Shared} {K:Frag}
end
end Att
namespace L2
open PySem PySem.Spec PyProof.Rows
section
variable {P:Program} {w:World} {K:W.Frag} {mg:Str->Option Value} {base:Heap}
end
section
variable {X:Cx}
end
section
variable {κ:Type} [DecidableEq κ]
theorem bm8 {kvs:List (κ × V)}{k:κ}{v:V}(h:G6 kvs k=some v):k∈kvs.map (·.1):=by
 have q:(kvs.any fun kv=>decide (kv.1=k))=true:=by
  rw[Y1,h]
  all_goals rfl
 obtain⟨p,hp,e⟩:=List.any_eq_true.mp q
 exact l5.mpr ⟨p,hp,of_decide_eq_true e⟩
end
section
variable {X:Cx} {pins:List (Addr × Obj)} {σ:St} {H:Hp} {s:Shared} {A:Around} {E:Value->Shared->Prop}
theorem aQ6 (I:Inv X pins σ H s){p:Addr}{ns:List Int}(hq:SqL X.K H p (ns.map V.int)\/SqT X.K H p (ns.map V.int)):∃ (vs:List Value) (T:String) (o:Obj) (c:Nat),(T="list"\/T="tuple")/\s.heap.get? p=some o/\o.cls=.type T/\o.data=.seq vs.toArray c/\IntsAre vs ns:=by
 rcases hq with hq | hq
 ·obtain⟨its,r',pl,hz⟩:=I.list hq
  obtain⟨o,ho,hc,n,hd⟩:=pl.isList
  exact⟨its,"list",o,n,.inl rfl,ho,hc,hd,intsAre_of r'⟩
 ·obtain⟨its,r',pl,hz⟩:=I.tuple hq
  obtain⟨o,ho,hc,n,hd⟩:=pl
  exact⟨its,"tuple",o,n,.inr rfl,ho,hc,hd,intsAre_of r'⟩
theorem ao9 (I:Inv X pins σ H s){h1:Heap}{vs:List Value}{out:Array Value}{zs:List Int}(kp:∀ b o',s.heap.get? b=some o'->h1.get? b=some o')(hi:IntsAre out.toList zs)(hz:zs.length<=1000) :
  H h1.objs.size=none/\Inv X pins σ (upd H h1.objs.size (.lst (zs.map V.int))) { s with heap:=sortedHeap (h1.push (seqObj "list" vs.toArray 0)) h1.objs.size vs out }:=by
 have I1:Inv X pins σ H { s with heap:=h1,toks:=s.toks }:=I.kept kp
 refine⟨I1.hok.fresh (c7 _),?_⟩
 have hoL:(h1.push (seqObj "list" vs.toArray 0)).get? h1.objs.size=some (seqObj "list" vs.toArray 0):=d6 _ rfl
 obtain⟨e,he⟩:=sortedHeap_at (out:=out) hoL
 refine I1.laid (t':=s.toks) (fun b o q=>?_) (c7 _) ⟨by rw[b7,sizeLine_eq];omega,out.toList,e,aa5 hi,by rw[ah5];exact he⟩
 have hb:b<h1.objs.size:=c9 q
 rw[sortedHeap_old (i4 hb) (by rw[size_push'];exact u9 hb)]
 exact b9 _ q
theorem ao8 {p:Addr}{ns:List Int}{b:Bool}{Q:Value->Shared->Prop}(I:Inv X pins σ H s)(hq:SqL X.K H p (ns.map V.int)\/SqT X.K H p (ns.map V.int))(h64:ns.length<64)
  (h:∀ (s':Shared) (D:Addr) (zs:List Int),H D=none->zs.Perm ns->Ordered b zs->Inv X pins σ (upd H D (.lst (zs.map V.int))) s'->Q (.ref D) s') :
  wpAny (model X.prog X.w) A (call (.builtin "sorted") [.ref p] [(Str.ofString "reverse",.bool b)]) Q E s:=by
 obtain⟨vs,T,o,c,hT,ho,hc,hd,hI⟩:=aQ6 I hq
 have hlen:=hI.length
 refine call_function_entry_kw kind_sorted plain_sorted entry_sorted (args_sorted_rev _ _) ?_
 unfold Builtin.«sorted»
 refine wpAny_bind (m:=checkCount "sorted" 1 1 _) (wpAny_pure ?_)
 refine wpAny_bind (wpAny_collect_seq p hT ho hc hd (fun h1 kp=>?_) (by rw[d7,sizeLine_eq];omega))
 rw[am4]
 refine wpAny_bind (wpAny_newList ?_ (by rw[sizeLine_eq];omega))
 have hoL:(h1.push (seqObj "list" vs.toArray 0)).get? h1.objs.size=some (seqObj "list" vs.toArray 0):=d6 _ rfl
 refine wpAny_bind (wpAny_holding (wpAny_call_entry_kw slot_list_sort (s:={ s with heap:=h1.push (seqObj "list" vs.toArray 0) }) ⟨_,hoL,rfl⟩ entry_list_sort (list_sort_tree_rev (s:={ s with heap:=h1.push (seqObj "list" vs.toArray 0) }) hoL hI (by omega) fun out ns' a1 a2 a3=>⟨_,rfl,?_⟩) (args_list_sort_rev _ _)))
 obtain⟨e1,e2⟩:=ao9 (vs:=vs) I kp a1 (by rw[a2.length_eq];omega)
 exact wpAny_pure ⟨_,rfl,h _ _ ns' e1 a2 a3 e2⟩
theorem aL5 {p:Addr}{ns:List Int}{Q:Value->Shared->Prop}(I:Inv X pins σ H s)(hq:SqL X.K H p (ns.map V.int)\/SqT X.K H p (ns.map V.int))(h64:ns.length<64)
  (h:∀ (s':Shared) (D:Addr) (zs:List Int),H D=none->zs.Perm ns->zs.Pairwise (·<=·)->Inv X pins σ (upd H D (.lst (zs.map V.int))) s'->Q (.ref D) s') :
  wpAny (model X.prog X.w) A (call (.builtin "sorted") [.ref p]) Q E s:=by
 obtain⟨vs,T,o,c,hT,ho,hc,hd,hI⟩:=aQ6 I hq
 have hlen:=hI.length
 refine Calls.call_function_entry kind_sorted plain_sorted entry_sorted (args_sorted1 _) ?_
 unfold Builtin.«sorted»
 refine wpAny_bind (m:=checkCount "sorted" 1 1 _) (wpAny_pure ?_)
 refine wpAny_bind (wpAny_collect_seq p hT ho hc hd (fun h1 kp=>?_) (by rw[d7,sizeLine_eq];omega))
 rw[am4]
 refine wpAny_bind (wpAny_newList ?_ (by rw[sizeLine_eq];omega))
 have hoL:(h1.push (seqObj "list" vs.toArray 0)).get? h1.objs.size=some (seqObj "list" vs.toArray 0):=d6 _ rfl
 refine wpAny_bind (wpAny_holding (wpAny_call_entry slot_list_sort (s:={ s with heap:=h1.push (seqObj "list" vs.toArray 0) }) ⟨_,hoL,rfl⟩ entry_list_sort (list_sort_tree (s:={ s with heap:=h1.push (seqObj "list" vs.toArray 0) }) hoL hI (by omega) fun out ns' a1 a2 a3=>⟨_,rfl,?_⟩) (args_list_sort _)))
 obtain⟨e1,e2⟩:=ao9 (vs:=vs) I kp a1 (by rw[a2.length_eq];omega)
 exact wpAny_pure ⟨_,rfl,h _ _ ns' e1 a2 a3 e2⟩
end
section
variable {X:Cx}
theorem aO3:L1 X (.builtin "sorted") (fun xs H Q=>∃ (p:Addr) (ns:List Int),xs=[.ref p]/\(SqL X.K H p (ns.map V.int)\/SqT X.K H p (ns.map V.int))/\ns.length<64 /\
  ∀ (l:Addr) (zs:List Int),H l=none->zs.Perm ns->zs.Pairwise (·<=·)->Q (.ref l) (upd H l (.lst (zs.map V.int)))):=by
 intro pins s σ H xs us Q I r h
 obtain⟨p,ns,rfl,hq,h64,q⟩:=h
 obtain⟨u,rfl,rx⟩:=vals1 r
 cases rx
 exact aL5 I hq h64 fun s' D zs a1 a2 a3 I'=>⟨.ref D,_,I',rfl,q D zs a1 a2 a3⟩
def bz0 (K:W.Frag)(tr:TA):TE:=fun σ H Q=>tr σ H fun vs H1=>∃ (p:Addr) (ns:List Int),vs=[.ref p]/\(SqL K H1 p (ns.map V.int)\/SqT K H1 p (ns.map V.int))/\ns.length<64 /\
 ∀ (l:Addr) (zs:List Int),H1 l=none->zs.Perm ns->zs.Pairwise (·≥·)->Q (.ref l) (upd H1 l (.lst (zs.map V.int)))
theorem be1 {e:Expr}{np pos bpos kpos:Pos}{j:Nat}{tr:TA}(K:W.Frag)(hK:X.K=K)(hg:Gl X "sorted")(hm:X.mg "sorted"=none)(ha:PA X [e] tr)
  (hs:backTo pos (starEach [e] X.env)=(false,eval e X.env)::backTo pos (starEach [] X.env):=by rfl)
  (hpl:(backTo pos (starEach [e] X.env)).any (·.1)=false:=by rfl) :
  PE X (.Call (.Name "sorted" np) [e] [⟨some "reverse",.Constant (.bool true) j bpos,kpos⟩] pos) (bz0 K tr):=by
 subst hK
 intro pins s σ H Q I h
 refine wpAny_Call_Name_kw (P4 I hg hm (show bootBuiltins "sorted"=some (.builtin "sorted") from rfl) ?_ (by decide) (by decide))
 refine callWith_kw (thn (ha pos pins s σ H _ I h) fun us s1 ⟨vs,H1,I1,r1,q1⟩=>?_) hs hpl rfl rfl
 obtain⟨p,ns,rfl,hq,h64,q⟩:=q1
 have hk:PK X [⟨some "reverse",.Constant (.bool true) j bpos,kpos⟩] (aD7 (tC (.bl true)) ba8):=aA0 bw6 aM3
 refine thn (hk pos pins s1 σ H1 (fun zs H2=>zs=[.bl true]/\H2=H1) I1 ⟨rfl,rfl⟩) fun ws s2 ⟨zs,H2,I2,r2,ez,eH⟩=>?_
 subst ez eH
 obtain⟨w,rfl,rw⟩:=vals1 r2
 obtain⟨u,rfl,ru⟩:=vals1 r1
 cases rw
 cases ru
 exact ao8 (b:=true) I2 hq h64 fun s' D zs a1 a2 a3 I'=>⟨.ref D,_,I',rfl,q D zs a1 a2 a3⟩
end
section
variable {prog:Program} {w:World} {A:Around} {E:Value->Shared->Prop} {s:Shared}
theorem am1 {ip tp:Addr}{i:Nat}{ys:Array Value}{x:Value}{Q:Value->Shared->Prop}(hi:s.heap.IsTupleIter ip tp i)(ht:s.heap.IsTuple tp ys)(hx:ys[i]?=some x)
  (q:∀ h',h'.IsTupleIter ip tp (i+1)->Heap.SameBut ip s.heap h'->Q x { s with heap:=h' }):wpAny (model prog w) A (Builtin.SmallTypes.nextOf (.ref ip)) Q E s:=by
 obtain⟨u,hu,cu,du⟩:=id hi
 obtain⟨v,hv,_,nv,dv⟩:=ht
 unfold Builtin.SmallTypes.nextOf
 refine wpAny_bind (wpAny_callSpecial?_slot (name:=Str.ofString "__next__") hi.typeIs F.slot_tuple_iterator_next (wpAny_call_entry F.slot_tuple_iterator_next hi.typeIs F.entry_tuple_iterator_next ?_ (F.args_tuple_iterator_next_1 _)))
 show wpAny _ _ (field (.ref ip) 0 >>= _) _ _ s;refine wpAny_bind (wpAny_field hu du (x:=.ref tp) rfl ?_)
 show wpAny _ _ (if (Value.ref tp == Value.none)=true then _ else _) _ _ s;rw[if_neg (show ¬ ((Value.ref tp == Value.none)=true) from f6)]
 show wpAny _ _ (field (.ref ip) 1 >>= _) _ _ s;refine wpAny_bind (wpAny_field hu du (x:=.int i 0) rfl ?_)
 show wpAny _ _ (seqItems? (.ref tp) >>= _) _ _ s;refine wpAny_bind (wpAny_seqItems hv dv ?_)
 simp only[i8,hx]
 refine wpAny_bind (wpAny_setField hu du (by simp) (wpAny_pure ⟨x,rfl,wpAny_pure (q _ ?_ (Heap.SameBut.update ..))⟩))
 exact⟨_,F4 _ hu (Obj.isFreed_of_fields (Obj.data_mapFields du _)),(Obj.cls_mapFields ..).trans cu,by rw[Obj.data_mapFields du];simp[rawInt]⟩
theorem aq6 {ip tp:Addr}{i:Nat}{ys:Array Value}{Q:Value->Shared->Prop}(hh:A.handled=none)(hi:s.heap.IsTupleIter ip tp i)(ht:s.heap.IsTuple tp ys)(hx:ys[i]?=none)
  (q:∀ h' e,Heap.ExtBut ip s.heap h'->(∃ o,h'.get? e=some o/\o.cls=.type "StopIteration")->E (.ref e) { s with heap:=h' }):wpAny (model prog w) A (Builtin.SmallTypes.nextOf (.ref ip)) Q E s:=by
 obtain⟨u,hu,cu,du⟩:=id hi
 obtain⟨v,hv,_,nv,dv⟩:=ht
 unfold Builtin.SmallTypes.nextOf
 refine wpAny_bind (wpAny_callSpecial?_slot (name:=Str.ofString "__next__") hi.typeIs F.slot_tuple_iterator_next (wpAny_call_entry F.slot_tuple_iterator_next hi.typeIs F.entry_tuple_iterator_next ?_ (F.args_tuple_iterator_next_1 _)))
 show wpAny _ _ (field (.ref ip) 0 >>= _) _ _ s;refine wpAny_bind (wpAny_field hu du (x:=.ref tp) rfl ?_)
 show wpAny _ _ (if (Value.ref tp == Value.none)=true then _ else _) _ _ s;rw[if_neg (show ¬ ((Value.ref tp == Value.none)=true) from f6)]
 show wpAny _ _ (field (.ref ip) 1 >>= _) _ _ s;refine wpAny_bind (wpAny_field hu du (x:=.int i 0) rfl ?_)
 show wpAny _ _ (seqItems? (.ref tp) >>= _) _ _ s;refine wpAny_bind (wpAny_seqItems hv dv ?_)
 simp only[i8,hx]
 refine wpAny_bind (wpAny_rule (wpAny_bind (wpAny_setField hu du (by simp) ?_)))
 show wpAny _ _ (newExc (.type "StopIteration") [] >>= _) _ _ _;refine wpAny_bind ?_;simp only[newExc,newTuple]
 refine wpAny_bind (wpAny_newObj_type ?_ (by size_fits));refine wpAny_bind (m:=firstArgMember _ _) (wpAny_of_eq (a:=Value.none) (by first | rfl | (simp only[firstArgMember];rfl)) ?_)
 refine wpAny_newObj_type ?_ (by size_fits);simp only[raiseNew]
 refine wpAny_bind (wpAny_handled ?_);first | rw[show A.in1.handled=none from hh] | rw[hh]
 refine wpAny_bind (wpAny_pure (wpAny_throw ?_));exact q _ _ (((Heap.SameBut.update ..).extBut.push _).push _) ⟨_,d6 _ rfl,rfl⟩
end
theorem aj0 {prog:Program}{w:World}{A:Around}(hh:A.handled=none)(ip tp:Addr)(hne:tp≠ip)(ys:Array Value):Draws prog w A ip [ip,tp] ys.size (fun i v=>ys[i]?=some v) (fun i h=>h.IsTupleIter ip tp i/\h.IsTuple tp ys) where
 live:=fun _ _ z=>let ⟨o,ho,_⟩:=z.1;⟨o,ho⟩
 frame:=fun _ _ _ z k=>⟨z.1.at fun o e=>k ip (by simp) o e,z.2.at fun o e=>k tp (by simp) o e⟩
 item:=fun i s Q E hi z q=>am1 z.1 z.2 (x:=ys[i]) (by simp[hi]) fun h' a b=>q _ h' s.toks (by simp[hi]) ⟨a,z.2.extBut b.extBut hne⟩ b
 done:=fun s Q E z q=>aq6 hh z.1 z.2 (by simp) q
open AutoSeq1 (wpAny_loadPart') in
set_option maxRecDepth 100000 in
theorem aq8 (tp:Addr)(ys:Array Value)(n:Nat)(dd:Option Addr)(ss:Array (Option Value)) :
  Meets (Builtin.«enumerate.__new__» ⟨[.type "enumerate",.ref tp],[]⟩) (fun _ R s=>s.heap.get? tp=some { cls:=.type "tuple",dict:=dd,data:=.seq ys n,slots:=ss } /\
   R (.ok (.ret (.ref (s.heap.push { cls:=.type "tuple_iterator",data:=.fields #[.ref tp,.int 0 0] }).objs.size)))
    { s with heap:=(s.heap.push { cls:=.type "tuple_iterator",data:=.fields #[.ref tp,.int 0 0] }).push { cls:=.type "enumerate",data:=.fields #[.none,.bool false,.ref s.heap.objs.size,rawInt 0,.none,.none] } }) :=
 .of_wp fun prog w A R s h=>by
  obtain⟨hp,g,d,tk,os⟩:=s;obtain⟨hl,h⟩:=h
  have hsub:=sub_enumerate
  have hT:Heap.IsTuple (Shared.heap ⟨hp,g,d,tk,os⟩) tp ys:=⟨_,hl,rfl,n,rfl⟩
  wp_walk using wpAny_loadPart' hl
  refine wpAny_stack_any fun st=>wpAny_pure ?_
  split
  ·rename_i c _ _ _ _ _
   cases (c == Value.type "enumerate")
   ·wp_walk using wpAny_loadPart' hl,wpAny_pyIter_tuple hT;exact⟨_,rfl,h⟩
   ·wp_walk using wpAny_loadPart' hl,wpAny_pyIter_tuple hT;exact⟨_,rfl,h⟩
  ·wp_walk using wpAny_loadPart' hl,wpAny_pyIter_tuple hT;exact⟨_,rfl,h⟩
section
variable {prog:Program} {w:World} {A:Around} {E:Value->Shared->Prop} {s:Shared}
theorem au8 {tp:Addr}{ys:Array Value}{Q:Value->Shared->Prop}(hT:s.heap.IsTuple tp ys)
  (q:∀ h',IsEnum h' (s.heap.objs.size+1) s.heap.objs.size 0 .none->h'.IsTupleIter s.heap.objs.size tp 0->h'.objs.size=s.heap.objs.size+2->(∀ b o,s.heap.get? b=some o->h'.get? b=some o)->Q (.ref (s.heap.objs.size+1)) { s with heap:=h' }) :
  wpAny (model prog w) A (call (.type "enumerate") [.ref tp]) Q E s:=by
 obtain⟨⟨c,dd,dt,ss⟩,hl,hc,n,hd⟩:=hT
 replace hc:c=.type "tuple":=hc
 replace hd:dt=.seq ys n:=hd
 subst hc hd
 refine callType_new F.called_enumerate (by decide) (F.typeCall_enumerate_1 _) (F.newCall_enumerate_1 _) (fun obj=>F.args_object_init_2 obj _) F.entry_enumerate_new (aq8 tp ys n dd ss) ⟨hl,?_⟩
 have hz:(s.heap.push { cls:=.type "tuple_iterator",data:=.fields #[.ref tp,.int 0 0] }).objs.size=s.heap.objs.size+1:=x6 ..
 show _/\_
 rw[hz]
 have he:IsEnum ((s.heap.push { cls:=.type "tuple_iterator",data:=.fields #[.ref tp,.int 0 0] }).push { cls:=.type "enumerate",data:=.fields #[.none,.bool false,.ref s.heap.objs.size,rawInt 0,.none,.none] }) (s.heap.objs.size+1) s.heap.objs.size 0 .none:=by
  have:=d6 (s.heap.push { cls:=.type "tuple_iterator",data:=.fields #[.ref tp,.int 0 0] }) (o:={ cls:=.type "enumerate",data:=.fields #[.none,.bool false,.ref s.heap.objs.size,rawInt 0,.none,.none] }) rfl
  rw[hz]at this;exact this
 exact⟨⟨_,he,rfl⟩,q _ he ⟨_,b9 _ (d6 _ rfl),rfl,rfl⟩ (by rw[x6,hz]) fun b o x=>b9 _ (b9 _ x)⟩
end
def Itm (K:W.Frag)(a:Addr):It:=
 ⟨fun i H=>∃ xs x,SqT K H a xs/\xs[i]?=some x,fun i H x H'=>∃ t v,H t=none/\x=.ref t/\(∀ xs,SqT K H a xs->xs[i]?=some v)/\H'=upd H t (.tup [.int i,v]),fun i H=>∃ xs,SqT K H a xs/\xs.length=i⟩
def bE0 (K:W.Frag)(ta:TA):TI:=fun σ H R=>ta σ H fun vs H1=>∃ a,vs=[.ref a]/\(∃ xs,SqT K H1 a xs)/\R (Itm K a) H1
theorem aL1 {P:Program}{w:World}{K:W.Frag}{elts:List Expr}{x1:Nat}{pos:Pos}(a ip e:Addr)(hne:e≠ip):Turn P w K (.Tuple elts x1 pos) (Itm K a) [e,ip] e (fun i h=>(∃ old,IsEnum h e ip (i:Int) old)/\h.IsTupleIter ip a i) where
 mem:=by simp
 obj:=fun i h st b hb=>by
  obtain⟨⟨old,he⟩,o,ho,hc,hd⟩:=st
  rcases d3.mp hb with rfl | hb
  ·exact⟨_,he,fun v z=>by cases z⟩
  ·obtain rfl:b=ip:=by simpa using hb
   exact⟨o,ho,fun v z=>by rw[hd]at z;cases z⟩
 keep:=fun i h h' st k=>⟨let ⟨old,he⟩:=st.1;⟨old,k e (by simp) _ he⟩,st.2.at fun o q=>k ip (by simp) o q⟩
 item:=by
  intro X hP hw hK hc i pins s σ H E I hf st hg
  subst hP hw hK
  obtain⟨xs,x,hq,hx⟩:=hg
  obtain⟨⟨old,he⟩,hit⟩:=st
  obtain⟨its,rv,p,hz⟩:=I.tuple hq
  obtain⟨u,hu,ru⟩:=rv.get hx
  obtain⟨f0,f1,f2,f3,f4,f5⟩:=hf e (by simp)
  obtain⟨g0,g1,g2,g3,g4,g5⟩:=hf ip (by simp)
  have pT:s.heap.IsTuple a its.toArray:=p
  have nai:a≠ip:=fun z=>by
   obtain⟨o1,h1,c1,_⟩:=id pT
   obtain⟨o2,h2,c2,_⟩:=id hit
   rw[z,h2]at h1;cases h1;rw[c2]at c1;injection c1 with c1;exact absurd c1 (by decide)
  have nae:a≠e:=fun z=>by
   obtain⟨o1,h1,c1,_⟩:=id pT
   rw[z,show s.heap.get? e=_ from he]at h1;cases h1;injection c1 with c1;exact absurd c1 (by decide)
  have ui:its.toArray[i]?=some u:=by simpa using hu
  have hlt':i<its.toArray.size:=by
   rcases q0 i its.toArray.size with h | h
   ·exact h
   ·rw[P7 h]at ui;cases ui
  refine wpAny_pyNext_enum_itemD (aj0 (A:=X.A.in1) (I.ok.hd hc) ip a nai its.toArray) he ⟨hit,pT⟩ hlt' hne (by simp[hne,Ne.symm nae]) fun v h1 tk hv heo st1 ht1 hz1 hk1=>?_
  have ev:v=u:=by have:=hv.symm.trans ui;cases this;rfl
  subst ev
  have hit1:=st1.1
  refine⟨_,rfl,?_⟩
  refine wpAny_letOwnedTupleGo_enum heo fun h2 he2 hs2=>?_
  have hlt:e<s.heap.objs.size:=c9 he
  have hs2':Heap.SameBut e h1 h2:=hs2
  have ht2:h2.get? s.heap.objs.size=some { cls:=.type "tuple",data:=.seq #[.int i tk,v] }:=(hs2'.2 _ (D9 hlt)).trans ht1
  have kp:∀ b o,b≠e->b≠ip->s.heap.get? b=some o->h2.get? b=some o:=fun b o h1' h2' q=>(hs2'.2 b h1').trans (hk1 b o h1' h2' q)
  have hT:H s.heap.objs.size=none:=I.hok.fresh (c7 _)
  have nH:∀ b,H b≠none->b≠e/\b≠ip:=fun b hb=>⟨fun z=>hb (z ▸ f0),fun z=>hb (z ▸ g0)⟩
  have keepH:∀ b o,H b=some o->upd H s.heap.objs.size (.tup [.int i,x]) b=some o:=fun b o q=>by rw[m5 (m8 q hT)];exact q
  have hok2:HOk X.prog X.w (upd H s.heap.objs.size (.tup [.int i,x])) h2:=fun b o eb=>by
   by_cases hb:b=s.heap.objs.size
   ·subst hb
    rw[c6]at eb
    cases eb
    exact⟨by show 2<=sizeLine;decide,[.int i tk,v],.cons ⟨_,rfl⟩ (.cons ru .nil),⟨_,ht2,rfl,_,rfl⟩⟩
   ·rw[m5 hb]at eb
    refine(I.hok b o eb).stay (fun c v hcc q=>kp c v ?_ ?_ q) (fun c q=>keepH c _ q) fun c ys q=>keepH c _ q
    ·rcases hcc with z | z
     ·exact(nH c (by rw[z,eb];simp)).1
     ·exact(nH c (by rw[z];simp)).1
    ·rcases hcc with z | z
     ·exact(nH c (by rw[z,eb];simp)).2
     ·exact(nH c (by rw[z];simp)).2
  have I2:Inv X pins σ (upd H s.heap.objs.size (.tup [.int i,x])) { s with heap:=h2,toks:=tk+1 }:=by
   refine I.step (g':=s.gens) (d':=s.drawn) (t':=tk+1) (ch:=[e,ip]) (fun b hb=>?_) (fun b o _ _ hcc q _=>kp b o (fun z=>hcc (by simp[z])) (fun z=>hcc (by simp[z])) q) (fun b o _ _ hcc q _=>⟨o.slots,kp b o (fun z=>hcc (by simp[z])) (fun z=>hcc (by simp[z])) q⟩) (fun b o _ q n=>?_)
    (fun b o hcc q=>⟨o,kp b o (fun z=>hcc (by simp[z])) (fun z=>hcc (by simp[z])) q⟩) (fun b ys q=>keepH b _ q) (fun b o v q=>keepH b _ q) (fun b ps q=>⟨#[],by rw[keepH b _ q];simp⟩) (fun m hm=>?_) hok2 I.bare
   ·rcases d3.mp hb with rfl | hb
    ·exact⟨f3,f1,f4,f5⟩
    ·obtain rfl:b=ip:=by simpa using hb
     exact⟨g3,g1,g4,g5⟩
   ·rw[m5 (i4 (c9 q))]
    exact n
   ·obtain⟨o,es,ep,ho,r⟩:=hm
    exact⟨o,es,ep,kp _ o (Ne.symm f1) (Ne.symm g1) ho,r⟩
  have hilt:ip<s.heap.objs.size:=by
   obtain⟨o,ho,_⟩:=id hit
   exact c9 ho
  refine⟨.ref s.heap.objs.size,_,I2,rfl,⟨s.heap.objs.size,x,hT,rfl,fun ys hy=>by rw[I.tuple_inj hy hq];exact hx,rfl⟩,⟨⟨v,?_⟩,?_⟩,fun b hb=>?_⟩
  ·have:=he2
   rw[show ((i:Int)+1)=(((i+1:Nat):Int)) by simp]at this
   exact this
  ·exact hit1.at fun o q=>(hs2'.2 ip (Ne.symm hne)).trans q
  ·rcases d3.mp hb with rfl | hb
   ·rw[m5 (i4 hlt)];exact f0
   ·obtain rfl:b=ip:=by simpa using hb
    rw[m5 (i4 hilt)]
    exact g0
 done:=by
  intro X hP hw hK hc i pins s σ H E I hf st hg
  subst hP hw hK
  obtain⟨xs,hq,hx⟩:=hg
  obtain⟨⟨old,he⟩,hit⟩:=st
  obtain⟨its,rv,p,hz⟩:=I.tuple hq
  obtain⟨g0,g1,g2,g3,g4,g5⟩:=hf ip (by simp)
  have hl:=rv.length
  have pT:s.heap.IsTuple a its.toArray:=p
  have nai:a≠ip:=fun z=>by
   obtain⟨o1,h1,c1,_⟩:=id pT
   obtain⟨o2,h2,c2,_⟩:=id hit
   rw[z,h2]at h1;cases h1;rw[c2]at c1;injection c1 with c1;exact absurd c1 (by decide)
  have ei:i=its.toArray.size:=by rw[d7];omega
  refine wpAny_pyNext_enum_endD (aj0 (A:=X.A.in1) (I.ok.hd hc) ip a nai its.toArray) he ⟨by rw[<- ei];exact hit,pT⟩ fun h' eb=>⟨rfl,I.turned (t':=s.toks) (fun b o hb q=>eb b o hb q) g0 g1 g3 g4 g5⟩
 self:=fun _ _ _ _ _ st h=>let ⟨⟨old,he⟩,_⟩:=st;wpAny_pyIter_enum he h
section
variable {X:Cx}
theorem aF8 {a:Expr}{ta:TA}{elts:List Expr}{x1:Nat}{tpos p pos:Pos}(hg:Gl X "enumerate")(hm:X.mg "enumerate"=none)(ha:PA X [a] ta)(hv:bootBuiltins "enumerate"=some (.type "enumerate"):=by rfl)(hs:starEach [a] X.env=[(false,eval a X.env)]:=by rfl) :
  PI X (.Tuple elts x1 tpos) (.Call (.Name "enumerate" p) [a] [] pos) (bE0 X.K ta):=by
 intro pins s σ H R I h
 refine Call_ (P4 I hg hm hv (PyProof.Rows.callWith_type1 (thn (ha pos pins s σ H _ I h) fun us s1 ⟨vs,H1,I1,r1,q1⟩=>?_) hs rfl))
 obtain⟨b,e,⟨xs,hq⟩,q⟩:=q1
 subst e
 obtain⟨u,rfl,rx⟩:=vals1 r1
 cases rx
 obtain⟨its,rv,pl,hz⟩:=I1.tuple hq
 refine au8 (show s1.heap.IsTuple b its.toArray from pl) fun h' he hit hsz kp=>?_
 refine wpAny_pyIter_enum he ?_
 have hne:s1.heap.objs.size+1≠s1.heap.objs.size:=Nat.succ_ne_self _
 refine⟨s1.heap.objs.size+1,[s1.heap.objs.size+1,s1.heap.objs.size],_,_,H1,rfl,I1.kept (t':=s1.toks) kp,aL1 b s1.heap.objs.size (s1.heap.objs.size+1) hne,⟨⟨_,he⟩,hit⟩,fun c hc=>?_,q⟩
 rcases d3.mp hc with rfl | hc
 ·exact I1.fpOk (R3 _) (I1.hok.fresh (R3 _))
 ·obtain rfl:c=s1.heap.objs.size:=by simpa using hc
  exact I1.fpOk (c7 _) (I1.hok.fresh (c7 _))
theorem aZ4 (hc:X.calm=true):L1 X (.builtin "sum") (fun xs H Q=>∃ (p:Addr) (ns:List Int),xs=[.ref p]/\SqT X.K H p (ns.map V.int)/\Q (.int ns.sum) H):=by
 intro pins s σ H xs us Q I r h
 obtain⟨p,ns,rfl,hq,q⟩:=h
 obtain⟨u,rfl,rx⟩:=vals1 r
 cases rx
 obtain⟨its,r',pl,hz⟩:=I.tuple hq
 have hi:IntsAre its ns:=intsAre_of r'
 obtain⟨ys,e⟩:=hi.allInts.items
 refine PySem.W.ktm_sumG (xs:=ys) (I.ok.hd hc) (by rw[<- e];exact pl) fun h' tk t' hk=>⟨.int ns.sum,H,I.kept (t':=tk) hk,⟨t',?_⟩,q⟩
 have e2:numsOf (intItems ys).toList=ns:=by rw[<- e];exact hi.numsOf
 rw[nums_intItems]at e2
 rw[preSum_eq,j0 (by simp),e2]
end
end L2
namespace L2
open PySem PySem.Spec PyProof.Rows
section
variable {X:Cx}
theorem aZ1 {elt iter tg:Expr} {ifs:List Expr} {scope:Scope} {pos ipos:Pos} {cl:List (Str × Addr)} {N':List Str} {lk:List (Option Nat)} {wi:TI} {g:TG} {tt:TT} {te:TE} {use:Option (Value->Sem Unit)} {R:Value->Shared->Prop} {Q:VK} {pins:List (Addr × Obj)} {s:Shared} {σ:St} {H:Hp}
  (hc:X.calm=true) (hi:PI X tg iter wi) (hclos:closureFor scope X.env=pure cl) (hkind:scope.kind=.function)
  (hnames:∀ y∈scope.names,y.2=.local->scope.names.lookup y.1=some .local) (hcl:at5 X.env cl) (hfr:ag6 scope.names cl=true) (hlk:bl1 X N' lk scope cl)
  (hg:∀ s3 H3 fp,PG (B7 X scope cl N' s3 H3 fp fun _ _=>False) tg g) (ht:∀ s3 H3 fp,PTs (B7 X scope cl N' s3 H3 fp fun _ _=>False) ifs tt) (he:∀ s3 H3 fp,PE (B7 X scope cl N' s3 H3 fp fun _ _=>False) elt te)
  (hs:∀ x,foldedSetIterable iter X.env x=pure x) (I:Inv X pins σ H s) (h:ba9 wi lk g tt te σ H Q)
  (hend : ∀ (C D : Addr) (s' : Shared) (H' : Hp), Inv X pins σ H' s' -> Q (.ref D) H' -> H' C = none -> C ≠ X.env.locals -> X.s₀.heap.objs.size <= C -> (∀ x c, X.env.cells.lookup x = some c -> c ≠ C) -> (∀ p ∈ X.pn ++ pins, p.1 ≠ C) -> (∃ m, s'.heap.Ns C m) ->
   compPost (model X.prog X.w) X.A X.xe use R (.ref D) C (.ok .next) s') :
  wpAny (model X.prog X.w) X.A (comprehension (.ListComp elt [⟨tg,iter,ifs,0⟩] scope pos) scope X.env ipos (newList []) false (eval iter X.env) use) R X.xe s:=by
 have hcellN:∀ y∈scope.names,y.2≠.cell:=fun y hy=>by
  unfold ag6 at hfr
  rw[C0]at hfr
  have:=hfr y hy
  rw[A1]at this
  simpa using this.1
 refine wpAny_comprehension_free (use:=use) rfl hs hclos hkind hnames (thn (hi pins s σ H _ I h) fun v s1 h1=>thn h1 fun itv s2 h2=>?_)
 obtain⟨it,fp,tn,J,H2,e,I2,T,st2,f2,q⟩:=h2
 subst e
 refine wpAny_newList ?_ (o8 _)
 have hD:H2 s2.heap.objs.size=none:=I2.hok.fresh (c7 _)
 have I3:=I2.lnew (ys:=[]) (its:=[]) (t':=s2.toks) .nil (o8 _)
 obtain⟨W,⟨m0,w0⟩,turn⟩:=q s2.heap.objs.size hD
 have fpl:∀ b∈fp,b<s2.heap.objs.size:=fun b hb=>by
  obtain⟨o,ho,_⟩:=T.obj 0 s2.heap st2 b hb
  exact c9 ho
 refine wpAny_newFunctionEnv hcellN (by intro y hy;cases hy) (fun h1 hns1 hsb1=>?_) hkind
 dsimp only at hns1 hsb1 ⊢
 have e3:s2.heap.push { cls:=.type "list",dict:=none,data:=.seq ([]:List Value).toArray }=s2.heap.push { cls:=.type "list",data:=.seq ([]:List Value).toArray }:=rfl
 generalize hh3:s2.heap.push { cls:=.type "list",dict:=none,data:=.seq ([]:List Value).toArray }=h3 at *
 have I3':Inv X pins σ (upd H2 s2.heap.objs.size (.lst [])) { s2 with heap:=h3,toks:=s2.toks }:=I3
 have size3:h3.objs.size=s2.heap.objs.size+1:=by rw[<- hh3,x6]
 have f3:∀ b∈fp,J1 X pins (upd H2 s2.heap.objs.size (.lst [])) b:=fun b hb=>by
  obtain⟨f0,fr⟩:=f2 b hb
  exact⟨by rw[m5 (i4 (fpl b hb))];exact f0,fr⟩
 have up:∀ b u,h3.get? b=some u->h1.get? b=some u:=fun b u eb=>by
  rw[hsb1.2 b (i4 (c9 eb))]
  exact b9 _ eb
 have I4:Inv (B7 X scope cl N' { s2 with heap:=h3,toks:=s2.toks } (upd H2 s2.heap.objs.size (.lst [])) fp fun _ _=>False) [] (W9 lk σ) (upd H2 s2.heap.objs.size (.lst [])) { s2 with heap:=h1,toks:=s2.toks+([]:List (Str × Value)).length }:=
  as1 (s3:={ s2 with heap:=h3,toks:=s2.toks }) I3' f3 hkind hcl hfr hlk hns1 up fun b hb=>by show b<h3.objs.size;rw[size3];exact u9 (fpl b hb)
 have st4:tn 0 h1:=T.keep 0 s2.heap h1 st2 fun b hb o eb=>up b o (by rw[<- hh3];exact b9 _ eb)
 have hCs:h3.objs.size=(compEnvC scope cl h3.objs.size X.env).locals:=rfl
 have stat:∀ {H':Hp},(∀ b∈fp,H' b=none)->∀ b∈fp,J1 (B7 X scope cl N' { s2 with heap:=h3,toks:=s2.toks } (upd H2 s2.heap.objs.size (.lst [])) fp fun _ _=>False) [] H' b:=fun {H'} hn b hb=>by
  obtain⟨f0,f1,f2',f3',f4,f5⟩:=f3 b hb
  refine⟨hn b hb,?_,fun z=>?_,.inl hb,fun x c ex=>f4 x c (hcl.get ex),fun p hp=>nomatch hp⟩
  ·show b≠h3.objs.size
   rw[size3]
   exact i4 (u9 (fpl b hb))
  ·rcases d3.mp (I3'.stkSub b z) with q | q
   ·exact f1 q
   ·exact f2' q
 have fin:∀ (s':Shared) (σ':St) (H':Hp),Inv (B7 X scope cl N' { s2 with heap:=h3,toks:=s2.toks } (upd H2 s2.heap.objs.size (.lst [])) fp fun _ _=>False) [] σ' H' s'->Q (.ref s2.heap.objs.size) H' ->
   compPost (model X.prog X.w) X.A X.xe use R (.ref s2.heap.objs.size) h3.objs.size (.ok .next) s':=fun s' σ' H' I' q'=>by
  obtain⟨m,hm,_⟩:=id I'.loc
  have I5:Inv X pins σ H' s':=I3'.call' (ch:=fp) I'.os I'.base I'.hok I'.bare fun b hb=>by
   obtain⟨f0,f1,f2',f3',f4,f5⟩:=f3 b hb
   exact⟨f3',f1,f4,f5⟩
  exact hend h3.objs.size s2.heap.objs.size s' H' I5 q' I'.free (D9 I3'.lt) I3'.sz (fun x c ex z=>by
   obtain⟨v',q2⟩:=I3'.cell x c ex
   exact absurd q2.lt (by rw[z];exact u5 _)) (fun p hp z=>absurd (c9 (I3'.pin p hp).1) (by rw[z];exact u5 _)) ⟨m,hm⟩
 have loop:∀ s5:Shared,s5={ s2 with heap:=h1,toks:=s2.toks+([]:List (Str × Value)).length } ->
   codeAny (model X.prog X.w) X.A (.compLoop (.ListComp elt [⟨tg,iter,ifs,0⟩] scope pos) 0 (.ref it) (.ref s2.heap.objs.size) (compEnvC scope cl h3.objs.size X.env)) (compPost (model X.prog X.w) X.A X.xe use R (.ref s2.heap.objs.size) h3.objs.size) s5:=by
  rintro s5 rfl
  refine codeAny_loop rfl (fun n s'=>∃ i xs σ' H',Inv (B7 X scope cl N' { s2 with heap:=h3,toks:=s2.toks } (upd H2 s2.heap.objs.size (.lst [])) fp fun _ _=>False) [] σ' H' s'/\tn i s'.heap/\(∀ b∈fp,H' b=none)/\W i n xs σ' H')
   (fun n s6 hI=>?_) m0 ⟨0,[],W9 lk σ,_,I4,st4,fun b hb=>(f3 b hb).1,w0⟩
  obtain⟨i,xs,σ6,H6,I6,st6,fr6,w6⟩:=hI
  show wpAny _ X.A ((compTurn (.ListComp elt [⟨tg,iter,ifs,0⟩] scope pos) 0 (.ref it) (.ref s2.heap.objs.size) (compEnvC scope cl h3.objs.size X.env)).onRaise (fun x=>do noteFrame x (compEnvC scope cl h3.objs.size X.env);theTreesLotGoes x)) _ _ s6
  refine wpAny_noted ?_
  rw[compTurn_list]
  refine wpAny_bind (wpAny_standAt (wpAny_bind ?_))
  obtain⟨hD6,hw⟩:=turn i n xs σ6 H6 w6
  rcases hw with⟨stop,qn⟩ | ⟨go,hlen,step⟩
  ·refine thn (T.done (B7 X scope cl N' { s2 with heap:=h3,toks:=s2.toks } (upd H2 s2.heap.objs.size (.lst [])) fp fun _ _=>False) rfl rfl rfl hc i [] s6 σ6 H6 _ I6 (stat fr6) st6 stop) fun r s7 ⟨hr,I7⟩=>?_
   subst hr
   exact wpAny_pure (fin s7 σ6 H6 I7 qn)
  ·refine thn (T.item (B7 X scope cl N' { s2 with heap:=h3,toks:=s2.toks } (upd H2 s2.heap.objs.size (.lst [])) fp fun _ _=>False) rfl rfl rfl hc i [] s6 σ6 H6 _ I6 (stat fr6) st6 go) fun r s7 ⟨u,hr,h7⟩=>?_
   subst hr
   refine wpAny_bind (thn h7 fun _ s8 ⟨x,H8,I8,r8,y8,st8,fr8⟩=>?_)
   have I8':=I8.pinned (stat fr8) (T.obj _ _ st8)
   refine wpAny_bind (wpAny_mono (hg _ _ _ _ s8 σ6 H8 x u _ I8' r8 (step x H8 y8)) (fun _ s9 ⟨σ9,H9,I9,q9⟩=>?_) (fun _ _ z=>False.elim z))
   refine wpAny_bind (wpAny_mono (ht _ _ _ _ s9 σ9 H9 _ I9 q9) (fun ok s10 ⟨H10,I10,q10⟩=>?_) (fun _ _ z=>False.elim z))
   have again:∀ {σ':St} {H':Hp} {ys:List V} {s':Shared},Inv (B7 X scope cl N' { s2 with heap:=h3,toks:=s2.toks } (upd H2 s2.heap.objs.size (.lst [])) fp fun _ _=>False) ([]++ad1 fp s8.heap) σ' H' s'->(∃ m',m'<n/\W (i+1) m' ys σ' H') ->
     ∃ m',m'<n/\∃ i xs σ' H',Inv (B7 X scope cl N' { s2 with heap:=h3,toks:=s2.toks } (upd H2 s2.heap.objs.size (.lst [])) fp fun _ _=>False) [] σ' H' s'/\tn i s'.heap/\(∀ b∈fp,H' b=none)/\W i m' xs σ' H':=fun {σ' H' ys s'} I' ⟨m',hm,w'⟩=>by
    refine⟨m',hm,i+1,ys,σ',H',I'.unpinned,T.keep _ _ _ st8 fun b hb o eb=>(I'.pin (b,o) (m7 _ (m7 _ (L6 hb eb)))).1,fun b hb=>?_,w'⟩
    obtain⟨o,eb,_⟩:=T.obj _ _ st8 b hb
    exact(I'.pin (b,o) (m7 _ (m7 _ (L6 hb eb)))).2.1
   cases ok with
   | false =>
    have q10':∃ m',m'<n/\W (i+1) m' xs σ9 H10:=by simpa using q10
    exact wpAny_pure ⟨rfl,again I10 q10'⟩
   | true =>
    rw[if_pos rfl]at q10
    refine wpAny_bind (wpAny_bind (wpAny_mono (he _ _ _ _ s10 σ9 H10 _ I10 q10) (fun y s11 ⟨v11,H11,I11,r11,hD11,q11⟩=>?_) (fun _ _ z=>False.elim z)))
    refine wpAny_bind (wpAny_mono (R0 (X:=B7 X scope cl N' { s2 with heap:=h3,toks:=s2.toks } (upd H2 s2.heap.objs.size (.lst [])) fp fun _ _=>False) _ s11 σ9 H11 (.ref s2.heap.objs.size) [v11] (.ref s2.heap.objs.size) [y] (fun _ H'=>∃ m',m'<n/\W (i+1) m' (xs++[v11]) σ9 H') I11 rfl (.cons r11 .nil) ⟨s2.heap.objs.size,xs,v11,rfl,rfl,hD11,hlen,q11⟩) (fun _ s12 ⟨_,H12,I12,_,q12⟩=>?_) (fun _ _ z=>False.elim z))
    exact wpAny_pure (wpAny_pure ⟨rfl,again I12 q12⟩)
 exact codeAny_compStart_list (loop _ rfl) (T.self X.A 0 _ _ _ st4 (loop _ rfl))
def bI1 (i:Nat)(t:TE):TS:=fun D σ H=>t σ H fun v H1=>D.nx (σ.set i (some v)) H1
theorem an0 {i:Nat}{y:Str}{py:Pos}{elt iter tg:Expr}{ifs:List Expr}{scope:Scope}{pos spos:Pos}{cl:List (Str × Addr)}{N':List Str}{lk:List (Option Nat)}{wi:TI}{g:TG}{tt:TT}{te:TE}
  (hN:X.N.Nodup)(hy:X.N[i]?=some y)(hyl:X.env.scope.names.lookup y=some .local)
  (hsw:swapsWith (.ListComp elt [⟨tg,iter,ifs,0⟩] scope pos) (some (.Name y py)) spos.line X.env=pure true)
  (hc:X.calm=true)(hi:PI X tg iter wi)(hclos:closureFor scope X.env=pure cl)(hkind:scope.kind=.function)
  (hnames:∀ y∈scope.names,y.2=.local->scope.names.lookup y.1=some .local)(hcl:at5 X.env cl)(hfr:ag6 scope.names cl=true)(hlk:bl1 X N' lk scope cl)
  (hg:∀ s3 H3 fp,PG (B7 X scope cl N' s3 H3 fp fun _ _=>False) tg g)(ht:∀ s3 H3 fp,PTs (B7 X scope cl N' s3 H3 fp fun _ _=>False) ifs tt)(he:∀ s3 H3 fp,PE (B7 X scope cl N' s3 H3 fp fun _ _=>False) elt te)
  (hs:∀ x,foldedSetIterable iter X.env x=pure x:=by intro _;rfl):PS X (.Assign [.Name y py] (.ListComp elt [⟨tg,iter,ifs,0⟩] scope pos) spos) (bI1 i (ba9 wi lk g tt te)):=by
 intro pins s σ H D I h
 rw[exec_Assign_Name_used _ _ _ _ hsw]
 refine wpAny_bind (wpAny_standAt (wpAny_bind ?_))
 show wpAny _ X.A (do let _ <- comprehension (.ListComp elt [⟨tg,iter,ifs,0⟩] scope pos) scope X.env _ (newList []) false (eval iter X.env) (some (assign (.Name y py) X.env))) _ _ s
 refine wpAny_bind (thn (aZ1 (use:=some (assign (.Name y py) X.env)) (R:=fun _ s'=>SP X pins D .next s') hc hi hclos hkind hnames hcl hfr hlk hg ht he hs I h
  fun C Dd s' H' I' q' hC hCL hCs hCc hCp ⟨m,hm⟩=>?_) fun _ s' hq=>wpAny_pure (wpAny_pure hq))
 show wpAny _ X.A (assign (.Name y py) X.env (.ref Dd)) _ _ s'
 refine wpAny_assign_Name (av5 (v:=.ref Dd) I' hN hy (.inl hyl) rfl (fun s2 I2 ⟨a,hsb,ha⟩=>?_) (.inr hyl))
 have hCa:C≠a:=by
  rcases ha with z | z
  ·rw[z];exact hCL
  ·exact(hCc y a z).symm
 refine⟨m,hm.sameBut hsb hCa,fun h' hs'=>?_⟩
 obtain⟨h0,g0,d0,t0,o0⟩:=s2
 exact⟨_,H',I2.turned (t':=t0) (it:=C) (fun b o hb eb=>(hs'.2 b hb).trans eb) hC hCL (.inr hCs) hCc hCp,q'⟩
end
end L2
namespace Grf
def S:Nat->(Nat->Int)->Int
 | 0,_=>0
 | n+1,f=>S n f+f n
theorem m6 {f g:Nat->Int}:∀ {n:Nat},(∀ i,i<n->f i=g i)->S n f=S n g
 | 0,_=>rfl
 | n+1,h=>by
  show S n f+f n=S n g+g n
  rw[m6 fun i hi=>h i (by omega),h n (by omega)]
theorem T7 {f g:Nat->Int}:∀ {n:Nat},(∀ i,i<n->f i<=g i)->S n f<=S n g
 | 0,_=>B1 _
 | n+1,h=>by
  have h1:=T7 (n:=n) fun i hi=>h i (by omega)
  have h2:=h n (by omega)
  show S n f+f n<=S n g+g n
  omega
theorem L0 (f g:Nat->Int):∀ n:Nat,S n (fun i=>f i+g i)=S n f+S n g
 | 0=>rfl
 | n+1=>by
  show S n (fun i=>f i+g i)+(f n+g n)=S n f+f n+(S n g+g n)
  rw[L0 f g n]
  omega
theorem B0 (f g:Nat->Int):∀ n:Nat,S n (fun i=>f i - g i)=S n f - S n g
 | 0=>rfl
 | n+1=>by
  show S n (fun i=>f i - g i)+(f n - g n)=S n f+f n - (S n g+g n)
  rw[B0 f g n]
  omega
theorem D6:∀ n:Nat,S n (fun _=>0)=0
 | 0=>rfl
 | n+1=>by
  show S n (fun _=>0)+0=0
  rw[D6 n];rfl
theorem G1 (c:Int):∀ n:Nat,S n (fun _=>c)=(n:Int)*c
 | 0=>by simp[S]
 | n+1=>by
  show S n (fun _=>c)+c=((n+1:Nat):Int)*c
  rw[G1 c n,show ((n+1:Nat):Int)=(n:Int)+1 by omega,Int.add_mul,ac7]
theorem P9 (c:Int)(f:Nat->Int):∀ n:Nat,S n (fun i=>c*f i)=c*S n f
 | 0=>by simp[S]
 | n+1=>by
  show S n (fun i=>c*f i)+c*f n=c*(S n f+f n)
  rw[P9 c f n,aK6]
theorem K9 {f:Nat->Int}{n:Nat}(h:∀ i,i<n->0<=f i):0<=S n f:=by
 have:=T7 (f:=fun _=>0) (g:=f) (n:=n) h
 rw[D6]at this
 exact this
theorem bk8 (f:Nat->Nat->Int)(m:Nat):∀ n:Nat,S n (fun i=>S m (fun j=>f i j))=S m (fun j=>S n (fun i=>f i j))
 | 0=>(D6 m).symm
 | n+1=>by
  show S n (fun i=>S m (fun j=>f i j))+S m (fun j=>f n j)=S m (fun j=>S n (fun i=>f i j)+f n j)
  rw[bk8 f m n,<- L0]
theorem ag3 {n j:Nat}(c:Int)(h:j<n):S n (fun i=>if i=j then c else 0)=c:=by
 induction n with
 | zero=>omega
 | succ n ih =>
  show S n (fun i=>if i=j then c else 0)+(if n=j then c else 0)=c
  by_cases e:n=j
  ·rw[if_pos e,m6 (g:=fun _=>0) fun i hi=>if_neg (by omega),D6];omega
  ·rw[if_neg e,ih (by omega)];omega
theorem P5 {n j:Nat}{f g:Nat->Int}(h:j<n)(hf:∀ i,i<n->i≠j->f i=g i):S n f=S n g+(f j - g j):=by
 have:S n f=S n (fun i=>g i+(if i=j then f j - g j else 0)):=m6 fun i hi=>by
  by_cases e:i=j
  ·rw[if_pos e,e];omega
  ·rw[if_neg e,hf i hi e];omega
 rw[this,L0,ag3 _ h]
theorem aj4 {n j:Nat}{f:Nat->Int}(h:j<n)(hf:∀ i,i<n->0<=f i):f j<=S n f:=by
 have h1:=P5 (f:=f) (g:=fun i=>if i=j then 0 else f i) h (fun i _ e=>by rw[if_neg e])
 have h2:0<=S n (fun i=>if i=j then 0 else f i):=K9 fun i hi=>by
  by_cases e:i=j
  ·rw[if_pos e];exact B1 _
  ·rw[if_neg e];exact hf i hi
 rw[if_pos rfl]at h1
 omega
theorem bu4 {n:Nat}{f g:Nat->Int}(h:S n f<S n g):∃ i,i<n/\f i<g i:=by
 induction n with
 | zero=>exact absurd h (au1 _)
 | succ n ih =>
  by_cases e:f n<g n
  ·exact⟨n,by omega,e⟩
  ·have h':S n f+f n<S n g+g n:=h
   obtain⟨i,hi,h2⟩:=ih (by omega)
   exact⟨i,by omega,h2⟩
def b2 (b:Bool):Int:=if b then 1 else 0
theorem Q7:b2 true=1:=rfl
theorem M3:b2 false=0:=rfl
theorem A4 (b:Bool):0<=b2 b:=by cases b<;>decide
theorem ay5 (b:Bool):b2 b<=1:=by cases b<;>decide
structure Gph (g:Nat->Nat->Bool):Prop where
 sym:∀ i j,g i j=g j i
 irr:∀ i,g i i=false
def deg (n:Nat)(g:Nat->Nat->Bool)(i:Nat):Int:=S n fun j=>b2 (g i j)
def M7 (g:Nat->Nat->Bool)(a b:Nat)(v:Bool):Nat->Nat->Bool:=fun i j=>if (i=a/\j=b)\/(i=b/\j=a) then v else g i j
theorem J7 {g:Nat->Nat->Bool}{a b:Nat}{v:Bool}(h:Gph g)(hab:a≠b):Gph (M7 g a b v) where
 sym:=fun i j=>by
  unfold M7
  by_cases e:(i=a/\j=b)\/(i=b/\j=a)
  ·rw[if_pos e,if_pos (by omega)]
  ·rw[if_neg e,if_neg (by omega)];exact h.sym i j
 irr:=fun i=>by
  unfold M7
  rw[if_neg (by omega)];exact h.irr i
theorem E8 {g:Nat->Nat->Bool}{a b i j:Nat}{v:Bool}(e:¬ ((i=a/\j=b)\/(i=b/\j=a))):M7 g a b v i j=g i j:=if_neg e
theorem az7 {g:Nat->Nat->Bool}{a b:Nat}{v:Bool}:M7 g a b v a b=v:=if_pos (.inl ⟨rfl,rfl⟩)
theorem N3 {n:Nat}{g:Nat->Nat->Bool}{a b:Nat}{v:Bool}(h:Gph g)(hab:a≠b)(ha:a<n)(hb:b<n)(i:Nat):deg n (M7 g a b v) i=deg n g i+(if i=a\/i=b then b2 v - b2 (g a b) else 0):=by
 unfold deg
 by_cases e1:i=a
 ·subst e1
  rw[if_pos (.inl rfl),P5 (g:=fun j=>b2 (g i j)) hb (fun j _ hj=>by show b2 _=_;rw[E8 (by omega)])]
  show _+(b2 (M7 g i b v i b) - _)=_
  rw[az7]
 ·by_cases e2:i=b
  ·subst e2
   rw[if_pos (.inr rfl),P5 (g:=fun j=>b2 (g i j)) ha (fun j _ hj=>by show b2 _=_;rw[E8 (by omega)])]
   show _+(b2 (M7 g a i v i a) - _)=_
   have:M7 g a i v i a=v:=if_pos (.inr ⟨rfl,rfl⟩)
   rw[this,h.sym i a]
  ·rw[if_neg (by omega),m6 (g:=fun j=>b2 (g i j)) fun j _=>by show b2 _=_;rw[E8 (by omega)]]
   omega
end Grf
namespace Thk
open Grf
section
variable {m:Nat} {M L:Int} {c x:Nat->Int}
def sz (m:Nat)(σ:Nat->Bool):Int:=S m fun j=>b2 (σ j)
def fV (m:Nat)(M:Int)(c:Nat->Int)(σ τ:Nat->Bool):Int:=S m (fun j=>(b2 (σ j) - b2 (τ j))*c j) - M*(sz m σ*((m:Int) - 1 - sz m τ))
def Apart (m:Nat)(σ τ:Nat->Bool):Prop:=∀ j,j<m->¬ (σ j=true/\τ j=true)
theorem al1 (u v w c k:Int):(u - v)*(c - k)=(u - w)*c - (v - w)*c - k*(u - v):=by
 rw[V3,L5 k (u - v),<- Int.sub_mul]
 have:u - w - (v - w)=u - v:=by omega
 rw[this]
theorem al2 (u v w c k:Int):(u - v)*(c - k)=(w - v)*c - (w - u)*c - k*(u - v):=by
 rw[V3,L5 k (u - v),<- Int.sub_mul]
 have:w - v - (w - u)=u - v:=by omega
 rw[this]
theorem bx2 (σ σ' τ:Nat->Bool):fV m M c σ' τ=fV m M c σ τ+S m (fun j=>(b2 (σ' j) - b2 (σ j))*(c j - M*((m:Int) - 1 - sz m τ))):=by
 unfold fV
 have e1:S m (fun j=>(b2 (σ' j) - b2 (σ j))*(c j - M*((m:Int) - 1 - sz m τ)))=S m (fun j=>(b2 (σ' j) - b2 (τ j))*c j - (b2 (σ j) - b2 (τ j))*c j - (M*((m:Int) - 1 - sz m τ))*(b2 (σ' j) - b2 (σ j))):=m6 fun j _=>al1 _ _ _ _ _
 rw[e1,B0,B0,P9,B0]
 unfold sz
 have e2:M*((m:Int) - 1 - S m fun j=>b2 (τ j))*((S m fun j=>b2 (σ' j)) - S m fun j=>b2 (σ j))=M*((S m fun j=>b2 (σ' j))*((m:Int) - 1 - S m fun j=>b2 (τ j))) - M*((S m fun j=>b2 (σ j))*((m:Int) - 1 - S m fun j=>b2 (τ j))):=by
  rw[V3,J4,J4,L5 ((m:Int) - 1 - S m fun j=>b2 (τ j)),L5 ((m:Int) - 1 - S m fun j=>b2 (τ j))]
 rw[e2]
 omega
theorem bx1 (σ τ τ':Nat->Bool):fV m M c σ τ'=fV m M c σ τ - S m (fun j=>(b2 (τ' j) - b2 (τ j))*(c j - M*sz m σ)):=by
 unfold fV
 have e1:S m (fun j=>(b2 (τ' j) - b2 (τ j))*(c j - M*sz m σ))=S m (fun j=>(b2 (σ j) - b2 (τ j))*c j - (b2 (σ j) - b2 (τ' j))*c j - (M*sz m σ)*(b2 (τ' j) - b2 (τ j))):=m6 fun j _=>al2 _ _ _ _ _
 rw[e1,B0,B0,P9,B0]
 have e2:M*sz m σ*((S m fun j=>b2 (τ' j)) - S m fun j=>b2 (τ j))=M*(sz m σ*((m:Int) - 1 - sz m τ)) - M*(sz m σ*((m:Int) - 1 - sz m τ')):=by
  rw[<- V3,<- V3,J4]
  congr 2
  unfold sz
  omega
 rw[e2]
 omega
theorem aT5 (σ τ:Nat->Bool)(hM:0<=M):fV m M c σ τ<=S m (fun j=>(c j).natAbs)+M*((m:Int)*(m:Int))+M*(m:Int):=by
 unfold fV
 have s0:0<=sz m σ/\sz m σ<=m:=⟨K9 fun j _=>A4 _,by
  have:S m (fun j=>b2 (σ j))<=S m (fun _=>1):=T7 fun j _=>ay5 _
  rw[G1]at this
  unfold sz
  omega⟩
 have t0:0<=sz m τ/\sz m τ<=m:=⟨K9 fun j _=>A4 _,by
  have:S m (fun j=>b2 (τ j))<=S m (fun _=>1):=T7 fun j _=>ay5 _
  rw[G1]at this
  unfold sz
  omega⟩
 have a:S m (fun j=>(b2 (σ j) - b2 (τ j))*c j)<=S m (fun j=>((c j).natAbs:Int)):=T7 fun j _=>by
  cases σ j<;>cases τ j<;>simp[b2]<;>omega
 have b:-(sz m σ)<=sz m σ*((m:Int) - 1 - sz m τ):=by
  have:sz m σ*(-1)<=sz m σ*((m:Int) - 1 - sz m τ):=K3 (by omega) s0.1
  omega
 have d:M*(-(m:Int))<=M*(sz m σ*((m:Int) - 1 - sz m τ)):=K3 (by omega) hM
 have e:0<=M*((m:Int)*(m:Int)):=aV0 hM (aV0 (by omega) (by omega))
 rw[Int.mul_neg]at d
 omega
theorem bN3 (hM:0<=M){σ τ:Nat->Bool}(h:Apart m σ τ):∃ σ' τ',Apart m σ' τ'/\fV m M c σ τ<=fV m M c σ' τ'/\∀ σ₁ τ₁,Apart m σ₁ τ₁->fV m M c σ₁ τ₁<=fV m M c σ' τ':=by
 obtain⟨N,hN⟩:∃ N:Int,N=S m (fun j=>((c j).natAbs:Int))+M*((m:Int)*(m:Int))+M*(m:Int):=⟨_,rfl⟩
 have key:∀ (n:Nat) (σ τ:Nat->Bool),Apart m σ τ->(N - fV m M c σ τ).toNat=n->∃ σ' τ',Apart m σ' τ'/\fV m M c σ τ<=fV m M c σ' τ'/\∀ σ₁ τ₁,Apart m σ₁ τ₁->fV m M c σ₁ τ₁<=fV m M c σ' τ':=by
  intro n
  induction n using Nat.strongRecOn with
  | _ n ih =>
   intro σ τ ha hn
   by_cases hm:∀ σ₁ τ₁,Apart m σ₁ τ₁->fV m M c σ₁ τ₁<=fV m M c σ τ
   ·exact⟨σ,τ,ha,B1 _,hm⟩
   ·obtain⟨σ₁,h1⟩:=Classical.not_forall.mp hm
    obtain⟨τ₁,h2⟩:=Classical.not_forall.mp h1
    obtain⟨a1,h3⟩:=Classical.not_imp.mp h2
    have b1:=aT5 (m:=m) (c:=c) σ₁ τ₁ hM
    have b0:=aT5 (m:=m) (c:=c) σ τ hM
    rw[<- hN]at b0 b1
    obtain⟨σ',τ',q1,q2,q3⟩:=ih (N - fV m M c σ₁ τ₁).toNat (by omega) σ₁ τ₁ a1 rfl
    exact⟨σ',τ',q1,by omega,q3⟩
 exact key _ σ τ h rfl
end
section
variable {m:Nat} {M L:Int} {c x:Nat->Int}
def Mx (m:Nat)(M:Int)(c:Nat->Int)(σ τ:Nat->Bool):Prop:=Apart m σ τ/\∀ σ₁ τ₁,Apart m σ₁ τ₁->fV m M c σ₁ τ₁<=fV m M c σ τ
def pP (m:Nat)(M:Int)(σ:Nat->Bool):Int:=M*sz m σ
def qQ (m:Nat)(M:Int)(τ:Nat->Bool):Int:=M*((m:Int) - 1 - sz m τ)
def setB (σ:Nat->Bool)(i:Nat)(v:Bool):Nat->Bool:=fun j=>if j=i then v else σ j
theorem aQ5 {σ:Nat->Bool}{i:Nat}{v:Bool}:setB σ i v i=v:=if_pos rfl
theorem az8 {σ:Nat->Bool}{i j:Nat}{v:Bool}(h:j≠i):setB σ i v j=σ j:=if_neg h
theorem bx4 (σ:Nat->Bool)(i:Nat)(v:Bool)(g:Nat->Int)(hi:i<m):S m (fun j=>(b2 (setB σ i v j) - b2 (σ j))*g j)=(b2 v - b2 (σ i))*g i:=by
 rw[P5 (g:=fun _=>0) hi (fun j _ hj=>by rw[az8 hj];simp),D6,aQ5]
 omega
theorem bL7 {σ τ:Nat->Bool}(h:Mx m M c σ τ){j:Nat}(hj:j<m)(hs:σ j=false)(ht:τ j=false):c j<=qQ m M τ:=by
 have a:=h.2 (setB σ j true) τ (fun i hi ⟨u,v⟩=>by
  by_cases e:i=j
  ·subst e;rw[ht]at v;cases v
  ·rw[az8 e]at u;exact h.1 i hi ⟨u,v⟩)
 rw[bx2 σ (setB σ j true) τ,bx4 σ j true _ hj,hs]at a
 unfold qQ
 simp only[Q7,M3]at a
 omega
theorem bQ1 {σ τ:Nat->Bool}(h:Mx m M c σ τ){j:Nat}(hj:j<m)(ht:τ j=true):c j<=pP m M σ:=by
 have a:=h.2 σ (setB τ j false) (fun i hi ⟨u,v⟩=>by
  by_cases e:i=j
  ·subst e;rw[aQ5]at v;cases v
  ·rw[az8 e]at v;exact h.1 i hi ⟨u,v⟩)
 rw[bx1 σ τ (setB τ j false),bx4 τ j false _ hj,ht]at a
 unfold pP
 simp only[Q7,M3]at a
 omega
theorem bd2 {σ σ' τ:Nat->Bool}(h:∀ j,j<m->σ' j≠σ j->c j=qQ m M τ):fV m M c σ' τ=fV m M c σ τ:=by
 rw[bx2 σ σ' τ,m6 (g:=fun _=>0) fun j hj=>?_,D6,bl7]
 by_cases e:σ' j=σ j
 ·rw[e,aC8,O2]
 ·rw[h j hj e];unfold qQ;rw[aC8,J3]
theorem bd1 {σ τ τ':Nat->Bool}(h:∀ j,j<m->τ' j≠τ j->c j=pP m M σ):fV m M c σ τ'=fV m M c σ τ:=by
 rw[bx1 σ τ τ',m6 (g:=fun _=>0) fun j hj=>?_,D6,ah6]
 by_cases e:τ' j=τ j
 ·rw[e,aC8,O2]
 ·rw[h j hj e];unfold pP;rw[aC8,J3]
structure Shr (m:Nat) (M L:Int) (c x:Nat->Int):Prop where
 m1:1<=M
 x0:∀ j,j<m->0<=x j
 xM:∀ j,j<m->x j<=M
 lo:∀ j,j<m->0<x j->L - 1<=c j
 hi:∀ j,j<m->x j<M->c j<=L
 A:∀ σ τ,Apart m σ τ->fV m M c σ τ<=S m fun j=>b2 (σ j)*(M - x j)+b2 (τ j)*x j
 B:∀ σ τ,Apart m σ τ->fV m M c σ τ<=S m fun j=>(1+b2 (σ j) - b2 (τ j))*(M - x j)
 C:∀ σ τ,Apart m σ τ->fV m M c σ τ<=S m fun j=>(1 - b2 (σ j)+b2 (τ j))*x j
def full (M:Int)(x:Nat->Int)(σ:Nat->Bool):Nat->Bool:=fun j=>σ j && decide (x j=M)
theorem bx5 {g:Nat->Int}(h:∀ j,j<m->g j<=0):S m g<=0:=by
 have:=T7 (g:=fun _=>0) h
 rw[D6]at this
 exact this
end
section
variable {m:Nat} {M L:Int} {c x:Nat->Int}
end
section
variable {m:Nat} {M L a:Int} {c x d:Nat->Int}
def Kk (n:Nat)(M:Int)(d:Nat->Int):Prop:=∀ σ τ,Apart n σ τ->fV n M d σ τ<=0
end
end Thk
namespace Grf
theorem an9 {n:Nat}{g:Nat->Nat->Bool}{x y:Nat}(h:Gph g)(hy:y<n)(hxy:x≠y):S n (fun z=>if z=x\/z=y then 0 else b2 (g x z))=deg n g x - b2 (g x y):=by
 unfold deg
 rw[P5 (f:=fun z=>if z=x\/z=y then 0 else b2 (g x z)) (g:=fun z=>b2 (g x z)) hy (fun i _ hi=>?_)]
 ·show _+((if y=x\/y=y then (0:Int) else _) - _)=_
  rw[if_pos (.inr rfl)];omega
 ·show (if i=x\/i=y then (0:Int) else _)=_
  by_cases e:i=x
  ·rw[if_pos (.inl e),e,h.irr];rfl
  ·rw[if_neg (by omega)]
theorem bN2 {n:Nat}{g:Nat->Nat->Bool}{x y:Nat}(h:Gph g)(hx:x<n)(hy:y<n)(hxy:x≠y)(hd:deg n g y<deg n g x):∃ z,z<n/\z≠x/\z≠y/\g x z=true/\g y z=false:=by
 have h1:=an9 h hy hxy
 have h2:=an9 h hx (Ne.symm hxy)
 have h3:S n (fun z=>if z=y\/z=x then 0 else b2 (g y z))<S n (fun z=>if z=x\/z=y then 0 else b2 (g x z)):=by
  rw[h1,h2,h.sym y x];omega
 obtain⟨z,hz,hlt⟩:=bu4 h3
 by_cases e:z=x\/z=y
 ·rw[if_pos (show z=y\/z=x by omega),if_pos e]at hlt
  exact absurd hlt (au1 _)
 ·rw[if_neg (show ¬ (z=y\/z=x) by omega),if_neg e]at hlt
  refine⟨z,hz,by omega,by omega,?_⟩
  cases h4:g x z<;>cases h5:g y z<;>rw[h4,h5]at hlt<;>simp_all [b2]
theorem find3 {n:Nat}{g:Nat->Nat->Bool}{x y v:Nat}(h:Gph g)(hx:x<n)(hy:y<n)(hv:v<n)(hxy:x≠y)(hxv:x≠v)(hyv:y≠v)(hd:deg n g y<=deg n g x)(h1:g y v=true)(h2:g x v=false) :
  ∃ z,z<n/\z≠x/\z≠y/\z≠v/\g x z=true/\g y z=false:=by
 have e1:=an9 h hy hxy
 have e2:=an9 h hx (Ne.symm hxy)
 have f1:=P5 (f:=fun z=>if z=v then 0 else (if z=x\/z=y then 0 else b2 (g x z))) (g:=fun z=>if z=x\/z=y then 0 else b2 (g x z)) hv (fun i _ hi=>by show (if i=v then (0:Int) else _)=_;rw[if_neg hi])
 have f2:=P5 (f:=fun z=>if z=v then 0 else (if z=y\/z=x then 0 else b2 (g y z))) (g:=fun z=>if z=y\/z=x then 0 else b2 (g y z)) hv (fun i _ hi=>by show (if i=v then (0:Int) else _)=_;rw[if_neg hi])
 have g1:(if v=v then (0:Int) else (if v=x\/v=y then 0 else b2 (g x v))) - (if v=x\/v=y then 0 else b2 (g x v))=0:=by
  rw[if_pos rfl,if_neg (by omega),h2];rfl
 have g2:(if v=v then (0:Int) else (if v=y\/v=x then 0 else b2 (g y v))) - (if v=y\/v=x then 0 else b2 (g y v)) = -1:=by
  rw[if_pos rfl,if_neg (by omega),h1];rfl
 rw[g1,e1]at f1
 rw[g2,e2,h.sym y x]at f2
 have h3:S n (fun z=>if z=v then 0 else (if z=y\/z=x then 0 else b2 (g y z)))<S n (fun z=>if z=v then 0 else (if z=x\/z=y then 0 else b2 (g x z))):=by
  rw[f1,f2];omega
 obtain⟨z,hz,hlt⟩:=bu4 h3
 by_cases ev:z=v
 ·rw[if_pos ev,if_pos ev]at hlt
  exact absurd hlt (au1 _)
 ·rw[if_neg ev,if_neg ev]at hlt
  by_cases e:z=x\/z=y
  ·rw[if_pos (show z=y\/z=x by omega),if_pos e]at hlt
   exact absurd hlt (au1 _)
  ·rw[if_neg (show ¬ (z=y\/z=x) by omega),if_neg e]at hlt
   refine⟨z,hz,by omega,by omega,ev,?_⟩
   cases h4:g x z<;>cases h5:g y z<;>rw[h4,h5]at hlt<;>simp_all [b2]
def au7 (g:Nat->Nat->Bool)(a b c d:Nat):Nat->Nat->Bool:=M7 (M7 (M7 (M7 g a b false) c d false) a d true) c b true
structure Ex (g:Nat->Nat->Bool) (a b c d:Nat):Prop where
 ab:a≠b
 ac:a≠c
 ad:a≠d
 bc:b≠c
 bd:b≠d
 cd:c≠d
 t1:g a b=true
 t2:g c d=true
 n1:g a d=false
 n2:g c b=false
theorem bj0 {g:Nat->Nat->Bool}{a b c d:Nat}(h:Gph g)(x:Ex g a b c d):Gph (au7 g a b c d):=
 J7 (J7 (J7 (J7 h x.ab) x.cd) x.ad) (Ne.symm x.bc)
theorem bj1 {n:Nat}{g:Nat->Nat->Bool}{a b c d:Nat}(h:Gph g)(x:Ex g a b c d)(ha:a<n)(hb:b<n)(hc:c<n)(hd:d<n)(i:Nat):deg n (au7 g a b c d) i=deg n g i:=by
 obtain⟨ab,ac,ad,bc,bd,cd,t1,t2,n1,n2⟩:=x
 unfold au7
 have h1:=J7 (v:=false) h ab
 have h2:=J7 (v:=false) h1 cd
 have h3:=J7 (v:=true) h2 ad
 rw[N3 h3 (Ne.symm bc) hc hb,N3 h2 ad ha hd,N3 h1 cd hc hd,N3 h ab ha hb]
 have v1:M7 g a b false c d=true:=by rw[E8 (by omega)];exact t2
 have v2:M7 (M7 g a b false) c d false a d=false:=by rw[E8 (by omega),E8 (by omega)];exact n1
 have v3:M7 (M7 (M7 g a b false) c d false) a d true c b=false:=by rw[E8 (by omega),E8 (by omega),E8 (by omega)];exact n2
 rw[t1,v1,v2,v3,Q7,M3]
 by_cases ea:i=a
 ·subst ea
  rw[if_pos (.inl rfl),if_neg (by omega),if_pos (.inl rfl),if_neg (by omega)];omega
 ·by_cases eb:i=b
  ·subst eb
   rw[if_pos (.inr rfl),if_neg (by omega),if_neg (by omega),if_pos (.inr rfl)];omega
  ·by_cases ec:i=c
   ·subst ec
    rw[if_neg (by omega),if_pos (.inl rfl),if_neg (by omega),if_pos (.inl rfl)];omega
   ·by_cases ed:i=d
    ·subst ed
     rw[if_neg (by omega),if_pos (.inr rfl),if_pos (.inr rfl),if_neg (by omega)];omega
    ·rw[if_neg (by omega),if_neg (by omega),if_neg (by omega),if_neg (by omega)];omega
theorem aI5 {g:Nat->Nat->Bool}{a b c d:Nat}(x:Ex g a b c d)(j:Nat):au7 g a b c d a j=if j=b then false else if j=d then true else g a j:=by
 obtain⟨ab,ac,ad,bc,bd,cd,t1,t2,n1,n2⟩:=x
 unfold au7
 rw[E8 (by omega)]
 by_cases e:j=d
 ·subst e
  rw[az7,if_neg (by omega),if_pos rfl]
 ·rw[E8 (by omega),E8 (by omega),if_neg e]
  by_cases e2:j=b
  ·subst e2
   rw[az7,if_pos rfl]
  ·rw[E8 (by omega),if_neg e2]
theorem bM8 {n v:Nat}{N:Nat->Bool}(hv:v<n)(hNv:N v=false):∀ (m:Nat) (g:Nat->Nat->Bool),Gph g->S n (fun j=>b2 (N j))=deg n g v ->
  (∀ x y,x<n->y<n->N x=true->N y=false->y≠v->deg n g y<=deg n g x)->S n (fun j=>b2 (N j && !g v j))=(m:Int) ->
  ∃ g',Gph g'/\(∀ i,i<n->deg n g' i=deg n g i)/\∀ j,j<n->g' v j=N j:=by
 intro m
 induction m with
 | zero =>
  intro g h hs hd hm
  refine⟨g,h,fun _ _=>rfl,fun j hj=>?_⟩
  have all:∀ j,j<n->N j=true->g v j=true:=fun j hj hN=>by
   have:=aj4 (f:=fun j=>b2 (N j && !g v j)) hj (fun i _=>A4 _)
   rw[hm]at this
   cases hg:g v j with
   | true=>rfl
   | false =>
    have e:b2 (N j && !g v j)=1:=by rw[hN,hg];rfl
    have t:b2 (N j && !g v j)<=0:=this
    omega
  have dif:S n (fun j=>b2 (g v j) - b2 (N j))=0:=by rw[B0];unfold deg at hs;omega
  have pos:∀ i,i<n->0<=b2 (g v i) - b2 (N i):=fun i hi=>by
   cases hN:N i with
   | true=>rw[all i hi hN];decide
   | false=>have:=A4 (g v i);rw[M3];omega
  have:=aj4 (f:=fun j=>b2 (g v j) - b2 (N j)) hj pos
  rw[dif]at this
  have p:=pos j hj
  cases hN:N j with
  | true=>exact all j hj hN
  | false =>
   cases hg:g v j with
   | false=>rfl
   | true =>
    have t:b2 (g v j) - b2 (N j)<=0:=this
    rw[hN,hg,Q7,M3]at t
    omega
 | succ m ih =>
  intro g h hs hd hm
  obtain⟨x,hx,hlt⟩:∃ x,x<n/\(fun _=>(0:Int)) x<b2 (N x && !g v x):=bu4 (f:=fun _=>0) (g:=fun j=>b2 (N j && !g v j)) (by rw[D6,hm];omega)
  have hNx:N x=true/\g v x=false:=by
   cases h1:N x<;>cases h2:g v x<;>rw[h1,h2]at hlt<;>simp_all [b2]
  obtain⟨y,hy,hlt2⟩:∃ y,y<n/\b2 (N y)<b2 (g v y):=by
   by_cases hc:∃ y,y<n/\b2 (N y)<b2 (g v y)
   ·exact hc
   ·have pos:∀ i,i<n->0<=b2 (N i) - b2 (g v i):=fun i hi=>by
     have:¬ b2 (N i)<b2 (g v i):=fun z=>hc ⟨i,hi,z⟩
     omega
    have t:=aj4 (f:=fun j=>b2 (N j) - b2 (g v j)) hx pos
    have e:S n (fun j=>b2 (N j) - b2 (g v j))=0:=by rw[B0];unfold deg at hs;omega
    rw[e,show b2 (N x) - b2 (g v x)=1 by rw[hNx.1,hNx.2];rfl]at t
    omega
  have hNy:N y=false/\g v y=true:=by
   cases h1:N y<;>cases h2:g v y<;>rw[h1,h2]at hlt2<;>simp_all [b2]
  have xv:x≠v:=fun e=>by rw[e,hNv]at hNx;exact absurd hNx.1 (by decide)
  have yv:y≠v:=fun e=>by rw[e,h.irr]at hNy;exact absurd hNy.2 (by decide)
  have xy:x≠y:=fun e=>by rw[e,hNy.1]at hNx;exact absurd hNx.1 (by decide)
  obtain⟨z,hz,zx,zy,zv,h1,h2⟩:=find3 h hx hy hv xy xv yv (hd x y hx hy hNx.1 hNy.1 yv) (by rw[h.sym];exact hNy.2) (by rw[h.sym];exact hNx.2)
  have ex:Ex g v y z x:=⟨Ne.symm yv,Ne.symm zv,Ne.symm xv,Ne.symm zy,Ne.symm xy,zx,hNy.2,by rw[h.sym];exact h1,hNx.2,by rw[h.sym];exact h2⟩
  have dg:=bj1 h ex hv hy hz hx
  obtain⟨g',k1,k2,k3⟩:=ih (au7 g v y z x) (bj0 h ex) (by rw[dg];exact hs) (fun a b ha hb n1 n2 n3=>by rw[dg,dg];exact hd a b ha hb n1 n2 n3) (by
   have:=P5 (f:=fun j=>b2 (N j && !au7 g v y z x v j)) (g:=fun j=>b2 (N j && !g v j)) hx (fun j _ hj=>by
    show b2 (N j && !au7 g v y z x v j)=_
    rw[aI5 ex]
    by_cases e:j=y
    ·rw[if_pos e,e,hNy.1];rfl
    ·rw[if_neg e,if_neg hj])
   rw[this,hm]
   have e1:au7 g v y z x v x=true:=by rw[aI5 ex,if_neg xy,if_pos rfl]
   show _+(b2 (N x && !au7 g v y z x v x) - b2 (N x && !g v x))=_
   rw[e1,hNx.1,hNx.2]
   show ((m+1:Nat):Int)+(0 - 1)=_
   omega)
  exact⟨g',k1,fun i hi=>by rw[k2 i hi,dg],k3⟩
end Grf
namespace Grf
def cnt (n:Nat)(a:Nat->Bool):Int:=S n fun i=>b2 (a i)
def sm (n:Nat)(a:Nat->Bool)(d:Nat->Int):Int:=S n fun i=>if a i=true then d i else 0
def put (a:Nat->Bool)(j:Nat)(v:Bool):Nat->Bool:=fun i=>if i=j then v else a i
theorem ai1 {a:Nat->Bool}{j:Nat}{v:Bool}:put a j v j=v:=if_pos rfl
theorem T6 {a:Nat->Bool}{i j:Nat}{v:Bool}(h:i≠j):put a j v i=a i:=if_neg h
theorem W8 {n j:Nat}{a:Nat->Bool}{v:Bool}(h:j<n):cnt n (put a j v)=cnt n a+(b2 v - b2 (a j)):=by
 unfold cnt
 rw[P5 (g:=fun i=>b2 (a i)) h (fun i _ hi=>by show b2 (put a j v i)=_;rw[T6 hi])]
 show _+(b2 (put a j v j) - _)=_
 rw[ai1]
theorem ad0 {n j:Nat}{a:Nat->Bool}{v:Bool}{d:Nat->Int}(h:j<n):sm n (put a j v) d=sm n a d+((if v=true then d j else 0) - (if a j=true then d j else 0)):=by
 unfold sm
 rw[P5 (g:=fun i=>if a i=true then d i else 0) h (fun i _ hi=>by show (if put a j v i=true then d i else 0)=_;rw[T6 hi])]
 show _+((if put a j v j=true then d j else 0) - _)=_
 rw[ai1]
theorem J8 (n:Nat)(a:Nat->Bool):0<=cnt n a:=K9 fun i _=>A4 _
theorem af7 {n:Nat}{a b:Nat->Bool}(h:∀ i,a i=true->b i=false):cnt n a+cnt n b<=n:=by
 unfold cnt
 rw[<- L0]
 have:=T7 (f:=fun i=>b2 (a i)+b2 (b i)) (g:=fun _=>1) (n:=n) (fun i _=>by
  show b2 (a i)+b2 (b i)<=1
  cases ha:a i with
  | true=>rw[h i ha];decide
  | false=>have:=ay5 (b i);rw[M3];omega)
 rw[G1]at this
 omega
theorem aB5 {n j:Nat}{a b:Nat->Bool}(h:∀ i,a i=true->b i=false)(hj:j<n)(ha:a j=false)(hb:b j=false):cnt n a+cnt n b+1<=n:=by
 have:=af7 (n:=n) (a:=put a j true) (b:=b) (fun i hi=>by
  by_cases e:i=j
  ·rw[e];exact hb
  ·rw[T6 e]at hi;exact h i hi)
 rw[W8 hj,ha,Q7,M3]at this
 omega
theorem bj8 {n:Nat}{a:Nat->Bool}(h:∀ i,i<n->a i=false):cnt n a=0:=by
 unfold cnt
 rw[m6 (g:=fun _=>0) fun i hi=>by rw[h i hi];rfl]
 exact D6 n
theorem V5 {n:Nat}{a:Nat->Bool}{d:Nat->Int}(h:∀ i,i<n->a i=false):sm n a d=0:=by
 unfold sm
 rw[m6 (g:=fun _=>0) fun i hi=>by rw[h i hi];rfl]
 exact D6 n
theorem bc6 {n j:Nat}{a:Nat->Bool}{d:Nat->Int}(hd:∀ i,i<n->0<=d i)(hj:j<n)(ha:a j=true):d j<=sm n a d:=by
 have:=aj4 (f:=fun i=>if a i=true then d i else 0) hj (fun i hi=>by
  cases a i with
  | true=>exact hd i hi
  | false=>exact B1 _)
 have e:(if a j=true then d j else 0)=d j:=if_pos ha
 unfold sm
 show d j<=_
 rw[<- e]
 exact this
theorem aa6 {n:Nat}{a:Nat->Bool}{d:Nat->Int}(hd:∀ i,i<n->0<=d i):0<=sm n a d:=K9 fun i hi=>by
 cases a i with
 | true=>exact hd i hi
 | false=>exact B1 _
theorem bz7 {n i j:Nat}{a:Nat->Bool}{d:Nat->Int}(hd:∀ i,i<n->0<=d i)(hi:i<n)(hj:j<n)(hij:i≠j)(h1:a i=true)(h2:a j=true):d i+d j<=sm n a d:=by
 have e:=ad0 (d:=d) (a:=a) (v:=false) hi
 rw[h1,if_pos rfl,if_neg (by decide)]at e
 have:=bc6 (a:=put a i false) hd hj (by rw[T6 (Ne.symm hij)];exact h2)
 omega
theorem bJ5 {n:Nat}{a:Nat->Bool}{d:Nat->Int}{m:Int}(h:∀ i,i<n->a i=true->d i<=m):sm n a d<=cnt n a*m:=by
 have e:cnt n a*m=S n (fun i=>m*b2 (a i)):=by rw[P9,L5];rfl
 rw[e]
 refine T7 fun i hi=>?_
 cases ha:a i with
 | true=>rw[if_pos rfl,Q7,C5];exact h i hi ha
 | false=>rw[if_neg (by decide),M3,J3];exact B1 _
theorem bJ6 {n:Nat}{a:Nat->Bool}{d:Nat->Int}{m:Int}(h:∀ i,i<n->a i=true->d i=m):sm n a d=cnt n a*m:=by
 have e:cnt n a*m=S n (fun i=>m*b2 (a i)):=by rw[P9,L5];rfl
 rw[e]
 refine m6 fun i hi=>?_
 cases ha:a i with
 | true=>rw[if_pos rfl,Q7,C5];exact h i hi ha
 | false=>rw[if_neg (by decide),M3,J3]
theorem ao0 {n:Nat}{a:Nat->Bool}(h:cnt n a≠0):∃ i,i<n/\a i=true:=by
 by_cases hc:∃ i,i<n/\a i=true
 ·exact hc
 ·exact absurd (bj8 fun i hi=>by
   cases ha:a i with
   | false=>rfl
   | true=>exact absurd ⟨i,hi,ha⟩ hc) h
theorem cover {n:Nat}{a b:Nat->Bool}{d:Nat->Int}(h:∀ i,a i=true->b i=false)(hc:cnt n a+cnt n b=n):sm n a d+sm n b d=S n d:=by
 unfold sm
 rw[<- L0]
 refine m6 fun i hi=>?_
 cases ha:a i with
 | true=>rw[h i ha,if_pos rfl,if_neg (by decide)];omega
 | false =>
  cases hb:b i with
  | true=>rw[if_neg (by decide),if_pos rfl];omega
  | false=>have:=aB5 h hi ha hb;omega
def ay9 (n:Nat)(d:Nat->Int):Prop:=∀ a b:Nat->Bool,(∀ i,a i=true->b i=false)->sm n a d<=cnt n a*((n:Int) - 1 - cnt n b)+sm n b d
theorem bt7 (k:Int):∃ q,k*(k - 1)=2*q:=by
 rcases Int.emod_two_eq k with h | h
 ·exact⟨(k / 2)*(k - 1),by
   have:k=2*(k / 2):=by omega
   rw[<- J4,<- this]⟩
 ·exact⟨k*((k - 1) / 2),by
   have:k - 1=2*((k - 1) / 2):=by omega
   rw[Int.mul_left_comm,<- this]⟩
theorem bj5 {a b:Nat->Bool}(h:∀ i,a i=true->b i=false)(x y:Nat):∀ i,put a x false i=true->put b y false i=false:=fun i hi=>by
 by_cases e:i=x
 ·rw[e,ai1]at hi;cases hi
 ·rw[T6 e]at hi
  by_cases e2:i=y
  ·rw[e2,ai1]
  ·rw[T6 e2];exact h i hi
theorem bh3 {n t u:Nat}{d:Nat->Int}(K:ay9 n d)(hd:∀ i,i<n->0<=d i)(ev:∃ q,S n d=2*q)(ht:t<n)(hu:u<n)(htu:t≠u)(hup:0<d u)(hmax:∀ i,i<n->d i<=d t)(hmin:∀ i,i<n->0<d i->d u<=d i) :
  ay9 n (fun i=>d i - (if i=t then 1 else 0) - (if i=u then 1 else 0)):=by
 intro a b hab
 have hdt:d u<=d t:=hmax u hu
 have lower:∀ c:Nat->Bool,sm n c (fun i=>d i - (if i=t then 1 else 0) - (if i=u then 1 else 0))=sm n c d - b2 (c t) - b2 (c u):=fun c=>by
  have e:sm n c (fun i=>d i - (if i=t then 1 else 0) - (if i=u then 1 else 0))=S n (fun i=>(if c i=true then d i else 0) - (if i=t then b2 (c t) else 0) - (if i=u then b2 (c u) else 0)):=m6 fun i hi=>by
   show (if c i=true then (d i - (if i=t then 1 else 0) - (if i=u then 1 else 0)) else 0)=_
   by_cases e1:i=t
   ·subst e1
    rw[if_pos rfl,if_pos rfl,if_neg htu,if_neg htu]
    cases c i with
    | true=>rfl
    | false=>rfl
   ·rw[if_neg e1,if_neg e1]
    by_cases e2:i=u
    ·subst e2
     rw[if_pos rfl,if_pos rfl]
     cases c i with
     | true=>rfl
     | false=>rfl
    ·rw[if_neg e2,if_neg e2]
     cases c i with
     | true=>rw[if_pos rfl,if_pos rfl]
     | false=>rw[if_neg (by decide),if_neg (by decide)];omega
  rw[e,B0,B0,ag3 _ ht,ag3 _ hu]
  rfl
 rw[lower a,lower b]
 have K0:=K a b hab
 have ka:=J8 n a
 have kb:=J8 n b
 have kr:=af7 (n:=n) hab
 have sb:=aa6 (a:=b) hd
 have ba:=fun x=>A4 (a x)
 have ab:=fun x=>ay5 (a x)
 generalize hk:cnt n a=k at *
 generalize hl:cnt n b=l at *
 have pq:k*((n:Int) - 1 - l)=k*(n:Int) - k - k*l:=by rw[V3,V3,C5]
 have rem:∀ s,s<n->a s=true->b t=true->sm n a d+((n:Int) - k - l)+d t - d s<=k*((n:Int) - 1 - l)+sm n b d:=fun s hs has hbt=>by
  have:=K (put a s false) (put b t false) (bj5 hab s t)
  rw[ad0 hs,ad0 ht,W8 hs,W8 ht,has,hbt,hk,hl]at this
  simp only[if_true,Q7,M3,j8,if_false]at this
  have e:(k+(0 - 1))*((n:Int) - 1 - (l+(0 - 1)))=k*((n:Int) - 1 - l)+k - (n:Int)+l:=by grind
  rw[e]at this
  omega
 have mov:b t=true->a t=false->sm n a d+d t<=(k+1)*((n:Int) - l)+sm n b d - d t:=fun hbt hat=>by
  have dj:∀ i,put a t true i=true->put b t false i=false:=fun i hi=>by
   by_cases e:i=t
   ·rw[e,ai1]
   ·rw[T6 e]at hi;rw[T6 e];exact hab i hi
  have:=K (put a t true) (put b t false) dj
  rw[ad0 ht,ad0 ht,W8 ht,W8 ht,hat,hbt,hk,hl]at this
  simp only[if_true,Q7,M3,j8,if_false]at this
  have e:(k+(1 - 0))*((n:Int) - 1 - (l+(0 - 1)))=(k+1)*((n:Int) - l):=by grind
  rw[e]at this
  omega
 have nota:∀ i,b i=true->a i=false:=fun i hi=>by
  cases h:a i with
  | false=>rfl
  | true=>rw[hab i h]at hi;cases hi
 have empty:k=0->sm n a d=0:=fun hk0=>V5 fun i hi=>by
  cases h:a i with
  | false=>rfl
  | true =>
   have:=aj4 (f:=fun i=>b2 (a i)) hi (fun i _=>A4 _)
   have e:b2 (a i)=1:=by rw[h];rfl
   unfold cnt at hk
   have t:b2 (a i)<=S n (fun i=>b2 (a i)):=this
   omega
 cases hbt:b t with
 | false =>
  cases hbu:b u with
  | false=>have h1:=ba t;have h2:=ba u;rw[M3];omega
  | true =>
   rw[Q7,M3]
   cases hat:a t with
   | true=>have h2:=ba u;rw[Q7];omega
   | false =>
    rw[nota u hbu,M3]
    have dub:=bc6 hd hu hbu
    have out:=aB5 hab ht hat hbt
    rw[hk,hl]at out
    by_cases c1:k+1<=d u
    ·have:=K a (put b u false) (fun i hi=>by
      by_cases e:i=u
      ·rw[e,ai1]
      ·rw[T6 e];exact hab i hi)
     rw[ad0 hu,W8 hu,hbu,hk,hl]at this
     simp only[if_true,Q7,M3,j8,if_false]at this
     have e:k*((n:Int) - 1 - (l+(0 - 1)))=k*((n:Int) - 1 - l)+k:=by grind
     rw[e]at this
     omega
    ·by_cases c2:(n:Int) - l<=d t
     ·have:=K (put a t true) b (fun i hi=>by
       by_cases e:i=t
       ·rw[e];exact hbt
       ·rw[T6 e]at hi;exact hab i hi)
      rw[ad0 ht,W8 ht,hat,hk,hl]at this
      simp only[if_true,Q7,M3,j8,if_false]at this
      have e:(k+(1 - 0))*((n:Int) - 1 - l)=k*((n:Int) - 1 - l)+((n:Int) - 1 - l):=by grind
      rw[e]at this
      omega
     ·have h1:=bJ5 (a:=a) (d:=d) (m:=(n:Int) - 1 - l) (n:=n) (fun i hi _=>by have:=hmax i hi;omega)
      rw[hk]at h1
      omega
 | true =>
  have hat:=nota t hbt
  rw[hat,Q7,M3]
  cases hbu:b u with
  | false =>
   rw[M3]
   cases hau:a u with
   | true=>rw[Q7];omega
   | false =>
    rw[M3]
    have out:=aB5 hab hu hau hbu
    rw[hk,hl]at out
    by_cases k0:k=0
    ·have h1:=empty k0
     have h2:=bc6 hd ht hbt
     rw[h1,k0,O2]
     omega
    ·obtain⟨s,hs,has⟩:=ao0 (n:=n) (a:=a) (by rw[hk];exact k0)
     have h1:=rem s hs has hbt
     have h2:=hmax s hs
     omega
  | true =>
   rw[nota u hbu,Q7,M3]
   have two:=bz7 hd ht hu htu hbt hbu
   by_cases k0:k=0
   ·have h1:=empty k0
    rw[h1,k0,O2]
    omega
   ·-- slack even where there is no place besides
    have par:(n:Int) - k - l=0->sm n a d<k*((n:Int) - 1 - l)+sm n b d->sm n a d+2<=k*((n:Int) - 1 - l)+sm n b d:=fun r0 hlt=>by
     obtain⟨q,hq⟩:=ev
     have cv:=cover (d:=d) hab (by rw[hk,hl];omega)
     obtain⟨q2,hq2⟩:=bt7 k
     have e:k*((n:Int) - 1 - l)=k*(k - 1):=by rw[show (n:Int) - 1 - l=k - 1 by omega]
     rw[e]at hlt ⊢
     omega
    by_cases hex:∃ s,s<n/\a s=true/\d s<d t
    ·obtain⟨s,hs,has,hlt⟩:=hex
     have h1:=rem s hs has hbt
     by_cases r0:(n:Int) - k - l=0
     ·have:=par r0 (by omega);omega
     ·omega
    ·have all:∀ i,i<n->a i=true->d i=d t:=fun i hi hai=>by
      have h1:=hmax i hi
      have h2:¬ d i<d t:=fun z=>hex ⟨i,hi,hai,z⟩
      omega
     obtain⟨s,hs,has⟩:=ao0 (n:=n) (a:=a) (by rw[hk];exact k0)
     have h1:=rem s hs has hbt
     have h2:=all s hs has
     have mv:=mov hbt hat
     have sa:=bJ6 (a:=a) (d:=d) (n:=n) all
     rw[hk]at sa
     generalize d t=m at *
     by_cases r2:2<=(n:Int) - k - l
     ·omega
     ·by_cases r1:(n:Int) - k - l=1
      ·have e1:(n:Int) - 1 - l=k:=by omega
       have e2:(n:Int) - l=k+1:=by omega
       rw[e1]
       rw[e2,sa]at mv
       rw[sa]
       have x1:(k+1)*(k+1)=k*k+2*k+1:=by grind
       rw[x1]at mv
       by_cases c1:m<=k
       ·have:=K3 c1 ka
        omega
       ·by_cases c2:m=k+1
        ·rw[c2,aK6,C5];omega
        ·omega
      ·have r0:(n:Int) - k - l=0:=by omega
       have e1:(n:Int) - 1 - l=k - 1:=by omega
       have e2:(n:Int) - l=k:=by omega
       have pr:=par r0
       rw[e1]at pr ⊢
       rw[e2,sa]at mv
       rw[sa]at pr ⊢
       have x1:(k+1)*k=k*k+k:=by grind
       have x2:k*(k - 1)=k*k - k:=by grind
       rw[x1]at mv
       rw[x2]at pr ⊢
       by_cases c1:m<=k - 1
       ·have:=K3 c1 ka
        rw[x2]at this
        omega
       ·by_cases c2:m=k
        ·subst c2
         have:=pr (by omega)
         omega
        ·omega
end Grf
namespace Grf
theorem aO5 {p:Nat->Prop}{f:Nat->Int}:∀ {n:Nat},(∃ i,i<n/\p i)->∃ u,u<n/\p u/\∀ i,i<n->p i->f u<=f i:=by
 intro n
 induction n with
 | zero=>rintro⟨i,h,_⟩;omega
 | succ n ih =>
  rintro⟨i,hi,pi⟩
  by_cases h:∃ i,i<n/\p i
  ·obtain⟨u,hu,pu,hm⟩:=ih h
   by_cases c:p n/\f n<f u
   ·refine⟨n,by omega,c.1,fun j hj pj=>?_⟩
    by_cases e:j=n
    ·rw[e];exact B1 _
    ·have:=hm j (by omega) pj;have:=c.2;omega
   ·refine⟨u,by omega,pu,fun j hj pj=>?_⟩
    by_cases e:j=n
    ·subst e
     have:¬ f j<f u:=fun z=>c ⟨pj,z⟩
     omega
    ·exact hm j (by omega) pj
  ·have e:i=n:=by
    by_cases e:i=n
    ·exact e
    ·exact absurd ⟨i,by omega,pi⟩ h
   subst e
   refine⟨i,by omega,pi,fun j hj pj=>?_⟩
   by_cases e:j=i
   ·rw[e];exact B1 _
   ·exact absurd ⟨j,by omega,pj⟩ h
theorem bF9 {p:Nat->Prop}{f:Nat->Int}{n:Nat}(h:∃ i,i<n/\p i):∃ u,u<n/\p u/\∀ i,i<n->p i->f i<=f u:=by
 obtain⟨u,h1,h2,h3⟩:=aO5 (f:=fun i=>-f i) h
 exact⟨u,h1,h2,fun i hi pi=>by have:=h3 i hi pi;omega⟩
theorem bi4:∀ (m n:Nat) (d:Nat->Int),(∀ i,i<n->0<=d i)->ay9 n d->S n d=2*(m:Int)->∃ g,Gph g/\∀ i,i<n->deg n g i=d i:=by
 intro m
 induction m with
 | zero =>
  intro n d hd K hs
  refine⟨fun _ _=>false,⟨fun _ _=>rfl,fun _=>rfl⟩,fun i hi=>?_⟩
  have h1:=aj4 hi hd
  have h2:=hd i hi
  have h3:deg n (fun _ _=>false) i=0:=D6 n
  rw[h3]
  have:S n d=0:=by rw[hs];rfl
  omega
 | succ m ih =>
  intro n d hd K hs
  have hpos:∃ i,i<n/\0<d i:=by
   have:=bu4 (f:=fun _=>0) (g:=d) (n:=n) (by rw[D6,hs];omega)
   exact this
  obtain⟨t,ht,htp,hmax0⟩:=bF9 (p:=fun i=>0<d i) (f:=d) hpos
  have hmax:∀ i,i<n->d i<=d t:=fun i hi=>by
   by_cases c:0<d i
   ·exact hmax0 i hi c
   ·omega
  have cb:cnt n (fun i=>decide (i≠t/\d i<=0))+cnt n (fun i=>decide (i≠t/\0<d i))+1=n:=by
   unfold cnt
   have e:=ag3 (n:=n) (j:=t) 1 ht
   rw[<- L0]
   have:S n (fun i=>(b2 (decide (i≠t/\d i<=0))+b2 (decide (i≠t/\0<d i)))+(if i=t then 1 else 0))=(n:Int)*1:=by
    rw[<- G1]
    refine m6 fun i hi=>?_
    by_cases e1:i=t
    ·subst e1;simp[b2]
    ·by_cases c:0<d i
     ·have c':¬ d i<=0:=by omega
      simp[b2,e1,c,c']
     ·have c':d i<=0:=by omega
      simp[b2,e1,c,c']
   rw[L0,e]at this
   show S n (fun i=>b2 (decide (i≠t/\d i<=0))+b2 (decide (i≠t/\0<d i)))+1=_
   omega
  have ca:cnt n (fun i=>decide (i=t))=1:=by
   unfold cnt
   rw[m6 (g:=fun i=>if i=t then 1 else 0) fun i _=>by by_cases e:i=t<;>simp[b2,e]]
   exact ag3 1 ht
  have sa:sm n (fun i=>decide (i=t)) d=d t:=by
   unfold sm
   rw[m6 (g:=fun i=>if i=t then d t else 0) fun i _=>by by_cases e:i=t<;>simp[e]]
   exact ag3 _ ht
  have sb:sm n (fun i=>decide (i≠t/\d i<=0)) d=0:=by
   unfold sm
   rw[m6 (g:=fun _=>0) fun i hi=>by
    by_cases e:i≠t/\d i<=0
    ·have:=hd i hi
     rw[if_pos (decide_eq_true e)]
     have:=e.2
     omega
    ·rw[if_neg (show ¬ decide (i≠t/\d i<=0)=true by rw[decide_eq_false e];decide)]]
   exact D6 n
  have kt:=K (fun i=>decide (i=t)) (fun i=>decide (i≠t/\d i<=0)) (fun i hi=>by
   have:i=t:=of_decide_eq_true hi
   exact decide_eq_false fun z=>z.1 this)
  rw[ca,sa,sb,ac7]at kt
  have hoth:∃ i,i<n/\(i≠t/\0<d i):=by
   obtain⟨i,hi,h⟩:=ao0 (n:=n) (a:=fun i=>decide (i≠t/\0<d i)) (by omega)
   exact⟨i,hi,of_decide_eq_true h⟩
  obtain⟨u,hu,⟨hut,hup⟩,hmin0⟩:=aO5 (p:=fun i=>i≠t/\0<d i) (f:=d) hoth
  have hmin:∀ i,i<n->0<d i->d u<=d i:=fun i hi hp=>by
   by_cases e:i=t
   ·rw[e];exact hmax u hu
   ·exact hmin0 i hi ⟨e,hp⟩
  have htu:t≠u:=Ne.symm hut
  have K':=bh3 K hd ⟨_,hs⟩ ht hu htu hup hmax hmin
  obtain⟨g,hg,dg⟩:=ih n _ (fun i hi=>by
   show 0<=d i - (if i=t then 1 else 0) - (if i=u then 1 else 0)
   by_cases e1:i=t
   ·subst e1;rw[if_pos rfl,if_neg htu];omega
   ·by_cases e2:i=u
    ·subst e2;rw[if_neg e1,if_pos rfl];omega
    ·rw[if_neg e1,if_neg e2];have:=hd i hi;omega) K' (by
   rw[B0,B0,ag3 _ ht,ag3 _ hu,hs];omega)
  cases hgu:g t u with
  | false =>
   refine⟨M7 g t u true,J7 hg htu,fun i hi=>?_⟩
   rw[N3 hg htu ht hu,dg i hi,hgu,Q7,M3]
   show d i - (if i=t then 1 else 0) - (if i=u then 1 else 0)+_=_
   by_cases e1:i=t
   ·subst e1;rw[if_pos rfl,if_neg htu,if_pos (.inl rfl)];omega
   ·by_cases e2:i=u
    ·subst e2;rw[if_neg e1,if_pos rfl,if_pos (.inr rfl)];omega
    ·rw[if_neg e1,if_neg e2,if_neg (by omega)];omega
  | true =>
   obtain⟨s,hs1,hst,hsp,hgs⟩:∃ s,s<n/\s≠t/\0<d s/\g t s=false:=by
    by_cases hc:∃ s,s<n/\s≠t/\0<d s/\g t s=false
    ·exact hc
    ·have le:cnt n (fun i=>decide (i≠t/\0<d i))<=deg n g t:=T7 fun i hi=>by
      show b2 (decide (i≠t/\0<d i))<=b2 (g t i)
      by_cases e:i≠t/\0<d i
      ·have:g t i=true:=by
        cases h:g t i with
        | true=>rfl
        | false=>exact absurd ⟨i,hi,e.1,e.2,h⟩ hc
       rw[this,decide_eq_true e];exact B1 _
      ·rw[decide_eq_false e];exact A4 _
     have dt:=dg t ht
     have dt':deg n g t=d t - 1 - 0:=by
      rw[dt]
      show d t - (if t=t then 1 else 0) - (if t=u then 1 else 0)=_
      rw[if_pos rfl,if_neg htu]
     omega
   have su:s≠u:=fun e=>by rw[e,hgu]at hgs;cases hgs
   have ds:deg n g s=d s:=by
    rw[dg s hs1]
    show d s - (if s=t then 1 else 0) - (if s=u then 1 else 0)=_
    rw[if_neg hst,if_neg su];omega
   have du:deg n g u=d u - 1:=by
    rw[dg u hu]
    show d u - (if u=t then 1 else 0) - (if u=u then 1 else 0)=_
    rw[if_neg hut,if_pos rfl];omega
   obtain⟨z,hz,zs,zu,h1,h2⟩:=bN2 hg hs1 hu su (by have:=hmin s hs1 hsp;omega)
   have zt:z≠t:=fun e=>by rw[e,hg.sym,hgs]at h1;cases h1
   have g1:=J7 (v:=false) hg (Ne.symm zs)
   have g2:=J7 (v:=true) g1 (Ne.symm hst)
   refine⟨M7 (M7 (M7 g s z false) t s true) u z true,J7 g2 (Ne.symm zu),fun i hi=>?_⟩
   rw[N3 g2 (Ne.symm zu) hu hz,N3 g1 (Ne.symm hst) ht hs1,N3 hg (Ne.symm zs) hs1 hz,dg i hi]
   have v1:M7 g s z false t s=false:=by rw[E8 (by omega)];exact hgs
   have v2:M7 (M7 g s z false) t s true u z=false:=by rw[E8 (by omega),E8 (by omega)];exact h2
   rw[h1,v1,v2,Q7,M3]
   show d i - (if i=t then 1 else 0) - (if i=u then 1 else 0)+_+_+_=_
   by_cases e1:i=t
   ·subst e1;rw[if_pos rfl,if_neg htu,if_neg (by omega),if_pos (.inl rfl),if_neg (by omega)];omega
   ·by_cases e2:i=u
    ·subst e2;rw[if_neg e1,if_pos rfl,if_neg (by omega),if_neg (by omega),if_pos (.inl rfl)];omega
    ·rw[if_neg e1,if_neg e2]
     by_cases e3:i=s
     ·subst e3;rw[if_pos (.inl rfl),if_pos (.inr rfl),if_neg (by omega)];omega
     ·by_cases e4:i=z
      ·subst e4;rw[if_pos (.inr rfl),if_neg (by omega),if_pos (.inr rfl)];omega
      ·rw[if_neg (by omega),if_neg (by omega),if_neg (by omega)];omega
theorem bh2 {n:Nat}{g:Nat->Nat->Bool}{d:Nat->Int}(hg:Gph g)(dg:∀ i,i<n->deg n g i=d i):ay9 n d:=by
 intro a b hab
 have e1:sm n a d=S n (fun i=>S n (fun j=>if a i=true then (if b j=true then b2 (g i j) else 0) else 0))+S n (fun i=>S n (fun j=>if a i=true then (if b j=true then 0 else b2 (g i j)) else 0)):=by
  rw[<- L0]
  refine m6 fun i hi=>?_
  rw[<- L0]
  cases a i with
  | true =>
   rw[if_pos rfl,<- dg i hi]
   refine m6 fun j _=>?_
   cases b j with
   | true=>simp
   | false=>simp
  | false =>
   rw[if_neg (by decide),m6 (g:=fun _=>0) fun j _=>by simp,D6]
 have e2:S n (fun i=>S n (fun j=>if a i=true then (if b j=true then b2 (g i j) else 0) else 0))<=sm n b d:=by
  rw[bk8]
  refine T7 fun j hj=>?_
  cases hb:b j with
  | true =>
   rw[if_pos rfl,<- dg j hj]
   refine T7 fun i _=>?_
   show (if a i=true then (if true=true then b2 (g i j) else 0) else 0)<=b2 (g j i)
   rw[if_pos rfl,hg.sym j i]
   cases a i with
   | true=>rw[if_pos rfl];exact B1 _
   | false=>rw[if_neg (by decide)];exact A4 _
  | false =>
   rw[if_neg (by decide)]
   have:S n (fun i=>if a i=true then (if false=true then b2 (g i j) else 0) else 0)=0:=by
    rw[m6 (g:=fun _=>0) fun i _=>by simp]
    exact D6 n
   rw[this]
   exact B1 _
 have e3:S n (fun i=>S n (fun j=>if a i=true then (if b j=true then 0 else b2 (g i j)) else 0))<=cnt n a*((n:Int) - 1 - cnt n b):=by
  have:cnt n a*((n:Int) - 1 - cnt n b)=S n (fun i=>((n:Int) - 1 - cnt n b)*b2 (a i)):=by rw[P9,L5];rfl
  rw[this]
  refine T7 fun i hi=>?_
  cases ha:a i with
  | true =>
   rw[Q7,C5]
   have hbi:=hab i ha
   have t:S n (fun j=>if true=true then (if b j=true then 0 else b2 (g i j)) else 0)<=S n (fun j=>(1 - b2 (b j)) - (if j=i then 1 else 0)):=T7 fun j hj=>by
    show (if true=true then (if b j=true then 0 else b2 (g i j)) else 0)<=_
    rw[if_pos rfl]
    by_cases e:j=i
    ·subst e
     rw[hbi,if_neg (by decide),hg.irr,if_pos rfl];decide
    ·rw[if_neg e]
     cases b j with
     | true=>rw[if_pos rfl];decide
     | false=>rw[if_neg (by decide)];have:=ay5 (g i j);rw[M3];omega
   rw[B0,B0,ag3 _ hi,G1,C5]at t
   unfold cnt
   omega
  | false =>
   rw[M3,J3,m6 (g:=fun _=>0) fun j _=>by simp,D6]
   exact B1 _
 omega
end Grf
namespace Grf
def mnf (r x:Int):Int:=if r<x then r else x
theorem aA5 (r x:Int):mnf r x<=x:=by unfold mnf;split<;>omega
theorem an3 (r x:Int):mnf r x<=r:=by unfold mnf;split<;>omega
theorem aq7 {r x y:Int}(h:x<=y):mnf r x<=mnf r y:=by unfold mnf;split<;>split<;>omega
def roomF (n:Nat)(d:Nat->Int)(A:Nat->Bool):Int:=cnt n A*(cnt n A - 1)+S n (fun i=>if A i=true then 0 else mnf (cnt n A) (d i)) - sm n A d
def Top (n:Nat)(d:Nat->Int)(A:Nat->Bool):Prop:=∀ i j,i<n->j<n->A i=true->A j=false->d j<=d i
theorem ao3 {n:Nat}{d:Nat->Int}{A a:Nat->Bool}{φ:Int->Int}(hφ:∀ x y,x<=y->φ x<=φ y)(ht:Top n d A)(hc:cnt n a=cnt n A):sm n a (fun i=>φ (d i))<=sm n A (fun i=>φ (d i)):=by
 by_cases h0:cnt n A=0
 ·have za:∀ i,i<n->a i=false:=fun i hi=>by
   cases h:a i with
   | false=>rfl
   | true =>
    have:=aj4 (f:=fun i=>b2 (a i)) hi (fun i _=>A4 _)
    have e:b2 (a i)=1:=by rw[h];rfl
    have t:b2 (a i)<=cnt n a:=this
    omega
  have zA:∀ i,i<n->A i=false:=fun i hi=>by
   cases h:A i with
   | false=>rfl
   | true =>
    have:=aj4 (f:=fun i=>b2 (A i)) hi (fun i _=>A4 _)
    have e:b2 (A i)=1:=by rw[h];rfl
    have t:b2 (A i)<=cnt n A:=this
    omega
  rw[V5 za,V5 zA]
  exact B1 _
 ·obtain⟨m,hm,hAm,hmin⟩:=aO5 (p:=fun i=>A i=true) (f:=d) (ao0 h0)
  have key:S n (fun i=>(if a i=true then φ (d i) else 0) - (if A i=true then φ (d i) else 0))<=S n (fun i=>φ (d m)*b2 (a i) - φ (d m)*b2 (A i)):=T7 fun i hi=>by
   cases ha:a i with
   | true =>
    cases hA:A i with
    | true=>rw[if_pos rfl];omega
    | false =>
     rw[if_pos rfl,if_neg (by decide),Q7,M3,C5,J3]
     have:=hφ _ _ (ht m i hm hi hAm hA)
     omega
   | false =>
    cases hA:A i with
    | true =>
     rw[if_pos rfl,if_neg (by decide),Q7,M3,C5,J3]
     have:=hφ _ _ (hmin i hi hA)
     omega
    | false=>rw[if_neg (by decide)];omega
  rw[B0,B0,P9,P9]at key
  have e:φ (d m)*S n (fun i=>b2 (a i))=φ (d m)*S n (fun i=>b2 (A i)):=by
   show φ (d m)*cnt n a=φ (d m)*cnt n A
   rw[hc]
  show S n (fun i=>if a i=true then φ (d i) else 0)<=S n (fun i=>if A i=true then φ (d i) else 0)
  omega
theorem aN4 {n:Nat}{d:Nat->Int}(hd:∀ i,i<n->0<=d i)(h:∀ r:Nat,1<=r->r<=n->∃ A,cnt n A=r/\Top n d A/\0<=roomF n d A):ay9 n d:=by
 intro a b hab
 have k0:=J8 n a
 have kr:=af7 (n:=n) hab
 have kb:=J8 n b
 by_cases hz:cnt n a=0
 ·have za:∀ i,i<n->a i=false:=fun i hi=>by
   cases h:a i with
   | false=>rfl
   | true =>
    have:=aj4 (f:=fun i=>b2 (a i)) hi (fun i _=>A4 _)
    have e:b2 (a i)=1:=by rw[h];rfl
    have t:b2 (a i)<=cnt n a:=this
    omega
  have:=aa6 (a:=b) hd
  rw[V5 za,hz,O2]
  omega
 ·obtain⟨A,hc,ht,r1⟩:=h (cnt n a).toNat (by omega) (by omega)
  have hcA:cnt n A=cnt n a:=by omega
  have r2:=ao3 (φ:=fun x=>x+mnf (cnt n a) x) (fun x y hxy=>by have:=aq7 (r:=cnt n a) hxy;omega) ht hcA.symm
  have sp:∀ c:Nat->Bool,sm n c (fun i=>d i+mnf (cnt n a) (d i))=sm n c d+S n (fun i=>mnf (cnt n a) (d i)) - S n (fun i=>if c i=true then 0 else mnf (cnt n a) (d i)):=fun c=>by
   unfold sm
   rw[<- L0,<- B0]
   refine m6 fun i _=>?_
   show (if c i=true then d i+mnf (cnt n a) (d i) else 0)=(if c i=true then d i else 0)+mnf (cnt n a) (d i) - (if c i=true then 0 else mnf (cnt n a) (d i))
   cases c i with
   | true=>rw[if_pos rfl,if_pos rfl,if_pos rfl];omega
   | false=>rw[if_neg (by decide),if_neg (by decide),if_neg (by decide)];omega
  rw[sp a,sp A]at r2
  unfold roomF at r1
  rw[hcA]at r1
  have low:S n (fun i=>if a i=true then 0 else mnf (cnt n a) (d i))<=sm n b d+cnt n a*((n:Int) - cnt n a - cnt n b):=by
   have e:cnt n a*((n:Int) - cnt n a - cnt n b)=S n (fun i=>cnt n a*(1 - b2 (a i) - b2 (b i))):=by
    rw[P9,B0,B0,G1,C5];rfl
   rw[e]
   unfold sm
   rw[<- L0]
   refine T7 fun i hi=>?_
   cases ha:a i with
   | true =>
    have hb:=hab i ha
    rw[if_pos rfl,hb,if_neg (by decide),Q7,M3]
    simp
   | false =>
    rw[if_neg (by decide),M3]
    cases b i with
    | true =>
     rw[if_pos rfl,Q7]
     have:=aA5 (cnt n a) (d i)
     simp
     exact this
    | false =>
     rw[if_neg (by decide),M3]
     have:=an3 (cnt n a) (d i)
     simp
     exact this
  have x:cnt n a*((n:Int) - 1 - cnt n b)=cnt n a*(cnt n a - 1)+cnt n a*((n:Int) - cnt n a - cnt n b):=by grind
  rw[x]
  omega
theorem aM0 {n:Nat}{d:Nat->Int}(K:ay9 n d)(A:Nat->Bool):0<=roomF n d A:=by
 have k:=K A (fun i=>!A i && decide (d i<cnt n A)) (fun i hi=>by simp[hi])
 have e:S n (fun i=>if A i=true then 0 else mnf (cnt n A) (d i))=sm n (fun i=>!A i && decide (d i<cnt n A)) d+cnt n A*((n:Int) - cnt n A - cnt n (fun i=>!A i && decide (d i<cnt n A))):=by
  have e1:cnt n A*((n:Int) - cnt n A - cnt n (fun i=>!A i && decide (d i<cnt n A)))=S n (fun i=>cnt n A*(1 - b2 (A i) - b2 (!A i && decide (d i<cnt n A)))):=by
   rw[P9,B0,B0,G1,C5];rfl
  rw[e1]
  unfold sm
  rw[<- L0]
  refine m6 fun i hi=>?_
  show (if A i=true then 0 else mnf (cnt n A) (d i))=(if (!A i && decide (d i<cnt n A))=true then d i else 0)+cnt n A*(1 - b2 (A i) - b2 (!A i && decide (d i<cnt n A)))
  cases hA:A i with
  | true=>simp[b2]
  | false =>
   generalize cnt n A=r
   by_cases c:d i<r
   ·rw[decide_eq_true c]
    simp[b2,mnf]
    omega
   ·rw[decide_eq_false c]
    simp[b2,mnf]
    omega
 unfold roomF
 rw[e]
 have x:cnt n A*((n:Int) - 1 - cnt n (fun i=>!A i && decide (d i<cnt n A)))=cnt n A*(cnt n A - 1)+cnt n A*((n:Int) - cnt n A - cnt n (fun i=>!A i && decide (d i<cnt n A))):=by grind
 rw[x]at k
 omega
theorem bj6 {g:Nat->Nat->Bool}(hg:Gph g):∀ n:Nat,∃ q,S n (deg n g)=2*q:=by
 intro n
 induction n with
 | zero=>exact⟨0,rfl⟩
 | succ n ih =>
  obtain⟨q,hq⟩:=ih
  refine⟨q+S n (fun i=>b2 (g i n)),?_⟩
  show S n (deg (n+1) g)+deg (n+1) g n=_
  have e1:S n (deg (n+1) g)=S n (deg n g)+S n (fun i=>b2 (g i n)):=by rw[<- L0];rfl
  have e2:deg (n+1) g n=S n (fun i=>b2 (g i n)):=by
   show S n (fun j=>b2 (g n j))+b2 (g n n)=_
   rw[hg.irr,M3,m6 (g:=fun i=>b2 (g i n)) fun i _=>by rw[hg.sym]]
   omega
  rw[e1,e2,hq]
  omega
end Grf
namespace Thk
open Grf
section
variable {n:Nat} {M:Int} {d:Nat->Int}
def M8 (n:Nat)(M:Int)(d:Nat->Int)(A:Nat->Bool):Int:=M*(cnt n A*(cnt n A - 1))+S n (fun i=>if A i=true then 0 else mnf (M*cnt n A) (d i)) - sm n A d
theorem aT6 (σ τ:Nat->Bool):fV n M d σ τ=sm n σ d - sm n τ d - M*(cnt n σ*((n:Int) - 1 - cnt n τ)):=by
 unfold fV sm
 rw[<- B0]
 congr 1
 refine m6 fun j _=>?_
 cases σ j<;>cases τ j<;>simp[b2]
theorem aR3 (s t:Int):M*(s*((n:Int) - 1 - t))=M*(s*(s - 1))+(M*s)*((n:Int) - s - t):=by
 rw[J4,<- aK6,<- aK6]
 congr 2
 omega
theorem bs3 (hM:0<=M)(hd:∀ i,i<n->0<=d i)(h:∀ r:Nat,1<=r->r<=n->∃ A,cnt n A=r/\Top n d A/\0<=M8 n M d A):Kk n M d:=by
 intro a0 b hab0
 rw[aT6]
 let a:Nat->Bool:=fun i=>a0 i && !b i
 have ha0:∀ i,i<n->a i=a0 i:=fun i hi=>by
  show (a0 i && !b i)=a0 i
  cases e:a0 i<;>cases e':b i<;>first | rfl | exact absurd ⟨e,e'⟩ (hab0 i hi)
 have hab:∀ i,a i=true->b i=false:=fun i hi=>by
  have hi:(a0 i && !b i)=true:=hi
  cases e:b i
  ·rfl
  ·rw[e]at hi;simp at hi
 have ec:cnt n a0=cnt n a:=m6 fun i hi=>by rw[ha0 i hi]
 have es:sm n a0 d=sm n a d:=m6 fun i hi=>by rw[ha0 i hi]
 rw[ec,es]
 have k0:=J8 n a
 have kr:=af7 (n:=n) hab
 have kb:=J8 n b
 by_cases hz:cnt n a=0
 ·have za:∀ i,i<n->a i=false:=fun i hi=>by
   cases h:a i with
   | false=>rfl
   | true =>
    have:=aj4 (f:=fun i=>b2 (a i)) hi (fun i _=>A4 _)
    have e:b2 (a i)=1:=by rw[h];rfl
    have t:b2 (a i)<=cnt n a:=this
    omega
  have:=aa6 (a:=b) hd
  rw[V5 za,hz,O2,J3]
  omega
 ·obtain⟨A,hc,ht,r1⟩:=h (cnt n a).toNat (by omega) (by omega)
  have hcA:cnt n A=cnt n a:=by omega
  have r2:=ao3 (φ:=fun x=>x+mnf (M*cnt n a) x) (fun x y hxy=>by have:=aq7 (r:=M*cnt n a) hxy;omega) ht hcA.symm
  have sp:∀ c:Nat->Bool,sm n c (fun i=>d i+mnf (M*cnt n a) (d i))=sm n c d+S n (fun i=>mnf (M*cnt n a) (d i)) - S n (fun i=>if c i=true then 0 else mnf (M*cnt n a) (d i)):=fun c=>by
   unfold sm
   rw[<- L0,<- B0]
   refine m6 fun i _=>?_
   cases c i<;>simp
  rw[sp a,sp A]at r2
  unfold M8 at r1
  rw[hcA]at r1
  have low:S n (fun i=>if a i=true then 0 else mnf (M*cnt n a) (d i))<=sm n b d+(M*cnt n a)*((n:Int) - cnt n a - cnt n b):=by
   have e:(M*cnt n a)*((n:Int) - cnt n a - cnt n b)=S n (fun i=>(M*cnt n a)*(1 - b2 (a i) - b2 (b i))):=by
    rw[P9,B0,B0,G1,C5];rfl
   rw[e]
   unfold sm
   rw[<- L0]
   refine T7 fun i hi=>?_
   have l1:=aA5 (M*cnt n a) (d i)
   have l2:=an3 (M*cnt n a) (d i)
   cases ha:a i with
   | true=>rw[hab i ha];simp[b2]
   | false=>cases b i<;>simp[b2]<;>assumption
  rw[aR3]
  omega
theorem bo2 (K:Kk n M d)(A:Nat->Bool):0<=M8 n M d A:=by
 have k:=K A (fun i=>!A i && decide (d i<M*cnt n A)) (fun i _ ⟨u,v⟩=>by simp[u]at v)
 rw[aT6,aR3]at k
 have e:S n (fun i=>if A i=true then 0 else mnf (M*cnt n A) (d i))=sm n (fun i=>!A i && decide (d i<M*cnt n A)) d+(M*cnt n A)*((n:Int) - cnt n A - cnt n (fun i=>!A i && decide (d i<M*cnt n A))):=by
  have e1:(M*cnt n A)*((n:Int) - cnt n A - cnt n (fun i=>!A i && decide (d i<M*cnt n A)))=S n (fun i=>(M*cnt n A)*(1 - b2 (A i) - b2 (!A i && decide (d i<M*cnt n A)))):=by
   rw[P9,B0,B0,G1,C5];rfl
  rw[e1]
  unfold sm
  rw[<- L0]
  refine m6 fun i hi=>?_
  show (if A i=true then 0 else mnf (M*cnt n A) (d i))=(if (!A i && decide (d i<M*cnt n A))=true then d i else 0)+(M*cnt n A)*(1 - b2 (A i) - b2 (!A i && decide (d i<M*cnt n A)))
  cases hA:A i with
  | true=>simp[b2]
  | false =>
   generalize M*cnt n A=r
   by_cases c:d i<r
   ·rw[decide_eq_true c]
    simp[b2,mnf]
    omega
   ·rw[decide_eq_false c]
    simp[b2,mnf]
    omega
 unfold M8
 rw[e]
 omega
structure Thw (M:Int) (g:Nat->Nat->Int):Prop where
 sym:∀ i j,g i j=g j i
 dia:∀ i,g i i=0
 lo:∀ i j,0<=g i j
 hi:∀ i j,g i j<=M
end
end Thk
namespace Web
def mn (r x:Int):Int:=if r<x then r else x
theorem ae0:∀ a b:List Int,(a++b).sum=a.sum+b.sum
 | [],b=>by simp
 | x::a,b=>by rw[bH5,D3,D3,ae0 a b,Int.add_assoc]
theorem ad9:∀ a:List Int,a.reverse.sum=a.sum
 | []=>rfl
 | x::a=>by rw[List.reverse_cons,ae0,ad9 a,D3,D3,List.sum_nil];omega
def up2 (ns:List Int):List Int:=PySem.W.sortI ns
theorem am6 (ns:List Int):(up2 ns).length=ns.length:=(PySem.W.sortI_perm ns).length_eq
theorem bo4 {zs ns:List Int}(hp:zs.Perm ns)(hs:zs.Pairwise (·<=·)):zs=up2 ns:=PySem.W.eq_sortI hp hs
theorem aT4 {zs ns:List Int}(hp:zs.Perm ns)(hs:zs.Pairwise (·≥·)):zs=(up2 ns).reverse:=by
 have h:zs.reverse=up2 ns:=PySem.W.eq_sortI ((List.reverse_perm zs).trans hp) (by rw[List.pairwise_reverse];exact hs)
 rw[<- h,List.reverse_reverse]
def part (m:Nat)(r:Int)(g:List Int):Int:=((g.take m).map (mn r)).sum - (g.drop m).sum
def F2 (ns:List Int)(r:Nat):Int:=(r:Int)*((r:Int) - 1)+part (ns.length - r) r (up2 ns)
theorem bp3 {m i:Nat}{r x:Int}{g:List Int}(h:i<m)(hx:g[i]?=some x):part m r (g.take (i+1))=part m r (g.take i)+mn r x:=by
 have hl:(g.take i).length<=i:=List.length_take_le ..
 have hl2:(g.take i++[x]).length<=m:=by rw[p9,ah0];omega
 unfold part
 rw[x9,hx,am5,j0 hl2,ad5 hl2,j0 (p5 hl (S3 h)),ad5 (p5 hl (S3 h)),i5,ae0]
 simp
theorem bp4 {m i:Nat}{r x:Int}{g:List Int}(h:m<=i)(hx:g[i]?=some x):part m r (g.take (i+1))=part m r (g.take i) - x:=by
 have hi:i<g.length:=by
  rcases q0 i g.length with h | h
  ·exact h
  ·rw[j6 h]at hx;cases hx
 have hl:m<=(g.take i).length:=by rw[q8];omega
 unfold part
 rw[x9,hx,am5,List.take_append_of_le_length hl,List.drop_append_of_le_length hl,ae0,List.sum_singleton]
 omega
theorem be8 (m:Nat)(r:Int):part m r []=0:=by unfold part;simp
theorem aM1 {ns zs:List Int}{r:Nat}(e:zs=(up2 ns).reverse):(r:Int)*((r:Int) - 1)+((zs.drop r).map (mn r)).sum - (zs.take r).sum=F2 ns r:=by
 unfold F2 part
 rw[e,bG7,bG8,bH6,ad9,ad9,am6]
 omega
end Web
namespace Web
inductive Wl where
 | below (p:Nat) | odd | wall (r:Nat) | free
 deriving DecidableEq
def AllP (ns:List Int):Prop:=∀ (j:Nat) (x:Int),ns[j]?=some x->0<=x
def aO8 (ns:List Int):Wl->Prop
 | .below p=>(∃ x,ns[p]?=some x/\x<0)/\∀ (j:Nat) (x:Int),j<p->ns[j]?=some x->0<=x
 | .odd=>AllP ns/\ns.sum % 2=1
 | .wall r=>AllP ns/\¬ ns.sum % 2=1/\1<=r/\r<=ns.length/\F2 ns r<0/\∀ k,1<=k->k<r->0<=F2 ns k
 | .free=>AllP ns/\¬ ns.sum % 2=1/\∀ k,1<=k->k<=ns.length->0<=F2 ns k
theorem bm6 {ns:List Int}{w u:Wl}(h:aO8 ns w)(g:aO8 ns u):w=u:=by
 cases w with
 | below p =>
  obtain⟨⟨x,hx,hx0⟩,hp⟩:=h
  have no:¬ AllP ns:=fun a=>by have:=a p x hx;omega
  cases u with
  | below q =>
   obtain⟨⟨y,hy,hy0⟩,hq⟩:=g
   rcases G5 p q with l | l | l
   ·have:=hq p x l hx;omega
   ·rw[l]
   ·have:=hp q y l hy;omega
  | odd=>exact absurd g.1 no
  | wall r=>exact absurd g.1 no
  | free=>exact absurd g.1 no
 | odd =>
  cases u with
  | below q =>
   obtain⟨⟨y,hy,hy0⟩,hq⟩:=g
   have:=h.1 q y hy;omega
  | odd=>rfl
  | wall r=>exact absurd h.2 g.2.1
  | free=>exact absurd h.2 g.2.1
 | wall r =>
  obtain⟨a,b,r1,r2,r3,r4⟩:=h
  cases u with
  | below q =>
   obtain⟨⟨y,hy,hy0⟩,hq⟩:=g
   have:=a q y hy;omega
  | odd=>exact absurd g.2 b
  | wall s =>
   obtain⟨_,_,s1,s2,s3,s4⟩:=g
   rcases G5 r s with l | l | l
   ·have:=s4 r r1 l;omega
   ·rw[l]
   ·have:=r4 s s1 l;omega
  | free=>have:=g.2.2 r r1 r2;omega
 | free =>
  cases u with
  | below q =>
   obtain⟨⟨y,hy,hy0⟩,hq⟩:=g
   have:=h.1 q y hy;omega
  | odd=>exact absurd g.2 h.2.1
  | wall s =>
   obtain⟨_,_,s1,s2,s3,s4⟩:=g
   have:=h.2.2 s s1 s2;omega
  | free=>rfl
end Web
namespace Web
open L2
def rng (n:Nat):List Int:=(ac0 0 n).map fun k:Nat=>(k:Int)
theorem L3 {n:Nat}{x:Int}:x∈rng n↔0<=x/\x<n:=by
 unfold rng
 constructor
 ·intro h
  obtain⟨k,hk,rfl⟩:=l5.mp h
  have:=au9.mp hk
  omega
 ·intro h
  exact l5.mpr ⟨x.toNat,au9.mpr ⟨by omega,by omega⟩,by omega⟩
theorem S4 (n:Nat):(rng n).length=n:=by unfold rng;rw[b7,at8]
theorem O0 (n:Nat):(rng n).Nodup:=by
 unfold rng
 refine List.Pairwise.map _ (fun a b h=>?_) (List.nodup_range' (step:=1) (by decide))
 intro e
 exact h (by omega)
def rest (zs:List Int)(p:Int):List Int:=zs.filter fun x=>decide (x≠p)
theorem ap5 {zs:List Int}{p x:Int}:x∈rest zs p↔x∈zs/\x≠p:=by unfold rest;rw[C6,decide_eq_true_iff]
theorem aF2 {n:Nat}{zs:List Int}{p:Int}(hp:zs.Perm (rng n))(h0:0<=p)(h1:p<n):(rest zs p).length=n - 1:=by
 have nd:zs.Nodup:=hp.nodup_iff.mpr (O0 n)
 have hm:p∈zs:=hp.mem_iff.mpr (L3.mpr ⟨h0,h1⟩)
 have e:rest zs p=zs.erase p:=by
  unfold rest
  rw[nd.erase_eq_filter]
  congr 1
  funext x
  by_cases h:x=p<;>simp[h]
 rw[e,aV1 hm,hp.length_eq,S4]
def S6 (ns es:List Int)(i:Nat):Int:=if (i:Int)∈es then ns.getD i 0 - 1 else ns.getD i 0
def N7 (ns:List Int)(p:Nat)(es:List Int):List Int:=((k8 ns.length).filter fun i=>decide (i≠p)).map (S6 ns es)
open Grf (S b2 Gph deg cnt sm Top roomF)
theorem aU7 (f:Nat->Int):∀ n:Nat,S n f=((k8 n).map f).sum
 | 0=>rfl
 | n+1=>by
  rw[v7,i5,ae0,<- aU7 f n]
  show S n f+f n=_+(f n+0)
  omega
theorem map_getD (φ:Int->Int)(xs:List Int):(k8 xs.length).map (fun i=>φ (xs.getD i 0))=xs.map φ:=by
 refine L9 fun i=>?_
 rw[l4,l4]
 rcases q0 i xs.length with h | h
 ·rw[C4 h,c8 h]
  show some (φ (xs.getD i 0))=some (φ xs[i])
  rw[c5,c8 h]
  rfl
 ·rw[j6 h,j6 (by rw[o6];exact h)]
  rfl
theorem as9 (φ:Int->Int)(xs:List Int):S xs.length (fun i=>φ (xs.getD i 0))=(xs.map φ).sum:=by rw[aU7,map_getD]
theorem bk9 (xs:List Int):S xs.length (fun i=>xs.getD i 0)=xs.sum:=by
 have:=as9 (fun x=>x) xs
 rw[az1]at this
 exact this
theorem aJ9 {n:Nat}{f:Nat->Int}:∀ {L:List Int},L.Nodup->(∀ z∈L,0<=z/\z<n)->S n (fun i=>if (i:Int)∈L then f i else 0)=(L.map fun z=>f z.toNat).sum
 | [],_,_=>by
  rw[Grf.m6 (g:=fun _=>0) fun i _=>by simp]
  exact Grf.D6 n
 | z::L,nd,h=>by
  obtain⟨h1,h2⟩:=A0.mp nd
  obtain⟨z0,z1⟩:=h z d8
  rw[k6,D3,<- aJ9 h2 fun y hy=>h y (d5 _ hy)]
  rw[Grf.P5 (j:=z.toNat) (f:=fun i=>if (i:Int)∈z::L then f i else 0) (g:=fun i=>if (i:Int)∈L then f i else 0) (by omega) (fun i _ hi=>by
   show (if (i:Int)∈z::L then f i else 0)=if (i:Int)∈L then f i else 0
   by_cases e:(i:Int)∈L
   ·rw[if_pos e,if_pos (d5 _ e)]
   ·rw[if_neg e,if_neg (fun c=>by
     rcases d3.mp c with c | c
     ·exact hi (by omega)
     ·exact e c)])]
  show _+((if ((z.toNat:Nat):Int)∈z::L then f z.toNat else 0) - (if ((z.toNat:Nat):Int)∈L then f z.toNat else 0))=_
  have ez:((z.toNat:Nat):Int)=z:=by omega
  rw[ez,if_pos d8,if_neg h1]
  omega
theorem bo3 (ns:List Int):(rng ns.length).map (fun z=>ns.getD z.toNat 0)=ns:=by
 unfold rng
 rw[F5,<- aj8]
 have:=map_getD (fun x=>x) ns
 rw[az1]at this
 exact this
theorem aq3 {ns zs:List Int}(hp:zs.Perm (rng ns.length))(hs:zs.Pairwise (ole ns)):zs.map (fun z=>ns.getD z.toNat 0)=(up2 ns).reverse:=by
 refine aT4 ?_ ?_
 ·have:=hp.map (fun z:Int=>ns.getD z.toNat 0)
  rw[bo3]at this
  exact this
 ·refine List.Pairwise.map _ (fun a b h=>?_) hs
  have:=af1.mp h
  show ns.getD b.toNat 0<=ns.getD a.toNat 0
  omega
theorem U6 {ns zs:List Int}(hp:zs.Perm (rng ns.length))(hs:zs.Pairwise (ole ns)){r:Nat}(hr:r<=ns.length) :
  cnt ns.length (fun i=>decide ((i:Int)∈zs.take r))=r/\Top ns.length (fun i=>ns.getD i 0) (fun i=>decide ((i:Int)∈zs.take r))/\roomF ns.length (fun i=>ns.getD i 0) (fun i=>decide ((i:Int)∈zs.take r))=F2 ns r:=by
 have nd:zs.Nodup:=hp.nodup_iff.mpr (O0 _)
 have hzl:zs.length=ns.length:=by rw[hp.length_eq,S4]
 have hin:∀ z∈zs,0<=z/\z<(ns.length:Int):=fun z hz=>L3.mp (hp.mem_iff.mp hz)
 have ndA:(zs.take r).Nodup:=nd.sublist (L8 r zs)
 have ndB:(zs.drop r).Nodup:=nd.sublist (av0 r zs)
 have inA:∀ z∈zs.take r,0<=z/\z<(ns.length:Int):=fun z hz=>hin z (G2 hz)
 have inB:∀ z∈zs.drop r,0<=z/\z<(ns.length:Int):=fun z hz=>hin z (bl8 hz)
 have app:=nd
 rw[<- F6 r zs]at app
 have cross:=(av1.mp app).2.2
 have mem_or:∀ i:Nat,i<ns.length->(i:Int)∈zs.take r\/(i:Int)∈zs.drop r:=fun i hi=>by
  have:(i:Int)∈zs:=hp.mem_iff.mpr (L3.mpr ⟨by omega,by omega⟩)
  rw[<- F6 r zs]at this
  exact C7.mp this
 have hc:cnt ns.length (fun i=>decide ((i:Int)∈zs.take r))=r:=by
  have:=aJ9 (n:=ns.length) (f:=fun _=>1) ndA inA
  have e:cnt ns.length (fun i=>decide ((i:Int)∈zs.take r))=S ns.length (fun i=>if (i:Int)∈zs.take r then 1 else 0):=Grf.m6 fun i _=>by
   by_cases c:(i:Int)∈zs.take r
   ·rw[if_pos c];simp[b2,c]
   ·rw[if_neg c];simp[b2,c]
  rw[e,this]
  have l:(zs.take r).length=r:=by rw[q8];omega
  have:∀ L:List Int,(L.map fun _=>(1:Int)).sum=L.length:=fun L=>by
   induction L with
   | nil=>rfl
   | cons a L ih=>rw[k6,D3,ih,m9];omega
  rw[this,l]
 refine⟨hc,fun i j hi hj h1 h2=>?_,?_⟩
 ·have a1:(i:Int)∈zs.take r:=of_decide_eq_true h1
  have a2:(j:Int)∈zs.drop r:=(mem_or j hj).resolve_left (of_decide_eq_false h2)
  have pw:=hs
  rw[<- F6 r zs]at pw
  have:=af1.mp ((bl9.mp pw).2.2 _ a1 _ a2)
  rw[i8,i8]at this
  show ns.getD j 0<=ns.getD i 0
  omega
 ·have of:=aq3 hp hs
  have rm:=aM1 (ns:=ns) (r:=r) of
  unfold roomF
  rw[hc,<- rm,<- at6,<- at7,F5]
  have s1:sm ns.length (fun i=>decide ((i:Int)∈zs.take r)) (fun i=>ns.getD i 0)=((zs.take r).map fun z=>ns.getD z.toNat 0).sum:=by
   rw[<- aJ9 (n:=ns.length) (f:=fun i=>ns.getD i 0) ndA inA]
   refine Grf.m6 fun i _=>?_
   show (if decide ((i:Int)∈zs.take r)=true then ns.getD i 0 else 0)=_
   by_cases c:(i:Int)∈zs.take r
   ·rw[if_pos c,decide_eq_true c,if_pos rfl]
   ·rw[if_neg c,decide_eq_false c,if_neg (by decide)]
  have s2:S ns.length (fun i=>if decide ((i:Int)∈zs.take r)=true then 0 else Grf.mnf r (ns.getD i 0))=((zs.drop r).map (mn r ∘ fun z=>ns.getD z.toNat 0)).sum:=by
   have:=aJ9 (n:=ns.length) (f:=fun i=>mn r (ns.getD i 0)) ndB inB
   show _=((zs.drop r).map fun z=>mn r (ns.getD z.toNat 0)).sum
   rw[<- this]
   refine Grf.m6 fun i hi=>?_
   by_cases c:(i:Int)∈zs.take r
   ·rw[decide_eq_true c,if_pos rfl,if_neg (fun z=>cross _ c _ z rfl)]
   ·rw[decide_eq_false c,if_neg (by decide),if_pos ((mem_or i hi).resolve_left c)]
    rfl
  rw[s1,s2]
theorem Z5 (ns:List Int):∃ zs:List Int,zs.Perm (rng ns.length)/\zs.Pairwise (ole ns):=by
 let le:Int->Int->Bool:=fun x y=>decide (ns.getD y.toNat 0<ns.getD x.toNat 0\/(ns.getD x.toNat 0=ns.getD y.toNat 0/\x<=y))
 refine⟨(rng ns.length).mergeSort le,List.mergeSort_perm _ _,?_⟩
 have:=List.pairwise_mergeSort (le:=le) (fun a b c h1 h2=>?_) (fun a b=>?_) (rng ns.length)
 ·exact this.imp fun h=>af1.mpr (of_decide_eq_true h)
 ·have g1:=of_decide_eq_true h1
  have g2:=of_decide_eq_true h2
  exact decide_eq_true (by omega)
 ·rw[Bool.or_eq_true]
  by_cases h:ns.getD b.toNat 0<ns.getD a.toNat 0\/(ns.getD a.toNat 0=ns.getD b.toNat 0/\a<=b)
  ·exact .inl (decide_eq_true h)
  ·exact .inr (decide_eq_true (by omega))
def Gr (ns:List Int):Prop:=∃ g,Gph g/\∀ i,i<ns.length->deg ns.length g i=ns.getD i 0
theorem O7 {ns:List Int}(h:AllP ns){i:Nat}(hi:i<ns.length):0<=ns.getD i 0:=by
 rw[c5,c8 hi]
 exact h i _ (c8 hi)
theorem aT2 {ns:List Int}(h:aO8 ns .free):Gr ns:=by
 obtain⟨h1,h2,h3⟩:=h
 obtain⟨zs,hp,hs⟩:=Z5 ns
 have hd:∀ i,i<ns.length->0<=ns.getD i 0:=fun i hi=>O7 h1 hi
 have K:=Grf.aN4 (d:=fun i=>ns.getD i 0) hd fun r r1 r2=>by
  obtain⟨a1,a2,a3⟩:=U6 hp hs r2
  exact⟨_,a1,a2,by rw[a3];exact h3 r r1 r2⟩
 have s0:0<=ns.sum:=by rw[<- bk9];exact Grf.K9 hd
 obtain⟨g,hg,dg⟩:=Grf.bi4 (ns.sum / 2).toNat ns.length (fun i=>ns.getD i 0) hd K (by rw[bk9];omega)
 exact⟨g,hg,dg⟩
theorem ar7 {ns:List Int}(h:Gr ns):AllP ns:=by
 obtain⟨g,hg,dg⟩:=h
 intro j x hx
 have hj:j<ns.length:=by
  rcases q0 j ns.length with h | h
  ·exact h
  ·rw[j6 h]at hx;cases hx
 have:=dg j hj
 rw[c5,hx]at this
 have e:deg ns.length g j=x:=this
 rw[<- e]
 exact Grf.K9 fun i _=>Grf.A4 _
theorem aS8 {ns:List Int}(h:Gr ns):aO8 ns .free:=by
 have pos:=ar7 h
 obtain⟨g,hg,dg⟩:=h
 refine⟨pos,?_,fun k k1 k2=>?_⟩
 ·obtain⟨q,hq⟩:=Grf.bj6 hg ns.length
  rw[Grf.m6 (g:=fun i=>ns.getD i 0) fun i hi=>dg i hi,bk9]at hq
  omega
 ·obtain⟨zs,hp,hs⟩:=Z5 ns
  obtain⟨_,_,a3⟩:=U6 hp hs k2
  rw[<- a3]
  exact Grf.aM0 (Grf.bh2 hg dg) _
end Web
namespace Web
def X3 (ns:List Int)(M r:Nat):Int:=(M:Int)*(r:Int)*((r:Int) - 1)+part (ns.length - r) ((M:Int)*(r:Int)) (up2 ns)
theorem Q9 (ns:List Int)(r:Nat):X3 ns 1 r=F2 ns r:=by
 unfold X3 F2
 rw[Int.natCast_one,ac7]
theorem ak8 {ns zs:List Int}{M r:Nat}(e:zs=(up2 ns).reverse):(M:Int)*(r:Int)*((r:Int) - 1)+((zs.drop r).map (mn ((M:Int)*(r:Int)))).sum - (zs.take r).sum=X3 ns M r:=by
 unfold X3 part
 rw[e,bG7,bG8,bH6,ad9,ad9,am6]
 omega
end Web
namespace Web
def ag1 (ns:List Int)(i:Nat):List Nat:=(k8 i).filter fun j=>decide (ns.getD j 0<0)
def bF7 (ns:List Int):List Int:=(ag1 ns ns.length).map Int.ofNat
theorem aZ9 (ns:List Int)(i:Nat):ag1 ns (i+1)=ag1 ns i++(if ns.getD i 0<0 then [i] else []):=by
 unfold ag1
 rw[v7,F7]
 congr 1
 by_cases h:ns.getD i 0<0
 ·rw[if_pos h,ac1 (by simpa using h),aK3]
 ·rw[if_neg h,ac2 (by simpa using h),aK3]
theorem bk3 (ns:List Int)(i:Nat):(ag1 ns i).length<=i:=by
 unfold ag1
 exact p5 (C8 ..) (by rw[o6];exact c7 _)
theorem ag0 {ns:List Int}{j:Nat}{x:Int}(h:ns[j]?=some x):ns.getD j 0=x:=by rw[c5,h];rfl
theorem aU5 {ns:List Int}(h:ag1 ns ns.length=[]):∀ (j:Nat) (x:Int),ns[j]?=some x->0<=x:=fun j x e=>by
 have hj:j<ns.length:=by
  rcases q0 j ns.length with l | l
  ·exact l
  ·rw[j6 l]at e;cases e
 have:=Q1.mp h j (p0.mpr hj)
 rw[ag0 e]at this
 have h2:¬ x<0:=fun q=>this (decide_eq_true q)
 omega
theorem aJ6 {ns:List Int}{p:Nat}{t:List Nat}(h:ag1 ns ns.length=p::t):(∃ x,ns[p]?=some x/\x<0)/\∀ (j:Nat) (x:Int),j<p->ns[j]?=some x->0<=x:=by
 have hm:p∈ag1 ns ns.length:=by rw[h];exact d8
 have hp:=C6.mp hm
 have hl:=p0.mp hp.1
 have h0:=of_decide_eq_true hp.2
 refine⟨⟨_,c8 hl,by rw[ag0 (c8 hl)]at h0;exact h0⟩,fun j x hj e=>?_⟩
 rcases bm0 x 0 with q | q
 ·have hjm:j∈ag1 ns ns.length:=C6.mpr ⟨p0.mpr (by omega),by rw[ag0 e];exact decide_eq_true q⟩
  have hs:(ag1 ns ns.length).Pairwise (·<·):=List.Pairwise.filter _ Q0
  rw[h]at hs hjm
  rcases d3.mp hjm with r | r
  ·omega
  ·have:=(B8.mp hs).1 j r
   omega
 ·exact q
def aU8 (ns:List Int)(M:Nat):Wl->Prop
 | .below p=>(∃ x,ns[p]?=some x/\x<0)/\∀ (j:Nat) (x:Int),j<p->ns[j]?=some x->0<=x
 | .odd=>AllP ns/\ns.sum % 2=1
 | .wall r=>AllP ns/\¬ ns.sum % 2=1/\1<=r/\r<=ns.length/\X3 ns M r<0/\∀ k,1<=k->k<r->0<=X3 ns M k
 | .free=>AllP ns/\¬ ns.sum % 2=1/\∀ k,1<=k->k<=ns.length->0<=X3 ns M k
theorem aP3 {ns:List Int}{x:Wl}(h:aU8 ns 1 x):aO8 ns x:=by
 cases x with
 | below p=>exact h
 | odd=>exact h
 | wall r=>exact⟨h.1,h.2.1,h.2.2.1,h.2.2.2.1,by rw[<- Q9];exact h.2.2.2.2.1,fun k k1 k2=>by rw[<- Q9];exact h.2.2.2.2.2 k k1 k2⟩
 | free=>exact⟨h.1,h.2.1,fun k k1 k2=>by rw[<- Q9];exact h.2.2 k k1 k2⟩
end Web
namespace Web
open L2 Grf Thk
theorem ad2 {ns zs:List Int}(hp:zs.Perm (rng ns.length))(hs:zs.Pairwise (ole ns)){M r:Nat}(hr:r<=ns.length) :
  M8 ns.length M (fun i=>ns.getD i 0) (fun i=>decide ((i:Int)∈zs.take r))=X3 ns M r:=by
 have nd:zs.Nodup:=hp.nodup_iff.mpr (O0 _)
 have hin:∀ z∈zs,0<=z/\z<(ns.length:Int):=fun z hz=>L3.mp (hp.mem_iff.mp hz)
 have ndA:(zs.take r).Nodup:=nd.sublist (L8 r zs)
 have ndB:(zs.drop r).Nodup:=nd.sublist (av0 r zs)
 have inA:∀ z∈zs.take r,0<=z/\z<(ns.length:Int):=fun z hz=>hin z (G2 hz)
 have inB:∀ z∈zs.drop r,0<=z/\z<(ns.length:Int):=fun z hz=>hin z (bl8 hz)
 have app:=nd
 rw[<- F6 r zs]at app
 have cross:=(av1.mp app).2.2
 have mem_or:∀ i:Nat,i<ns.length->(i:Int)∈zs.take r\/(i:Int)∈zs.drop r:=fun i hi=>by
  have:(i:Int)∈zs:=hp.mem_iff.mpr (L3.mpr ⟨by omega,by omega⟩)
  rw[<- F6 r zs]at this
  exact C7.mp this
 have hc:=(U6 hp hs hr).1
 have of:=aq3 hp hs
 have rm:=ak8 (ns:=ns) (M:=M) (r:=r) of
 unfold M8
 rw[hc,<- rm,<- at6,<- at7,F5,<- J4]
 have s1:sm ns.length (fun i=>decide ((i:Int)∈zs.take r)) (fun i=>ns.getD i 0)=((zs.take r).map fun z=>ns.getD z.toNat 0).sum:=by
  rw[<- aJ9 (n:=ns.length) (f:=fun i=>ns.getD i 0) ndA inA]
  refine Grf.m6 fun i _=>?_
  show (if decide ((i:Int)∈zs.take r)=true then ns.getD i 0 else 0)=_
  by_cases c:(i:Int)∈zs.take r
  ·rw[if_pos c,decide_eq_true c,if_pos rfl]
  ·rw[if_neg c,decide_eq_false c,if_neg (by decide)]
 have s2:S ns.length (fun i=>if decide ((i:Int)∈zs.take r)=true then 0 else Grf.mnf ((M:Int)*r) (ns.getD i 0))=((zs.drop r).map (mn ((M:Int)*r) ∘ fun z=>ns.getD z.toNat 0)).sum:=by
  have:=aJ9 (n:=ns.length) (f:=fun i=>mn ((M:Int)*r) (ns.getD i 0)) ndB inB
  show _=((zs.drop r).map fun z=>mn ((M:Int)*r) (ns.getD z.toNat 0)).sum
  rw[<- this]
  refine Grf.m6 fun i hi=>?_
  by_cases c:(i:Int)∈zs.take r
  ·rw[decide_eq_true c,if_pos rfl,if_neg (fun z=>cross _ c _ z rfl)]
  ·rw[decide_eq_false c,if_neg (by decide),if_pos ((mem_or i hi).resolve_left c)]
   rfl
 rw[s1,s2]
theorem bt4 {ns:List Int}{M:Nat}(h:aU8 ns M .free):Kk ns.length M (fun i=>ns.getD i 0):=by
 obtain⟨h1,h2,h3⟩:=h
 obtain⟨zs,hp,hs⟩:=Z5 ns
 have hd:∀ i,i<ns.length->0<=ns.getD i 0:=fun i hi=>O7 h1 hi
 exact bs3 (at9 M) hd fun r r1 r2=>by
  obtain⟨a1,a2,_⟩:=U6 hp hs r2
  exact⟨_,a1,a2,by rw[ad2 hp hs r2];exact h3 r r1 r2⟩
theorem bs4 {ns:List Int}{M:Nat}(h0:AllP ns)(h1:¬ ns.sum % 2=1)(h:Kk ns.length M (fun i=>ns.getD i 0)):aU8 ns M .free:=by
 obtain⟨zs,hp,hs⟩:=Z5 ns
 exact⟨h0,h1,fun r r1 r2=>by rw[<- ad2 hp hs r2];exact bo2 h _⟩
def abv (M L c:Int):Int:=if c - L<=0 then 0 else if c - L<=M then c - L else M
theorem bk5 {M:Int}(hM:1<=M)(L c:Int):abv M (L - 1) c - abv M L c=if abv M L c<abv M (L - 1) c then 1 else 0:=by
 unfold abv
 split<;>split<;>split<;>first | omega | (split<;>omega)
theorem bk6 {M L c:Int}(hM:1<=M)(h:abv M L c<abv M (L - 1) c):abv M L c=c - L/\0<=c - L/\c - L<M:=by
 unfold abv at *
 split at h<;>split at h<;>first | omega | (split at h<;>first | omega | (split at h<;>omega)) | skip
 all_goals (repeat' split)<;>omega
def R8 (M L:Int)(ns:List Int):List Int:=(rng ns.length).filter fun z=>decide (abv M L (ns.getD z.toNat 0)<abv M (L - 1) (ns.getD z.toNat 0))
def aq4 (M L:Int)(ns:List Int)(k:Nat):List Int:=(R8 M L ns).take k
def shx (M L:Int)(ns:List Int)(k:Nat)(j:Nat):Int:=abv M L (ns.getD j 0)+if (j:Int)∈aq4 M L ns k then 1 else 0
theorem aG8 (M L:Int)(ns:List Int):(R8 M L ns).Nodup:=(O0 _).sublist bv0
theorem aG9 {M L:Int}{ns:List Int}:∀ z∈R8 M L ns,0<=z/\z<ns.length:=fun z hz=>L3.mp (C6.mp hz).1
theorem ai3 {M L:Int}{ns:List Int}{j:Nat}(hj:j<ns.length):(j:Int)∈R8 M L ns↔abv M L (ns.getD j 0)<abv M (L - 1) (ns.getD j 0):=by
 unfold R8
 rw[C6,L3,decide_eq_true_iff,i8]
 constructor
 ·exact fun h=>h.2
 ·exact fun h=>⟨⟨by omega,by omega⟩,h⟩
theorem bb1 (L:List Int):(L.map fun _=>(1:Int)).sum=L.length:=by
 induction L with
 | nil=>rfl
 | cons a L ih=>rw[k6,D3,ih,m9];omega
theorem bl0 {n:Nat}{L:List Int}(nd:L.Nodup)(h:∀ z∈L,0<=z/\z<n):S n (fun i=>if (i:Int)∈L then 1 else 0)=L.length:=by
 rw[aJ9 (f:=fun _=>1) nd h,bb1]
theorem aW7 {M:Int}(hM:1<=M)(L:Int)(ns:List Int):((R8 M L ns).length:Int)=(ns.map (abv M (L - 1))).sum - (ns.map (abv M L)).sum:=by
 rw[<- bl0 (aG8 M L ns) aG9,<- as9,<- as9,<- B0]
 refine Grf.m6 fun j hj=>?_
 rw[bk5 hM]
 by_cases c:abv M L (ns.getD j 0)<abv M (L - 1) (ns.getD j 0)
 ·rw[if_pos c,if_pos ((ai3 hj).mpr c)]
 ·rw[if_neg c,if_neg fun h=>c ((ai3 hj).mp h)]
structure Lvl (M:Int) (ns:List Int) (a L:Int):Prop where
 l0:0<=L
 le:(ns.map (abv M L)).sum<=a
 lt:0<L->a<(ns.map (abv M (L - 1))).sum
section
variable {M a L:Int} {ns:List Int}
theorem bn7 (hM:1<=M)(h:Lvl M ns a L)(h0:a<=(ns.map (abv M 0)).sum):S ns.length (shx M L ns (a - (ns.map (abv M L)).sum).toNat)=a:=by
 unfold shx
 rw[L0,as9,bl0 (L:=aq4 M L ns (a - (ns.map (abv M L)).sum).toNat) ((aG8 M L ns).sublist (L8 _ _)) fun z hz=>aG9 z (G2 hz)]
 unfold aq4
 rw[q8]
 have l:=aW7 hM L ns
 have le:=h.le
 by_cases c:0<L
 ·have:=h.lt c
  omega
 ·have:L=0:=by have:=h.l0;omega
  subst this
  omega
theorem aQ4 {j:Nat}(hj:j<ns.length){k:Nat}(hM:1<=M)(h:(j:Int)∈aq4 M L ns k):abv M L (ns.getD j 0)=ns.getD j 0 - L/\0<=ns.getD j 0 - L/\ns.getD j 0 - L<M:=bk6 hM ((ai3 hj).mp (G2 h))
theorem ah8 (hM:1<=M)(k:Nat){j:Nat}(hj:j<ns.length):0<=shx M L ns k j/\shx M L ns k j<=M/\(0<shx M L ns k j->L - 1<=ns.getD j 0 - shx M L ns k j)/\(shx M L ns k j<M->ns.getD j 0 - shx M L ns k j<=L):=by
 unfold shx
 by_cases c:(j:Int)∈aq4 M L ns k
 ·obtain⟨e1,e2,e3⟩:=aQ4 hj hM c
  rw[if_pos c,e1]
  omega
 ·rw[if_neg c]
  unfold abv
  split
  ·omega
  ·split<;>omega
theorem bz8 (hM:1<=M)(h:Lvl M ns a L)(h0:a<=(ns.map (abv M 0)).sum){j:Nat}(hj:j<ns.length)(hn:0<=ns.getD j 0):shx M L ns (a - (ns.map (abv M L)).sum).toNat j<=ns.getD j 0:=by
 have l0:=h.l0
 unfold shx
 by_cases c:(j:Int)∈aq4 M L ns (a - (ns.map (abv M L)).sum).toNat
 ·obtain⟨e1,e2,e3⟩:=aQ4 hj hM c
  have:L≠0:=fun e=>by
   subst e
   have z:(a - (ns.map (abv M 0)).sum).toNat=0:=by omega
   rw[z]at c
   unfold aq4 at c
   rw[List.take_zero]at c
   cases c
  rw[if_pos c,e1]
  omega
 ·rw[if_neg c]
  unfold abv
  split
  ·omega
  ·split<;>omega
end
end Web
namespace Thk
open Grf
section
variable {n:Nat} {L W:Int} {d c x:Nat->Int}
theorem aL2 {σ τ:Nat->Bool}(h:Apart n σ τ):sz n σ+sz n τ<=n:=by
 unfold sz
 rw[<- L0]
 have:S n (fun j=>b2 (σ j)+b2 (τ j))<=S n (fun _=>1):=T7 fun j hj=>by
  have:=h j hj
  cases a:σ j<;>cases b:τ j<;>simp[b2]
  exact this ⟨a,b⟩
 rw[G1]at this
 omega
theorem bz6 {σ τ:Nat->Bool}(h:Apart n σ τ)(e:sz n σ+sz n τ=n){j:Nat}(hj:j<n):b2 (σ j)+b2 (τ j)=1:=by
 have hz:S n (fun j=>1 - b2 (σ j) - b2 (τ j))=0:=by
  rw[B0,B0,G1]
  unfold sz at e
  omega
 have nn:∀ i,i<n->0<=1 - b2 (σ i) - b2 (τ i):=fun i hi=>by
  have:=h i hi
  cases a:σ i<;>cases b:τ i<;>simp[b2]
  exact absurd ⟨a,b⟩ this
 have a:=aj4 (f:=fun j=>1 - b2 (σ j) - b2 (τ j)) hj nn
 have b:=nn j hj
 have a':1 - b2 (σ j) - b2 (τ j)<=S n (fun j=>1 - b2 (σ j) - b2 (τ j)):=a
 omega
theorem bj2 (q:Int):∃ e,(q+1)*q=2*e:=by
 rcases Int.emod_two_eq q with h | h
 ·obtain⟨t,ht⟩:∃ t,q=2*t:=⟨q / 2,by omega⟩
  exact⟨(q+1)*t,by rw[ht,<- J4,L5 (2*t+1) 2,J4]⟩
 ·obtain⟨t,ht⟩:∃ t,q+1=2*t:=⟨(q+1) / 2,by omega⟩
  exact⟨t*q,by rw[ht,J4]⟩
theorem bt6 (σ τ:Nat->Bool):fV n 1 c σ τ=S n (fun j=>b2 (σ j)*(c j - qQ n 1 τ) - b2 (τ j)*c j):=by
 have e:S n (fun j=>b2 (σ j)*(c j - qQ n 1 τ) - b2 (τ j)*c j)=S n (fun j=>(b2 (σ j) - b2 (τ j))*c j) - S n (fun j=>qQ n 1 τ*b2 (σ j)):=by
  rw[<- B0]
  refine m6 fun j _=>?_
  cases σ j<;>cases τ j<;>simp[b2]<;>omega
 rw[e,P9]
 unfold fV qQ sz
 rw[ac7,ac7,L5]
theorem bg4 (hc:∀ j,j<n->c j=d j - x j)(c0:∀ j,j<n->0<=c j)(x0:∀ j,j<n->0<=x j)(lo:∀ j,j<n->0<x j->L - 1<=c j)(hi:∀ j,j<n->c j<=L)
  (hW:∀ σ τ,Apart n σ τ->fV n 1 d σ τ<=W)(hx:W<=S n x)(ev:∃ k,S n c=2*k):Kk n 1 c:=by
 intro σ0 τ0 h0
 obtain⟨σ,τ1,hap1,hge,hmx⟩:=bN3 (m:=n) (M:=1) (c:=c) (by decide) h0
 refine Classical.byContradiction fun hno=>?_
 have hf1:1<=fV n 1 c σ τ1:=by omega
 obtain⟨τ,hτ⟩:∃ τ:Nat->Bool,τ=fun j=>τ1 j && !decide (c j=pP n 1 σ):=⟨_,rfl⟩
 have tt:∀ j,τ j=true->τ1 j=true/\c j≠pP n 1 σ:=fun j h=>by
  rw[hτ]at h
  simpa using h
 have hs:fV n 1 c σ τ=fV n 1 c σ τ1:=bd1 fun j hj hne=>by
  refine Classical.byContradiction fun hz=>hne ?_
  rw[hτ]
  show (τ1 j && !decide (c j=pP n 1 σ))=τ1 j
  rw[decide_eq_false hz,aP1,Bool.and_true]
 have hap:Apart n σ τ:=fun j hj ⟨u,v⟩=>hap1 j hj ⟨u,(tt j v).1⟩
 have hM:Mx n 1 c σ τ:=⟨hap,fun σ₁ τ₁ h=>by rw[hs];exact hmx σ₁ τ₁ h⟩
 have ht:∀ j,j<n->τ j=true->c j<=pP n 1 σ - 1:=fun j hj h=>by
  have:=bQ1 hM hj h
  have:=(tt j h).2
  omega
 have hf:1<=fV n 1 c σ τ:=by omega
 have caseA:∀ σ',Apart n σ' τ->(∀ j,j<n->0<x j->σ' j=true)->fV n 1 c σ' τ<=0:=fun σ' ha hcut=>by
  have e:fV n 1 c σ' τ=fV n 1 d σ' τ - S n x:=by
   unfold fV
   have:S n (fun j=>(b2 (σ' j) - b2 (τ j))*c j)=S n (fun j=>(b2 (σ' j) - b2 (τ j))*d j) - S n x:=by
    rw[<- B0]
    refine m6 fun j hj=>?_
    rw[hc j hj]
    have h0:=x0 j hj
    by_cases hx0:0<x j
    ·have hs':=hcut j hj hx0
     have ht':τ j=false:=by
      cases h:τ j
      ·rfl
      ·exact absurd ⟨hs',h⟩ (ha j hj)
     rw[hs',ht']
     simp[b2]
    ·have:x j=0:=by omega
     rw[this,ah6,ah6]
   omega
  have:=hW σ' τ ha
  omega
 have hpq:pP n 1 σ<=qQ n 1 τ+1:=by
  have:=aL2 hap
  unfold pP qQ
  omega
 by_cases hA:∀ j,j<n->0<x j->σ j=true
 ·have:=caseA σ hap hA
  omega
 ·obtain⟨i,hi'⟩:=Classical.not_forall.mp hA
  obtain⟨hin,hi2⟩:=Classical.not_imp.mp hi'
  obtain⟨hxi,hsi⟩:=Classical.not_imp.mp hi2
  have hsi:σ i=false:=by simpa using hsi
  have li:=lo i hin hxi
  have hLq:L<=qQ n 1 τ+1:=by
   cases h:τ i with
   | false =>
    have:=bL7 hM hin hsi h
    omega
   | true =>
    have:=ht i hin h
    omega
  have fp:=bt6 (n:=n) (c:=c) σ τ
  by_cases hL:L<=qQ n 1 τ
  ·have:S n (fun j=>b2 (σ j)*(c j - qQ n 1 τ) - b2 (τ j)*c j)<=0:=bx5 fun j hj=>by
    have:=hi j hj
    have:=c0 j hj
    cases σ j<;>cases τ j<;>simp[b2]<;>omega
   omega
  ·have hLe:L=qQ n 1 τ+1:=by omega
   by_cases hT:∃ i,i<n/\0<x i/\τ i=true
   ·obtain⟨t,htn,hxt,htt⟩:=hT
    have lt:=lo t htn hxt
    have bd:S n (fun j=>b2 (σ j)*(c j - qQ n 1 τ) - b2 (τ j)*c j)<=S n (fun j=>b2 (σ j) - if j=t then qQ n 1 τ else 0):=T7 fun j hj=>by
     have h1:=hi j hj
     have h2:=c0 j hj
     by_cases e:j=t
     ·subst e
      have hs0:σ j=false:=by
       cases h:σ j
       ·rfl
       ·exact absurd ⟨h,htt⟩ (hap j hj)
      rw[if_pos rfl,hs0,htt]
      simp[b2]
      omega
     ·rw[if_neg e]
      cases σ j<;>cases τ j<;>simp[b2]<;>omega
    have e2:S n (fun j=>b2 (σ j) - if j=t then qQ n 1 τ else 0)=sz n σ - qQ n 1 τ:=by
     rw[P5 (g:=fun j=>b2 (σ j)) htn (fun j _ hj=>by rw[if_neg hj,ah6]),if_pos rfl]
     unfold sz
     omega
    have hsz:=aL2 hap
    have hq:qQ n 1 τ=(n:Int) - 1 - sz n τ:=by unfold qQ;omega
    have all1:sz n σ+sz n τ=n:=by omega
    have f1:fV n 1 c σ τ=1:=by omega
    obtain⟨k,hk⟩:=ev
    obtain⟨e,he⟩:=bj2 (qQ n 1 τ)
    have hp:sz n σ=qQ n 1 τ+1:=by omega
    have spl:S n (fun j=>(b2 (σ j) - b2 (τ j))*c j)=S n c - 2*S n (fun j=>b2 (τ j)*c j):=by
     rw[<- P9,<- B0]
     refine m6 fun j hj=>?_
     have:=bz6 hap all1 hj
     have e1:b2 (σ j)=1 - b2 (τ j):=by omega
     rw[e1]
     cases τ j<;>simp[b2]<;>omega
    unfold fV at f1
    rw[spl,hk,<- hq,hp,he]at f1
    omega
   ·have hno':∀ j,j<n->0<x j->τ j=false:=fun j hj hxj=>by
     cases h:τ j
     ·rfl
     ·exact absurd ⟨j,hj,hxj,h⟩ hT
    have ap':Apart n (fun j=>σ j || decide (0<x j)) τ:=fun j hj ⟨u,v⟩=>by
     rcases Bool.or_eq_true_iff.mp u with u | u
     ·exact hap j hj ⟨u,v⟩
     ·rw[hno' j hj (of_decide_eq_true u)]at v
      cases v
    have same:fV n 1 c (fun j=>σ j || decide (0<x j)) τ=fV n 1 c σ τ:=bd2 fun j hj hne=>by
     have hne:(σ j || decide (0<x j))≠σ j:=hne
     have hs0:σ j=false:=by
      cases h:σ j
      ·rfl
      ·rw[h]at hne;exact absurd rfl hne
     have hxj:0<x j:=by
      refine Classical.byContradiction fun z=>hne ?_
      rw[hs0,decide_eq_false z]
      rfl
     have:=bL7 hM hj hs0 (hno' j hj hxj)
     have:=lo j hj hxj
     omega
    have:=caseA _ ap' (fun j hj hxj=>by
     show (σ j || decide (0<x j))=true
     rw[decide_eq_true hxj,Bool.or_true])
    omega
end
section
variable {n:Nat} {M:Int} {d:Nat->Int}
theorem bt3 {W:Int}(hd:∀ i,i<n->0<=d i)(hW:0<=W)(h:∀ r:Nat,1<=r->r<=n->∃ A,cnt n A=r/\Top n d A /\ -W<=M8 n M d A):∀ σ τ,Apart n σ τ->fV n M d σ τ<=W:=by
 intro a0 b hab0
 rw[aT6]
 let a:Nat->Bool:=fun i=>a0 i && !b i
 have ha0:∀ i,i<n->a i=a0 i:=fun i hi=>by
  show (a0 i && !b i)=a0 i
  cases e:a0 i<;>cases e':b i<;>first | rfl | exact absurd ⟨e,e'⟩ (hab0 i hi)
 have hab:∀ i,a i=true->b i=false:=fun i hi=>by
  have hi:(a0 i && !b i)=true:=hi
  cases e:b i
  ·rfl
  ·rw[e]at hi;simp at hi
 have ec:cnt n a0=cnt n a:=m6 fun i hi=>by rw[ha0 i hi]
 have es:sm n a0 d=sm n a d:=m6 fun i hi=>by rw[ha0 i hi]
 rw[ec,es]
 have k0:=J8 n a
 have kr:=af7 (n:=n) hab
 have kb:=J8 n b
 by_cases hz:cnt n a=0
 ·have za:∀ i,i<n->a i=false:=fun i hi=>by
   cases h:a i with
   | false=>rfl
   | true =>
    have:=aj4 (f:=fun i=>b2 (a i)) hi (fun i _=>A4 _)
    have e:b2 (a i)=1:=by rw[h];rfl
    have t:b2 (a i)<=cnt n a:=this
    omega
  have:=aa6 (a:=b) hd
  rw[V5 za,hz,O2,J3]
  omega
 ·obtain⟨A,hc,ht,r1⟩:=h (cnt n a).toNat (by omega) (by omega)
  have hcA:cnt n A=cnt n a:=by omega
  have r2:=ao3 (φ:=fun x=>x+mnf (M*cnt n a) x) (fun x y hxy=>by have:=aq7 (r:=M*cnt n a) hxy;omega) ht hcA.symm
  have sp:∀ c:Nat->Bool,sm n c (fun i=>d i+mnf (M*cnt n a) (d i))=sm n c d+S n (fun i=>mnf (M*cnt n a) (d i)) - S n (fun i=>if c i=true then 0 else mnf (M*cnt n a) (d i)):=fun c=>by
   unfold sm
   rw[<- L0,<- B0]
   refine m6 fun i _=>?_
   cases c i<;>simp
  rw[sp a,sp A]at r2
  unfold M8 at r1
  rw[hcA]at r1
  have low:S n (fun i=>if a i=true then 0 else mnf (M*cnt n a) (d i))<=sm n b d+(M*cnt n a)*((n:Int) - cnt n a - cnt n b):=by
   have e:(M*cnt n a)*((n:Int) - cnt n a - cnt n b)=S n (fun i=>(M*cnt n a)*(1 - b2 (a i) - b2 (b i))):=by
    rw[P9,B0,B0,G1,C5];rfl
   rw[e]
   unfold sm
   rw[<- L0]
   refine T7 fun i hi=>?_
   have l1:=aA5 (M*cnt n a) (d i)
   have l2:=an3 (M*cnt n a) (d i)
   cases ha:a i with
   | true=>rw[hab i ha];simp[b2]
   | false=>cases b i<;>simp[b2]<;>assumption
  rw[aR3]
  omega
theorem bE8 (A:Nat->Bool):fV n M d A (fun i=>!A i && decide (d i<M*cnt n A)) = -M8 n M d A:=by
 rw[aT6,aR3]
 have e:S n (fun i=>if A i=true then 0 else mnf (M*cnt n A) (d i))=sm n (fun i=>!A i && decide (d i<M*cnt n A)) d+(M*cnt n A)*((n:Int) - cnt n A - cnt n (fun i=>!A i && decide (d i<M*cnt n A))):=by
  have e1:(M*cnt n A)*((n:Int) - cnt n A - cnt n (fun i=>!A i && decide (d i<M*cnt n A)))=S n (fun i=>(M*cnt n A)*(1 - b2 (A i) - b2 (!A i && decide (d i<M*cnt n A)))):=by
   rw[P9,B0,B0,G1,C5];rfl
  rw[e1]
  unfold sm
  rw[<- L0]
  refine m6 fun i hi=>?_
  show (if A i=true then 0 else mnf (M*cnt n A) (d i))=(if (!A i && decide (d i<M*cnt n A))=true then d i else 0)+(M*cnt n A)*(1 - b2 (A i) - b2 (!A i && decide (d i<M*cnt n A)))
  cases hA:A i with
  | true=>simp[b2]
  | false =>
   generalize M*cnt n A=r
   by_cases c:d i<r
   ·rw[decide_eq_true c]
    simp[b2,mnf]
    omega
   ·rw[decide_eq_false c]
    simp[b2,mnf]
    omega
 unfold M8
 rw[e]
 omega
theorem aS1 {w:Nat->Int}(K:Kk n M w)(hle:∀ i,i<n->w i<=d i)(A:Nat->Bool):-M8 n M d A<=S n (fun i=>d i - w i):=by
 have k:=K A (fun i=>!A i && decide (d i<M*cnt n A)) (fun i _ ⟨u,v⟩=>by simp[u]at v)
 rw[<- bE8]
 have e:fV n M d A (fun i=>!A i && decide (d i<M*cnt n A)) - fV n M w A (fun i=>!A i && decide (d i<M*cnt n A))<=S n (fun i=>d i - w i):=by
  unfold fV
  dsimp only
  have e1:S n (fun j=>(b2 (A j) - b2 (!A j && decide (d j<M*cnt n A)))*d j) - S n (fun j=>(b2 (A j) - b2 (!A j && decide (d j<M*cnt n A)))*w j)<=S n (fun i=>d i - w i):=by
   rw[<- B0]
   refine T7 fun i hi=>?_
   have:=hle i hi
   cases A i<;>cases decide (d i<M*cnt n A)<;>simp[b2]<;>omega
  omega
 omega
end
end Thk
namespace Web
open L2
open Grf (S b2 Gph deg M7)
def gW (ks:List (List Int))(i j:Nat):Bool:=decide ([(i:Int),(j:Int)]∈ks) || decide ([(j:Int),(i:Int)]∈ks)
theorem bt2 {a b:Nat}{ks:List (List Int)}:gW ([(a:Int),(b:Int)]::ks)=M7 (gW ks) a b true:=by
 funext i j
 unfold gW M7
 have e1:([(i:Int),(j:Int)]=[(a:Int),(b:Int)])↔(i=a/\j=b):=by
  constructor
  ·intro h;injection h with h1 h2;injection h2 with h2;omega
  ·rintro⟨rfl,rfl⟩;rfl
 have e2:([(j:Int),(i:Int)]=[(a:Int),(b:Int)])↔(i=b/\j=a):=by
  constructor
  ·intro h;injection h with h1 h2;injection h2 with h2;omega
  ·rintro⟨rfl,rfl⟩;rfl
 by_cases c:(i=a/\j=b)\/(i=b/\j=a)
 ·rw[if_pos c]
  rcases c with c | c
  ·simp[e1.mpr c]
  ·simp[e2.mpr c]
 ·rw[if_neg c]
  have c1:¬ [(i:Int),(j:Int)]=[(a:Int),(b:Int)]:=fun z=>c (.inl (e1.mp z))
  have c2:¬ [(j:Int),(i:Int)]=[(a:Int),(b:Int)]:=fun z=>c (.inr (e2.mp z))
  simp only[d3,c1,c2,false_or]
theorem bi7 {n:Nat}{ks:List (List Int)}(h:∀ k∈ks,Up n k):Gph (gW ks) where
 sym:=fun i j=>by unfold gW;rw[Bool.or_comm]
 irr:=fun i=>by
  have:¬ [(i:Int),(i:Int)]∈ks:=fun z=>by
   obtain⟨a,b,h1,h2,e⟩:=h _ z
   injection e with e1 e2
   injection e2 with e2
   omega
  unfold gW
  rw[decide_eq_false this];rfl
theorem aO0 {n:Nat}:∀ {ks:List (List Int)},ks.Nodup->(∀ k∈ks,Up n k)->∀ i,deg n (gW ks) i=(J9 ks i:Int)
 | [],_,_,i=>by
  have:deg n (gW []) i=S n (fun _=>0):=Grf.m6 fun j _=>by simp[gW,b2]
  rw[this,Grf.D6]
  rfl
 | k::ks,nd,h,i=>by
  obtain⟨n1,n2⟩:=A0.mp nd
  obtain⟨a,b,h1,h2,e⟩:=h k d8
  subst e
  have hk:∀ k∈ks,Up n k:=fun k hk=>h k (d5 _ hk)
  have hf:gW ks a b=false:=by
   have:¬ [(b:Int),(a:Int)]∈ks:=fun z=>by
    obtain⟨x,y,u1,u2,e⟩:=hk _ z
    injection e with e1 e2
    injection e2 with e2
    omega
   unfold gW
   rw[decide_eq_false n1,decide_eq_false this];rfl
  rw[bt2,Grf.N3 (bi7 hk) (by omega) (by omega) h2,aO0 n2 hk i,hf]
  have ec:J9 ([(a:Int),(b:Int)]::ks) i=J9 ks i+(if i=a\/i=b then 1 else 0):=by
   show List.countP _ _=List.countP _ _+_
   rw[ac8]
   congr 1
   have:decide ((i:Int)∈[(a:Int),(b:Int)])=decide (i=a\/i=b):=by
    congr 1
    rw[d3,y6]
    exact propext ⟨fun z=>by omega,fun z=>by omega⟩
   rw[this]
   by_cases c:i=a\/i=b
   ·rw[decide_eq_true c,if_pos rfl,if_pos c]
   ·rw[decide_eq_false c,if_neg (by decide),if_neg c]
  rw[ec]
  by_cases c:i=a\/i=b
  ·rw[if_pos c,if_pos c];simp[b2]
  ·rw[if_neg c,if_neg c];simp
theorem ba7 {n i:Nat}{ks:List (List Int)}(h:i<n):(tal n ks).getD i 0=(J9 ks i:Int):=by
 rw[c5,Q2 h];rfl
theorem by3 {n:Nat}{ks:List (List Int)}(nd:ks.Nodup)(h:∀ k∈ks,Up n k):Gr (tal n ks):=by
 refine⟨gW ks,bi7 h,fun i hi=>?_⟩
 rw[O3]at hi ⊢
 rw[aO0 nd h,ba7 hi]
def A3:List (List Int)->Nat->List (List Int)
 | [],_=>[]
 | p::ps,m=>(if m % 2=1 then [p] else [])++A3 ps (m / 2)
theorem ao5:∀ (ps:List (List Int)) (m:Nat),(A3 ps m).Sublist ps
 | [],_=>.slnil
 | p::ps,m=>by
  unfold A3
  by_cases c:m % 2=1
  ·rw[if_pos c];exact(ao5 ps (m / 2)).cons₂ p
  ·rw[if_neg c];exact(ao5 ps (m / 2)).cons p
theorem av4:∀ (ps:List (List Int)) (i m:Nat) (q:List Int),ps[i]?=some q->A3 (ps.take (i+1)) m=A3 (ps.take i) m++(if m / 2 ^ i % 2=1 then [q] else [])
 | [],i,m,q,h=>by simp at h
 | p::ps,0,m,q,h=>by
  have e:p=q:=by simpa using h
  subst e
  simp[A3]
 | p::ps,i+1,m,q,h=>by
  have h':ps[i]?=some q:=by simpa using h
  rw[bv1,bv1]
  show _++A3 (ps.take (i+1)) (m / 2)=_++A3 (ps.take i) (m / 2)++_
  rw[av4 ps i (m / 2) q h',aa4,ad7,aC7,Nat.mul_comm 2]
theorem aD8 (p:List Int->Bool):∀ ps:List (List Int),∃ m,m<2 ^ ps.length/\A3 ps m=ps.filter p
 | []=>⟨0,by decide,rfl⟩
 | k::ps=>by
  obtain⟨m,hm,e⟩:=aD8 p ps
  cases hp:p k with
  | true =>
   refine⟨2*m+1,by rw[m9,aC7];omega,?_⟩
   unfold A3
   rw[if_pos (by omega),show (2*m+1) / 2=m by omega,e,ac1 hp]
   rfl
  | false =>
   refine⟨2*m,by rw[m9,aC7];omega,?_⟩
   unfold A3
   rw[if_neg (by omega),show (2*m) / 2=m by omega,e,ac2 (by rw[hp];decide)]
   rfl
theorem aR5 {n i j:Nat}(h1:i<j)(h2:j<n):[(i:Int),(j:Int)]∈j5 n:=by
 unfold j5
 refine bH4.mpr ⟨i,p0.mpr (by omega),?_⟩
 unfold V8
 exact l5.mpr ⟨j - (i+1),p0.mpr (by omega),by
  rw[show ((j - (i+1):Nat):Int)=(j:Int) - ((i:Int)+1) by omega]
  rw[show (i:Int)+1+((j:Int) - ((i:Int)+1))=(j:Int) by omega]⟩
theorem bi5 {ts:List Int}:Gr ts↔∃ m,m<2 ^ (j5 ts.length).length/\tal ts.length (A3 (j5 ts.length) m)=ts:=by
 constructor
 ·rintro⟨g,hg,dg⟩
  obtain⟨m,hm,e⟩:=aD8 (fun k=>g (k.getD 0 0).toNat (k.getD 1 0).toNat) (j5 ts.length)
  refine⟨m,hm,?_⟩
  rw[e]
  have hU:∀ k∈(j5 ts.length).filter (fun k=>g (k.getD 0 0).toNat (k.getD 1 0).toNat),Up ts.length k:=fun k hk=>ai5 (C6.mp hk).1
  have nd:((j5 ts.length).filter (fun k=>g (k.getD 0 0).toNat (k.getD 1 0).toNat)).Nodup:=(ay7 (ay6 _)).filter _
  have mem:∀ i j:Nat,i<j->j<ts.length->([(i:Int),(j:Int)]∈(j5 ts.length).filter (fun k=>g (k.getD 0 0).toNat (k.getD 1 0).toNat)↔g i j=true):=fun i j h1 h2=>by
   rw[C6]
   have e:∀ x y:Nat,([(x:Int),(y:Int)].getD 0 0).toNat=x/\([(x:Int),(y:Int)].getD 1 0).toNat=y:=fun x y=>⟨i8 x,i8 y⟩
   rw[(e i j).1,(e i j).2]
   exact⟨fun z=>z.2,fun z=>⟨aR5 h1 h2,z⟩⟩
  have row:∀ i j:Nat,i<ts.length->j<ts.length->gW ((j5 ts.length).filter (fun k=>g (k.getD 0 0).toNat (k.getD 1 0).toNat)) i j=g i j:=fun i j hi hj=>by
   have up:∀ x y:Nat,[(x:Int),(y:Int)]∈(j5 ts.length).filter (fun k=>g (k.getD 0 0).toNat (k.getD 1 0).toNat)->x<y:=fun x y z=>by
    obtain⟨a,b,u1,u2,e⟩:=hU _ z
    injection e with e1 e2
    injection e2 with e2
    omega
   unfold gW
   rcases G5 i j with l | l | l
   ·rw[decide_eq_false (show ¬ [(j:Int),(i:Int)]∈(j5 ts.length).filter (fun k=>g (k.getD 0 0).toNat (k.getD 1 0).toNat) from fun z=>by have:=up j i z;omega),Bool.or_false]
    cases hgij:g i j with
    | true=>exact decide_eq_true ((mem i j l hj).mpr hgij)
    | false=>exact decide_eq_false fun z=>by rw[(mem i j l hj).mp z]at hgij;cases hgij
   ·subst l
    rw[hg.irr,decide_eq_false (fun z=>by have:=up i i z;omega)];rfl
   ·rw[decide_eq_false (show ¬ [(i:Int),(j:Int)]∈(j5 ts.length).filter (fun k=>g (k.getD 0 0).toNat (k.getD 1 0).toNat) from fun z=>by have:=up i j z;omega),Bool.false_or,hg.sym i j]
    cases hgij:g j i with
    | true=>exact decide_eq_true ((mem j i l hi).mpr hgij)
    | false=>exact decide_eq_false fun z=>by rw[(mem j i l hi).mp z]at hgij;cases hgij
  refine L9 fun i=>?_
  rcases q0 i ts.length with hi | hi
  ·rw[Q2 hi,<- aO0 nd hU i,c8 hi]
   congr 1
   have:=dg i hi
   rw[c5,c8 hi]at this
   have t:deg ts.length g i=ts[i]:=this
   rw[<- t]
   exact Grf.m6 fun j hj=>by rw[row i j hi hj]
  ·rw[j6 (by rw[O3];exact hi),j6 hi]
 ·rintro⟨m,_,e⟩
  rw[<- e]
  have s:=ao5 (j5 ts.length) m
  refine by3 ((ay7 (ay6 _)).sublist s) fun k hk=>ai5 (s.subset hk)
end Web
namespace Web
open L2 Grf Thk
def Q4 (s want:Int):Int:=want+(want+s) % 2
theorem ag4 (ns:List Int):S ns.length (fun i=>ns.getD i 0)=ns.sum:=by
 have:=as9 (fun z=>z) ns
 rw[az1]at this
 exact this
structure Lst (ns:List Int) (mn:Int):Prop where
 le:∀ r,r<=ns.length->mn<=F2 ns r
 at_:∃ r,r<=ns.length/\mn=F2 ns r
theorem ae4 {ns:List Int}{r:Nat}(hr:r<=ns.length):∃ A,Grf.cnt ns.length A=r/\Top ns.length (fun i=>ns.getD i 0) A/\M8 ns.length 1 (fun i=>ns.getD i 0) A=F2 ns r:=by
 obtain⟨zs,hp,hs⟩:=Z5 ns
 obtain⟨a1,a2,_⟩:=U6 hp hs hr
 have:=ad2 hp hs (M:=1) hr
 rw[Q9]at this
 exact⟨_,a1,a2,this⟩
theorem aV9 {ns:List Int}(h0:AllP ns):F2 ns 0<=0:=by
 obtain⟨A,h1,_,h3⟩:=ae4 (ns:=ns) (r:=0) (o8 _)
 rw[<- h3]
 unfold M8
 have hz:∀ i,i<ns.length->A i=false:=fun i hi=>by
  cases h:A i with
  | false=>rfl
  | true =>
   have a:=aj4 (f:=fun i=>b2 (A i)) hi (fun i _=>A4 _)
   have a':b2 (A i)<=Grf.cnt ns.length A:=a
   rw[h1,h,Q7]at a'
   exact absurd a' (by decide)
 have e1:sm ns.length A (fun i=>ns.getD i 0)=0:=V5 hz
 have e2:S ns.length (fun i=>if A i=true then 0 else mnf (1*Grf.cnt ns.length A) (ns.getD i 0))<=0:=bx5 fun i hi=>by
  rw[hz i hi,if_neg f6,h1]
  have:=an3 (1*((0:Nat):Int)) (ns.getD i 0)
  omega
 rw[h1]at e2 ⊢
 rw[e1]
 simp at e2 ⊢
 exact e2
theorem bs2 (n:Nat):Kk n 1 (fun _=>0):=fun σ τ h=>by
 unfold fV
 have hs:=aL2 h
 have s0:0<=sz n σ:=K9 fun j _=>A4 _
 have t0:0<=sz n τ:=K9 fun j _=>A4 _
 rw[m6 (g:=fun _=>0) (fun j _=>J3 _),D6]
 by_cases c:sz n σ=0
 ·rw[c,O2];decide
 ·have:=aV0 s0 (show 0<=(n:Int) - 1 - sz n τ by omega)
  omega
theorem Lst.want {ns:List Int}{mn:Int}(h:Lst ns mn)(h0:AllP ns):0 <= -mn /\ -mn<=ns.sum:=by
 refine⟨?_,?_⟩
 ·have:=h.le 0 (o8 _)
  have:=aV9 h0
  omega
 ·obtain⟨r,hr,rfl⟩:=h.at_
  obtain⟨A,_,_,h3⟩:=ae4 hr
  have:=aS1 (d:=fun i=>ns.getD i 0) (bs2 ns.length) (fun i hi=>O7 h0 hi) A
  rw[h3,m6 (g:=fun i=>ns.getD i 0) (fun i _=>ah6 _),ag4]at this
  exact this
theorem Lst.off {ns:List Int}{mn:Int}(h:Lst ns mn)(h0:AllP ns):0<=Q4 ns.sum (-mn) /\ -mn<=Q4 ns.sum (-mn)/\Q4 ns.sum (-mn)<=ns.sum/\(ns.sum - Q4 ns.sum (-mn)) % 2=0:=by
 have:=h.want h0
 unfold Q4
 omega
theorem U9 (L c:Int):abv 0 L c=0:=by
 unfold abv
 by_cases h1:c - L<=0
 ·rw[if_pos h1]
 ·rw[if_neg h1,if_neg h1]
theorem bu3 {M:Int}{ns:List Int}(hM:∀ x∈ns,x<=M)(h0:AllP ns):(ns.map (abv M 0)).sum=ns.sum:=by
 have:ns.map (abv M 0)=ns:=by
  conv=>rhs;rw[<- az1 ns]
  refine J2 fun x hx=>?_
  obtain⟨i,hi⟩:=r9.mp hx
  have:=h0 i x hi
  have:=hM x hx
  unfold abv
  split
  ·omega
  ·rw[if_pos (by omega)];omega
 rw[this]
def U2 (ns xs:List Int):List Int:=(k8 ns.length).map fun j=>ns.getD j 0 - xs.getD j 0
theorem Y2 (ns xs:List Int):(U2 ns xs).length=ns.length:=by unfold U2;rw[b7,o6]
theorem Y3 {ns xs:List Int}{j:Nat}(h:j<ns.length):(U2 ns xs).getD j 0=ns.getD j 0 - xs.getD j 0:=by
 unfold U2
 rw[c5,l4,C4 h]
 rfl
theorem bg5 {ns xs:List Int} {M:Nat} {L mn:Int} (h0:AllP ns) (hM:∀ x∈ns,x<=(M:Int)) (hm:Lst ns mn) (hL:Lvl M ns (Q4 ns.sum (-mn)) L) (hx:∀ j,j<ns.length->xs.getD j 0=shx M L ns (Q4 ns.sum (-mn) - (ns.map (abv M L)).sum).toNat j) :
  Gr (U2 ns xs)/\(∀ j,j<ns.length->0<=(U2 ns xs).getD j 0/\(U2 ns xs).getD j 0<=ns.getD j 0)/\(U2 ns xs).sum=ns.sum - Q4 ns.sum (-mn):=by
 obtain⟨o0,o1,o2,o3⟩:=hm.off h0
 obtain⟨w0,w1⟩:=hm.want h0
 have hd:∀ i,i<ns.length->0<=ns.getD i 0:=fun i hi=>O7 h0 hi
 have hle:∀ j,j<ns.length->ns.getD j 0<=(M:Int):=fun j hj=>by
  refine hM _ (i6 (i:=j) ?_)
  rw[c5,c8 hj]
  rfl
 generalize Q4 ns.sum (-mn)=a at o0 o1 o2 o3 hL hx ⊢
 have l0:=hL.l0
 obtain⟨x0,xn,lo,hi,xa⟩:(∀ j,j<ns.length->0<=xs.getD j 0)/\(∀ j,j<ns.length->xs.getD j 0<=ns.getD j 0)/\(∀ j,j<ns.length->0<xs.getD j 0->L - 1<=ns.getD j 0 - xs.getD j 0)/\(∀ j,j<ns.length->ns.getD j 0 - xs.getD j 0<=L)/\S ns.length (fun j=>xs.getD j 0)=a:=by
  rw[show S ns.length (fun j=>xs.getD j 0)=S ns.length (shx M L ns (a - (ns.map (abv M L)).sum).toNat) from Grf.m6 hx]
  by_cases hM1:1<=M
  ·have hM1':(1:Int)<=(M:Int):=by omega
   have hA:a<=(ns.map (abv M 0)).sum:=by rw[bu3 hM h0];exact o2
   refine⟨fun j hj=>?_,fun j hj=>?_,fun j hj=>?_,fun j hj=>?_,bn7 hM1' hL hA⟩
   ·rw[hx j hj];exact(ah8 hM1' _ hj).1
   ·rw[hx j hj];exact bz8 hM1' hL hA hj (hd j hj)
   ·rw[hx j hj];exact(ah8 hM1' _ hj).2.2.1
   ·rw[hx j hj]
    have f:=ah8 (L:=L) hM1' (a - (ns.map (abv M L)).sum).toNat hj
    have:=hle j hj
    rcases bm0 (shx M L ns (a - (ns.map (abv M L)).sum).toNat j) M with z | z
    ·exact f.2.2.2 z
    ·omega
  ·have hM0:M=0:=by omega
   subst hM0
   have n0:∀ j,j<ns.length->ns.getD j 0=0:=fun j hj=>by
    have:=hd j hj
    have:=hle j hj
    omega
   have e0:R8 ((0:Nat):Int) L ns=[]:=by
    unfold R8
    refine Q1.mpr fun z _=>?_
    show ¬ decide (abv 0 L _<abv 0 (L - 1) _)=true
    rw[U9,U9]
    decide
   have z0:∀ k j,shx ((0:Nat):Int) L ns k j=0:=fun k j=>by
    unfold shx aq4
    rw[e0,List.take_nil,if_neg B5]
    show abv 0 L _+0=0
    rw[U9]
    rfl
   have sm0:ns.sum=0:=by
    rw[<- ag4,Grf.m6 (g:=fun _=>0) n0,Grf.D6]
   refine⟨fun j hj=>?_,fun j hj=>?_,fun j hj h=>?_,fun j hj=>?_,?_⟩
   ·rw[hx j hj,z0];decide
   ·rw[hx j hj,z0,n0 j hj];decide
   ·rw[hx j hj,z0]at h;exact absurd h (by decide)
   ·rw[hx j hj,z0,n0 j hj];omega
   ·rw[Grf.m6 (g:=fun _=>0) (fun j _=>z0 _ j),Grf.D6];omega
 have hsum:S ns.length (fun j=>ns.getD j 0 - xs.getD j 0)=ns.sum - a:=by rw[Grf.B0,ag4,xa]
 have hsl:(U2 ns xs).sum=ns.sum - a:=by
  rw[<- hsum,<- ag4,Y2]
  exact Grf.m6 fun j hj=>Y3 hj
 have ev:∃ k,S ns.length (fun j=>ns.getD j 0 - xs.getD j 0)=2*k:=⟨(ns.sum - a) / 2,by rw[hsum];omega⟩
 have kk:Kk ns.length 1 (fun j=>ns.getD j 0 - xs.getD j 0):=bg4 (L:=L) (W:=-mn) (d:=fun j=>ns.getD j 0) (x:=fun j=>xs.getD j 0) (fun j hj=>rfl) (fun j hj=>by have:=xn j hj;show 0<=ns.getD j 0 - xs.getD j 0;omega) x0 lo hi
  (bt3 hd w0 fun r r1 r2 => by
   obtain⟨A,a1,a2,a3⟩:=ae4 r2
   refine⟨A,a1,a2,?_⟩
   rw[a3]
   have:=hm.le r r2
   omega) (by rw[xa];exact o1) ev
 refine⟨aT2 (aP3 (bs4 ?_ ?_ ?_)),fun j hj=>?_,hsl⟩
 ·intro j z hz
  have hj:j<ns.length:=by
   rw[<- Y2 ns xs]
   exact(o7.mp hz).1
  have e:=Y3 (xs:=xs) hj
  rw[c5,hz]at e
  have e:z=ns.getD j 0 - xs.getD j 0:=e
  have:=xn j hj
  omega
 ·rw[hsl];omega
 ·rw[Y2]
  intro σ τ h
  have:=kk σ τ h
  have e:fV ns.length 1 (fun i=>(U2 ns xs).getD i 0) σ τ=fV ns.length 1 (fun j=>ns.getD j 0 - xs.getD j 0) σ τ:=by
   unfold fV
   congr 1
   refine Grf.m6 fun j hj=>?_
   show _*(U2 ns xs).getD j 0=_
   rw[Y3 hj]
  show fV ns.length 1 (fun i=>(U2 ns xs).getD i 0) σ τ<=0
  rw[e]
  exact this
 ·rw[Y3 hj]
  have:=xn j hj
  have:=x0 j hj
  omega
theorem bh1 {ns ts:List Int}{mn:Int}(hl:ts.length=ns.length)(hle:∀ j,j<ns.length->ts.getD j 0<=ns.getD j 0)(G:Gr ts)(hm:Lst ns mn):Q4 ns.sum (-mn)<=ns.sum - ts.sum:=by
 have hf:=aS8 G
 have kk:=bt4 (ns:=ts) (M:=1) ⟨hf.1,hf.2.1,fun k k1 k2=>by rw[Q9];exact hf.2.2 k k1 k2⟩
 rw[hl]at kk
 obtain⟨r,hr,e⟩:=hm.at_
 obtain⟨A,_,_,a3⟩:=ae4 hr
 have:=aS1 (d:=fun i=>ns.getD i 0) kk hle A
 rw[Grf.B0,ag4]at this
 have st:=ag4 ts
 rw[hl]at st
 have e3:M8 ns.length ((1:Nat):Int) (fun i=>ns.getD i 0) A=F2 ns r:=a3
 have ev:=hf.2.1
 unfold Q4
 omega
end Web
namespace L2
open PySem PySem.Spec PyProof.Rows
structure ZAp (z TI TO i1 i2:Addr) (f1 f2:List Addr):Prop where
 a1:TI≠z
 a2:TO≠z
 a3:i1≠z
 a4:i2≠z
 a5:TI≠TO
 a6:TI≠i1
 a7:TI≠i2
 a8:TO≠i1
 a9:TO≠i2
 b0:i1≠i2
 b1:z∉f1
 b2:z∉f2
 b3:TO∉f1
 b4:TO∉f2
 b5:i1∉f2
 b6:i2∉f1
section
variable {prog:Program} {w:World} {A:Around} {E:Value->Shared->Prop} {s:Shared} {z TI TO i1 i2:Addr} {f1 f2:List Addr} {n1 n2 k:Nat} {P1 P2:Nat->Value->Prop} {S1 S2:Nat->Heap->Prop}
theorem M6 {it:Addr}{fp:List Addr}{n i:Nat}{P:Nat->Value->Prop}{St:Nat->Heap->Prop}(D:Draws prog w A it fp n P St){h h':Heap}{c:Addr}(st:St i h)(k:Heap.ExtBut c h h')(hc:c∉fp):St i h':=D.frame i h h' st fun b hb o e=>k b o (fun zz=>hc (zz ▸ hb)) e
theorem bm4 {Q:Value->Shared->Prop} {a b:Value} (D:ZAp z TI TO i1 i2 f1 f2) (D1:Draws prog w A i1 f1 n1 P1 S1) (D2:Draws prog w A i2 f2 n2 P2 S2) (hz:IsZip s.heap z TI TO .none) (hTI:IsPair s.heap TI (.ref i1) (.ref i2)) (hTO:IsPair s.heap TO a b) (st1:S1 k s.heap) (st2:S2 k s.heap) (hk1:k<n1) (hk2:k<n2)
  (hQ : ∀ x y h' tk, P1 k x -> P2 k y -> IsZip h' z TI TO (rawInt s.heap.objs.size) -> IsPair h' TO x y -> S1 (k + 1) h' -> S2 (k + 1) h' -> IsPair h' s.heap.objs.size x y -> h'.objs.size = s.heap.objs.size + 1 ->
   (∀ c o,c≠z->c≠TO->c≠i1->c≠i2->s.heap.get? c=some o->h'.get? c=some o)->Q (.ref s.heap.objs.size) { s with heap:=h',toks:=tk }) :
  wpAny (model prog w) A (Builtin.«zip.__next__» ⟨[.ref z],[]⟩) (fun fin s'=>∃ v,fin=.done (.ret v)/\Q v s') E s:=by
 show wpAny _ _ (field (.ref z) 2 >>= _) _ _ _;refine wpAny_bind (wpAny_field hz rfl (x:=.bool false) rfl ?_)
 show wpAny _ _ (field (.ref z) 3 >>= _) _ _ _;refine wpAny_bind (wpAny_field hz rfl (x:=.ref TI) rfl (wpAny_bind (wpAny_seqItems hTI rfl ?_)))
 show wpAny _ _ (Builtin.SmallTypes.ownedTupleIsFree (.ref z) >>= _) _ _ _;refine wpAny_bind ?_;unfold Builtin.SmallTypes.ownedTupleIsFree
 refine wpAny_bind (wpAny_field hz rfl (x:=.none) rfl (wpAny_pure ?_));simp only[if_true]
 refine wpAny_bind (wpAny_rule (wpAny_bind (wpAny_field hz rfl (x:=.ref TO) rfl (wpAny_bind (wpAny_setField_rec hz (by simp) fun hA hzA hsA=>?_)))))
 replace hzA:IsZip hA z TI TO .ellipsis:=hzA
 refine wpAny_bind ?_;simp only[bH7,List.zipIdx_nil,List.forIn_cons,List.forIn_nil]
 refine wpAny_bind (wpAny_bind (wpAny_onRaise ?_));show wpAny _ _ (Builtin.SmallTypes.nextOf (.ref i1) >>= _) _ _ _
 refine wpAny_bind (D1.item k _ _ _ hk1 (M6 D1 st1 hsA.extBut D.b1) fun x hB tB hx stB hsB=>wpAny_pure ?_)
 have hTOB:IsPair hB TO a b:=hsB.extBut _ _ D.a8 (hsA.extBut _ _ D.a2 hTO)
 refine wpAny_bind (wpAny_seqItems hTOB rfl (wpAny_bind (wpAny_updateSeq_pair hTOB fun hC hTOC hsC=>?_)))
 replace hTOC:IsPair hC TO x b:=hTOC
 refine wpAny_bind (wpAny_letGo (wpAny_pure ?_));refine wpAny_bind (wpAny_bind (wpAny_onRaise ?_));show wpAny _ _ (Builtin.SmallTypes.nextOf (.ref i2) >>= _) _ _ _
 refine wpAny_bind (D2.item k _ _ _ hk2 (M6 D2 (M6 D2 (M6 D2 st2 hsA.extBut D.b2) hsB.extBut D.b5) hsC.extBut D.b4) fun y hD tD hy stD hsD=>wpAny_pure ?_)
 have hTOD:IsPair hD TO x b:=hsD.extBut _ _ D.a9 hTOC
 refine wpAny_bind (wpAny_seqItems hTOD rfl (wpAny_bind (wpAny_updateSeq_pair hTOD fun hF hTOF hsF=>?_)))
 replace hTOF:IsPair hF TO x y:=hTOF
 refine wpAny_bind (wpAny_letGo (wpAny_pure (wpAny_pure (wpAny_bind (wpAny_seqItems hTOF rfl (wpAny_bind (wpAny_newTuple ?_)))))))
 have hsz:hF.objs.size=s.heap.objs.size:=by rw[hsF.1,hsD.1,hsC.1,hsB.1,hsA.1]
 have hzF:IsZip hF z TI TO .ellipsis:=hsF.extBut _ _ D.a2.symm (hsD.extBut _ _ D.a4.symm (hsC.extBut _ _ D.a2.symm (hsB.extBut _ _ D.a3.symm hzA)))
 have hkF:∀ c o,c≠z->c≠TO->c≠i1->c≠i2->s.heap.get? c=some o->hF.get? c=some o:=fun c o c1 c2 c3 c4 e=>hsF.extBut _ _ c2 (hsD.extBut _ _ c4 (hsC.extBut _ _ c2 (hsB.extBut _ _ c3 (hsA.extBut _ _ c1 e))))
 have s1F:S1 (k+1) hF:=M6 D1 (M6 D1 (M6 D1 stB hsC.extBut D.b3) hsD.extBut D.b6) hsF.extBut D.b3
 have s2F:S2 (k+1) hF:=M6 D2 stD hsF.extBut D.b4
 have hzlt:z<hF.objs.size:=c9 hzF
 show wpAny _ _ (Builtin.SmallTypes.ownedTupleHandOut (.ref z) (.ref hF.objs.size) >>= _) _ _ _;refine wpAny_bind ?_;unfold Builtin.SmallTypes.ownedTupleHandOut
 have hzG:IsZip (hF.push { cls:=.type "tuple",data:=.seq #[x,y] }) z TI TO .ellipsis:=b9 _ hzF
 refine wpAny_bind (wpAny_setField_rec hzG (by simp) fun hJ hzJ hsJ=>?_)
 replace hzJ:IsZip hJ z TI TO (rawInt hF.objs.size):=hzJ
 refine wpAny_setField_rec hzJ (by simp) fun hL hzL hsL=>?_
 replace hzL:IsZip hL z TI TO (rawInt hF.objs.size):=hzL
 have up:∀ c o,c≠z->hF.get? c=some o->hL.get? c=some o:=fun c o c1 e=>hsL.extBut _ _ c1 (hsJ.extBut _ _ c1 (b9 _ e))
 have hTL:IsPair hL hF.objs.size x y:=hsL.extBut _ _ (D9 hzlt) (hsJ.extBut _ _ (D9 hzlt) (d6 _ rfl))
 have hzs:hL.objs.size=hF.objs.size+1:=by rw[hsL.1,hsJ.1,x6]
 rw[hsz]at hzL hTL hzs
 refine wpAny_pure ⟨_,rfl,?_⟩;show Q (.ref hF.objs.size) _;rw[hsz]
 exact hQ x y hL tD hx hy hzL (up _ _ D.a2 hTOF) (D1.frame _ _ _ s1F fun b hb o e=>up b o (fun q=>D.b1 (q ▸ hb)) e) (D2.frame _ _ _ s2F fun b hb o e=>up b o (fun q=>D.b2 (q ▸ hb)) e) hTL hzs fun c o c1 c2 c3 c4 e=>up c o c1 (hkF c o c1 c2 c3 c4 e)
theorem by1 {Q:PySem.Fin->Shared->Prop}{a b:Value}(D:ZAp z TI TO i1 i2 f1 f2)(D1:Draws prog w A i1 f1 n1 P1 S1)(hz:IsZip s.heap z TI TO .none)(hTI:IsPair s.heap TI (.ref i1) (.ref i2))(hTO:IsPair s.heap TO a b)(st1:S1 n1 s.heap)
  (hE:∀ h' e,(∀ c o,c≠z->c≠TO->c≠i1->c≠i2->s.heap.get? c=some o->h'.get? c=some o)->(∃ o,h'.get? e=some o/\o.cls=.type "StopIteration")->E (.ref e) { s with heap:=h' }) :
  wpAny (model prog w) A (Builtin.«zip.__next__» ⟨[.ref z],[]⟩) Q E s:=by
 show wpAny _ _ (field (.ref z) 2 >>= _) _ _ _;refine wpAny_bind (wpAny_field hz rfl (x:=.bool false) rfl ?_)
 show wpAny _ _ (field (.ref z) 3 >>= _) _ _ _;refine wpAny_bind (wpAny_field hz rfl (x:=.ref TI) rfl (wpAny_bind (wpAny_seqItems hTI rfl ?_)))
 show wpAny _ _ (Builtin.SmallTypes.ownedTupleIsFree (.ref z) >>= _) _ _ _;refine wpAny_bind ?_;unfold Builtin.SmallTypes.ownedTupleIsFree
 refine wpAny_bind (wpAny_field hz rfl (x:=.none) rfl (wpAny_pure ?_));simp only[if_true]
 refine wpAny_bind (wpAny_rule (wpAny_bind (wpAny_field hz rfl (x:=.ref TO) rfl (wpAny_bind (wpAny_setField_rec hz (by simp) fun hA hzA hsA=>?_)))))
 replace hzA:IsZip hA z TI TO .ellipsis:=hzA
 refine wpAny_bind ?_;simp only[bH7,List.zipIdx_nil,List.forIn_cons,List.forIn_nil]
 refine wpAny_bind (wpAny_bind (wpAny_onRaise ?_));show wpAny _ _ (Builtin.SmallTypes.nextOf (.ref i1) >>= _) _ _ _
 refine wpAny_bind (D1.done _ _ _ (M6 D1 st1 hsA.extBut D.b1) fun hB e hsB he=>?_)
 obtain⟨oe,hoe,hce⟩:=he
 have hzB:IsZip hB z TI TO .ellipsis:=hsB _ _ D.a3.symm hzA
 have hez:e≠z:=fun x=>by subst x;rw[hzB]at hoe;cases hoe;simp at hce
 exact wpAny_setField_rec hzB (by simp) fun hC _ hsC=>hE hC e (fun c o c1 _ c3 _ x=>hsC.extBut _ _ c1 (hsB _ _ c3 (hsA.extBut _ _ c1 x))) ⟨oe,hsC.extBut _ _ hez hoe,hce⟩
theorem bm2 {Q:Option Value->Shared->Prop} {a b:Value} (D:ZAp z TI TO i1 i2 f1 f2) (D1:Draws prog w A.in1 i1 f1 n1 P1 S1) (D2:Draws prog w A.in1 i2 f2 n2 P2 S2) (hz:IsZip s.heap z TI TO .none) (hTI:IsPair s.heap TI (.ref i1) (.ref i2)) (hTO:IsPair s.heap TO a b) (st1:S1 k s.heap) (st2:S2 k s.heap) (hk1:k<n1) (hk2:k<n2)
  (hQ : ∀ x y h' tk, P1 k x -> P2 k y -> IsZip h' z TI TO (rawInt s.heap.objs.size) -> IsPair h' TO x y -> S1 (k + 1) h' -> S2 (k + 1) h' -> IsPair h' s.heap.objs.size x y -> h'.objs.size = s.heap.objs.size + 1 ->
   (∀ c o,c≠z->c≠TO->c≠i1->c≠i2->s.heap.get? c=some o->h'.get? c=some o)->Q (some (.ref s.heap.objs.size)) { s with heap:=h',toks:=tk }):wpAny (model prog w) A (pyNext (.ref z)) Q E s:=by
 have hT:s.TypeIs (.ref z) "zip":=⟨_,hz,rfl⟩;unfold pyNext
 refine wpAny_bind (wpAny_attempt (wpAny_callSpecial?_slot (name:=Str.ofString "__next__") hT F.slot_zip_next (wpAny_call_entry F.slot_zip_next hT F.entry_zip_next ?_ (F.args_zip_next_1 _))))
 exact bm4 D D1 D2 hz hTI hTO st1 st2 hk1 hk2 fun x y h' tk a0 a1 a2 a3 a4 a5 a6 a7 a8=>wpAny_pure (hQ x y h' tk a0 a1 a2 a3 a4 a5 a6 a7 a8)
theorem bm3 {Q:Option Value->Shared->Prop}{a b:Value}(D:ZAp z TI TO i1 i2 f1 f2)(D1:Draws prog w A.in1 i1 f1 n1 P1 S1)(hz:IsZip s.heap z TI TO .none)(hTI:IsPair s.heap TI (.ref i1) (.ref i2))(hTO:IsPair s.heap TO a b)(st1:S1 n1 s.heap)
  (hQ:∀ h',(∀ c o,c≠z->c≠TO->c≠i1->c≠i2->s.heap.get? c=some o->h'.get? c=some o)->Q none { s with heap:=h' }):wpAny (model prog w) A (pyNext (.ref z)) Q E s:=by
 have hT:s.TypeIs (.ref z) "zip":=⟨_,hz,rfl⟩;unfold pyNext
 refine wpAny_bind (wpAny_attempt (wpAny_callSpecial?_slot (name:=Str.ofString "__next__") hT F.slot_zip_next (wpAny_call_entry F.slot_zip_next hT F.entry_zip_next (by1 D D1 hz hTI hTO st1 fun h' e hk he=>?_) (F.args_zip_next_1 _))))
 obtain⟨o,ho,hc⟩:=he
 exact wpAny_bind (wpAny_isInstance (T:="StopIteration") (b:=true) ⟨o,ho,hc⟩ isSubtype_stop (wpAny_pure (hQ _ hk)))
end
abbrev zA (h:Heap)(p:Addr):Heap:=h.push { cls:=.type "list_iterator",data:=.fields #[.ref p,.int 0 0] }
section
variable {prog:Program} {w:World} {A:Around} {E:Value->Shared->Prop} {s:Shared}
end
section
variable {X:Cx} {pins:List (Addr × Obj)} {σ:St} {H:Hp} {s:Shared}
theorem aT3 {a c:Addr}{o:Obj}(I:Inv X pins σ H s)(f:J1 X pins H c)(lk:X.K.lookup a=some o):a≠c:=fun z=>by
 have e:=I.ok.mod.kin a o lk
 rw[z]at e
 rcases f.2.2.2.1 with h | h
 ·exact I.ok.noex c o e h
 ·exact absurd (l9 (c9 e) (p5 I.ok.bsz h)) (u5 _)
theorem bQ9 {a c:Addr}{xs:List V}(I:Inv X pins σ H s)(f:J1 X pins H c)(q:SqL X.K H a xs):a≠c:=by
 rcases q with(q | ⟨o,q⟩) | ⟨o,its,n,lk,_⟩
 ·exact m8 q f.1
 ·exact m8 q f.1
 ·exact aT3 I f lk
theorem bQ8 {a c:Addr}{xs:List V}(I:Inv X pins σ H s)(f:J1 X pins H c)(q:SqT X.K H a xs):a≠c:=by
 rcases q with(q | ⟨o,q⟩) | ⟨o,its,n,lk,_⟩
 ·exact m8 q f.1
 ·exact m8 q f.1
 ·exact aT3 I f lk
theorem Inv.tupled {h':Heap}{t':Nat}{fp:List Addr}{xs:List V}{its:List Value}(I:Inv X pins σ H s)(hf:∀ b∈fp,J1 X pins H b)(kp:∀ b o,b∉fp->s.heap.get? b=some o->h'.get? b=some o)
  (ht:h'.get? s.heap.objs.size=some { cls:=.type "tuple",data:=.seq its.toArray })(rv:y9 xs its)(hl:xs.length<=sizeLine):Inv X pins σ (upd H s.heap.objs.size (.tup xs)) { s with heap:=h',toks:=t' }:=by
 have hT:H s.heap.objs.size=none:=I.hok.fresh (c7 _)
 have nH:∀ b o,H b=some o->b∉fp:=fun b o q hb=>by rw[(hf b hb).1]at q;cases q
 have keepH:∀ b o,H b=some o->upd H s.heap.objs.size (.tup xs) b=some o:=fun b o q=>by rw[m5 (m8 q hT)];exact q
 have hok2:HOk X.prog X.w (upd H s.heap.objs.size (.tup xs)) h':=fun b o eb=>by
  by_cases hb:b=s.heap.objs.size
  ·subst hb
   rw[c6]at eb
   cases eb
   exact⟨hl,its,rv,⟨_,ht,rfl,_,rfl⟩⟩
  ·rw[m5 hb]at eb
   refine(I.hok b o eb).stay (fun c v hcc q=>kp c v ?_ q) (fun c q=>keepH c _ q) fun c ys q=>keepH c _ q
   rcases hcc with z | z
   ·exact nH c o (by rw[z];exact eb)
   ·exact nH c _ z
 refine I.step (g':=s.gens) (d':=s.drawn) (t':=t') (ch:=fp) (fun b hb=>?_) (fun b o _ _ hcc q _=>kp b o hcc q) (fun b o _ _ hcc q _=>⟨o.slots,kp b o hcc q⟩) (fun b o _ q n=>?_) (fun b o hcc q=>⟨o,kp b o hcc q⟩) (fun b ys q=>keepH b _ q) (fun b o v q=>keepH b _ q) (fun b ps q=>⟨#[],by rw[keepH b _ q];simp⟩) (fun m hm=>?_) hok2 I.bare
 ·obtain⟨f0,f1,f2,f3,f4,f5⟩:=hf b hb
  exact⟨f3,f1,f4,f5⟩
 ·rw[m5 (i4 (c9 q))]
  exact n
 ·obtain⟨o,es,ep,ho,r⟩:=hm
  exact⟨o,es,ep,kp _ o (fun hb=>(hf _ hb).2.1 rfl) ho,r⟩
theorem Inv.turns {h':Heap}{t':Nat}{fp:List Addr}(I:Inv X pins σ H s)(hf:∀ b∈fp,J1 X pins H b)(kp:∀ b o,b∉fp->s.heap.get? b=some o->h'.get? b=some o):Inv X pins σ H { s with heap:=h',toks:=t' }:=by
 have nH:∀ b o,H b=some o->b∉fp:=fun b o q hb=>by rw[(hf b hb).1]at q;cases q
 refine I.step (g':=s.gens) (d':=s.drawn) (t':=t') (ch:=fp) (fun b hb=>?_) (fun b o _ _ hcc q _=>kp b o hcc q) (fun b o _ _ hcc q _=>⟨o.slots,kp b o hcc q⟩) (fun b o _ q n=>n) (fun b o hcc q=>⟨o,kp b o hcc q⟩) (fun b ys q=>q) (fun b o v q=>q) (fun b ps q=>⟨#[],by rw[q];simp⟩) (fun m hm=>?_) (fun b o eb=>?_) I.bare
 ·obtain⟨f0,f1,f2,f3,f4,f5⟩:=hf b hb
  exact⟨f3,f1,f4,f5⟩
 ·obtain⟨o,es,ep,ho,r⟩:=hm
  exact⟨o,es,ep,kp _ o (fun hb=>(hf _ hb).2.1 rfl) ho,r⟩
 ·refine(I.hok b o eb).stay (fun c v hcc q=>kp c v ?_ q) (fun c q=>q) fun c ys q=>q
  rcases hcc with z | z
  ·exact nH c o (by rw[z];exact eb)
  ·exact nH c _ z
end
theorem nd5 (n:Nat):[n+4,n+2,n+3,n,n+1].Nodup:=by
 simp only[A0,d3,E9,or_false,not_or,al8,not_false_eq_true,and_true]
 omega
theorem bQ0 {n k:Nat}(h:k∈[n+4,n+2,n+3,n,n+1]):n<=k:=by
 simp only[d3,E9,or_false]at h
 omega
section
variable {X:Cx}
end
def SqB (b:Bool)(K:W.Frag)(H:Hp)(a:Addr)(xs:List V):Prop:=match b with
 | true=>SqL K H a xs
 | false=>SqT K H a xs
def itB (b:Bool)(h:Heap)(i a:Addr)(k:Nat):Prop:=match b with
 | true=>h.IsListIter i a k
 | false=>h.IsTupleIter i a k
def isQ (b:Bool)(h:Heap)(a:Addr)(xs:Array Value):Prop:=match b with
 | true=>h.IsList a xs
 | false=>h.IsTuple a xs
def nmB (b:Bool):String:=match b with
 | true=>"list_iterator"
 | false=>"tuple_iterator"
theorem itB.obj {b:Bool}{h:Heap}{i a:Addr}{k:Nat}(q:itB b h i a k):∃ o,h.get? i=some o/\∃ v,o.data=.fields v:=by
 cases b with
 | true=>obtain⟨o,h1,_,h2⟩:=q;exact⟨o,h1,_,h2⟩
 | false=>obtain⟨o,h1,_,h2⟩:=q;exact⟨o,h1,_,h2⟩
theorem itB.at {b:Bool}{h h':Heap}{i a:Addr}{k:Nat}(q:itB b h i a k)(e:∀ o,h.get? i=some o->h'.get? i=some o):itB b h' i a k:=by
 cases b with
 | true=>exact Heap.IsListIter.at q e
 | false=>exact Heap.IsTupleIter.at q e
theorem aO1 {prog:Program}{w:World}{A:Around}(b:Bool)(hh:A.handled=none)(it l:Addr)(hne:l≠it)(items:Array Value):Draws prog w A it [it,l] items.size (fun i v=>items[i]?=some v) (fun i h=>itB b h it l i/\isQ b h l items):=by
 cases b with
 | true=>exact Draws.list hh it l hne items
 | false=>exact aj0 hh it l hne items
theorem bE7 {b:Bool}{X:Cx}{pins:List (Addr × Obj)}{σ:St}{H:Hp}{s:Shared}{a c:Addr}{xs:List V}(I:Inv X pins σ H s)(f:J1 X pins H c)(q:SqB b X.K H a xs):a≠c:=by
 cases b with
 | true=>exact bQ9 I f q
 | false=>exact bQ8 I f q
theorem Inv.seqB {b:Bool}{X:Cx}{pins:List (Addr × Obj)}{σ:St}{H:Hp}{s:Shared}{a:Addr}{xs:List V}(I:Inv X pins σ H s)(q:SqB b X.K H a xs):∃ its,y9 xs its/\isQ b s.heap a its.toArray:=by
 cases b with
 | true=>obtain⟨its,rv,pl,_⟩:=I.list q;exact⟨its,rv,pl.isList⟩
 | false=>obtain⟨its,rv,pt,_⟩:=I.tuple q;exact⟨its,rv,pt⟩
theorem Inv.seqB_inj {b:Bool}{X:Cx}{pins:List (Addr × Obj)}{σ:St}{H:Hp}{s:Shared}{a:Addr}{xs ys:List V}(I:Inv X pins σ H s)(q:SqB b X.K H a xs)(r:SqB b X.K H a ys):xs=ys:=by
 cases b with
 | true=>exact I.list_inj q r
 | false=>exact I.tuple_inj q r
abbrev xA (b1:Bool)(h:Heap)(p:Addr):Heap:=h.push { cls:=.type (nmB b1),data:=.fields #[.ref p,.int 0 0] }
abbrev xB (b1 b2:Bool)(h:Heap)(p q:Addr):Heap:=(xA b1 h p).push { cls:=.type (nmB b2),data:=.fields #[.ref q,.int 0 0] }
abbrev xC (b1 b2:Bool)(h:Heap)(p q:Addr):Heap:=(xB b1 b2 h p q).push { cls:=.type "tuple",data:=.seq #[.ref h.objs.size,.ref (xA b1 h p).objs.size] }
abbrev xD (b1 b2:Bool)(h:Heap)(p q:Addr):Heap:=(xC b1 b2 h p q).push { cls:=.type "tuple",data:=.seq #[.none,.none] }
abbrev xE (b1 b2:Bool)(h:Heap)(p q:Addr):Heap:=(xD b1 b2 h p q).push { cls:=.type "zip",data:=.fields #[.none,.bool false,.bool false,.ref (xB b1 b2 h p q).objs.size,.ref (xC b1 b2 h p q).objs.size] }
set_option maxHeartbeats 2000000 in
theorem aN0 (b1 b2:Bool)(p q:Addr)(xs ys:Array Value) :
  Meets (Builtin.«zip.__new__» ⟨[.type "zip",.ref p,.ref q],[]⟩) (fun _ R s=>isQ b1 s.heap p xs/\isQ b2 s.heap q ys/\R (.ok (.ret (.ref (xD b1 b2 s.heap p q).objs.size))) { s with heap:=xE b1 b2 s.heap p q }) :=
 .of_wp fun prog w A R s h=>by
  obtain⟨hp,g,d,tk,os⟩:=s;obtain⟨h1,h2,h⟩:=h
  have hsub:=sub_zip
  cases b1 with
  | true =>
   have hL:Heap.IsList (Shared.heap ⟨hp,g,d,tk,os⟩) p xs:=h1
   cases b2 with
   | true =>
    have hT:Heap.IsList (Shared.heap ⟨hp.push { cls:=.type "list_iterator",data:=.fields #[.ref p,.int 0 0] },g,d,tk,os⟩) q ys:=Heap.IsList.push h2 _
    wp_walk using wpAny_pyIter_list hL,wpAny_pyIter_list hT
    exact⟨_,rfl,h⟩
   | false =>
    have hT:Heap.IsTuple (Shared.heap ⟨hp.push { cls:=.type "list_iterator",data:=.fields #[.ref p,.int 0 0] },g,d,tk,os⟩) q ys:=Heap.IsTuple.push h2 _
    wp_walk using wpAny_pyIter_list hL,wpAny_pyIter_tuple hT
    exact⟨_,rfl,h⟩
  | false =>
   have hL:Heap.IsTuple (Shared.heap ⟨hp,g,d,tk,os⟩) p xs:=h1
   cases b2 with
   | true =>
    have hT:Heap.IsList (Shared.heap ⟨hp.push { cls:=.type "tuple_iterator",data:=.fields #[.ref p,.int 0 0] },g,d,tk,os⟩) q ys:=Heap.IsList.push h2 _
    wp_walk using wpAny_pyIter_tuple hL,wpAny_pyIter_list hT
    exact⟨_,rfl,h⟩
   | false =>
    have hT:Heap.IsTuple (Shared.heap ⟨hp.push { cls:=.type "tuple_iterator",data:=.fields #[.ref p,.int 0 0] },g,d,tk,os⟩) q ys:=Heap.IsTuple.push h2 _
    wp_walk using wpAny_pyIter_tuple hL,wpAny_pyIter_tuple hT
    exact⟨_,rfl,h⟩
theorem an6 {b:Bool}{h:Heap}{i p:Addr}(e:h.get? i=some { cls:=.type (nmB b),data:=.fields #[.ref p,.int 0 0] }):itB b h i p 0:=by
 cases b with
 | true=>exact⟨_,e,rfl,rfl⟩
 | false=>exact⟨_,e,rfl,rfl⟩
section
variable {prog:Program} {w:World} {A:Around} {E:Value->Shared->Prop} {s:Shared}
theorem aZ3 {b1 b2:Bool} {p q:Addr} {xs ys:Array Value} {Q:Value->Shared->Prop} (h1:isQ b1 s.heap p xs) (h2:isQ b2 s.heap q ys)
  (h : ∀ h', IsZip h' (s.heap.objs.size + 4) (s.heap.objs.size + 2) (s.heap.objs.size + 3) .none -> IsPair h' (s.heap.objs.size + 2) (.ref s.heap.objs.size) (.ref (s.heap.objs.size + 1)) -> IsPair h' (s.heap.objs.size + 3) .none .none -> itB b1 h' s.heap.objs.size p 0 ->
   itB b2 h' (s.heap.objs.size+1) q 0->h'.objs.size=s.heap.objs.size+5->(∀ c o,s.heap.get? c=some o->h'.get? c=some o)->Q (.ref (s.heap.objs.size+4)) { s with heap:=h' }) :
  wpAny (model prog w) A (call (.type "zip") [.ref p,.ref q]) Q E s:=by
 refine callType_new F.called_zip (by decide) (F.typeCall_zip_2 _ _) (F.newCall_zip_2 _ _) (fun obj=>F.args_object_init_3 obj _ _) F.entry_zip_new (aN0 b1 b2 p q xs ys) ⟨h1,h2,?_⟩
 have y1:(xA b1 s.heap p).objs.size=s.heap.objs.size+1:=x6 ..
 have y2:(xB b1 b2 s.heap p q).objs.size=s.heap.objs.size+2:=by rw[x6,y1]
 have y3:(xC b1 b2 s.heap p q).objs.size=s.heap.objs.size+3:=by rw[x6,y2]
 have y4:(xD b1 b2 s.heap p q).objs.size=s.heap.objs.size+4:=by rw[x6,y3]
 have y5:(xE b1 b2 s.heap p q).objs.size=s.heap.objs.size+5:=by rw[x6,y4]
 have p1:∀ {hh:Heap} {o:Obj} {b:Addr} {u:Obj},hh.get? b=some u->(hh.push o).get? b=some u:=fun e=>b9 _ e
 have g5:(xE b1 b2 s.heap p q).get? (xD b1 b2 s.heap p q).objs.size=some _:=d6 _ rfl
 have g4:(xE b1 b2 s.heap p q).get? (xC b1 b2 s.heap p q).objs.size=some _:=p1 (d6 _ rfl)
 have g3:(xE b1 b2 s.heap p q).get? (xB b1 b2 s.heap p q).objs.size=some _:=p1 (p1 (d6 _ rfl))
 have g2:(xE b1 b2 s.heap p q).get? (xA b1 s.heap p).objs.size=some _:=p1 (p1 (p1 (d6 _ rfl)))
 have g1:(xE b1 b2 s.heap p q).get? s.heap.objs.size=some _:=p1 (p1 (p1 (p1 (d6 _ rfl))))
 show _/\_
 rw[y2,y3,y4]at g5;rw[y1,y2]at g3;rw[y3]at g4;rw[y1]at g2;rw[y4]
 exact⟨⟨_,g5,rfl⟩,h _ g5 g3 g4 (an6 g1) (an6 g2) y5 fun c o x=>p1 (p1 (p1 (p1 (p1 x))))⟩
end
def bl2 (b1 b2:Bool)(K:W.Frag)(a b:Addr):It:=
 ⟨fun i H=>∃ xs ys x y,SqB b1 K H a xs/\SqB b2 K H b ys/\xs[i]?=some x/\ys[i]?=some y,fun i H x H'=>∃ t u v,H t=none/\x=.ref t/\(∀ xs,SqB b1 K H a xs->xs[i]?=some u)/\(∀ ys,SqB b2 K H b ys->ys[i]?=some v)/\H'=upd H t (.tup [u,v]),fun i H=>∃ xs,SqB b1 K H a xs/\xs.length=i⟩
def bM2 (K:W.Frag)(ta:TA):TI:=fun σ H R=>ta σ H fun vs H1=>∃ (b1 b2:Bool) (a b:Addr),vs=[.ref a,.ref b]/\(∃ xs,SqB b1 K H1 a xs)/\(∃ ys,SqB b2 K H1 b ys)/\R (bl2 b1 b2 K a b) H1
theorem aV3 {b1 b2:Bool}{P:Program}{w:World}{K:W.Frag}{elts:List Expr}{x1:Nat}{pos:Pos}(a b z TI TO i1 i2:Addr)(nd:[z,TI,TO,i1,i2].Nodup) :
  Turn P w K (.Tuple elts x1 pos) (bl2 b1 b2 K a b) [z,TI,TO,i1,i2] z (fun i h=>IsZip h z TI TO .none/\IsPair h TI (.ref i1) (.ref i2)/\(∃ x y,IsPair h TO x y)/\itB b1 h i1 a i/\itB b2 h i2 b i) where
 mem:=by simp
 obj:=fun i h st c hc=>by
  obtain⟨hz,hTI,⟨x,y,hTO⟩,h1,h2⟩:=st
  obtain⟨o1,ho1,v1,hd1⟩:=h1.obj
  obtain⟨o2,ho2,v2,hd2⟩:=h2.obj
  simp only[d3,E9,or_false]at hc
  rcases hc with rfl | rfl | rfl | rfl | rfl
  ·exact⟨_,hz,fun v q=>by cases q⟩
  ·exact⟨_,hTI,fun v q=>by cases q⟩
  ·exact⟨_,hTO,fun v q=>by cases q⟩
  ·exact⟨o1,ho1,fun v q=>by rw[hd1]at q;cases q⟩
  ·exact⟨o2,ho2,fun v q=>by rw[hd2]at q;cases q⟩
 keep:=fun i h h' st k=>by
  obtain⟨hz,hTI,⟨x,y,hTO⟩,h1,h2⟩:=st
  exact⟨k z (by simp) _ hz,k TI (by simp) _ hTI,⟨x,y,k TO (by simp) _ hTO⟩,h1.at fun o q=>k i1 (by simp) o q,h2.at fun o q=>k i2 (by simp) o q⟩
 item:=by
  intro X hP hw hK hc i pins s σ H E I hf st hg
  subst hP hw hK
  obtain⟨xs,ys,x,y,q1,q2,hx,hy⟩:=hg
  obtain⟨hz,hTI,⟨o1,o2,hTO⟩,h1,h2⟩:=st
  obtain⟨its,rv,pl⟩:=I.seqB q1
  obtain⟨jts,rw',pt⟩:=I.seqB q2
  obtain⟨u,hu,ru⟩:=rv.get hx
  obtain⟨v,hv,rv'⟩:=rw'.get hy
  have fa:∀ c∈[z,TI,TO,i1,i2],a≠c:=fun c hc=>bE7 I (hf c hc) q1
  have fb:∀ c∈[z,TI,TO,i1,i2],b≠c:=fun c hc=>bE7 I (hf c hc) q2
  have hl1:isQ b1 s.heap a its.toArray:=pl
  have hl2:isQ b2 s.heap b jts.toArray:=pt
  have ui:its.toArray[i]?=some u:=by simpa using hu
  have vi:jts.toArray[i]?=some v:=by simpa using hv
  have lt1:i<its.toArray.size:=by
   rcases q0 i its.toArray.size with h | h
   ·exact h
   ·rw[P7 h]at ui;cases ui
  have lt2:i<jts.toArray.size:=by
   rcases q0 i jts.toArray.size with h | h
   ·exact h
   ·rw[P7 h]at vi;cases vi
  simp only[A0,d3,E9,or_false,not_or]at nd
  obtain⟨⟨n1,n2,n3,n4⟩,⟨n5,n6,n7⟩,⟨n8,n9⟩,n10,_⟩:=nd
  have ap:ZAp z TI TO i1 i2 [i1,a] [i2,b]:=by
   refine⟨Ne.symm n1,Ne.symm n2,Ne.symm n3,Ne.symm n4,n5,n6,n7,n8,n9,n10,?_,?_,?_,?_,?_,?_⟩
   ·simp[n3,Ne.symm (fa z (by simp))]
   ·simp[n4,Ne.symm (fb z (by simp))]
   ·simp[n8,Ne.symm (fa TO (by simp))]
   ·simp[n9,Ne.symm (fb TO (by simp))]
   ·simp[n10,Ne.symm (fb i1 (by simp))]
   ·simp[Ne.symm n10,Ne.symm (fa i2 (by simp))]
  refine bm2 (k:=i) ap (aO1 b1 (A:=X.A.in1) (I.ok.hd hc) i1 a (fa i1 (by simp)) its.toArray) (aO1 b2 (A:=X.A.in1) (I.ok.hd hc) i2 b (fb i2 (by simp)) jts.toArray) hz hTI hTO ⟨h1,hl1⟩ ⟨h2,hl2⟩ lt1 lt2 fun x' y' hA tk px py hzo hTOo st1 st2 hT hsz hk=>?_
  obtain rfl:u=x':=by have:=ui.symm.trans px;cases this;rfl
  obtain rfl:v=y':=by have:=vi.symm.trans py;cases this;rfl
  refine⟨_,rfl,?_⟩
  refine wpAny_letOwnedTupleGo_zip hzo fun hB hzB hsB=>?_
  have hsB':Heap.SameBut z hA hB:=hsB
  have zlt:z<s.heap.objs.size:=c9 hz
  have up:∀ c o,c≠z->hA.get? c=some o->hB.get? c=some o:=fun c o c1 e=>(hsB'.2 c c1).trans e
  have kp:∀ c o,c∉[z,TI,TO,i1,i2]->s.heap.get? c=some o->hB.get? c=some o:=fun c o hc e=>by
   simp only[d3,E9,or_false,not_or]at hc
   exact up c o hc.1 (hk c o hc.1 hc.2.2.1 hc.2.2.2.1 hc.2.2.2.2 e)
  have I2:Inv X pins σ (upd H s.heap.objs.size (.tup [x,y])) { s with heap:=hB,toks:=tk }:=I.tupled (its:=[u,v]) hf kp (up _ _ (D9 zlt) hT) (.cons ru (.cons rv' .nil)) (by show 2<=sizeLine;decide)
  have hTn:H s.heap.objs.size=none:=I.hok.fresh (c7 _)
  refine⟨.ref s.heap.objs.size,_,I2,rfl,⟨s.heap.objs.size,x,y,hTn,rfl,fun zs hq=>by rw[I.seqB_inj hq q1];exact hx,fun zs hq=>by rw[I.seqB_inj hq q2];exact hy,rfl⟩,⟨hzB,?_,⟨u,v,up _ _ (Ne.symm n2) hTOo⟩,st1.1.at fun o e=>up i1 o (Ne.symm n3) e,st2.1.at fun o e=>up i2 o (Ne.symm n4) e⟩,fun c hc=>?_⟩
  ·exact up _ _ (Ne.symm n1) (hk _ _ (Ne.symm n1) n5 n6 n7 hTI)
  ·have lt:c<s.heap.objs.size:=by
    simp only[d3,E9,or_false]at hc
    rcases hc with rfl | rfl | rfl | rfl | rfl
    ·exact zlt
    ·exact c9 hTI
    ·exact c9 hTO
    ·obtain⟨o,ho,_⟩:=h1.obj;exact c9 ho
    ·obtain⟨o,ho,_⟩:=h2.obj;exact c9 ho
   rw[m5 (i4 lt)]
   exact(hf c hc).1
 done:=by
  intro X hP hw hK hc i pins s σ H E I hf st hg
  subst hP hw hK
  obtain⟨xs,q1,hx⟩:=hg
  obtain⟨hz,hTI,⟨o1,o2,hTO⟩,h1,h2⟩:=st
  obtain⟨its,rv,pl⟩:=I.seqB q1
  have hl:=rv.length
  have fa:∀ c∈[z,TI,TO,i1,i2],a≠c:=fun c hc=>bE7 I (hf c hc) q1
  simp only[A0,d3,E9,or_false,not_or]at nd
  obtain⟨⟨n1,n2,n3,n4⟩,⟨n5,n6,n7⟩,⟨n8,n9⟩,n10,_⟩:=nd
  have ap:ZAp z TI TO i1 i2 [i1,a] [i2]:=by
   refine⟨Ne.symm n1,Ne.symm n2,Ne.symm n3,Ne.symm n4,n5,n6,n7,n8,n9,n10,?_,?_,?_,?_,?_,?_⟩
   ·simp[n3,Ne.symm (fa z (by simp))]
   ·simp[n4]
   ·simp[n8,Ne.symm (fa TO (by simp))]
   ·simp[n9]
   ·simp[n10]
   ·simp[Ne.symm n10,Ne.symm (fa i2 (by simp))]
  have ei:i=its.toArray.size:=by rw[d7];omega
  refine bm3 ap (aO1 b1 (A:=X.A.in1) (I.ok.hd hc) i1 a (fa i1 (by simp)) its.toArray) hz hTI hTO ⟨by rw[<- ei];exact h1,pl⟩ fun h' hk=>⟨rfl,I.turns (t':=s.toks) hf fun c o hc' e=>?_⟩
  simp only[d3,E9,or_false,not_or]at hc'
  exact hk c o hc'.1 hc'.2.2.1 hc'.2.2.2.1 hc'.2.2.2.2 e
 self:=fun _ _ _ _ _ st h=>wpAny_pyIter_zip st.1 h
section
variable {X:Cx}
theorem aA2 {a b:Expr}{ta:TA}{elts:List Expr}{x1:Nat}{tpos p pos:Pos}(hg:Gl X "zip")(hm:X.mg "zip"=none)(ha:PA X [a,b] ta)(hv:bootBuiltins "zip"=some (.type "zip"):=by rfl)(hs:starEach [a,b] X.env=(false,eval a X.env)::starEach [b] X.env:=by rfl)(hpl:(backTo pos (starEach [b] X.env)).any (·.1)=false:=by rfl) :
  PI X (.Tuple elts x1 tpos) (.Call (.Name "zip" p) [a,b] [] pos) (bM2 X.K ta):=by
 intro pins s σ H R I h
 refine Call_ (P4 I hg hm hv (PyProof.Rows.callWith_type1 (thn (ha pos pins s σ H _ I h) fun us s1 ⟨vs,H1,I1,r1,q1⟩=>?_) hs hpl))
 obtain⟨b1,b2,c,d,e,⟨xs,hq⟩,⟨ys,hq2⟩,q⟩:=q1
 subst e
 obtain⟨u,v,rfl,rx,ry⟩:=vals2 r1
 cases rx
 cases ry
 obtain⟨its,rv,pl⟩:=I1.seqB hq
 obtain⟨jts,rv2,pt⟩:=I1.seqB hq2
 refine aZ3 pl pt fun h' gz gTI gTO g1 g2 hsz kp=>?_
 refine wpAny_pyIter_zip gz ?_
 refine⟨s1.heap.objs.size+4,[s1.heap.objs.size+4,s1.heap.objs.size+2,s1.heap.objs.size+3,s1.heap.objs.size,s1.heap.objs.size+1],_,_,H1,rfl,I1.kept (t':=s1.toks) kp,aV3 c d (s1.heap.objs.size+4) (s1.heap.objs.size+2) (s1.heap.objs.size+3) s1.heap.objs.size (s1.heap.objs.size+1) ?_,⟨gz,gTI,⟨_,_,gTO⟩,g1,g2⟩,fun k hk=>?_,q⟩
 ·exact nd5 _
 ·have:=bQ0 hk
  exact I1.fpOk this (I1.hok.fresh this)
end
theorem aj3 {b1 b2:Bool}{K:W.Frag}{a b D:Addr}{ys zs:List V}{g:TG}{tt:TT}{te:TE}{Qd:Hp->Prop}{σ0:St}{H0:Hp}(hyz:ys.length=zs.length)(Pv:Nat->List V->St->Hp->Prop)(h0:Pv 0 [] σ0 H0)(hz:ys.length<=sizeLine)(hl:∀ i xs σ H,i<=ys.length->Pv i xs σ H->SqB b1 K H a ys/\SqB b2 K H b zs/\H D=some (.lst xs)/\xs.length<=i)
  (hs:∀ i xs x y t σ H (N:List V->St->Hp->Prop),(∀ xs' σ' H',Pv (i+1) xs' σ' H'->N xs' σ' H')->ys[i]?=some x->zs[i]?=some y->Pv i xs σ H->H t=none->g (.ref t) σ (upd H t (.tup [x,y])) fun σ2 H2=>tt σ2 H2 fun b H3=>if b=true then te σ2 H3 fun v H4=>H4 D=some (.lst xs)/\N (xs++[v]) σ2 (upd H4 D (.lst (xs++[v]))) else N xs σ2 H3)
  (hd:∀ xs σ H,Pv ys.length xs σ H->Qd H) :
  ∃ W:Nat->Nat->List V->St->Hp->Prop,(∃ m,W 0 m [] σ0 H0)/\∀ i m xs σ' H',W i m xs σ' H'->H' D=some (.lst xs)/\(((bl2 b1 b2 K a b).stop i H'/\Qd H')\/((bl2 b1 b2 K a b).go i H'/\xs.length<sizeLine/\∀ x H'',(bl2 b1 b2 K a b).yld i H' x H''->g x σ' H'' fun σ2 H2=>tt σ2 H2 fun b H3 =>
   if b=true then te σ2 H3 fun v H4=>H4 D=some (.lst xs)/\∃ m',m'<m/\W (i+1) m' (xs++[v]) σ2 (upd H4 D (.lst (xs++[v]))) else ∃ m',m'<m/\W (i+1) m' xs σ2 H3)):=by
 refine⟨fun i m xs σ H=>m=ys.length - i/\i<=ys.length/\Pv i xs σ H,⟨ys.length,by simp,o8 _,h0⟩,?_⟩
 rintro i m xs σ H ⟨rfl,hi,p⟩
 obtain⟨q1,q2,hD,hx⟩:=hl i xs σ H hi p
 refine⟨hD,?_⟩
 by_cases hlt:i<ys.length
 ·refine .inr ⟨⟨ys,zs,ys[i],zs[i],q1,q2,by simp[hlt],by simp[hyz ▸ hlt]⟩,by omega,fun x H'' y=>?_⟩
  obtain⟨t,u,v,ht,e,hu,hv,e'⟩:=y
  subst e e'
  exact hs i xs u v t σ _ (fun zs σ' H'=>∃ m',m'<ys.length - i/\m'=ys.length - (i+1)/\i+1<=ys.length/\Pv (i+1) zs σ' H') (fun zs σ' H' r=>⟨_,by omega,rfl,hlt,r⟩) (hu ys q1) (hv zs q2) p ht
 ·obtain rfl:i=ys.length:=by omega
  exact .inl ⟨⟨ys,q1,rfl⟩,hd xs σ H p⟩
section
variable {X:Cx}
theorem bd9 {tg it:Expr}{w1 w2:TI}(h1:PI X tg it w1)(h2:PI X tg it w2):PI X tg it (fun σ H R=>w1 σ H R\/w2 σ H R):=
 fun pins s σ H R I h=>h.elim (h1 pins s σ H R I) (h2 pins s σ H R I)
theorem ax9 (hc:X.calm=true):L1 X (.builtin "sum") (fun xs H Q=>∃ (p:Addr) (ns:List Int),xs=[.ref p]/\(SqL X.K H p (ns.map V.int)\/SqT X.K H p (ns.map V.int))/\Q (.int ns.sum) H) :=
 fun pins s σ H xs us Q I r ⟨p,ns,e,hq,q⟩=>hq.elim (fun h=>U8 hc pins s σ H xs us Q I r ⟨p,ns,e,h,q⟩) fun h=>aZ4 hc pins s σ H xs us Q I r ⟨p,ns,e,h,q⟩
end
theorem as3 {D:Addr}{J:It}{S:Hp->Prop}{ys:List V}{g:TG}{tt:TT}{te:TE}{Qd:Hp->Prop}{σ0:St}{H0:Hp}
  (hst:∀ i H,S H->ys.length=i->J.stop i H)(hgo:∀ i H,S H->i<ys.length->J.go i H)(hy:∀ i H x H'',S H->J.yld i H x H''->∃ (t:Addr) (v:V),H t=none/\x=.ref t/\ys[i]?=some v/\H''=upd H t (.tup [.int i,v]))
  (Pv:Nat->List V->St->Hp->Prop)(h0:Pv 0 [] σ0 H0)(hz:ys.length<=sizeLine)(hl:∀ i xs σ H,i<=ys.length->Pv i xs σ H->S H/\H D=some (.lst xs)/\xs.length<=i)
  (hs:∀ i xs x t σ H (N:List V->St->Hp->Prop),(∀ xs' σ' H',Pv (i+1) xs' σ' H'->N xs' σ' H')->ys[i]?=some x->Pv i xs σ H->H t=none->g (.ref t) σ (upd H t (.tup [.int i,x])) fun σ2 H2=>tt σ2 H2 fun b H3=>if b=true then te σ2 H3 fun v H4=>H4 D=some (.lst xs)/\N (xs++[v]) σ2 (upd H4 D (.lst (xs++[v]))) else N xs σ2 H3)
  (hd:∀ xs σ H,Pv ys.length xs σ H->Qd H) :
  ∃ W:Nat->Nat->List V->St->Hp->Prop,(∃ m,W 0 m [] σ0 H0)/\∀ i m xs σ' H',W i m xs σ' H'->H' D=some (.lst xs)/\((J.stop i H'/\Qd H')\/(J.go i H'/\xs.length<sizeLine/\∀ x H'',J.yld i H' x H''->g x σ' H'' fun σ2 H2=>tt σ2 H2 fun b H3 =>
   if b=true then te σ2 H3 fun v H4=>H4 D=some (.lst xs)/\∃ m',m'<m/\W (i+1) m' (xs++[v]) σ2 (upd H4 D (.lst (xs++[v]))) else ∃ m',m'<m/\W (i+1) m' xs σ2 H3)):=by
 refine⟨fun i m xs σ H=>m=ys.length - i/\i<=ys.length/\Pv i xs σ H,⟨ys.length,by simp,o8 _,h0⟩,?_⟩
 rintro i m xs σ H ⟨rfl,hi,p⟩
 obtain⟨q,hD,hx⟩:=hl i xs σ H hi p
 refine⟨hD,?_⟩
 by_cases hlt:i<ys.length
 ·refine .inr ⟨hgo i H q hlt,by omega,fun x H'' y=>?_⟩
  obtain⟨t,v,ht,e,hv,e'⟩:=hy i H x H'' q y
  subst e e'
  exact hs i xs v t σ _ (fun zs σ' H'=>∃ m',m'<ys.length - i/\m'=ys.length - (i+1)/\i+1<=ys.length/\Pv (i+1) zs σ' H') (fun zs σ' H' r=>⟨_,by omega,rfl,hlt,r⟩) hv p ht
 ·have e:i=ys.length:=by omega
  subst e
  exact .inl ⟨hst _ H q rfl,hd xs σ H p⟩
theorem bD5 {K:W.Frag}{a:Addr}{ys:List V}(i:Nat)(H:Hp)(q:SqL K H a ys)(h:ys.length=i):(Itn K a).stop i H:=⟨ys,q,ah4 h⟩
theorem bD6 {K:W.Frag}{a:Addr}{ys:List V}(i:Nat)(H:Hp)(q:SqL K H a ys)(h:i<ys.length):(Itn K a).go i H:=⟨ys,ys[i],q,by simp[h]⟩
theorem bM0 {K:W.Frag}{a:Addr}{ys:List V}(i:Nat)(H:Hp)(x:V)(H'':Hp)(q:SqL K H a ys)(y:(Itn K a).yld i H x H''):∃ (t:Addr) (v:V),H t=none/\x=.ref t/\ys[i]?=some v/\H''=upd H t (.tup [.int i,v]):=by
 obtain⟨t,v,ht,e,hv,e'⟩:=y
 exact⟨t,v,ht,e,hv ys q,e'⟩
theorem bD7 {K:W.Frag}{a:Addr}{ys:List V}(i:Nat)(H:Hp)(q:SqT K H a ys)(h:ys.length=i):(Itm K a).stop i H:=⟨ys,q,h⟩
theorem bD8 {K:W.Frag}{a:Addr}{ys:List V}(i:Nat)(H:Hp)(q:SqT K H a ys)(h:i<ys.length):(Itm K a).go i H:=⟨ys,ys[i],q,by simp[h]⟩
theorem bM1 {K:W.Frag}{a:Addr}{ys:List V}(i:Nat)(H:Hp)(x:V)(H'':Hp)(q:SqT K H a ys)(y:(Itm K a).yld i H x H''):∃ (t:Addr) (v:V),H t=none/\x=.ref t/\ys[i]?=some v/\H''=upd H t (.tup [.int i,v]):=by
 obtain⟨t,v,ht,e,hv,e'⟩:=y
 exact⟨t,v,ht,e,hv ys q,e'⟩
theorem as2 {K:W.Frag} {a:Addr} {ys:List V} {g:TG} {tt:TT} {te:TE} {Qd:Addr->Hp->Prop} {σ0:St} {H:Hp} (hS:SqL K H a ys\/SqT K H a ys) (hz:ys.length<=sizeLine)
  (Pv:Addr->Nat->List V->St->Hp->Prop) (h0:∀ D,H D=none->Pv D 0 [] σ0 (upd H D (.lst []))) (hl:∀ D i xs σ H',H D=none->i<=ys.length->Pv D i xs σ H'->p7 H H'/\H' D=some (.lst xs)/\xs.length<=i)
  (hs:∀ D i xs x t σ H' (N:List V->St->Hp->Prop),H D=none->(∀ xs' σ' H'',Pv D (i+1) xs' σ' H''->N xs' σ' H'')->ys[i]?=some x->Pv D i xs σ H'->H' t=none->g (.ref t) σ (upd H' t (.tup [.int i,x])) fun σ2 H2=>tt σ2 H2 fun b H3=>if b=true then te σ2 H3 fun v H4=>H4 D=some (.lst xs)/\N (xs++[v]) σ2 (upd H4 D (.lst (xs++[v]))) else N xs σ2 H3)
  (hd:∀ D xs σ H',H D=none->Pv D ys.length xs σ H'->Qd D H') :
  (∃ b, [V.ref a] = [V.ref b] /\ (∃ xs, SqL K H b xs) /\ ∀ D, H D = none -> ∃ W : Nat -> Nat -> List V -> St -> Hp -> Prop, (∃ m, W 0 m [] σ0 (upd H D (.lst []))) /\ ∀ i m xs σ' H', W i m xs σ' H' -> H' D = some (.lst xs) /\ (((Itn K b).stop i H' /\ Qd D H') \/ ((Itn K b).go i H' /\ xs.length < sizeLine /\ ∀ x H'', (Itn K b).yld i H' x H'' -> g x σ' H'' fun σ2 H2 => tt σ2 H2 fun b H3 =>
   if b=true then te σ2 H3 fun v H4=>H4 D=some (.lst xs)/\∃ m',m'<m/\W (i+1) m' (xs++[v]) σ2 (upd H4 D (.lst (xs++[v]))) else ∃ m',m'<m/\W (i+1) m' xs σ2 H3))) \/
  (∃ b, [V.ref a] = [V.ref b] /\ (∃ xs, SqT K H b xs) /\ ∀ D, H D = none -> ∃ W : Nat -> Nat -> List V -> St -> Hp -> Prop, (∃ m, W 0 m [] σ0 (upd H D (.lst []))) /\ ∀ i m xs σ' H', W i m xs σ' H' -> H' D = some (.lst xs) /\ (((Itm K b).stop i H' /\ Qd D H') \/ ((Itm K b).go i H' /\ xs.length < sizeLine /\ ∀ x H'', (Itm K b).yld i H' x H'' -> g x σ' H'' fun σ2 H2 => tt σ2 H2 fun b H3 =>
   if b=true then te σ2 H3 fun v H4=>H4 D=some (.lst xs)/\∃ m',m'<m/\W (i+1) m' (xs++[v]) σ2 (upd H4 D (.lst (xs++[v]))) else ∃ m',m'<m/\W (i+1) m' xs σ2 H3))):=by
 rcases hS with hS | hS
 ·exact .inl ⟨a,rfl,⟨_,hS⟩,fun D hD=>as3 (S:=fun H'=>SqL K H' a ys) bD5 bD6 bM0 (Pv D) (h0 D hD) hz (fun i xs σ H' hi p=>let ⟨s,g,l⟩:=hl D i xs σ H' hD hi p;⟨s.seq hS,g,l⟩) (fun i xs x t σ H' N kN hx p ht=>hs D i xs x t σ H' N hD kN hx p ht) (fun xs σ H' p=>hd D xs σ H' hD p)⟩
 ·exact .inr ⟨a,rfl,⟨_,hS⟩,fun D hD=>as3 (S:=fun H'=>SqT K H' a ys) bD7 bD8 bM1 (Pv D) (h0 D hD) hz (fun i xs σ H' hi p=>let ⟨s,g,l⟩:=hl D i xs σ H' hD hi p;⟨s.seqT hS,g,l⟩) (fun i xs x t σ H' N kN hx p ht=>hs D i xs x t σ H' N hD kN hx p ht) (fun xs σ H' p=>hd D xs σ H' hD p)⟩
theorem ae8 {X:Cx}(K:W.Frag)(hK:X.K=K){es:List Expr}{k:Nat}{pos:Pos}{t:TGs}{n:Nat}(hc:X.calm=true)(h:PGs X es t)
  (hn:(assignEach es X.env).length=n:=by rfl)(hst:(assignEach es X.env).findIdx? (·.1)=none:=by rfl):PG X (.Tuple es k pos) (bN0 K n t):=by
 subst hK
 exact aM5 hc h hn hst
theorem aZ0 {K:W.Frag} {a:Addr} {ys:List V} {g:TG} {tt:TT} {te:TE} {Qd:Addr->Hp->Prop} {σ0:St} {H:Hp} (hS:SqL K H a ys\/SqT K H a ys) (hz:ys.length<=sizeLine)
  (Pv:Addr->Nat->List V->St->Hp->Prop) (h0:∀ D,H D=none->Pv D 0 [] σ0 (upd H D (.lst []))) (hl:∀ D i xs σ H',H D=none->i<=ys.length->Pv D i xs σ H'->p7 H H'/\H' D=some (.lst xs)/\xs.length<=i)
  (hs:∀ D i xs x σ H' (N:List V->St->Hp->Prop),H D=none->(∀ xs' σ' H'',Pv D (i+1) xs' σ' H''->N xs' σ' H'')->ys[i]?=some x->Pv D i xs σ H'->g x σ H' fun σ2 H2=>tt σ2 H2 fun b H3=>if b=true then te σ2 H3 fun v H4=>H4 D=some (.lst xs)/\N (xs++[v]) σ2 (upd H4 D (.lst (xs++[v]))) else N xs σ2 H3)
  (hd:∀ D xs σ H',H D=none->Pv D ys.length xs σ H'->Qd D H') :
  (∃ b, V.ref a = V.ref b /\ (∃ xs, SqL K H b xs) /\ ∀ D, H D = none -> ∃ W : Nat -> Nat -> List V -> St -> Hp -> Prop, (∃ m, W 0 m [] σ0 (upd H D (.lst []))) /\ ∀ i m xs σ' H', W i m xs σ' H' -> H' D = some (.lst xs) /\ (((Itl K b).stop i H' /\ Qd D H') \/ ((Itl K b).go i H' /\ xs.length < sizeLine /\ ∀ x H'', (Itl K b).yld i H' x H'' -> g x σ' H'' fun σ2 H2 => tt σ2 H2 fun b H3 =>
   if b=true then te σ2 H3 fun v H4=>H4 D=some (.lst xs)/\∃ m',m'<m/\W (i+1) m' (xs++[v]) σ2 (upd H4 D (.lst (xs++[v]))) else ∃ m',m'<m/\W (i+1) m' xs σ2 H3))) \/
  (∃ b, V.ref a = V.ref b /\ (∃ xs, SqT K H b xs) /\ ∀ D, H D = none -> ∃ W : Nat -> Nat -> List V -> St -> Hp -> Prop, (∃ m, W 0 m [] σ0 (upd H D (.lst []))) /\ ∀ i m xs σ' H', W i m xs σ' H' -> H' D = some (.lst xs) /\ (((Itt K b).stop i H' /\ Qd D H') \/ ((Itt K b).go i H' /\ xs.length < sizeLine /\ ∀ x H'', (Itt K b).yld i H' x H'' -> g x σ' H'' fun σ2 H2 => tt σ2 H2 fun b H3 =>
   if b=true then te σ2 H3 fun v H4=>H4 D=some (.lst xs)/\∃ m',m'<m/\W (i+1) m' (xs++[v]) σ2 (upd H4 D (.lst (xs++[v]))) else ∃ m',m'<m/\W (i+1) m' xs σ2 H3))):=by
 rcases hS with hS | hS
 ·exact .inl ⟨a,rfl,⟨_,hS⟩,fun D hD=>O1 (K:=K) (a:=a) (ys:=ys) (Pv D) (h0 D hD) hz (fun i xs σ H' hi p=>let ⟨s,g,l⟩:=hl D i xs σ H' hD hi p;⟨s.seq hS,g,l⟩) (fun i xs x σ H' N kN hx p=>hs D i xs x σ H' N hD kN hx p) (fun xs σ H' p=>hd D xs σ H' hD p)⟩
 ·exact .inr ⟨a,rfl,⟨_,hS⟩,fun D hD=>aI8 (K:=K) (a:=a) (ys:=ys) (Pv D) (h0 D hD) hz (fun i xs σ H' hi p=>let ⟨s,g,l⟩:=hl D i xs σ H' hD hi p;⟨s.seqT hS,g,l⟩) (fun i xs x σ H' N kN hx p=>hs D i xs x σ H' N hD kN hx p) (fun xs σ H' p=>hd D xs σ H' hD p)⟩
section
variable {X:Cx}
end
theorem aU3 (f:Nat->Int):∀ (n j:Nat),j<=n->f (argBest (fun i j=>decide (f i<f j)) n)<=f j
 | 0,j,h=>by rw[Nat.le_zero.mp h];exact B1 _
 | n+1,j,h=>by
  unfold argBest
  have ih:=aU3 f n
  by_cases hb:f (n+1)<f (argBest (fun i j=>decide (f i<f j)) n)
  ·rw[if_pos (decide_eq_true hb)]
   rcases q0 j (n+1) with l | l
   ·have:=ih j (by omega);omega
   ·rw[show j=n+1 by omega];exact B1 _
  ·rw[if_neg (fun z=>hb (of_decide_eq_true z))]
   rcases q0 j (n+1) with l | l
   ·exact ih j (by omega)
   ·rw[show j=n+1 by omega];omega
theorem ao1 (bt:Nat->Nat->Bool):∀ n:Nat,argBest bt n<=n
 | 0=>c7 _
 | n+1=>by
  unfold argBest
  have:=ao1 bt n
  split<;>omega
theorem aB8 (f:Nat->Int):∀ (n j:Nat),j<=n->f j<=f (argBest (fun i j=>decide (f i > f j)) n)
 | 0,j,h=>by rw[Nat.le_zero.mp h];exact B1 _
 | n+1,j,h=>by
  unfold argBest
  have ih:=aB8 f n
  by_cases hb:f (n+1) > f (argBest (fun i j=>decide (f i > f j)) n)
  ·rw[if_pos (decide_eq_true hb)]
   rcases q0 j (n+1) with l | l
   ·have:=ih j (by omega);omega
   ·rw[show j=n+1 by omega];exact B1 _
  ·rw[if_neg (fun z=>hb (of_decide_eq_true z))]
   rcases q0 j (n+1) with l | l
   ·exact ih j (by omega)
   ·rw[show j=n+1 by omega];omega
section
variable {X:Cx}
theorem ab4 (hc:X.calm=true):L1 X (.builtin "min") (fun xs H Q=>∃ (p:Addr) (ns:List Int),xs=[.ref p]/\SqL X.K H p (ns.map V.int)/\0<ns.length/\∀ m:Int,m∈ns->(∀ x∈ns,m<=x)->Q (.int m) H):=by
 intro pins s σ H xs us Q I r h
 obtain⟨p,ns,rfl,hq,hn,q⟩:=h
 obtain⟨u,rfl,rx⟩:=vals1 r
 cases rx
 obtain⟨its,r',pl,hz⟩:=I.list hq
 have hlen:its.length=ns.length:=by rw[<- r'.length,b7]
 have hi:IntsAre its ns:=intsAre_of r'
 obtain⟨ys,e⟩:=hi.allInts.items
 have hT:s.heap.IsList p (intItems ys):=by rw[<- e];exact pl.isList
 have hsz:(intItems ys).size=ns.length:=by rw[<- e,d7,hlen]
 have hnum:∀ j,j<ns.length->numAt ys j=ns.getD j 0:=fun j hj=>by
  have hx:(ns.map V.int)[j]?=some (.int (ns.getD j 0)):=by simp[hj]
  obtain⟨v,hv,t,rfl⟩:=r'.get hx
  have hv':(intItems ys)[j]?=some (.int (ns.getD j 0) t):=by rw[<- e];simpa using hv
  obtain⟨t',ht'⟩:=intItems_at hv'
  injection ht' with h1 _
  exact h1.symm
 have hpl:p<s.heap.objs.size:=by
  obtain⟨o,ho,_⟩:=hT
  exact c9 ho
 refine call_min_walk (wpAny_pyIter_list hT ?_)
 refine⟨_,[_,p],[_],_,_,_,_,rfl,Walks.list (A:=X.A.in1) (I.ok.hd hc) _ p (i4 hpl) (intItems ys),
  ⟨⟨_,d6 _ rfl,rfl,rfl⟩,hT.push _⟩,fun c hc'=>?_,by rw[hsz];exact hn,CmpOf.ints_lt (numAt ys) (fun _ _=>intItems_at),fun v h' tk hP hk=>?_⟩
 ·show c<(s.heap.push _).objs.size
  rw[x6]
  rcases d3.mp hc' with rfl | hc'
  ·exact T4 _
  ·rcases d3.mp hc' with rfl | hc'
   ·exact u9 hpl
   ·cases hc'
 ·have hold:∀ c o,s.heap.get? c=some o->h'.get? c=some o:=fun c o e=>by
   refine hk c o (fun hm=>?_) (b9 _ e)
   rcases d3.mp hm with e1 | hm
   ·exact absurd (c9 e) (by rw[e1];exact u5 _)
   ·cases hm
  obtain⟨t,rfl⟩:=intItems_at hP
  have hb:=ao1 (fun i j=>decide (numAt ys i<numAt ys j)) ((intItems ys).size - 1)
  have hbl:argBest (fun i j=>decide (numAt ys i<numAt ys j)) ((intItems ys).size - 1)<ns.length:=by rw[hsz]at hb ⊢;omega
  refine⟨.int _,H,I.kept (t':=tk) hold,⟨t,rfl⟩,q _ ?_ fun x hx=>?_⟩
  ·rw[hnum _ hbl,c5,c8 hbl]
   exact N5 hbl
  ·obtain⟨j,hj,rfl⟩:=M5.mp hx
   have:=aU3 (numAt ys) ((intItems ys).size - 1) j (by rw[hsz];omega)
   rw[hnum j hj,c5,c8 hj]at this
   exact this
end
theorem af3:(toString "max"++toString ".loop":String)="max.loop":=by decide
section
variable {prog:Program} {w:World} {A:Around} {R:Result->Shared->Prop} {I:Addr} {fp wr:List Addr} {n:Nat} {P:Nat->Value->Prop} {St:Nat->Heap->Prop} {d:Value}
theorem bg0 (W:Walks prog w A.in1 I fp wr n P St)(bt:Nat->Nat->Bool)(hcmp:CmpOf prog w A.in1 .Gt P bt)(S:Addr)(hSf:S∉fp):∀ (k j:Nat) (s:Shared) (vb:Value) (c:Nat),n - (j+1)=k->j+1<=n->St (j+1) s.heap->P (argBest bt j) vb ->
  s.heap.get? S=some { cls:=.type "list",dict:=none,data:=.seq #[vb,vb] c,slots:=#[] }->(∀ v h' tk,P (argBest bt (n - 1)) v->(∀ b o,b∉wr->b≠S->s.heap.get? b=some o->h'.get? b=some o)->R (.ok (.ret v)) { s with heap:=h',toks:=tk }) ->
  codeAny (model prog w) A (.builtin "max.loop" ⟨[.ref I,.none,.ref S],[("default",d)]⟩) R s:=by
 have hSw:S∉wr:=(fun h=>hSf (W.sub _ h));intro k
 induction k with
 | zero =>
  intro j s vb c hk hj hst hPb hS hR;have hin:j+1=n:=by omega
  refine codeAny_builtin F.entry_max_loop ?_;rw[Around.under_plainId F.plain_max_loop _];show wpAny _ A.in1 (seqItems? (.ref S) >>= _) _ _ s
  refine wpAny_bind (wpAny_seqItems hS rfl ?_);show wpAny _ A.in1 (tryCatch (pyNext (.ref I)) _ >>= _) _ _ s
  refine wpAny_bind (wpAny_tryCatch (W.done s _ _ (hin ▸ hst) fun h' tk hk'=>?_));have hS':=hk' S _ hSw hS
  show wpAny _ A.in1 (updateSeq S (fun _=>#[]) >>= _) _ _ _;refine wpAny_bind ?_
  refine wpAny_updateSeq hS' rfl (wpAny_bind (wpAny_letGo (wpAny_pure ?_)));exact hR vb _ tk (by rw[<- hin];exact hPb) fun b o hbw hbS e=>(u4 _ _ (Ne.symm hbS)).trans (hk' b o hbw e)
 | succ k ih =>
  intro j s vb c hk hj hst hPb hS hR;have hlt:j+1<n:=by omega
  refine codeAny_builtin F.entry_max_loop ?_;rw[Around.under_plainId F.plain_max_loop _];show wpAny _ A.in1 (seqItems? (.ref S) >>= _) _ _ s
  refine wpAny_bind (wpAny_seqItems hS rfl ?_);show wpAny _ A.in1 (tryCatch (pyNext (.ref I)) _ >>= _) _ _ s
  refine wpAny_bind (wpAny_tryCatch (W.item (j+1) s _ _ hlt hst fun v h' tk hP hst' hk'=>?_));have hS':=hk' S _ hSw hS
  show wpAny _ A.in1 (tryCatch (holding [v,v] (richCompare .Gt v vb >>= _)) _ >>= _) _ _ _;refine wpAny_bind (wpAny_tryCatch (wpAny_holding (wpAny_bind (hcmp (j+1) (argBest bt j) v vb _ _ _ hP hPb ?_))))
  refine wpAny_bind (wpAny_holding (wpAny_truthy_bool ?_));refine wpAny_bind (wpAny_letGo (wpAny_pure ?_))
  cases hb:bt (j+1) (argBest bt j) with
  | true =>
   simp only[if_true];refine wpAny_bind ?_
   refine wpAny_updateSeq hS' rfl (wpAny_bind (wpAny_letGo ?_));rw[af3]
   refine wpAny_pure ⟨plainId_quiet F.plain_max_loop _,ih (j+1) _ v _ (by omega) hlt (W.frame _ _ _ hst' fun b hbf o e=>?_) (by simp only[argBest,hb,if_true];exact hP) (F4 _ hS' rfl) fun v' h'' tk'' hP' hk''=>?_⟩
   ·exact((u4 _ _ (fun h:S=b=>hSf (by rw[h];exact hbf))).trans e)
   ·exact(hR v' h'' tk'' hP' fun b o hbw hbS e=>hk'' b o hbw hbS ((u4 _ _ (Ne.symm hbS)).trans (hk' b o hbw e)))
  | false =>
   simp only[j8,if_false];refine wpAny_bind (wpAny_letGo ?_);rw[af3]
   refine wpAny_pure ⟨plainId_quiet F.plain_max_loop _,ih (j+1) _ vb c (by omega) hlt hst' (by simp only[argBest,hb,j8,if_false];exact hPb) hS' fun v' h'' tk'' hP' hk''=>?_⟩;exact hR v' h'' tk'' hP' fun b o hbw hbS e=>hk'' b o hbw hbS (hk' b o hbw e)
theorem aW6 (W:Walks prog w A.in1 I fp wr n P St)(bt:Nat->Nat->Bool)(hcmp:CmpOf prog w A.in1 .Gt P bt)(S:Addr)(hSf:S∉fp){s:Shared}{c:Nat}(hst:St 0 s.heap)(hS:s.heap.get? S=some { cls:=.type "list",dict:=none,data:=.seq #[] c,slots:=#[] })
  (h0:n=0->∀ h' tk,(∀ b o,b∉wr->b≠S->s.heap.get? b=some o->h'.get? b=some o)->R (.ok (.ret d)) { s with heap:=h',toks:=tk })
  (hR:0<n->∀ v h' tk,P (argBest bt (n - 1)) v->(∀ b o,b∉wr->b≠S->s.heap.get? b=some o->h'.get? b=some o)->R (.ok (.ret v)) { s with heap:=h',toks:=tk }) :
  codeAny (model prog w) A (.builtin "max.loop" ⟨[.ref I,.none,.ref S],[("default",d)]⟩) R s:=by
 have hSw:S∉wr:=(fun h=>hSf (W.sub _ h))
 refine codeAny_builtin F.entry_max_loop ?_;rw[Around.under_plainId F.plain_max_loop _];show wpAny _ A.in1 (seqItems? (.ref S) >>= _) _ _ s
 refine wpAny_bind (wpAny_seqItems hS rfl ?_);show wpAny _ A.in1 (tryCatch (pyNext (.ref I)) _ >>= _) _ _ s
 by_cases hn:0<n
 ·refine wpAny_bind (wpAny_tryCatch (W.item 0 s _ _ hn hst fun v h' tk hP hst' hk'=>?_));have hS':=hk' S _ hSw hS
  show wpAny _ A.in1 (updateSeq S (fun _=>#[v,v]) >>= _) _ _ _;refine wpAny_bind ?_
  refine wpAny_updateSeq hS' rfl ?_;rw[af3]
  refine wpAny_pure ⟨plainId_quiet F.plain_max_loop _,bg0 W bt hcmp S hSf _ 0 _ v _ rfl hn (W.frame _ _ _ hst' fun b hbf o e=>?_) hP (F4 _ hS' rfl) fun v' h'' tk'' hP' hk''=>?_⟩
  ·exact((u4 _ _ (fun h:S=b=>hSf (by rw[h];exact hbf))).trans e)
  ·exact(hR hn v' h'' tk'' hP' fun b o hbw hbS e=>hk'' b o hbw hbS ((u4 _ _ (Ne.symm hbS)).trans (hk' b o hbw e)))
 ·have hz:n=0:=by omega
  refine wpAny_bind (wpAny_tryCatch (W.done s _ _ (by rw[hz];exact hst) fun h' tk hk'=>?_))
  refine wpAny_bind (wpAny_rule ?_)
  exact wpAny_pure (h0 hz h' tk fun b o hbw _ e=>hk' b o hbw e)
end
theorem ba0 (a v:Value):argsOk "max" ⟨[a],[(Str.ofString "default",v)]⟩:=by unfold argsOk;kernel_rfl
section
variable {X:Cx}
end
theorem isQ.push {b:Bool}{h:Heap}{a:Addr}{xs:Array Value}(q:isQ b h a xs)(o:Obj):isQ b (h.push o) a xs:=by
 cases b with
 | true=>exact Heap.IsList.push q o
 | false=>exact Heap.IsTuple.push q o
theorem isQ.obj {b:Bool}{h:Heap}{a:Addr}{xs:Array Value}(q:isQ b h a xs):∃ o,h.get? a=some o:=by
 cases b with
 | true=>obtain⟨o,h1,_⟩:=q;exact⟨o,h1⟩
 | false=>obtain⟨o,h1,_⟩:=q;exact⟨o,h1⟩
theorem aR1 {b:Bool}{prog:Program}{w:World}{A:Around}{E:Value->Shared->Prop}{s:Shared}{a:Addr}{xs:Array Value}{Q:Value->Shared->Prop}(q:isQ b s.heap a xs)(h:Q (.ref s.heap.objs.size) { s with heap:=s.heap.push { cls:=.type (nmB b),data:=.fields #[.ref a,.int 0 0] } }):wpAny (model prog w) A (pyIter (.ref a)) Q E s:=by
 cases b with
 | true=>exact wpAny_pyIter_list q h
 | false=>exact wpAny_pyIter_tuple q h
theorem ba5 {prog:Program}{w:World}{A:Around}(b:Bool)(hh:A.handled=none)(it l:Addr)(hne:l≠it)(items:Array Value):Walks prog w A it [it,l] [it] items.size (fun i v=>items[i]?=some v) (fun i h=>itB b h it l i/\isQ b h l items):=by
 cases b with
 | true=>exact Walks.list hh it l hne items
 | false=>exact Walks.tuple hh it l hne items
section
variable {X:Cx}
theorem aZ6 (hc:X.calm=true):L1 X (.builtin "max") (fun xs H Q=>∃ (b:Bool) (p:Addr) (ns:List Int),xs=[.ref p]/\SqB b X.K H p (ns.map V.int)/\0<ns.length/\∀ m:Int,m∈ns->(∀ x∈ns,x<=m)->Q (.int m) H):=by
 intro pins s σ H xs us Q I r h
 obtain⟨b,p,ns,rfl,hq,hn,q⟩:=h
 obtain⟨u,rfl,rx⟩:=vals1 r
 cases rx
 obtain⟨its,r',pl⟩:=I.seqB hq
 have hlen:its.length=ns.length:=by rw[<- r'.length,b7]
 have hi:IntsAre its ns:=intsAre_of r'
 obtain⟨ys,e⟩:=hi.allInts.items
 have hT:isQ b s.heap p (intItems ys):=by rw[<- e];exact pl
 have hsz:(intItems ys).size=ns.length:=by rw[<- e,d7,hlen]
 have hnum:∀ j,j<ns.length->numAt ys j=ns.getD j 0:=fun j hj=>by
  have hx:(ns.map V.int)[j]?=some (.int (ns.getD j 0)):=by simp[hj]
  obtain⟨v,hv,t,rfl⟩:=r'.get hx
  have hv':(intItems ys)[j]?=some (.int (ns.getD j 0) t):=by rw[<- e];simpa using hv
  obtain⟨t',ht'⟩:=intItems_at hv'
  injection ht' with h1 _
  exact h1.symm
 have hpl:p<s.heap.objs.size:=by
  obtain⟨o,ho⟩:=hT.obj
  exact c9 ho
 refine call_max_walk (aR1 hT ?_)
 refine⟨_,[_,p],[_],_,_,_,_,rfl,ba5 b (A:=X.A.in1) (I.ok.hd hc) _ p (i4 hpl) (intItems ys),
  ⟨an6 (d6 _ rfl),hT.push _⟩,fun c hc'=>?_,by rw[hsz];exact hn,CmpOf.ints_gt (numAt ys) (fun _ _=>intItems_at),fun v h' tk hP hk=>?_⟩
 ·show c<(s.heap.push _).objs.size
  rw[x6]
  rcases d3.mp hc' with rfl | hc'
  ·exact T4 _
  ·rcases d3.mp hc' with rfl | hc'
   ·exact u9 hpl
   ·cases hc'
 ·have hold:∀ c o,s.heap.get? c=some o->h'.get? c=some o:=fun c o e=>by
   refine hk c o (fun hm=>?_) (b9 _ e)
   rcases d3.mp hm with e1 | hm
   ·exact absurd (c9 e) (by rw[e1];exact u5 _)
   ·cases hm
  obtain⟨t,rfl⟩:=intItems_at hP
  have hb:=ao1 (fun i j=>decide (numAt ys i > numAt ys j)) ((intItems ys).size - 1)
  have hbl:argBest (fun i j=>decide (numAt ys i > numAt ys j)) ((intItems ys).size - 1)<ns.length:=by rw[hsz]at hb ⊢;omega
  refine⟨.int _,H,I.kept (t':=tk) hold,⟨t,rfl⟩,q _ ?_ fun x hx=>?_⟩
  ·rw[hnum _ hbl,c5,c8 hbl]
   exact N5 hbl
  ·obtain⟨j,hj,rfl⟩:=M5.mp hx
   have:=aB8 (numAt ys) ((intItems ys).size - 1) j (by rw[hsz];omega)
   rw[hnum j hj,c5,c8 hj]at this
   exact this
theorem bg1 {b:Bool}{pins:List (Addr × Obj)}{s:Shared}{σ:St}{H:Hp}{E:Value->Shared->Prop}{p:Addr}{ns:List Int}{d:Value}{Q:Value->Shared->Prop}(hc:X.calm=true)(I:Inv X pins σ H s)(hq:SqB b X.K H p (ns.map V.int))
  (h0:ns=[]->∀ s',Inv X pins σ H s'->Q d s')(h1:∀ (m:Int) (t:Tok) (s':Shared),m∈ns->(∀ x∈ns,x<=m)->Inv X pins σ H s'->Q (.int m t) s'):wpAny (model X.prog X.w) X.A (call (.builtin "max") [.ref p] [(Str.ofString "default",d)]) Q E s:=by
 obtain⟨its,r',pl⟩:=I.seqB hq
 have hlen:its.length=ns.length:=by rw[<- r'.length,b7]
 have hi:IntsAre its ns:=intsAre_of r'
 obtain⟨ys,e⟩:=hi.allInts.items
 have hT:isQ b s.heap p (intItems ys):=by rw[<- e];exact pl
 have hsz:(intItems ys).size=ns.length:=by rw[<- e,d7,hlen]
 have hnum:∀ j,j<ns.length->numAt ys j=ns.getD j 0:=fun j hj=>by
  have hx:(ns.map V.int)[j]?=some (.int (ns.getD j 0)):=by simp[hj]
  obtain⟨v,hv,t,rfl⟩:=r'.get hx
  have hv':(intItems ys)[j]?=some (.int (ns.getD j 0) t):=by rw[<- e];simpa using hv
  obtain⟨t',ht'⟩:=intItems_at hv'
  injection ht' with h1 _
  exact h1.symm
 have hpl:p<s.heap.objs.size:=by
  obtain⟨o,ho⟩:=hT.obj
  exact c9 ho
 refine kmk_tree PySem.F.kind_max PySem.F.plain_max PySem.F.entry_max (ba0 _ _) ?_;show wpAny _ X.A.in1 (Builtin.Builtins.bindParams "max" ["key","default"] 0 ⟨[],[(Str.ofString "default",d)]⟩ >>= _) _ _ s
 refine wpAny_bind (wpAny_of_eq (show Builtin.Builtins.bindParams "max" ["key","default"] 0 ⟨[],[(Str.ofString "default",d)]⟩=pure [none,some d] from rfl) ?_);refine wpAny_bind (wpAny_pure ?_)
 refine wpAny_bind (aR1 hT ?_);refine wpAny_bind (wpAny_newList ?_ (o8 _));rw[af3]
 have hS:(s.heap.push { cls:=.type (nmB b),data:=.fields #[.ref p,.int 0 0] }).objs.size=s.heap.objs.size+1:=x6 ..
 have old:∀ c o,s.heap.get? c=some o->((s.heap.push { cls:=.type (nmB b),data:=.fields #[.ref p,.int 0 0] }).push (seqObj "list" #[] 0)).get? c=some o:=fun c o e=>b9 _ (b9 _ e)
 refine wpAny_pure ⟨plainId_quiet PySem.F.plain_max_loop _,aW6 (ba5 b (A:=X.A.in1) (I.ok.hd hc) s.heap.objs.size p (i4 hpl) (intItems ys)) _ (CmpOf.ints_gt (numAt ys) (fun _ _=>intItems_at)) _ (fun hm=>?_) ⟨an6 (b9 _ (d6 _ rfl)),(hT.push _).push _⟩ (d6 _ rfl) (fun hn h' tk hk=>?_) fun hn v h' tk hP hk=>?_⟩
 ·rw[hS]at hm
  rcases d3.mp hm with e1 | hm
  ·exact absurd e1 (D9 (T4 _))
  ·rcases d3.mp hm with e1 | hm
   ·exact absurd e1 (D9 (u9 hpl))
   ·cases hm
 ·have hold:∀ c o,s.heap.get? c=some o->h'.get? c=some o:=fun c o e=>hk c o (fun hm=>by
   rcases d3.mp hm with e1 | hm
   ·exact absurd (c9 e) (by rw[e1];exact u5 _)
   ·cases hm) (by rw[hS];exact i4 (u9 (c9 e))) (old c o e)
  exact h0 (ac3.mp (by omega)) _ (I.kept (t':=tk) hold)
 ·have hold:∀ c o,s.heap.get? c=some o->h'.get? c=some o:=fun c o e=>hk c o (fun hm=>by
   rcases d3.mp hm with e1 | hm
   ·exact absurd (c9 e) (by rw[e1];exact u5 _)
   ·cases hm) (by rw[hS];exact i4 (u9 (c9 e))) (old c o e)
  obtain⟨t,rfl⟩:=intItems_at hP
  have hb:=ao1 (fun i j=>decide (numAt ys i > numAt ys j)) ((intItems ys).size - 1)
  have hbl:argBest (fun i j=>decide (numAt ys i > numAt ys j)) ((intItems ys).size - 1)<ns.length:=by rw[hsz]at hb ⊢;omega
  refine h1 _ t _ ?_ (fun x hx=>?_) (I.kept (t':=tk) hold)
  ·rw[hnum _ hbl,c5,c8 hbl]
   exact N5 hbl
  ·obtain⟨j,hj,rfl⟩:=M5.mp hx
   have:=aB8 (numAt ys) ((intItems ys).size - 1) j (by rw[hsz];omega)
   rw[hnum j hj,c5,c8 hj]at this
   exact this
end
def bI6 (K:W.Frag)(tr:TA):TE:=fun σ H Q=>tr σ H fun vs H1=>∃ (b:Bool) (p:Addr) (ns:List Int),vs=[.ref p]/\SqB b K H1 p (ns.map V.int)/\Web.AllP ns/\∀ m:Int,0<=m->(∀ x∈ns,x<=m)->Q (.int m) H1
theorem bp1 {X:Cx}{e:Expr}{np pos bpos kpos:Pos}{j:Nat}{tr:TA}(K:W.Frag)(hK:X.K=K)(hc:X.calm=true)(hg:Gl X "max")(hm:X.mg "max"=none)(ha:PA X [e] tr)
  (hs:backTo pos (starEach [e] X.env)=(false,eval e X.env)::backTo pos (starEach [] X.env):=by rfl)
  (hpl:(backTo pos (starEach [e] X.env)).any (·.1)=false:=by rfl) :
  PE X (.Call (.Name "max" np) [e] [⟨some "default",.Constant (.int 0) j bpos,kpos⟩] pos) (bI6 K tr):=by
 subst hK
 intro pins s σ H Q I h
 refine wpAny_Call_Name_kw (P4 I hg hm (show bootBuiltins "max"=some (.builtin "max") from rfl) ?_ (by decide) (by decide))
 refine callWith_kw (thn (ha pos pins s σ H _ I h) fun us s1 ⟨vs,H1,I1,r1,q1⟩=>?_) hs hpl rfl rfl
 obtain⟨b,p,ns,rfl,hq,hp,q⟩:=q1
 have hk:PK X [⟨some "default",.Constant (.int 0) j bpos,kpos⟩] (aD7 (tC (.int 0)) ba8):=aA0 i9 aM3
 refine thn (hk pos pins s1 σ H1 (fun zs H2=>zs=[.int 0]/\H2=H1) I1 ⟨rfl,rfl⟩) fun ws s2 ⟨zs,H2,I2,r2,ez,eH⟩=>?_
 subst ez eH
 obtain⟨w,rfl,rw⟩:=vals1 r2
 obtain⟨u,rfl,ru⟩:=vals1 r1
 obtain⟨t,rfl⟩:=rw
 cases ru
 exact bg1 hc I2 hq (fun e s' I'=>⟨.int 0,_,I',⟨_,rfl⟩,q 0 (by omega) fun x hx=>by rw[e]at hx;cases hx⟩) fun m t s' a1 a2 I'=>⟨.int m,_,I',⟨t,rfl⟩,q m (by
  obtain⟨i,hi⟩:=r9.mp a1
  exact hp i m hi) a2⟩
end L2
namespace L2
open PySem PySem.Spec PyProof.Rows PySem.SeqAt
theorem aP4:∀ {bs:List Bool} {its:List Value},y9 (bs.map V.bl) its->its=bs.map Value.bool
 | [],_,.nil=>rfl
 | b::bs,_,.cons r t=>by rw[aP4 t,show _=Value.bool b from r];rfl
section
variable {X:Cx}
end
theorem W4 {X:Cx}{a b:Expr}{pos:Pos}{ta tb:TE}(K:W.Frag)(hK:X.K=K)(ha:PE X a ta)(hb:PE X b tb)(hs:aC3 b):PE X (.Subscript a b pos) (tOp (rIx K) ta tb):=by
 cases hK
 exact B6 bh7 ha hb hs
end L2
namespace L2
open PySem PySem.Spec PyProof.Rows
section
variable {X:Cx}
end
section
variable {X:Cx}
theorem aZ5 (K:W.Frag)(hK:X.K=K)(hc:X.calm=true):L1 X (.builtin "sum") (fun xs H Q=>∃ (p:Addr) (ns:List Int),xs=[.ref p]/\SqL K H p (ns.map V.int)/\Q (.int ns.sum) H):=by subst hK;exact U8 hc
end
section
variable {X:Cx}
end
end L2
namespace L2
open PySem PySem.Spec PyProof.Rows PySem.SeqAt
section
variable {prog:Program} {w:World} {A:Around} {E:Value->Shared->Prop} {s:Shared}
def aC2 (h:Heap)(d:Addr)(es:Array DictEntry)(ep:Nat):Prop:=∃ o,h.get? d=some o/\o.ExactDict/\o.data=.dict es ep
theorem aC2.typeIs {d:Addr}{es:Array DictEntry}{ep:Nat}(x:aC2 s.heap d es ep):s.TypeIs (.ref d) "dict":=let ⟨o,ho,hc,_⟩:=x;⟨o,ho,hc.1⟩
theorem aC2.at' {h h':Heap}{d:Addr}{es:Array DictEntry}{ep:Nat}(x:aC2 h d es ep)(e:∀ o,h.get? d=some o->h'.get? d=some o):aC2 h' d es ep:=let ⟨o,ho,r⟩:=x;⟨o,e _ ho,r⟩
theorem bd7 {d:Addr}{es:Array DictEntry}{ep:Nat}{Q:Value->Shared->Prop}(hd:(d == sysModules)=false)(hm:aC2 s.heap d es ep)
  (hQ:Q (.ref s.heap.objs.size) { s with heap:=s.heap.push { cls:=.type "dict_keyiterator",data:=.fields #[.ref d,.int 0 0,.int es.size 0,.int ep 0] } }) :
  wpAny (model prog w) A (pyIter (.ref d)) Q E s:=by
 have hT:=hm.typeIs
 obtain⟨o,ho,hc,hdat⟩:=id hm
 refine wpAny_pyIter_slot hT PySem.F.slot_dict_iter (wpAny_call_entry PySem.F.slot_dict_iter hT PySem.F.entry_dict_iter ?_ (PySem.F.args_dict_iter_1 _))
 unfold Builtin.«dict.__iter__»
 refine wpAny_bind ?_
 unfold Builtin.Dict.dictSlotNone
 refine wpAny_bind (wpAny_notOrdered_dict hT ?_)
 show wpAny _ _ (pure (Value.ref d)) _ _ s
 refine wpAny_pure ?_
 show wpAny _ _ (Builtin.Dict.showsAll d >>= _) _ _ s
 unfold Builtin.Dict.showsAll
 rw[if_neg (by rw[hd];exact f6)]
 refine wpAny_bind (wpAny_pure ?_)
 refine wpAny_bind (wpAny_dictEntries ho hdat ?_)
 refine wpAny_bind (wpAny_dictEpoch ho hdat ?_)
 refine wpAny_bind (wpAny_newObj_type (wpAny_pure ⟨_,rfl,"dict_keyiterator",_,⟨_,d6 _ rfl,rfl⟩,PySem.F.slot_dict_keyiterator_next.lookup,?_⟩))
 simpa [rawInt] using hQ
theorem bd6 {it d:Addr}{i ep:Nat}{es:Array DictEntry}{e:DictEntry}{Q:Option Value->Shared->Prop}(hit:s.heap.IsKeyIter it d i es.size ep)
  (hm:aC2 s.heap d es ep)(hx:es[i]?=some e)(hQ:∀ h',h'.IsKeyIter it d (i+1) es.size ep->Heap.SameBut it s.heap h'->Q (some e.key) { s with heap:=h' }) :
  wpAny (model prog w) A (pyNext (.ref it)) Q E s:=by
 obtain⟨o,ho,hc,hd⟩:=id hit
 obtain⟨od,hod,hcd,hdd⟩:=id hm
 unfold pyNext
 refine wpAny_bind (wpAny_attempt (wpAny_callSpecial?_slot (name:=Str.ofString "__next__") hit.typeIs PySem.F.slot_dict_keyiterator_next
  (wpAny_call_entry PySem.F.slot_dict_keyiterator_next hit.typeIs PySem.F.entry_dict_keyiterator_next ?_ (PySem.F.args_dict_keyiterator_next_1 _))))
 refine wpAny_bind (wpAny_pure ?_)
 refine wpAny_bind ?_
 refine wpAny_bind ?_
 first | refine wpAny_bind (wpAny_typeNameOfWhole_keyiter hit.typeIs (wpAny_pure ?_)) | refine wpAny_bind (wpAny_typeNameOf_keyiter hit.typeIs (wpAny_pure ?_))
 refine wpAny_bind (wpAny_fieldsOf ho hd ?_)
 have hown:Builtin.Dict_items.ownsTuple "dict_keyiterator"=false:=by decide
 simp only[hown,j8,if_false]
 show wpAny _ _ (if (Value.ref d == Value.none)=true then _ else _) _ _ s
 rw[if_neg (show ¬ ((Value.ref d == Value.none)=true) from f6)]
 refine wpAny_bind (wpAny_pure ?_)
 refine wpAny_bind (wpAny_dictEntries hod hdd ?_)
 rw[if_neg (by simp)]
 refine wpAny_bind (wpAny_pure ?_)
 refine wpAny_bind (wpAny_dictEpoch hod hdd ?_)
 rw[if_neg (by simp)]
 refine wpAny_pure ?_
 simp only[show ¬ ((i:Int)<0) from by omega,if_false,i8,hx]
 refine wpAny_bind ?_
 first | refine wpAny_bind (wpAny_typeNameOfWhole_keyiter hit.typeIs (wpAny_pure ?_)) | refine wpAny_bind (wpAny_typeNameOf_keyiter hit.typeIs (wpAny_pure ?_))
 refine wpAny_bind (wpAny_isOneOf_keyiter hit.typeIs ?_)
 show wpAny _ _ (setField (.ref it) 1 (rawInt ((i:Int)+1)) >>= _) _ _ s
 refine wpAny_bind (wpAny_setField ho hd (by simp) ?_)
 have hit':(s.heap.update it (Obj.mapFields (·.setIfInBounds 1 (rawInt ((i:Int)+1))))).IsKeyIter it d (i+1) es.size ep:=
  ⟨_,F4 _ ho (Obj.isFreed_of_fields (Obj.data_mapFields hd _)),(Obj.cls_mapFields ..).trans hc,by rw[Obj.data_mapFields hd];simp[rawInt]⟩
 refine wpAny_bind (wpAny_holding ?_)
 refine wpAny_bind (wpAny_isOneOf_keyiter (s:={ s with heap:=s.heap.update it (Obj.mapFields (·.setIfInBounds 1 (rawInt ((i:Int)+1)))) }) hit'.typeIs ?_)
 show wpAny _ _ (pure e.key) _ _ _
 exact wpAny_pure (wpAny_pure ⟨_,rfl,wpAny_pure (hQ _ hit' (Heap.SameBut.update ..))⟩)
theorem bo5 {it d:Addr}{i ep:Nat}{es:Array DictEntry}{Q:Option Value->Shared->Prop}(hh:A.handled=none)(hit:s.heap.IsKeyIter it d i es.size ep)
  (hm:aC2 s.heap d es ep)(hx:es.size<=i)(hQ:∀ h',Heap.ExtBut it s.heap h'->Q none { s with heap:=h' }):wpAny (model prog w) A (pyNext (.ref it)) Q E s:=by
 obtain⟨o,ho,hc,hd⟩:=id hit
 obtain⟨od,hod,hcd,hdd⟩:=id hm
 unfold pyNext
 refine wpAny_bind (wpAny_attempt (wpAny_callSpecial?_slot (name:=Str.ofString "__next__") hit.typeIs PySem.F.slot_dict_keyiterator_next
  (wpAny_call_entry PySem.F.slot_dict_keyiterator_next hit.typeIs PySem.F.entry_dict_keyiterator_next ?_ (PySem.F.args_dict_keyiterator_next_1 _))))
 refine wpAny_bind (wpAny_pure ?_)
 refine wpAny_bind ?_
 refine wpAny_bind ?_
 first | refine wpAny_bind (wpAny_typeNameOfWhole_keyiter hit.typeIs (wpAny_pure ?_)) | refine wpAny_bind (wpAny_typeNameOf_keyiter hit.typeIs (wpAny_pure ?_))
 refine wpAny_bind (wpAny_fieldsOf ho hd ?_)
 have hown:Builtin.Dict_items.ownsTuple "dict_keyiterator"=false:=by decide
 simp only[hown,j8,if_false]
 show wpAny _ _ (if (Value.ref d == Value.none)=true then _ else _) _ _ s
 rw[if_neg (show ¬ ((Value.ref d == Value.none)=true) from f6)]
 refine wpAny_bind (wpAny_pure ?_)
 refine wpAny_bind (wpAny_dictEntries hod hdd ?_)
 rw[if_neg (by simp)]
 refine wpAny_bind (wpAny_pure ?_)
 refine wpAny_bind (wpAny_dictEpoch hod hdd ?_)
 rw[if_neg (by simp)]
 refine wpAny_pure ?_
 simp only[show ¬ ((i:Int)<0) from by omega,if_false,i8,P7 hx]
 refine wpAny_bind ?_
 first | refine wpAny_bind (wpAny_typeNameOfWhole_keyiter hit.typeIs (wpAny_pure ?_)) | refine wpAny_bind (wpAny_typeNameOf_keyiter hit.typeIs (wpAny_pure ?_))
 show wpAny _ _ (setField (.ref it) 0 .none >>= _) _ _ s
 refine wpAny_bind (wpAny_setField ho hd (by simp) ?_)
 show wpAny _ _ (newExc (.type "StopIteration") [] >>= _) _ _ _
 refine wpAny_bind ?_
 simp only[newExc,newTuple]
 refine wpAny_bind (wpAny_newObj_type ?_ (by size_fits))
 refine wpAny_bind (m:=firstArgMember _ _) (wpAny_of_eq (a:=Value.none) (by first | rfl | (simp only[firstArgMember];rfl)) ?_)
 refine wpAny_newObj_type ?_ (by size_fits)
 simp only[raiseNew]
 refine wpAny_bind (wpAny_handled ?_)
 rw[show A.in1.handled=none from hh]
 refine wpAny_bind (wpAny_pure (wpAny_throw ?_))
 refine wpAny_bind (wpAny_isInstance (T:="StopIteration") (b:=true) ⟨_,d6 _ rfl,rfl⟩ isSubtype_stop ?_)
 exact wpAny_pure (hQ _ (((Heap.SameBut.update ..).extBut.push _).push _))
theorem aF3 (hh:A.handled=none)(I d:Addr)(hne:d≠I)(es:Array DictEntry)(ep:Nat) :
  Walks prog w A I [I,d] [I] es.size (fun i v=>∃ e,es[i]?=some e/\v=e.key) (fun i h=>h.IsKeyIter I d i es.size ep/\aC2 h d es ep) where
 sub:=fun b hb=>by simp at hb;simp[hb]
 frame:=fun _ _ _ st hk=>⟨st.1.at fun o e=>hk I (by simp) o e,st.2.at' fun o e=>hk d (by simp) o e⟩
 item:=fun i s Q E hi st hQ=>by
  obtain⟨e,hx⟩:∃ e,es[i]?=some e:=⟨es[i],by simp[hi]⟩
  refine bd6 st.1 st.2 hx fun h' hit' hs'=>?_
  exact hQ e.key h' s.toks ⟨e,hx,rfl⟩ ⟨hit',st.2.at' fun o q=>hs'.extBut d o hne q⟩ fun b o hb q=>hs'.extBut b o (fun h=>hb (by simp[h])) q
 done:=fun s Q E st hQ=>bo5 hh st.1 st.2 (c7 _) fun h' he'=>hQ h' s.toks fun b o hb e=>he' b o (fun h=>hb (by simp[h])) e
 self:=fun _ _ _ _ st hQ=>wpAny_pyIter_keyiter st.1 hQ
end
section
variable {prog:Program} {w:World} {A:Around} {E:Value->Shared->Prop} {s:Shared}
end
section
variable {X:Cx}
end
section
variable {X:Cx}
theorem aZ8 {bs:List Bool}{i:Nat}{v:Value}(h:(bs.map Value.bool)[i]?=some v):v=.bool (bs.getD i false):=by
 rw[l4]at h
 cases e:bs[i]? with
 | none=>rw[e]at h;cases h
 | some b=>rw[e]at h;cases h;rw[c5,e];rfl
theorem all_range (bs:List Bool):((k8 bs.length).all fun i=>bs.getD i false)=bs.all id:=by
 rw[V0,C0,C0]
 constructor
 ·intro h b hb
  obtain⟨i,hi,rfl⟩:=M5.mp hb
  have:=h i (p0.mpr hi)
  rw[c5,c8 hi]at this
  exact this
 ·intro h i hi
  have hi:=p0.mp hi
  rw[c5,c8 hi]
  exact h _ (N5 hi)
theorem boot_all:bootBuiltins "all"=some (.builtin "all"):=by decide +kernel
theorem aZ7 (hc:X.calm=true):L1 X (.builtin "all") (fun xs H Q=>∃ (l:Addr) (bs:List Bool),xs=[.ref l]/\H l=some (.lst (bs.map V.bl))/\Q (.bl (bs.all id)) H):=by
 intro pins s σ H xs us Q I r h
 obtain⟨l,bs,rfl,hH,q⟩:=h
 obtain⟨u,rfl,rx⟩:=vals1 r
 cases rx
 obtain⟨z,its,n,r,hl,e⟩:=I.lstM hH
 obtain rfl:=aP4 r
 have hl1:s.heap.IsList l (bs.map Value.bool).toArray:=⟨_,e,rfl,_,rfl⟩
 refine call_all_walkS (wpAny_pyIter_list hl1 ?_)
 have hlt:l<s.heap.objs.size:=c9 e
 have hh:X.A.in1.handled=none:=by simp[I.ok.hd hc]
 refine⟨_,_,_,_,_,_,_,fun i=>bs.getD i false,rfl,(Walks.list hh _ l (i4 hlt) (bs.map Value.bool).toArray).toS,⟨⟨_,d6 _ rfl,rfl,rfl⟩,hl1.push _⟩,?_,fun s' hm=>?_⟩
 ·intro i v s Q E hv hq
  have:=aZ8 (bs:=bs) (i:=i) (v:=v) (by simpa using hv)
  subst this
  exact wpAny_pure hq
 ·refine⟨.bl (bs.all id),H,?_,?_,q⟩
  ·rw[Moved.eq_with hm]
   exact I.kept (t':=s'.toks) fun b o eo=>hm.heap b o (fun hb=>absurd (c9 eo) (by rw[y6.mp hb];exact u5 _)) (b9 _ eo)
  ·show _=Value.bool (bs.all id)
   rw[<- all_range]
   simp
end
section
variable {prog:Program} {w:World} {A:Around} {E:Value->Shared->Prop} {s:Shared}
end
section
variable {X:Cx}
end
end L2
namespace L2
open PySem PySem.Spec PyProof.Rows
def ab7 (H:Hp)(l:Addr->Option Obj):Hp:=fun b=>match l b with
 | some o=>some (K7 b o)
 | none=>H b
def R5 (H:Hp)(l:Addr->Option Obj):Hp:=fun b=>match l b with
 | some _=>none
 | none=>H b
section
variable {P:Program} {w:World} {H H1 H2:Hp} {h h1 h2:Heap} {l:Addr->Option Obj} {fs:List Addr}
theorem ad8 {b:Addr}{o:Obj}(e:l b=some o):ab7 H l b=some (K7 b o):=by unfold ab7;rw[e]
theorem C2 {b:Addr}(e:l b=none):ab7 H l b=H b:=by unfold ab7;rw[e]
theorem U4 {b:Addr}{o:Obj}(e:l b=some o):R5 H l b=none:=by unfold R5;rw[e]
theorem C3 {b:Addr}(e:l b=none):R5 H l b=H b:=by unfold R5;rw[e]
theorem bu5 {b:Addr}{o:Obj}(e:h.get? b=some o):B9 P w H h b (K7 b o):=⟨e,⟨o,e⟩,fun h1 h2 q z=>z _ q⟩
theorem HOk.trkd (x:HOk P w H h)(hl:∀ b o,l b=some o->h.get? b=some o/\H b=none):HOk P w (ab7 H l) h:=fun a o e=>by
 cases hb:l a with
 | some q=>rw[ad8 hb]at e;cases e;exact bu5 (hl a q hb).1
 | none =>
  rw[C2 hb]at e
  have aux:∀ b u,H b=some u->ab7 H l b=some u:=fun b u q=>by
   cases hb':l b with
   | some z=>rw[(hl b z hb').2]at q;cases q
   | none=>rw[C2 hb'];exact q
  exact(x a o e).stay (fun _ _ _ q=>q) (fun b q=>aux b _ q) (fun b xs q=>aux b _ q)
theorem ai7 {b:Addr}{u:HO}(hl:∀ b o,l b=some o->H b=some (K7 b o))(q:H b=some u)(hu:∀ o,u≠K7 b o):l b=none:=by
 cases hb:l b with
 | some z=>rw[hl b z hb]at q;cases q;exact absurd rfl (hu z)
 | none=>rfl
theorem HOk.rmv (x:HOk P w H h)(hl:∀ b o,l b=some o->H b=some (K7 b o)):HOk P w (R5 H l) h:=fun a o e=>by
 cases hb:l a with
 | some q=>rw[U4 hb]at e;cases e
 | none =>
  rw[C3 hb]at e
  refine(x a o e).stay (fun _ _ _ q=>q) (fun b q=>?_) (fun b xs q=>?_)
  ·rw[C3 (ai7 hl q (fun o z=>by unfold K7 at z;cases z))];exact q
  ·rw[C3 (ai7 hl q (fun o z=>by unfold K7 at z;cases z))];exact q
theorem Un.inner (un:Un fs [] (R5 H l) H1 h h1)(hl:∀ b o,l b=some o->H b=some (K7 b o)):Un fs [] H (ab7 H1 l) h h1:=by
 have nn:∀ b,H b=none->l b=none:=fun b n=>by
  cases hb:l b with
  | some z=>rw[hl b z hb]at n;cases n
  | none=>rfl
 refine⟨fun b o e n hf hx=>un.keep b o e (by rw[C3 (nn b n)];exact n) hf hx,fun b o e n hf hx=>un.slot b o e (by rw[C3 (nn b n)];exact n) hf hx,fun b o e n hx=>?_,un.there,fun b xs q=>?_,fun b o u q=>?_,fun b ps q=>?_⟩
 ·rw[C2 (nn b n)]
  exact un.free b o e (by rw[C3 (nn b n)];exact n) hx
 ·have z:=ai7 hl q (fun o z=>by unfold K7 at z;cases z)
  rw[C2 z]
  exact un.tups b xs (by rw[C3 z];exact q)
 ·have z:=ai7 hl q (fun o z=>by unfold K7 at z;cases z)
  rw[C2 z]
  exact un.frzs b o u (by rw[C3 z];exact q)
 ·have z:=ai7 hl q (fun o z=>by unfold K7 at z;cases z)
  rw[C2 z]
  exact un.tbls b ps (by rw[C3 z];exact q)
theorem Un.outer (un:Un fs [] (ab7 H l) H2 h h2)(hl:∀ b o,l b=some o->h.get? b=some o/\H b=none)(h2l:∀ b o,l b=some o->H2 b=some (K7 b o))(ok2:HOk P w H2 h2):Un fs [] H (R5 H2 l) h h2:=by
 have nn:∀ b u,H b=some u->l b=none:=fun b u q=>by
  cases hb:l b with
  | some z=>rw[(hl b z hb).2]at q;cases q
  | none=>rfl
 have at2:∀ b o,l b=some o->h2.get? b=some o:=fun b o e=>(ok2 b _ (h2l b o e)).1
 refine⟨fun b o e n hf hx=>?_,fun b o e n hf hx=>?_,fun b o e n hx=>?_,un.there,fun b xs q=>?_,fun b o u q=>?_,fun b ps q=>?_⟩
 ·cases hb:l b with
  | some z =>
   rw[(hl b z hb).1]at e
   cases e
   exact at2 b _ hb
  | none=>exact un.keep b o e (by rw[C2 hb];exact n) hf hx
 ·cases hb:l b with
  | some z =>
   rw[(hl b z hb).1]at e
   cases e
   exact⟨_,at2 b _ hb⟩
  | none=>exact un.slot b o e (by rw[C2 hb];exact n) hf hx
 ·cases hb:l b with
  | some z=>exact U4 hb
  | none =>
   rw[C3 hb]
   exact un.free b o e (by rw[C2 hb];exact n) hx
 ·rw[C3 (nn b _ q)]
  exact un.tups b xs (by rw[C2 (nn b _ q)];exact q)
 ·rw[C3 (nn b _ q)]
  exact un.frzs b o u (by rw[C2 (nn b _ q)];exact q)
 ·rw[C3 (nn b _ q)]
  exact un.tbls b ps (by rw[C2 (nn b _ q)];exact q)
end
def bz5 (sp:Sp)(js:List (Nat × Addr))(t:TA):TE:=fun σ H Q=>t σ H fun vs H1=>∀ l:Addr->Option Obj,(∀ b o,l b=some o->H1 b=none)->(∀ p∈js,∀ v,σ[p.1]?=some (some v)->∃ o u,l p.2=some o/\o.data=.cell (some u)/\RelV v u) ->
 sp vs (ab7 H1 l) (fun r H2=>(∀ b o,l b=some o->H2 b=some (K7 b o))/\Q r (R5 H2 l)) E0
section
variable {X:Cx} {k:Nat} {f:Addr} {fd:FuncData} {ps:List Str} {sp:Sp} {x:Str} {p pos:Pos} {e:Expr} {es:List Expr} {t:TA}
theorem be7 {js:List (Nat × Addr)}(F:t9 X.prog X.w X.K X.mg X.base CX0 k f fd ps sp)(hr:P6 k X.A)(hg:Gl X x)(hm:X.mg x=some (.ref f))(hk:i7 X.K (.ref f)=true)(hb:Binds X.K fd ps [])
  (hj:∀ q∈js,X.s₀.heap.objs.size<=q.2/\∃ y,X.N[q.1]?=some y/\X.env.scope.names.lookup y=some .cell/\X.env.cells.lookup y=some q.2)
  (ha:PA X (e::es) t)(hdb:(x == ("__debug__":Str))=false:=by decide)(he:starEach (e::es) X.env=(false,eval e X.env)::starEach es X.env:=by rfl)(hpl:(backTo pos (starEach es X.env)).any (·.1)=false:=by rfl) :
  PE X (.Call (.Name x p) (e::es) [] pos) (bz5 sp js t):=by
 intro pins s σ H Q I h
 refine wpAny_Call_Name_kw (an4 I hg hm ?_ hdb)
 refine PySem.W.callWith_K (h₀:=X.base) I.ok.mod.kin hk (thn (ha pos pins s σ H _ I h) fun us s1 ⟨vs,H1,I1,r,q⟩=>⟨I1.kIn,?_⟩) he hpl
 obtain⟨l,hl⟩:∃ l:Addr->Option Obj,l=fun b=>if b∈js.map (·.2) then s1.heap.get? b else none:=⟨_,rfl⟩
 have l1:∀ b o,l b=some o->s1.heap.get? b=some o/\b∈js.map (·.2):=fun b o e=>by
  rw[hl]at e
  by_cases hb:b∈js.map (·.2)
  ·have e':(if b∈js.map (·.2) then s1.heap.get? b else none)=some o:=e
   rw[if_pos hb]at e'
   exact⟨e',hb⟩
  ·have e':(if b∈js.map (·.2) then s1.heap.get? b else none)=some o:=e
   rw[if_neg hb]at e'
   cases e'
 have l2:∀ b o,l b=some o->s1.heap.get? b=some o/\H1 b=none:=fun b o e=>by
  obtain⟨e1,e2⟩:=l1 b o e
  obtain⟨q,hq,rfl⟩:=l5.mp e2
  obtain⟨_,y,_,_,hc⟩:=hj q hq
  exact⟨e1,I1.freeC y _ hc⟩
 have l3:∀ q∈js,∀ v,σ[q.1]?=some (some v)->∃ o u,l q.2=some o/\o.data=.cell (some u)/\RelV v u:=fun q hq v hv=>by
  obtain⟨_,y,hN,hs,hc⟩:=hj q hq
  obtain⟨m,hn,lo⟩:=I1.loc
  obtain⟨u,ru,lk⟩:=lo q.1 y v hN hv (.inr (.inl hs))
  rcases lk with⟨z,_⟩ | ⟨_,c,hc',o,ho,hd⟩
  ·have z':X.env.scope.names.lookup y=some .local:=z
   rw[hs]at z'
   cases z'
  ·rw[hc]at hc'
   cases hc'
   refine⟨o,u,?_,hd,ru⟩
   rw[hl]
   show (if q.2∈js.map (·.2) then s1.heap.get? q.2 else none)=some o
   rw[if_pos (l5.mpr ⟨q,hq,rfl⟩)]
   exact ho
 have q':=q l (fun b o e=>(l2 b o e).2) l3
 have nofr:∀ q∈js,q.2∉frs X.stack:=fun q hq z=>by
  obtain⟨hge,y,_,_,hc⟩:=hj q hq
  have nf:q.2∉X.fs:=fun hb=>by
   obtain⟨_,o,ho,_⟩:=I1.ok.funs.mem hb
   exact absurd (l9 (c9 ho) hge) (u5 _)
  rcases I1.ok.stk with h1 | ⟨h1,h2⟩
  ·rw[h1]at z
   exact nf z
  ·rw[h1]at z
   unfold frs at z
   rw[N6,h2]at z
   rcases d3.mp z with z | z
   ·exact I1.cne y _ hc z
   ·exact nf z
 have e0:=I1.env0
 have e1:bl3 X.prog X.w X.K X.mg X.base X.A X.stack s1 (ab7 H1 l):=by
  refine⟨e0.frames,e0.mod,fun b o e=>⟨(e0.bs b o e).1,?_⟩,e0.bsz,e0.funs,fun b hb=>?_,e0.hok.trkd l2,e0.bare⟩
  ·cases hb:l b with
   | none=>rw[C2 hb];exact(e0.bs b o e).2
   | some z =>
    obtain⟨q,hq,rfl⟩:=l5.mp (l1 b z hb).2
    have:=(hj q hq).1
    exact absurd (l9 (c9 e) (p5 I1.ok.bsz this)) (u5 _)
  ·cases hb':l b with
   | none=>rw[C2 hb'];exact e0.frf b hb
   | some z =>
    obtain⟨q,hq,rfl⟩:=l5.mp (l1 b z hb').2
    exact absurd hb (nofr q hq)
 have hlen:us.length=ps.length:=by rw[<- r.length];exact F.len _ _ _ _ q'
 have hbind:=hb s1 us I1.kIn (by rw[A6];exact hlen)
 rw[A6]at hbind
 refine wpAny_call (codeAny_mono (F.run X.A X.stack s1 (ab7 H1 l) ⟨us,[]⟩ us vs _ E0 hr e1 hbind r q') fun r s' hq=>?_)
 cases r with
 | error e=>exact False.elim hq
 | ok fl =>
  cases fl with
  | ret u =>
   obtain⟨v,H',os,bare,un,hok,rv,kept,qq⟩:=hq
   exact I1.after ⟨v,R5 H' l,os,bare,un.outer l2 kept hok,hok.rmv kept,rv,qq⟩
  | next=>exact False.elim hq
  | brk=>exact False.elim hq
  | cont=>exact False.elim hq
end
def bw8 (P:Program)(w:World)(K:W.Frag)(mg:Str->Option Value)(base:Heap)(A:Around)(outer:List Env)(qual:Str)(scope:Scope)(cl:List (Str × Addr))(N':List Str)(f:Addr)(cv:Value)(s:Shared)(H:Hp):Cx where
 prog:=P
 w:=w
 K:=K
 mg:=mg
 base:=base
 A:=A.deeper (ad3 qual scope cl f cv s)
 N:=N'
 s₀:=s
 H₀:=H
 env:=ad3 qual scope cl f cv s
 outer:=outer
 stack:=List.cons (ad3 qual scope cl f cv s) outer
 ex:=[]
 fn:=fun _=>false
 calm:=true
 pn:=[]
 xe:=fun _ _=>False
def bJ4 (f c':Addr)(qual:Str)(ob:Obj)(l:Addr->Option Obj)(cvs:St)(te:TE):Sp:=fun vs H Q _=>∃ a,vs=[a]/\H f=some (K7 f ob)/\H c'=some (ag7 c' qual)/\(∀ b o,l b=some o->H b=some (K7 b o)) /\
 te (some a::cvs) (R5 H l) fun v' H'=>(∀ b o,l b=some o->H' b=none)->Q v' (ab7 H' l)
theorem bC8 {P:Program}{w:World}{K:W.Frag}{mg:Str->Option Value}{base:Heap}{k:Nat}{qual p:Str}{params:Arguments}{body:Expr}{scope:Scope}{cl:List (Str × Addr)}{N':List Str}{f c':Addr}{pm ctv:Value}{te:TE}{l:Addr->Option Obj}{cvs:St}
  (hkind:scope.kind=.function)(hco:scope.isCoroutine=false)(hgen:scope.isGenerator=false)(hfr:ag6 scope.names cl=true)(hp:scope.names.lookup p=some .local)
  (hinj:∀ x y c,cl.lookup x=some c->cl.lookup y=some c->x=y)(hcl:∀ x c,cl.lookup x=some c->∃ o v,l c=some o/\o.data=.cell v)(hN:cvs.length=N'.length)
  (hv:∀ (i:Nat) (x:Str) (v:V),N'[i]?=some x->cvs[i]?=some (some v)->scope.names.lookup x=some .free/\∃ c o u,cl.lookup x=some c/\l c=some o/\o.data=.cell (some u)/\RelV v u)
  (he:∀ (A:Around) (outer:List Env) (s:Shared) (H:Hp),P6 k (A.deeper (ad3 qual scope cl f (.ref c') s))->PE (bw8 P w K mg base A outer qual scope cl (p::N') f (.ref c') s H) body te) :
  t9 P w K mg base CX0 (k+1) f (PySem.W.kla_fn "<lambda>" qual params body scope cl pm (.ref c') ctv) [p] (bJ4 f c' qual (PySem.W.kla_obj "<lambda>" qual params body scope cl pm c' ctv) l cvs te):=by
 refine⟨fun vs H Q E ⟨a,e,_⟩=>by rw[e];rfl,fun A outer s H args us vs Q E hr e0 hb r hsp=>?_⟩
 obtain⟨a,rfl,hf,hc,hl,ht⟩:=hsp
 obtain⟨u,rfl,ru⟩:=vals1 r
 have hmem:∀ y∈scope.names,y.2≠.cell/\(y.2=.free->(cl.lookup y.1).isSome=true):=fun y hy=>by
  unfold ag6 at hfr
  rw[C0]at hfr
  have:=hfr y hy
  rw[A1]at this
  refine⟨by simpa using this.1,fun e=>?_⟩
  have h2:=this.2
  rw[e]at h2
  simpa using h2
 have at0:∀ b o,l b=some o->s.heap.get? b=some o:=fun b o e=>(e0.hok b _ (hl b o e)).1
 have nfr:∀ b o,l b=some o->b∉frs outer:=fun b o e z=>by
  have:=e0.frf b z
  rw[hl b o e]at this
  cases this
 have lim:s.heap.NoLimit:=e0.mod.nolimit.keeps fun b o e=>(e0.bs b o e).1
 refine PySem.W.kla_callFunE hr.depth (e0.hok f _ hf).1 rfl hco hgen rfl (e0.hok c' _ hc).1 (hb _ _ _ _ ?_)
 refine wpAny_newFunctionEnv (fun y hy=>(hmem y hy).1) (fun y hy=>by rw[y6.mp hy];exact hp) (fun h1 hns hsb=>?_) hkind
 have hk:∀ b o,s.heap.get? b=some o->h1.get? b=some o:=fun b o e=>hsb.extBut b o (i4 (c9 e)) (b9 _ e)
 refine⟨lim.keeps hk,?_⟩
 show codeAny _ _ (.expr body (PySem.W.envX qual scope s.heap.objs.size f (.ref c') cl)) _ _
 have noE:∀ b:Addr,b∉([]:List Addr):=fun b z=>nomatch z
 have rn:∀ b,H b=none->R5 H l b=none:=fun b n=>by
  cases hb:l b with
  | some z=>exact U4 hb
  | none=>rw[C3 hb];exact n
 have hC:R5 H l s.heap.objs.size=none:=rn _ (e0.hok.fresh (c7 _))
 have I:Inv (bw8 P w K mg base A outer qual scope cl (p::N') f (.ref c') s (R5 H l)) [] (some a::cvs) (R5 H l) { s with heap:=h1,toks:=s.toks+[(p,u)].length }:=by
  refine⟨⟨e0.mod,hkind,rfl,rfl,c7 _,hinj,fun x hx=>?_,(fun x c e=>by cases e),fun _=>hr.hd,Around.frames_deeper e0.frames,.inr ⟨rfl,rfl⟩,fun b z=>absurd z (noE b),fun b o e=>⟨(e0.bs b o e).1,rn b (e0.bs b o e).2⟩,e0.bsz,fun b _ _=>noE b,fun b z=>absurd z (noE b),e0.funs,fun b hb=>rn b (e0.frf b hb)⟩,
   rfl,e0.bare,Un.kept hk,⟨_,hns,fun i x v e1 e2 e3=>?_⟩,fun x c e=>?_,hC,fun x c e=>?_,(fun q hq=>nomatch hq),(e0.hok.rmv hl).kept hk,?_⟩
  ·have hx':scope.names.lookup x=some .cell\/scope.names.lookup x=some .free:=hx
   rcases hx' with h | h
   ·exact absurd rfl (hmem _ (PySem.mem_of_lookup h)).1
   ·exact k9.mp ((hmem _ (PySem.mem_of_lookup h)).2 rfl)
  ·cases i with
   | zero =>
    have e1':p=x:=by simpa using (show (p::N')[0]?=some x from e1)
    have e2':a=v:=by simpa using (show (some a::cvs)[0]?=some (some v) from e2)
    subst e1' e2'
    refine⟨u,ru,.inl ⟨hp,?_⟩⟩
    show [(p,u)].reverse.lookup p=some u
    simp[A7]
   | succ i =>
    have e1':N'[i]?=some x:=by simpa using (show (p::N')[i+1]?=some x from e1)
    have e2':cvs[i]?=some (some v):=by simpa using (show (some a::cvs)[i+1]?=some (some v) from e2)
    obtain⟨hs,c,o,u',hc1,hc2,hd,rv⟩:=hv i x v e1' e2'
    exact⟨u',rv,.inr ⟨.inr hs,c,hc1,o,hk c o (at0 c o hc2),hd⟩⟩
  ·obtain⟨o,v,h1',h2'⟩:=hcl x c e
   exact⟨v,o,hk c o (at0 c o h1'),h2'⟩
  ·obtain⟨o,v,h1',h2'⟩:=hcl x c e
   exact U4 h1'
  ·show (some a::cvs).length=(p::N').length
   rw[m9,m9,hN]
 refine PySem.W.kla_codeExpr (wpAny_mono (he A outer s (R5 H l) (hr.deeper _) [] _ _ (R5 H l) _ I ht) (fun u' s' hq=>?_) fun _ _ z=>False.elim z)
 obtain⟨v',H',J,r',q⟩:=hq
 have un:Un (frs outer) [] (R5 H l) H' s.heap s'.heap:=J.base
 have fr:∀ b o,l b=some o->H' b=none:=fun b o e=>un.free b o (at0 b o e) (U4 e) (noE b)
 exact⟨v',ab7 H' l,J.os,J.bare,un.inner hl,J.hok.trkd fun b o e=>⟨un.keep b o (at0 b o e) (U4 e) (nfr b o e) (noE b),fr b o e⟩,r',q fr⟩
def bz4 (P:Program)(w:World)(K:W.Frag)(mg:Str->Option Value)(base:Heap)(k i:Nat)(t:TA):TE:=fun σ H Q=>∃ (f:Addr) (ob:Obj) (fd:FuncData),σ[i]?=some (some (.ref f))/\H f=some (K7 f ob)/\ob.data=.func fd/\t σ H fun vs H1=>∃ (ps:List Str) (sp:Sp),H1 f=some (K7 f ob) /\
 t9 P w K mg base CX0 k f fd ps sp/\Binds K fd ps []/\sp vs H1 Q E0
theorem be6 {X:Cx}{k i:Nat}{x:Str}{p pos:Pos}{e:Expr}{es:List Expr}{t:TA}(hr:P6 k X.A)(hN:X.N[i]?=some x)(hv:Vis X.env.scope x)(ha:PA X (e::es) t)(hd:(x == ("__debug__":Str))=false:=by decide)(hcd:(x == ("__classdict__":Str))=false:=by decide)
  (he:starEach (e::es) X.env=(false,eval e X.env)::starEach es X.env:=by rfl)(hpl:(backTo pos (starEach es X.env)).any (·.1)=false:=by rfl) :
  PE X (.Call (.Name x p) (e::es) [] pos) (bz4 X.prog X.w X.K X.mg X.base k i t):=by
 intro pins s σ H Q I h
 obtain⟨f,ob,fd,hσ,hf,hfd,h⟩:=h
 refine wpAny_Call_Name_kw (wpAny_mono (be0 hN hv hd hcd pins s σ H (fun v H'=>v=.ref f/\H'=H) I ⟨_,hσ,rfl,rfl⟩) (fun u s0 hq=>?_) fun _ _ z=>z)
 obtain⟨v,H',I0,rv,rfl,rfl⟩:=hq
 cases rv
 have hfo:=(I0.hok f _ hf).1
 obtain⟨oc,od,odt,osl⟩:=ob
 have kin:∀ {hh:Heap},hh.get? f=some ⟨oc,od,odt,osl⟩->PySem.W.Frag.In [(f,⟨oc,od,odt,osl⟩)] hh:=fun {hh} e a o q=>by
  by_cases z:a=f
  ·subst z
   have:(some ⟨oc,od,odt,osl⟩:Option Obj)=some o:=by simpa [A7] using q
   rw[<- this];exact e
  ·have:(none:Option Obj)=some o:=by
    have zz:(a == f)=false:=by simpa using z
    simpa [A7,zz] using q
   cases this
 have hfd':odt=.func fd:=hfd
 subst hfd'
 refine PySem.W.callWith_K (K:=[(f,⟨oc,od,.func fd,osl⟩)]) (h₀:=s0.heap) (kin hfo) (by unfold i7;simp[A7]) (thn (ha pos pins s0 σ _ _ I0 h) fun us s1 ⟨vs,H1,I1,r,ps,sp,hf1,F,hb,q⟩=>⟨kin (I1.hok f _ hf1).1,?_⟩) he hpl
 have q':sp (vs++[]) H1 Q E0:=by rw[A6];exact q
 exact bd4 F hr hb .nil C9 I1 r q'
end L2
namespace L2
open PySem PySem.Spec PyProof.Rows PySem.SeqAt
def isI (z:Int):Value->Bool
 | .int c _=>c == z
 | _=>false
section
variable {X:Cx}
def bo6:V->List V->Hp->VK->Prop:=fun x vs H Q=>∃ (l:Addr) (ns:List Int) (z:Int) (j:Nat),x=.ref l/\vs=[.int z]/\H l=some (.lst (ns.map V.int))/\ns[j]?=some z/\(∀ m c,m<j->ns[m]?=some c->c≠z)/\j<1000/\Q (.int j) H
theorem aw4:MtM X "list.index" bo6:=by
 intro pins s σ H x vs v us Q I rx rv h
 obtain⟨l,ns,z,j,rfl,rfl,hH,hj,hno,hj1,q⟩:=h
 cases rx
 obtain⟨u,rfl,ru⟩:=vals1 rv
 obtain⟨t,rfl⟩:=ru
 obtain⟨zz,its,n,r,hl,e⟩:=I.lstM hH
 have hlen:=r.length
 rw[b7]at hlen
 have hjl:j<ns.length:=by
  rcases q0 j ns.length with h | h
  ·exact h
  ·rw[j6 h]at hj;cases hj
 have at_:∀ m (hm:m<ns.length),∃ t',its[m]?=some (.int ns[m] t'):=fun m hm=>by
  obtain⟨u,hu,ru⟩:=r.get (x:=.int ns[m]) (i:=m) (by rw[l4,c8 hm];rfl)
  obtain⟨t',rfl⟩:=ru
  exact⟨t',hu⟩
 have hsz:its.toArray.size=ns.length:=by rw[d7];omega
 refine call_meets F.slot_list_index ⟨_,e,rfl⟩ F.entry_list_index (F.args_list_index_2 _ _) (list_indexAt l its.toArray n none #[] (.int z t) (isI z) j (by rw[hsz];exact hjl) (by omega) ?_ ?_) ⟨e,fun y hy=>?_,?_⟩
 ·obtain⟨t',ht⟩:=at_ j hjl
  rw[c8 (by omega)]at ht
  injection ht with ht
  rw[c8 hjl]at hj
  injection hj with hj
  show isI z (its.toArray[j]'(by rw[hsz];exact hjl))=true
  rw[bm1,ht,hj]
  simp[isI]
 ·intro m hm hmj
  have hml:m<ns.length:=by rw[hsz]at hm;exact hm
  obtain⟨t',ht⟩:=at_ m hml
  rw[c8 (by omega)]at ht
  injection ht with ht
  have:=hno m ns[m] hmj (c8 hml)
  rw[bm1,ht]
  simp[isI,this]
 ·obtain⟨m,hm,e⟩:=M5.mp (show y∈its by simpa using hy)
  obtain⟨t',ht⟩:=at_ m (by omega)
  rw[c8 hm,e]at ht
  injection ht with ht
  subst ht
  exact EqAt.int_int _ _ _ _
 ·exact⟨.int j,H,I.tok _,⟨_,rfl⟩,q⟩
end
end L2
namespace Web
open L2
open Grf (S b2 Gph deg cnt sm Top roomF)
def sk (p i:Nat):Nat:=if i<p then i else i+1
theorem bw1 (p i:Nat):sk p i≠p:=by unfold sk;split<;>omega
theorem bw2 {p i n:Nat}(h:i<n - 1)(hp:p<n):sk p i<n:=by unfold sk;split<;>omega
theorem aO7 {p:Nat}(f:Nat->Int):∀ {n:Nat},p<n->S n f=S (n - 1) (fun j=>f (sk p j))+f p
 | n+1,h=>by
  show S n f+f n=S n (fun j=>f (sk p j))+f p
  by_cases e:p=n
  ·subst e
   rw[Grf.m6 (g:=fun j=>f (sk p j)) fun i hi=>by show f i=f (sk p i);unfold sk;rw[if_pos hi]]
  ·have hp:p<n:=by omega
   rw[aO7 f hp]
   obtain⟨m,rfl⟩:∃ m,n=m+1:=⟨n - 1,by omega⟩
   have e1:sk p m=m+1:=by unfold sk;rw[if_neg (by omega)]
   show S m (fun j=>f (sk p j))+f p+f (m+1)=S m (fun j=>f (sk p j))+f (sk p m)+f p
   rw[e1]
   omega
theorem S9 {p:Nat}:∀ {n:Nat},p<n->(k8 n).filter (fun i=>decide (i≠p))=(k8 (n - 1)).map (sk p)
 | n+1,h=>by
  rw[v7,F7,bG9]
  by_cases e:p=n
  ·subst e
   have e1:[p].filter (fun i=>decide (i≠p))=[]:=by simp
   rw[e1,A6,List.filter_eq_self.mpr fun a ha=>decide_eq_true (by have:=p0.mp ha;omega)]
   conv=>lhs;rw[<- List.map_id (k8 p)]
   exact J2 fun a ha=>by
    show a=sk p a
    unfold sk;rw[if_pos (p0.mp ha)]
  ·have hp:p<n:=by omega
   have e1:[n].filter (fun i=>decide (i≠p))=[n]:=by
    rw[ac9,if_pos (decide_eq_true (Ne.symm e))];rfl
   rw[e1,S9 hp]
   obtain⟨m,rfl⟩:∃ m,n=m+1:=⟨n - 1,by omega⟩
   have e2:sk p m=m+1:=by unfold sk;rw[if_neg (by omega)]
   rw[bG9,v7 (n:=m),i5,List.map_singleton,e2]
theorem aH3 {ns es:List Int}{p:Nat}(h:p<ns.length):N7 ns p es=(k8 (ns.length - 1)).map fun i=>S6 ns es (sk p i):=by
 unfold N7
 rw[S9 h,F5]
 rfl
theorem ab2 {ns es:List Int}{p:Nat}(h:p<ns.length):(N7 ns p es).length=ns.length - 1:=by rw[aH3 h,b7,o6]
theorem aw7 {ns es:List Int}{p i:Nat}(h:p<ns.length)(hi:i<ns.length - 1):(N7 ns p es).getD i 0=S6 ns es (sk p i):=by
 rw[aH3 h,c5,l4,C4 hi]
 rfl
theorem aS7 {ns:List Int}(h:Gr ns){i:Nat}(hi:i<ns.length):ns.getD i 0<ns.length:=by
 obtain⟨g,hg,hd⟩:=h
 rw[<- hd i hi]
 unfold deg
 rw[aO7 (p:=i) _ hi,hg.irr]
 have h1:S (ns.length - 1) (fun j=>b2 (g i (sk i j)))<=S (ns.length - 1) (fun _=>1):=Grf.T7 fun j _=>Grf.ay5 _
 rw[Grf.G1]at h1
 have:b2 false=0:=rfl
 omega
theorem bt1 {ns es:List Int} {p:Nat} (h:Gr ns) (hp:p<ns.length) (nd:es.Nodup) (he:∀ z∈es,0<=z/\z<ns.length/\z≠p) (hl:(es.length:Int)=ns.getD p 0)
  (ht:∀ x∈es,∀ y:Nat,y<ns.length->(y:Int)∉es->y≠p->ns.getD y 0<=ns.getD x.toNat 0):Gr (N7 ns p es):=by
 obtain⟨g,hg,hd⟩:=h
 have hs:S ns.length (fun j=>b2 (decide ((j:Int)∈es)))=(es.length:Int):=by
  rw[Grf.m6 (g:=fun i=>if (i:Int)∈es then 1 else 0) fun i _=>by
   by_cases e:(i:Int)∈es
   ·rw[decide_eq_true e,if_pos e];rfl
   ·rw[decide_eq_false e,if_neg e];rfl]
  rw[aJ9 (f:=fun _=>1) nd fun z hz=>⟨(he z hz).1,(he z hz).2.1⟩]
  clear he hl ht nd
  induction es with
  | nil=>rfl
  | cons a es ih=>rw[k6,D3,ih,m9];omega
 have hNp:decide ((p:Int)∈es)=false:=decide_eq_false fun m=>(he _ m).2.2 rfl
 have hm:0<=S ns.length (fun j=>b2 (decide ((j:Int)∈es) && !g p j)):=Grf.K9 fun i _=>Grf.A4 _
 obtain⟨g',k1,k2,k3⟩:=Grf.bM8 (N:=fun j=>decide ((j:Int)∈es)) hp hNp (S ns.length (fun j=>b2 (decide ((j:Int)∈es) && !g p j))).toNat g hg (by rw[hs,hl,hd p hp])
  (fun x y hx hy hNx hNy hyp => by
   rw[hd x hx,hd y hy]
   have:=ht x (of_decide_eq_true hNx) y hy (of_decide_eq_false hNy) hyp
   rw[i8]at this
   exact this) (by omega)
 refine⟨fun i j=>g' (sk p i) (sk p j),⟨fun i j=>k1.sym _ _,fun i=>k1.irr _⟩,fun i hi=>?_⟩
 rw[ab2 hp]at hi ⊢
 rw[aw7 hp hi]
 have hsk:=bw2 (p:=p) hi hp
 have e1:=k2 _ hsk
 rw[hd _ hsk]at e1
 have e2:deg ns.length g' (sk p i)=S (ns.length - 1) (fun j=>b2 (g' (sk p i) (sk p j)))+b2 (g' (sk p i) p):=aO7 (p:=p) _ hp
 rw[e2,k1.sym (sk p i) p,k3 _ hsk]at e1
 show S (ns.length - 1) (fun j=>b2 (g' (sk p i) (sk p j)))=_
 generalize S (ns.length - 1) (fun j=>b2 (g' (sk p i) (sk p j)))=q at e1
 unfold S6
 by_cases e:((sk p i:Nat):Int)∈es
 ·rw[decide_eq_true e]at e1
  rw[if_pos e]
  have:b2 true=1:=rfl
  omega
 ·rw[decide_eq_false e]at e1
  rw[if_neg e]
  have:b2 false=0:=rfl
  omega
theorem bi6 {ns zs:List Int}{p:Nat}(h:Gr ns)(hp:p<ns.length)(hz:zs.Perm (rng ns.length))(hs:zs.Pairwise (ole ns)):Gr (N7 ns p ((rest zs p).take (ns.getD p 0).toNat)):=by
 have nz:(rest zs p).Nodup:=(hz.nodup_iff.mpr (O0 ns.length)).filter _
 have srt:(rest zs p).Pairwise (ole ns):=hs.filter _
 have h1:=aS7 h hp
 have h0:=O7 (ar7 h) hp
 have hl:=aF2 hz (p:=p) (by omega) (by omega)
 refine bt1 h hp (nz.sublist (L8 _ _)) (fun z m=>?_) ?_ (fun x hx y hy hny hyp=>?_)
 ·obtain⟨m1,m2⟩:=ap5.mp (G2 m)
  obtain⟨c0,c1⟩:=L3.mp (hz.mem_iff.mp m1)
  exact⟨c0,c1,m2⟩
 ·rw[q8]
  omega
 ·have hyr:(y:Int)∈rest zs p:=ap5.mpr ⟨hz.mem_iff.mpr (L3.mpr ⟨by omega,by omega⟩),by omega⟩
  have e:=F6 (ns.getD p 0).toNat (rest zs p)
  rw[<- e]at hyr srt
  rcases C7.mp hyr with m | m
  ·exact absurd m hny
  ·have:=(bl9.mp srt).2.2 x hx y m
   rcases af1.mp this with t | t
   ·rw[i8]at t;omega
   ·rw[i8]at t;omega
end Web
namespace Web
open L2
theorem up_eq {a b c d:Int}(h:up [a,b]=up [c,d]):(a=c/\b=d)\/(a=d/\b=c):=by
 unfold up at h
 injection h with h1 h2
 injection h2 with h2 _
 split at h1<;>split at h1<;>split at h2<;>split at h2<;>omega
def star (a:Int)(bs:List Int):List (List Int):=bs.map fun b=>[a,b]
theorem as4 {a:Int}{q:Nat}:∀ {bs:List Int},a∉bs->J9 (star a bs) q=if (q:Int)=a then bs.length else bs.count (q:Int)
 | [],_=>by
  split<;>rfl
 | b::bs,h=>by
  have hb:a≠b:=fun e=>h (e ▸ d8)
  have hbs:a∉bs:=fun m=>h (d5 _ m)
  have ih:=as4 (q:=q) hbs
  unfold star J9 at ih ⊢
  rw[k6,ac8,ih,List.count_cons,m9]
  by_cases e:(q:Int)=a
  ·rw[if_pos e,if_pos e,if_pos (decide_eq_true (by rw[e];exact d8))]
  ·rw[if_neg e,if_neg e]
   by_cases e2:(q:Int)=b
   ·rw[if_pos (decide_eq_true (by rw[e2];exact d5 _ d8)),if_pos (by rw[e2];exact beq_self_eq_true b)]
   ·rw[if_neg (by
     intro z
     have:=of_decide_eq_true z
     rcases d3.mp this with t | t
     ·exact e t
     ·exact e2 (y6.mp t)),if_neg (by rw[beq_iff_eq];exact fun z=>e2 z.symm)]
theorem aj2 {q:Int}:∀ {bs:List Int},bs.Nodup->bs.count q=if q∈bs then 1 else 0
 | [],_=>by rw[if_neg (by simp)];rfl
 | b::bs,nd=>by
  obtain⟨h1,h2⟩:=A0.mp nd
  rw[List.count_cons,aj2 h2]
  by_cases e:b=q
  ·subst e
   rw[if_neg h1,if_pos d8,if_pos (beq_self_eq_true b)]
  ·rw[show (b == q)=false from beq_eq_false_iff_ne.mpr e]
   by_cases m:q∈bs
   ·rw[if_pos m,if_pos (d5 _ m)];rfl
   ·have m2:¬ q∈b::bs:=fun z=>by
     rcases d3.mp z with t | t
     ·exact e t.symm
     ·exact m t
    rw[if_neg m,if_neg m2];rfl
structure aa0 (ns ps left:List Int) (ks:List (List Int)):Prop where
 len:left.length=ps.length
 nd:ps.Nodup
 inn:∀ q∈ps,0<=q/\q<ns.length
 ends:∀ k∈ks,al7 ns.length k
 nodup:(ks.map up).Nodup
 out:∀ a b:Int,[a,b]∈ks->¬ (a∈ps/\b∈ps)
 cnt:∀ i q:Nat,ps[i]?=some (q:Int)->(J9 ks q:Int)+left.getD i 0=ns.getD q 0
 done:∀ q:Nat,q<ns.length->(q:Int)∉ps->(J9 ks q:Int)=ns.getD q 0
theorem aG6 {ps:List Int}(nd:ps.Nodup){i j:Nat}{a:Int}(h1:ps[i]?=some a)(h2:ps[j]?=some a):i=j:=by
 have hi:i<ps.length:=by
  rcases q0 i ps.length with h | h
  ·exact h
  ·rw[j6 h]at h1;cases h1
 exact(List.getElem?_inj hi nd).mp (h1.trans h2.symm)
theorem aT1 {ps:List Int}{i:Nat}{a:Int}(h:ps[i]?=some a):ps.getD i 0=a:=by rw[c5,h];rfl
theorem aN9 {ps:List Int}{i:Nat}(h:i<ps.length):ps[i]?=some (ps.getD i 0):=by
 rw[c5,c8 h];rfl
theorem aa0.step {ns ps left ps' es:List Int}{ks:List (List Int)}{j:Nat}{a:Int}(h:aa0 ns ps left ks)(hj:ps[j]?=some a)(sub:ps'.Sublist ps)(hl:ps'.length=ps.length - 1)(hix:∀ i,i<ps.length - 1->ps'[i]?=ps[sk j i]?)
  (ne:es.Nodup)(he:∀ z∈es,0<=z/\z<ps.length/\z≠j)(hn:(es.length:Int)=left.getD j 0) :
  aa0 ns ps' (N7 left j es) (ks++star a (es.map fun z=>ps.getD z.toNat 0)):=by
 have hjl:j<ps.length:=by
  rcases q0 j ps.length with h | h
  ·exact h
  ·rw[j6 h]at hj;cases hj
 have hjl':j<left.length:=by rw[h.len];exact hjl
 have haps:a∈ps:=i6 hj
 have bget:∀ z∈es,ps[z.toNat]?=some (ps.getD z.toNat 0):=fun z hz=>aN9 (by have:=he z hz;omega)
 have bmem:∀ b∈es.map (fun z=>ps.getD z.toNat 0),b∈ps:=fun b hb=>by
  obtain⟨z,hz,rfl⟩:=l5.mp hb
  exact i6 (bget z hz)
 have anb:a∉es.map (fun z=>ps.getD z.toNat 0):=fun m=>by
  obtain⟨z,hz,e⟩:=l5.mp m
  have h1:=bget z hz
  rw[e]at h1
  have:=aG6 h.nd h1 hj
  have:=he z hz
  omega
 have ndb:(es.map (fun z=>ps.getD z.toNat 0)).Nodup:=by
  refine E7.mpr ?_
  rw[E1]
  refine List.Pairwise.imp_of_mem ?_ (E7.mp ne)
  intro x y hx hy hxy e
  have h1:=bget x hx
  rw[e]at h1
  have:=aG6 h.nd h1 (bget y hy)
  have:=he x hx
  have:=he y hy
  exact hxy (by omega)
 have ap:a∉ps':=fun m=>by
  obtain⟨i,hi⟩:=r9.mp m
  have hil:i<ps.length - 1:=by
   rcases q0 i ps'.length with h | h
   ·omega
   ·rw[j6 h]at hi;cases hi
  rw[hix i hil]at hi
  exact bw1 j i (aG6 h.nd hi hj)
 have bin:∀ (i q:Nat),ps[i]?=some (q:Int)->((q:Int)∈es.map (fun z=>ps.getD z.toNat 0)↔(i:Int)∈es):=fun i q hi=>by
  constructor
  ·intro m
   obtain⟨z,hz,e⟩:=l5.mp m
   have h1:=bget z hz
   rw[e]at h1
   have:=aG6 h.nd h1 hi
   have:=he z hz
   rwa [show (i:Int)=z by omega]
  ·intro m
   refine l5.mpr ⟨i,m,?_⟩
   rw[i8]
   exact aT1 hi
 refine⟨by rw[ab2 hjl',hl,h.len],h.nd.sublist sub,fun q hq=>h.inn q (sub.subset hq),fun k hk=>?_,?_,fun c d hk=>?_,fun i q hi=>?_,fun q hq hnq=>?_⟩
 ·rcases C7.mp hk with hk | hk
  ·exact h.ends k hk
  ·obtain⟨b,hb,rfl⟩:=l5.mp hk
   have h1:=h.inn a haps
   have h2:=h.inn b (bmem b hb)
   have h3:a≠b:=fun e=>anb (e ▸ hb)
   exact⟨a.toNat,b.toNat,by omega,by omega,by omega,by rw[by0 h1.1,by0 h2.1]⟩
 ·rw[i5,av1]
  refine⟨h.nodup,?_,fun x hx y hy e=>?_⟩
  ·unfold star
   rw[F5]
   refine E7.mpr ?_
   rw[E1]
   refine List.Pairwise.imp_of_mem ?_ (E7.mp ndb)
   intro x y hx hy hxy e
   rcases up_eq e with t | t
   ·exact hxy t.2
   ·exact anb (t.1 ▸ hy)
  ·obtain⟨k,hk,rfl⟩:=l5.mp hx
   obtain⟨k2,hk2,rfl⟩:=l5.mp hy
   obtain⟨b,hb,rfl⟩:=l5.mp hk2
   obtain⟨u,v,_,_,_,rfl⟩:=h.ends k hk
   refine h.out _ _ hk ?_
   rcases up_eq e with t | t
   ·rw[t.1,t.2];exact⟨haps,bmem b hb⟩
   ·rw[t.1,t.2];exact⟨bmem b hb,haps⟩
 ·rcases C7.mp hk with hk | hk
  ·exact fun z=>h.out c d hk ⟨sub.subset z.1,sub.subset z.2⟩
  ·obtain⟨b,hb,e⟩:=l5.mp hk
   injection e with e1 _
   intro z
   exact ap (e1 ▸ z.1)
 ·have hil:i<ps.length - 1:=by
   rcases q0 i ps'.length with h | h
   ·omega
   ·rw[j6 h]at hi;cases hi
  rw[hix i hil]at hi
  have hc:=h.cnt _ q hi
  have hqa:¬ (q:Int)=a:=fun e=>by
   rw[e]at hi
   exact bw1 j i (aG6 h.nd hi hj)
  rw[aw7 hjl' (by rw[h.len];exact hil),as5,as4 anb,if_neg hqa,aj2 ndb]
  unfold S6
  by_cases m:((sk j i:Nat):Int)∈es
  ·rw[if_pos ((bin _ q hi).mpr m),if_pos m];omega
  ·rw[if_neg (fun z=>m ((bin _ q hi).mp z)),if_neg m];omega
 ·rw[as5,as4 anb]
  by_cases e:(q:Int)=a
  ·have hc:=h.cnt j q (by rw[e];exact hj)
   rw[if_pos e,b7]
   omega
  ·rw[if_neg e,aj2 ndb]
   have hq':(q:Int)∉ps:=fun m=>by
    obtain⟨m',hm'⟩:=r9.mp m
    have hml:m'<ps.length:=by
     rcases q0 m' ps.length with h | h
     ·exact h
     ·rw[j6 h]at hm';cases hm'
    have hmj:m'≠j:=fun z=>by rw[z,hj]at hm';injection hm' with hm';exact e hm'.symm
    obtain⟨i,hi,hik⟩:∃ i,i<ps.length - 1/\sk j i=m':=by
     rcases q0 m' j with t | t
     ·exact⟨m',by omega,by unfold sk;rw[if_pos t]⟩
     ·exact⟨m' - 1,by omega,by unfold sk;rw[if_neg (by omega)];omega⟩
    have:=hix i hi
    rw[hik,hm']at this
    exact hnq (i6 this)
   rw[if_neg (fun m=>hq' (bmem _ m)),h.done q hq hq' |>.symm]
   omega
theorem aa0.last {ns left:List Int}{ks:List (List Int)}(h:aa0 ns [] left ks):tal ns.length ks=ns:=by
 apply L9
 intro i
 rcases q0 i ns.length with hi | hi
 ·rw[Q2 hi,h.done i hi (by simp),aN9 hi]
 ·rw[j6 (by rw[O3];exact hi),j6 hi]
theorem az9 {n i:Nat}(h:i<n):(rng n)[i]?=some (i:Int):=by
 unfold rng
 rw[l4,List.getElem?_range' h]
 simp
theorem aa0.first (ns:List Int):aa0 ns (rng ns.length) ns [] where
 len:=(S4 _).symm
 nd:=O0 _
 inn:=fun q hq=>L3.mp hq
 ends:=fun k hk=>absurd hk (by simp)
 nodup:=by simp
 out:=fun a b hk=>absurd hk (by simp)
 cnt:=fun i q hi=>by
  have hil:i<ns.length:=by
   rcases q0 i (rng ns.length).length with h | h
   ·rw[S4]at h;exact h
   ·rw[j6 h]at hi;cases hi
  rw[az9 hil]at hi
  injection hi with hi
  rw[show q=i by omega]
  show (0:Int)+_=_
  omega
 done:=fun q hq hn=>absurd (L3.mpr ⟨by omega,by omega⟩) hn
theorem aq5 {ns:List Int}:∀ {xs ys:List Int},xs.Perm ys->xs.Pairwise (ole ns)->ys.Pairwise (ole ns)->xs=ys
 | [],ys,p,_,_=>p.symm.eq_nil.symm
 | x::xs,[],p,_,_=>by
  have:=p.length_eq
  simp at this
 | x::xs,y::ys,p,h,q=>by
  have hxy:x=y:=by
   have h1:x∈y::ys:=p.mem_iff.mp d8
   have h2:y∈x::xs:=p.mem_iff.mpr d8
   rcases d3.mp h1 with e | e
   ·exact e
   ·rcases d3.mp h2 with e2 | e2
    ·exact e2.symm
    ·exact aG0 ((B8.mp h).1 y e2) ((B8.mp q).1 x e)
  subst hxy
  rw[aq5 ((List.perm_cons x).mp p) (B8.mp h).2 (B8.mp q).2]
theorem aG4:∀ {l m:List (List Int)},l.Nodup->(∀ x∈l,x∈m)->l.length<=m.length
 | [],m,_,_=>o8 _
 | x::l,m,nd,h=>by
  have h1:=A0.mp nd
  have hm:=h x d8
  have h2:∀ y∈l,y∈m.erase x:=fun y hy=>by
   have hne:y≠x:=fun e=>h1.1 (e ▸ hy)
   exact(List.mem_erase_of_ne hne).mpr (h y (d5 _ hy))
  have h3:=aG4 h1.2 h2
  rw[aV1 hm]at h3
  have h4:0<m.length:=ba3 hm
  simp only[m9]
  omega
theorem bj9 {n q:Nat}:∀ {ks:List (List Int)},(∀ k∈ks,al7 n k)->J9 (ks.map up) q=J9 ks q
 | [],_=>rfl
 | k::ks,h=>by
  have ih:=bj9 (q:=q) fun k hk=>h k (d5 _ hk)
  unfold J9 at ih ⊢
  rw[k6,ac8,ac8,ih]
  congr 1
  obtain⟨i,j,_,_,_,rfl⟩:=h k d8
  have e:((q:Int)∈up [(i:Int),(j:Int)])↔(q:Int)∈[(i:Int),(j:Int)]:=by
   unfold up
   simp only[d3,B5,or_false]
   split<;>split<;>omega
  by_cases z:(q:Int)∈[(i:Int),(j:Int)]
  ·rw[decide_eq_true z,decide_eq_true (e.mpr z)]
  ·rw[decide_eq_false z,decide_eq_false (fun t=>z (e.mp t))]
theorem by8 {n:Nat}{ks:List (List Int)}(h:∀ k∈ks,al7 n k):tal n (ks.map up)=tal n ks:=by
 unfold tal
 refine J2 fun p _=>?_
 rw[bj9 h]
noncomputable def bp6 (ns:List Int):List Int:=Classical.choose (Z5 ns)
theorem U7 (ns:List Int):(bp6 ns).Perm (rng ns.length):=(Classical.choose_spec (Z5 ns)).1
theorem aw2 (ns:List Int):(bp6 ns).Pairwise (ole ns):=(Classical.choose_spec (Z5 ns)).2
theorem aR6 {ns zs:List Int}(hp:zs.Perm (rng ns.length))(hs:zs.Pairwise (ole ns)):zs=bp6 ns:=aq5 (hp.trans (U7 ns).symm) hs (aw2 ns)
noncomputable def chF (ns:List Int)(p:Nat):List Int:=(rest (bp6 ns) p).take (ns.getD p 0).toNat
theorem bk1 (ns:List Int)(p:Nat):(chF ns p).Nodup:=(((U7 ns).nodup_iff.mpr (O0 ns.length)).filter _).sublist (L8 _ _)
theorem aO2 {ns:List Int}{p:Nat}{z:Int}(h:z∈chF ns p):0<=z/\z<ns.length/\z≠p:=by
 obtain⟨m1,m2⟩:=ap5.mp (G2 h)
 obtain⟨c0,c1⟩:=L3.mp ((U7 ns).mem_iff.mp m1)
 exact⟨c0,c1,m2⟩
theorem aB6 {ns:List Int}{p:Nat}(h:Gr ns)(hp:p<ns.length):((chF ns p).length:Int)=ns.getD p 0:=by
 have h1:=aS7 h hp
 have h0:=O7 (ar7 h) hp
 have hl:=aF2 (U7 ns) (p:=(p:Int)) (by omega) (by omega)
 unfold chF
 rw[q8]
 omega
theorem bk2 {ns:List Int}{p:Nat}(h:Gr ns)(hp:p<ns.length):Gr (N7 ns p (chF ns p)):=bi6 h hp (U7 ns) (aw2 ns)
noncomputable def bh0:Nat->List Int->List Int->List (List Int)
 | 0,_,_=>[]
 | m+1,left,ps=>star (ps.getD 0 0) ((chF left 0).map fun z=>ps.getD z.toNat 0)++bh0 m (N7 left 0 (chF left 0)) (ps.drop 1)
theorem aa0.go {ns ps left:List Int}{ks:List (List Int)}(h:aa0 ns ps left ks)(hg:Gr left)(h0:0<left.length) :
  aa0 ns (ps.drop 1) (N7 left 0 (chF left 0)) (ks++star (ps.getD 0 0) ((chF left 0).map fun z=>ps.getD z.toNat 0)):=by
 have hl:=h.len
 refine h.step (aN9 (by omega)) (av0 1 ps) (by rw[K1]) (fun i hi=>?_) (bk1 left 0) (fun z hz=>?_) (aB6 hg h0)
 ·rw[bx7]
  congr 1
  unfold sk
  rw[if_neg (by omega)]
  omega
 ·have:=aO2 hz
  omega
def F3 (n p:Nat):List Int:=((k8 n).filter fun i=>decide (i≠p)).map fun i:Nat=>(i:Int)
theorem aa0.start {ns es:List Int}{p:Nat}(hp:p<ns.length)(ne:es.Nodup)(he:∀ z∈es,0<=z/\z<ns.length/\z≠p)(hn:(es.length:Int)=ns.getD p 0):aa0 ns (F3 ns.length p) (N7 ns p es) (star p es):=by
 have:=(aa0.first ns).step (j:=p) (a:=(p:Int)) (ps':=F3 ns.length p) (es:=es) (az9 hp) ?_ ?_ ?_ ne (fun z hz=>by rw[S4];exact he z hz) hn
 ·have e:es.map (fun z=>(rng ns.length).getD z.toNat 0)=es:=by
   conv=>rhs;rw[<- List.map_id es]
   refine J2 fun z hz=>?_
   have:=he z hz
   rw[aT1 (az9 (n:=ns.length) (i:=z.toNat) (by omega))]
   show ((z.toNat:Nat):Int)=z
   omega
  rw[e,List.nil_append]at this
  exact this
 ·unfold F3 rng
  rw[<- aj8]
  exact List.Sublist.map _ bv0
 ·unfold F3
  rw[S9 hp,b7,b7,o6,S4]
 ·intro i hi
  rw[S4]at hi
  unfold F3
  rw[S9 hp,l4,l4,C4 hi,az9 (bw2 hi hp)]
  rfl
end Web
namespace Tim
open PySem PyProof.Rows
theorem aW8:∀ n:Nat,n<64->minRun' n n 0=n:=by decide +kernel
section
variable {prog:Program} {w:World} {A:Around} {E:Value->Shared->Prop} {s:Shared} {κ:SortKind} {a₀:Array Keyed} {p:Array (Nat × Nat × Nat)} {O:KeyOrd} {f:Keyed->O.α}
theorem av2 (C:bu6 prog w A E s κ a₀ f){st:SortSt}{Q:Unit->SortSt->Prop}(d:O.α)(h3:a₀.size<64)(hp:(arrOf st).Perm a₀)(hk:kindOf st=κ)(hf:failedOf st=none)(hpe:pendingOf st=#[])
  (h:∀ st',(arrOf st').Perm a₀->failedOf st'=none->(arrOf st').toList.Pairwise (le (Bf f))->Q () st'):wpS (model prog w) A E s sortRuns' Q st:=by
 have hsz:(arrOf st).size=a₀.size:=hp.size_eq
 rw[sortRuns'_eq]
 refine wpS_bind (wpS_get ?_)
 dsimp only
 rw[hsz]
 have hmr:=aW8 a₀.size h3
 generalize minRun' a₀.size a₀.size 0=mr at hmr ⊢
 refine wpS_bind (wpS_mono (wpS_forRange
  (I:=fun x c st'=>(c=(none,0)/\x=0/\SI a₀ κ #[] st')\/(c=(none,a₀.size)/\SI a₀ κ #[(0,a₀.size,0)] st'/\L4 f d 0 (arrOf st') a₀.size))
  (Q:=fun c st'=>c=(none,a₀.size)/\failedOf st'=none/\(arrOf st').Perm a₀/\(pendingOf st').size<=1/\L4 f d 0 (arrOf st') a₀.size) ?step ?fin
  (.inl ⟨rfl,rfl,hp,hk,hf,hpe⟩)) ?post)
 case fin =>
  rintro c st' (⟨rfl,hx,I⟩ | ⟨rfl,I,hs⟩)
  ·have e0:a₀.size=0:=by omega
   refine⟨by rw[e0],I.failed,I.perm,by rw[I.pend];exact o8 _,fun i j _ hj=>?_⟩
   omega
  ·exact⟨rfl,I.failed,I.perm,by rw[I.pend];exact c7 _,hs⟩
 case step =>
  rintro x c st1 _ hx (⟨rfl,rfl,I⟩ | ⟨rfl,I,hs⟩)
  ·dsimp only
   have hpos:0<a₀.size:=by omega
   rw[if_neg (by omega)]
   refine wpS_bind (wpS_countRun C d (p:=#[]) (by omega) (by omega) I fun n st2 hB2 hp2 hn1 hn2 hs2=>?_)
   dsimp only
   by_cases hlt:n<mr
   ·rw[if_pos hlt]
    refine wpS_bind (aD0 ?_)
    refine wpS_bind (al9 C d (by omega) (by omega) hB2 hs2 fun st3 hB3 hp3 hs3=>?_)
    simp only[T8,j8,if_false]
    have e:min (a₀.size - 0) mr=a₀.size:=by omega
    rw[e]at hs3 ⊢
    refine wpS_bind (wpS_get ?_)
    rw[hB3.pend]
    show wpS _ _ _ _ (do modify fun s=>setPending s ((pendingOf s).push (0,a₀.size,0));pure (ForInStep.yield (none,0+a₀.size))) _ _
    refine wpS_bind (wpS_modify (wpS_pure (.inr ⟨by rw[X8],⟨hB3.perm,hB3.kind,hB3.failed,?_⟩,hs3⟩)))
    show (pendingOf st3).push (0,a₀.size,0)=_
    rw[hB3.pend]
    rfl
   ·rw[if_neg hlt]
    have e:n=a₀.size:=by omega
    subst e
    refine wpS_bind (wpS_get ?_)
    rw[hB2.pend]
    show wpS _ _ _ _ (do modify fun s=>setPending s ((pendingOf s).push (0,a₀.size,0));pure (ForInStep.yield (none,0+a₀.size))) _ _
    refine wpS_bind (wpS_modify (wpS_pure (.inr ⟨by rw[X8],⟨hB2.perm,hB2.kind,hB2.failed,?_⟩,hs2⟩)))
    show (pendingOf st2).push (0,a₀.size,0)=_
    rw[hB2.pend]
    rfl
  ·dsimp only
   rw[if_pos (c7 _)]
   exact wpS_pure ⟨rfl,I.failed,I.perm,by rw[I.pend];exact c7 _,hs⟩
 case post =>
  rintro c st1 ⟨rfl,I1,I2,I3,I4⟩
  try dsimp only
  refine wpS_bind (wpS_mono (wpS_forRange
   (I:=fun x c st'=>c=(none,())/\st'=st1)
   (Q:=fun c st'=>c=(none,())/\st'=st1) ?fstep (fun _ _ q=>q) ⟨rfl,rfl⟩) ?fpost)
  case fstep =>
   rintro x c st2 _ hx ⟨rfl,rfl⟩
   refine wpS_bind (wpS_get ?_)
   try dsimp only
   rw[if_pos I3]
   exact wpS_pure ⟨rfl,rfl⟩
  case fpost =>
   rintro c st2 ⟨rfl,rfl⟩
   refine wpS_pure (h st2 I2 I1 ?_)
   have:=(bA5 I4 (by rw[I2.size_eq];omega)).1
   rw[List.drop_zero,j0 (by rw[o4,I2.size_eq];exact c7 _)]at this
   exact this
end
section
variable {prog:Program} {w:World} {A:Around} {E:Value->Shared->Prop} {s:Shared}
theorem aL6 {a:Addr}{vs:List Value}{n:Nat}{P:PySem.Fin->Shared->Prop}(ho:s.heap.get? a=some (seqObj "list" vs.toArray n))(hz:vs.length<=sizeLine)(h64:vs.length<64)
  (hv:∀ v∈vs,∃ i k,IsK prog w s.heap (i::k) v)(hna:∀ v∈vs,v≠.ref a)
  (h:∀ out:List Value,out.Perm vs->out.Pairwise (fun x y=>D0 (N8 prog w s.heap y) (N8 prog w s.heap x)=false)->P (.done (.ret .none)) { s with heap:=sortedHeap s.heap a vs out.toArray }) :
  wpAny (model prog w) A (Builtin.«list.sort» ⟨[.ref a],[]⟩) P E s:=by
 rw[list_sort_plain]
 have ha:a<s.heap.objs.size:=c9 ho
 refine wpAny_bind (listItems_at ho rfl ?_)
 refine wpAny_bind (listUpdate_at ho rfl ?_ (by rw[d7];exact hz) (o8 _))
 obtain⟨e1,ho1⟩:∃ e1,(s.heap.update a (Obj.mapSeq fun _=>#[])).get? a=some (seqObj "list" #[] e1):=⟨_,get?_update_seq ho (fun _=>#[])⟩
 refine wpAny_bind (seqEpoch_at ho1 rfl ?_)
 refine wpAny_bind (wpAny_newTuple ?_ (by show vs.length<=_;exact hz))
 refine wpAny_bind (wpAny_newList ?_ (o8 _))
 refine wpAny_holding ?_
 generalize hH:((s.heap.update a (Obj.mapSeq fun _=>#[])).push (seqObj "tuple" vs.toArray 0)).push (seqObj "list" #[] 0)=h6
 have ho6:h6.get? a=some (seqObj "list" #[] e1):=by rw[<- hH];exact b9 _ (b9 _ ho1)
 have keep:∀ b o,b≠a->s.heap.get? b=some o->h6.get? b=some o:=fun b o hb e=>by
  rw[<- hH]
  exact b9 _ (b9 _ ((u4 s.heap _ (Ne.symm hb)).trans e))
 have up:∀ v∈vs,∀ k,IsK prog w s.heap k v->IsK prog w h6 k v:=fun v hv' k hk=>by
  obtain⟨c,rfl,o,items,n,h2,h3⟩:=hk
  exact⟨c,rfl,o,items,n,keep c o (fun z=>hna _ hv' (by rw[z])) h2,h3⟩
 have fin:∀ st':SortSt,(arrOf st').Perm (pairsOf vs)->(arrOf st').toList.Pairwise (le (Bf (O:=aN2) fun p=>N8 prog w s.heap p.1))->P (.done (.ret .none)) { s with heap:=sortedHeap s.heap a vs ((arrOf st').map (·.2)) }:=fun st' hp hs=>by
  have hl:(arrOf st').toList.Perm (vs.zip vs):=by rw[<- pairsOf_toList];exact V2.mp hp
  have hm:((arrOf st').map (·.2)).toList=(arrOf st').toList.map (·.2):=bG5 ..
  have hz2:(vs.zip vs).map (·.2)=vs:=List.map_snd_zip (c7 _)
  have:=h ((arrOf st').toList.map (·.2)) (by have:=hl.map (·.2);rw[hz2]at this;exact this) ?_
  ·rw[show (arrOf st').map (·.2)=((arrOf st').toList.map (·.2)).toArray by rw[<- hm]]
   exact this
  ·rw[E1]
   refine List.Pairwise.imp_of_mem ?_ hs
   intro x y hx hy hxy
   have ex:=(mem_zip_self (hl.mem_iff.mp hx)).1
   have ey:=(mem_zip_self (hl.mem_iff.mp hy)).1
   rw[<- ex,<- ey]
   exact hxy
 have out:∀ st':SortSt,(arrOf st').Perm (pairsOf vs)->failedOf st'=none->(arrOf st').toList.Pairwise (le (Bf (O:=aN2) fun p=>N8 prog w s.heap p.1)) ->
   wpAny (model prog w) A (do
    let sorted:=(arrOf st').map (·.2)
    let touched:=(<- seqEpoch a) != e1
    Builtin.List.listUpdate (.ref a) fun _=>sorted
    if let some e:=failedOf st' then rule "list.sort.comparison-raised";throw e
    if touched then rule "list.sort.modified";raiseError "ValueError" "list modified during sort"
    ret .none) P E { s with heap:=h6 }:=fun st' hp hf hs=>by
  dsimp only
  refine wpAny_bind (seqEpoch_at (s:={ s with heap:=h6 }) ho6 rfl ?_)
  refine wpAny_bind (listUpdate_at (s:={ s with heap:=h6 }) ho6 rfl ?_ (o8 _) (by refine p5 (ah4 ((X7 ..).trans (hp.size_eq.trans (pairsOf_size _)))) ?_;omega))
  rw[hf]
  simp only[bne_self_eq_false,j8,if_false]
  refine wpAny_pure ?_
  have:=fin st' hp hs
  unfold sortedHeap at this
  rw[hH]at this
  exact this
 show wpAny (model prog w) A _ P E { s with heap:=h6 }
 dsimp only
 by_cases h2:vs.toArray.size<2
 ·rw[if_pos h2,if_pos h2]
  refine wpAny_bind (wpAny_pure ?_)
  rw[StateT.run_pure]
  refine wpAny_bind (wpAny_pure ?_)
  refine out (SortSt.mk' general' (vs.toArray.zip vs.toArray) #[] 7 none) (Array.Perm.refl _) rfl ?_
  show (pairsOf vs).toList.Pairwise _
  rw[x5]
  intro i j hi hj hij
  rw[o4,pairsOf_size]at hj
  rw[d7]at h2
  omega
 ·rw[if_neg h2,if_neg h2]
  rw[d7]at h2
  refine wpAny_bind (ar2 (s:={ s with heap:=h6 }) (by omega) (fun v hv'=>?_) ?_)
  ·obtain⟨i,k,hk⟩:=hv v hv'
   exact⟨i,k,up v hv' _ hk⟩
  refine wpAny_bind (wpAny_mono (av2 (s:={ s with heap:=h6 }) (a₀:=pairsOf vs) (κ:=tuples' true) (O:=aN2) (f:=fun p=>N8 prog w s.heap p.1) (st:=SortSt.mk' (tuples' true) (vs.toArray.zip vs.toArray) #[] 7 none)
   (Q:=fun _ st'=>(arrOf st').Perm (pairsOf vs)/\failedOf st'=none/\(arrOf st').toList.Pairwise (le (Bf (O:=aN2) fun p=>N8 prog w s.heap p.1))) ?_ ([]:List Int) (by rw[pairsOf_size];exact h64) (Array.Perm.refl _) rfl rfl rfl fun st' a1 a2 a3=>⟨a1,a2,a3⟩) ?_ fun _ _ e=>e)
  ·intro x y hx hy Q hq
   rw[pairsOf_toList]at hx hy
   obtain⟨i,k,hk⟩:=hv x.1 (mem_zip_self hx).2
   obtain⟨j,k',hk'⟩:=hv y.1 (mem_zip_self hy).2
   refine aH2 (s:={ s with heap:=h6 }) (up _ (mem_zip_self hx).2 _ hk) (up _ (mem_zip_self hy).2 _ hk') ?_
   rw[<- N1 hk,<- N1 hk']
   exact hq
  ·rintro⟨⟨⟩,st'⟩ s' ⟨rfl,hp,hf,hs⟩
   exact out st' hp hf hs
theorem ao7 {l:Addr} {vs:List Value} {Q:Value->Shared->Prop} (hl:s.heap.IsList l vs.toArray) (hz:vs.length<=sizeLine) (h64:vs.length<64) (hv:∀ v∈vs,∃ i k,IsK prog w s.heap (i::k) v)
  (h : ∀ (out : List Value) (h' : Heap) (n : Nat), out.Perm vs -> out.Pairwise (fun x y => D0 (N8 prog w s.heap y) (N8 prog w s.heap x) = false) -> (∀ b o, s.heap.get? b = some o -> h'.get? b = some o) ->
   h'.get? (s.heap.objs.size+1)=some { cls:=.type "list",data:=.seq out.toArray n }->Q (.ref (s.heap.objs.size+1)) { s with heap:=h' }) :
  wpAny (model prog w) A (call (.builtin "sorted") [.ref l]) Q E s:=by
 refine Calls.call_function_entry kind_sorted plain_sorted entry_sorted (args_sorted1 _) ?_
 unfold Builtin.«sorted»
 refine wpAny_bind (m:=checkCount "sorted" 1 1 _) (wpAny_pure ?_)
 refine wpAny_bind (collect_list hl ?_ hz)
 refine wpAny_bind (wpAny_newList ?_ hz)
 have hsz:((s.heap.push (seqObj "list" #[] 0)).update s.heap.objs.size (Obj.mapSeq (·++vs.toArray))).objs.size=s.heap.objs.size+1:=by
  rw[bH8,size_push']
 generalize hH:((s.heap.push (seqObj "list" #[] 0)).update s.heap.objs.size (Obj.mapSeq (·++vs.toArray))).push (seqObj "list" vs.toArray 0)=h2
 have hoL:h2.get? (s.heap.objs.size+1)=some (seqObj "list" vs.toArray 0):=by
  rw[<- hH,<- hsz];exact d6 _ rfl
 have keep:∀ b o,s.heap.get? b=some o->h2.get? b=some o:=fun b o e=>by
  rw[<- hH]
  refine b9 _ ((u4 _ _ ?_).trans (b9 _ e))
  exact Ne.symm (i4 (c9 e))
 have hsz2:h2.objs.size=s.heap.objs.size+2:=by rw[<- hH,size_push',hsz]
 rw[hsz]
 have up:∀ v k,IsK prog w s.heap k v->IsK prog w h2 k v:=fun v k hk=>hk.up keep
 have kA:∀ v∈vs,N8 prog w h2 v=N8 prog w s.heap v:=fun v hv'=>by
  obtain⟨i,k,hk⟩:=hv v hv'
  rw[N1 hk,N1 (up v _ hk)]
 refine wpAny_bind (wpAny_holding (wpAny_call_entry slot_list_sort (s:={ s with heap:=h2 }) ⟨_,hoL,rfl⟩ entry_list_sort (aL6 (s:={ s with heap:=h2 }) hoL hz h64 (fun v hv'=>?_) (fun v hv' z=>?_) fun out a1 a2=>⟨_,rfl,?_⟩) (args_list_sort _)))
 ·obtain⟨i,k,hk⟩:=hv v hv'
  exact⟨i,k,up v _ hk⟩
 ·obtain⟨i,k,a,rfl,o,items,n,ho,_⟩:=hv v hv'
  cases z
  exact absurd (c9 ho) (Nat.not_lt.mpr (R3 _))
 ·have hlast:∃ n,(sortedHeap h2 (s.heap.objs.size+1) vs out.toArray).get? (s.heap.objs.size+1)=some (seqObj "list" out.toArray n):=by
   unfold sortedHeap
   have g1:=get?_update_seq hoL (fun _=>(#[]:Array Value))
   have g2:(((h2.update (s.heap.objs.size+1) (Obj.mapSeq fun _=>#[])).push (seqObj "tuple" vs.toArray 0)).push (seqObj "list" #[] 0)).get? (s.heap.objs.size+1)=_:=b9 _ (b9 _ g1)
   exact⟨_,get?_update_seq g2 (fun _=>out.toArray)⟩
  obtain⟨n,hn⟩:=hlast
  refine wpAny_pure ⟨_,rfl,h out _ n a1 ?_ (fun b o e=>?_) hn⟩
  ·refine List.Pairwise.imp_of_mem ?_ a2
   intro x y hx hy hxy
   rw[kA x (a1.mem_iff.mp hx),kA y (a1.mem_iff.mp hy)]at hxy
   exact hxy
  ·have hb:b≠s.heap.objs.size+1:=i4 (u9 (c9 e))
   unfold sortedHeap
   refine(u4 _ _ (Ne.symm hb)).trans (b9 _ (b9 _ ((u4 _ _ (Ne.symm hb)).trans (keep b o e))))
end
end Tim
namespace L2
open PySem PySem.Spec PyProof.Rows
section
variable {X:Cx}
theorem af8:L1 X (.builtin "sorted") (fun xs H Q=>∃ p ys ks,xs=[.ref p]/\SqL X.K H p ys/\x8 X.K H ys ks/\(∀ k∈ks,k≠[])/\ks.length<64 /\
  ∀ l zs ks',H l=none->ks'.Perm ks->ks'.Pairwise (fun a b=>Tim.D0 b a=false)->x8 X.K (upd H l (.lst zs)) zs ks'->Q (.ref l) (upd H l (.lst zs))):=by
 intro pins s σ H xs us Q I r h
 obtain⟨p,ys,ks,rfl,hq,ht,hne,h64,q⟩:=h
 obtain⟨u,rfl,rx⟩:=vals1 r
 cases rx
 obtain⟨its,r',pl,hz⟩:=I.list hq
 have hlen:=r'.length
 have hk:=U1 I ht r'
 have hv:∀ v∈its,∃ i k,Tim.IsK X.prog X.w s.heap (i::k) v:=fun v hv=>by
  obtain⟨j,hj⟩:=r9.mp hv
  obtain⟨k,h1,a,rfl,h2⟩:=R6 hk hj
  cases k with
  | nil=>exact absurd rfl (hne [] (i6 h1))
  | cons i k=>exact⟨i,k,a,rfl,h2⟩
 refine Tim.ao7 pl.isList (by omega) (by have:=hk.length;omega) hv fun out h' n hp hs kp e=>?_
 obtain⟨zs,pz,rz⟩:=al3 hp (Z4 r')
 have rz':y9 zs out:=Z4 rz
 have hzl:zs.length<=sizeLine:=by rw[pz.length_eq];exact hz
 have hfr:H (s.heap.objs.size+1)=none:=I.hok.fresh (R3 _)
 have keepS:∀ b o,H b=some o->upd H (s.heap.objs.size+1) (.lst zs) b=some o:=fun b o e=>by rw[m5 (m8 e hfr)];exact e
 refine⟨.ref (s.heap.objs.size+1),upd H (s.heap.objs.size+1) (.lst zs),I.laid (t':=s.toks) kp (R3 _) (show B9 X.prog X.w _ h' _ (.lst zs) from ⟨hzl,out,n,rz',e⟩),rfl,?_⟩
 obtain⟨ks',pk,hk'⟩:=al3 pz (show Paired (fun y k=>∃ a,y=V.ref a/\SqT X.K H a (k.map V.int)) ys ks from ht)
 refine q _ zs ks' hfr pk ?_ (x8.same keepS hk')
 have hko:=U1 I (show x8 X.K H zs ks' from hk') rz'
 have eq:ks'=out.map (Tim.N8 X.prog X.w s.heap):=by
  clear hs hp rz rz' hk' pk e
  induction hko with
  | nil=>rfl
  | cons r t ih =>
   obtain⟨a,rfl,hka⟩:=r
   rw[k6,Tim.N1 ⟨a,rfl,hka⟩,<- ih]
 rw[eq,E1]
 exact hs
end
section
variable {X:Cx} {pins:List (Addr × Obj)} {σ:St} {H:Hp} {s:Shared} {A:Around} {E:Value->Shared->Prop}
theorem bh5 {a kS:Addr}{vs:List Value}{zs:List Int}{keys:Array Value}{e e1:Nat}{key:Int->List Int}{P:PySem.Fin->Shared->Prop}{H0:Hp}(I:Inv X pins σ H s)(hS:p7 H0 H)(hk:s.heap.get? kS=some (seqObj "list" keys e))(ha:s.heap.get? a=some (seqObj "list" #[] e1))
  (fk:J1 X pins H kS)(fa:J1 X pins H a)(hka:kS≠a)(hz:vs.length<=63)(hkl:keys.size=vs.length)(hi:IntsAre vs zs)
  (hK:Paired (fun u k=>Tim.IsK X.prog X.w s.heap k u) keys.toList (zs.map key))(hne:∀ z,∃ i k,key z=i::k)(h:aC5 X pins σ H0 a zs key P) :
  wpAny (model X.prog X.w) A (ksk_end a false vs.toArray e1 (.ref kS) keys) P E s:=by
 obtain⟨k1,k2⟩:=ar3 hK hi
 have hzt:=ksk_zip keys vs
 unfold ksk_end
 dsimp only
 simp only[j8,if_false]
 by_cases h2:vs.toArray.size<2
 ·rw[if_pos h2,if_pos h2]
  refine wpAny_bind (wpAny_pure ?_)
  rw[StateT.run_pure]
  refine wpAny_bind (wpAny_pure ?_)
  refine aH5 (st:=SortSt.mk' general' (keys.zip vs.toArray) #[] 7 none) I hS hk ha fk fa hka (by omega) hkl hi hK (Array.Perm.refl _) rfl ?_ h
  show (keys.zip vs.toArray).toList.Pairwise _
  rw[x5]
  intro i j hi hj hij
  rw[o4,aK5,hkl]at hj
  rw[d7]at h2 hj
  omega
 ·rw[if_neg h2,if_neg h2]
  rw[d7]at h2
  have hmemK:∀ v∈keys.toList,∃ i k,Tim.IsK X.prog X.w s.heap (i::k) v:=fun v hv=>by
   obtain⟨j,hj⟩:=r9.mp hv
   obtain⟨k,q1,q2⟩:=R6 hK hj
   obtain⟨z,_,rfl⟩:=l5.mp (i6 q1)
   obtain⟨i,k',ek⟩:=hne z
   rw[ek]at q2
   exact⟨i,k',q2⟩
  have kk:keyKind' keys=keyKind' keys.toList.toArray:=by rw[ah5]
  rw[kk]
  refine wpAny_bind (Tim.ar2 (vs:=keys.toList) (by rw[o4,hkl];omega) hmemK ?_)
  refine wpAny_bind (wpAny_mono (Tim.av2 (a₀:=keys.zip vs.toArray) (κ:=tuples' true) (O:=Tim.aN2) (f:=fun p=>Tim.N8 X.prog X.w s.heap p.1) (st:=SortSt.mk' (tuples' true) (keys.zip vs.toArray) #[] 7 none)
   (Q:=fun _ st'=>(arrOf st').Perm (keys.zip vs.toArray)/\failedOf st'=none/\(arrOf st').toList.Pairwise (Tim.le (Tim.Bf (O:=Tim.aN2) fun p=>Tim.N8 X.prog X.w s.heap p.1))) ?_ ([]:List Int) (by rw[aK5,hkl,d7];omega) (Array.Perm.refl _) rfl rfl rfl fun st' a1 a2 a3=>⟨a1,a2,a3⟩) ?_ fun _ _ e=>e)
  ·intro x y hx hy Q hq
   rw[hzt]at hx hy
   refine Tim.aH2 (k1 x hx) (k1 y hy) ?_
   rw[<- Tim.N1 (k1 x hx),<- Tim.N1 (k1 y hy)]
   exact hq
  ·rintro⟨⟨⟩,st'⟩ s' ⟨rfl,hp,hf,hs⟩
   exact aH5 I hS hk ha fk fa hka (by omega) hkl hi hK hp hf hs h
theorem aX5 {a kS:Addr}{f:Value}{vs:List Value}{zs:List Int}{e1:Nat}{key:Int->List Int}{P:PySem.Fin->Shared->Prop}(I:Inv X pins σ H s)(hk:s.heap.get? kS=some (seqObj "list" #[] 0))(ha:s.heap.get? a=some (seqObj "list" #[] e1))
  (fk:J1 X pins H kS)(fa:J1 X pins H a)(hka:kS≠a)(hz:vs.length<=63)(hi:IntsAre vs zs)(hne:∀ z,∃ i k,key z=i::k)(turn:∀ z∈zs,aC4 X A σ H f key z)(h:aC5 X pins σ H a zs key P) :
  wpAny (model X.prog X.w) A (ksk_rest a f false vs.toArray e1 (.ref kS)) P E s:=by
 have hlen:=hi.length
 unfold ksk_rest
 refine wpAny_bind (wpAny_rule ?_)
 first
  | rw[List.forIn_toArray]
  | (rw[<- X1];simp only[am4])
  | rw[<- X1]
 refine wpAny_bind (ksk_fold (fun i s'=>∃ (kA:Array Value) (e:Nat) (H':Hp) (ys:List V),Inv X pins σ H' s'/\p7 H H'/\s'.heap.get? kS=some (seqObj "list" kA e)/\s'.heap.get? a=some (seqObj "list" #[] e1)/\J1 X pins H' kS/\J1 X pins H' a /\
   y9 ys kA.toList/\x8 X.K H' ys ((zs.take i).map key)) vs 0 s ⟨#[],0,H,[],I,p7.refl H,hk,ha,fk,fa,.nil,.nil⟩ ?step ?done)
 case step =>
  rintro j x s' hx ⟨kA,e,H',ys,I',hS,hk',ha',fk',fa',hv,ht⟩
  simp only[X8]at ht ⊢
  have hj:j<vs.length:=(o7.mp hx).1
  obtain⟨z,t,hzj,rfl⟩:=bi1 hi hx
  have hzA:kA.size<=vs.length:=by
   have h1:ys.length=kA.size:=by rw[<- o4];exact hv.length
   have h2:=ht.len
   rw[b7,q8]at h2
   omega
  have Ip:=I'.pinned (fp:=[kS,a]) (fun b hb=>by
   rcases d3.mp hb with rfl | hb
   ·exact fk'
   ·rw[y6.mp hb];exact fa') (fun b hb=>by
   rcases d3.mp hb with rfl | hb
   ·exact⟨_,hk',fun v q=>by cases q⟩
   ·rw[y6.mp hb];exact⟨_,ha',fun v q=>by cases q⟩)
  refine wpAny_bind (wpAny_attempt (wpAny_mono (turn z (i6 hzj) t _ s' H' Ip hS) (fun v s'' he=>?_) fun _ _ hF=>hF.elim))
  obtain⟨k,H'',rfl,hk'',I'',hS'⟩:=he
  obtain⟨nk,fk0⟩:=bi8 I'' d8 hk'
  obtain⟨na,fa0⟩:=bi8 I'' (d5 _ d8) ha'
  have Iu:=I''.unpinned
  have fk'':J1 X pins H'' kS:=fk'.to fk0
  have fa'':J1 X pins H'' a:=fa'.to fa0
  have s1:=Heap.SameBut.update s''.heap kS (Obj.mapSeq (·.push (.ref k)))
  obtain⟨c2,hc2⟩:∃ c2,(s''.heap.update kS (Obj.mapSeq (·.push (Value.ref k)))).get? kS=some (seqObj "list" (kA.push (.ref k)) c2):=⟨_,get?_update_seq nk (·.push (.ref k))⟩
  have ea:(kA.push (Value.ref k)).toList=kA.toList++[Value.ref k]:=by simp
  have ek:zs.take (j+1)=zs.take j++[z]:=by rw[x9,hzj];simp
  refine wpAny_bind (listUpdate_at nk rfl ?_ (by rw[sizeLine_eq];omega) (p5 (ah4 (aC9 ..)) (by rw[sizeLine_eq];omega)))
  refine wpAny_pure ⟨rfl,kA.push (.ref k),c2,H'',ys++[.ref k],?_,hS.trans hS',hc2,(s1.2 a hka.symm).trans na,fk'',fa'',?_,?_⟩
  ·exact Iu.turn (t':=s''.toks) fk'' fun b o hb q=>(s1.2 b hb).trans q
  ·rw[ea]
   exact hv.append (.cons rfl .nil)
  ·rw[ek,i5]
   exact x8.append (x8.same hS' ht) (.cons ⟨k,rfl,.of hk''⟩ .nil)
 case done =>
  rintro s' ⟨kA,e,H',ys,I',hS,hk',ha',fk',fa',hv,ht⟩
  have e3:zs.take (0+vs.length)=zs:=j0 (by omega)
  rw[e3]at ht
  refine wpAny_bind (listItems_at hk' rfl ?_)
  have h1:ys.length=kA.size:=by rw[<- o4];exact hv.length
  have h2:=ht.len
  rw[b7]at h2
  have hK:=U1 I' ht hv
  exact bh5 I' hS hk' ha' fk' fa' hka hz (by omega) hi (aq2 (fun u k q=>q) hK) hne h
theorem aX4 {a:Addr}{f:Value}{vs:List Value}{zs:List Int}{n:Nat}{key:Int->List Int}{P:PySem.Fin->Shared->Prop}(I:Inv X pins σ H s)(ha:s.heap.get? a=some (seqObj "list" vs.toArray n))
  (fa:J1 X pins H a)(hz:vs.length<=63)(hi:IntsAre vs zs)(hne:∀ z,∃ i k,key z=i::k)(turn:∀ z∈zs,aC4 X A σ H f key z)(h:aC5 X pins σ H a zs key P) :
  wpAny (model X.prog X.w) A (ksk_tree a f false) P E s:=by
 have hlt:a<s.heap.objs.size:=c9 ha
 have s1:=Heap.SameBut.update s.heap a (Obj.mapSeq fun _=>(#[]:Array Value))
 obtain⟨e1,ho1⟩:∃ e1,(s.heap.update a (Obj.mapSeq fun _=>(#[]:Array Value))).get? a=some (seqObj "list" #[] e1):=⟨_,get?_update_seq ha fun _=>#[]⟩
 have I1:Inv X pins σ H { s with heap:=s.heap.update a (Obj.mapSeq fun _=>(#[]:Array Value)),toks:=s.toks }:=I.turn fa fun b o hb q=>(s1.2 b hb).trans q
 unfold ksk_tree
 refine wpAny_bind (listItems_at ha rfl ?_)
 refine wpAny_bind (listUpdate_at ha rfl ?_ (by rw[d7,sizeLine_eq];omega) (o8 _))
 refine wpAny_bind (seqEpoch_at ho1 rfl ?_)
 refine wpAny_bind (wpAny_newTuple ?_ (by show vs.length<=_;rw[sizeLine_eq];omega))
 refine wpAny_bind (wpAny_newList ?_ (o8 _))
 refine wpAny_holding ?_
 generalize hh2:(s.heap.update a (Obj.mapSeq fun _=>(#[]:Array Value))).push (seqObj "tuple" vs.toArray 0)=h2
 have hsz:h2.objs.size=s.heap.objs.size+1:=by rw[<- hh2,size_push',bH8]
 have I2:Inv X pins σ H { s with heap:=h2,toks:=s.toks }:=I1.kept (t':=s.toks) fun b o q=>by rw[<- hh2];exact b9 _ q
 have I3:Inv X pins σ H { s with heap:=h2.push (seqObj "list" #[] 0),toks:=s.toks }:=I2.kept (t':=s.toks) fun b o q=>b9 _ q
 have fk:J1 X pins H h2.objs.size:=I2.fpOk (c7 _) (I2.hok.fresh (c7 _))
 refine aX5 (s:={ s with heap:=h2.push (seqObj "list" #[] 0),toks:=s.toks }) (kS:=h2.objs.size) (e1:=e1) I3 (d6 _ rfl) ?_ fk fa (by rw[hsz];exact D9 (u9 hlt)) hz hi hne turn h
 refine b9 _ ?_
 rw[<- hh2]
 exact b9 _ ho1
theorem aE0 {r q:Addr}{n:Nat}{key:Int->List Int}{Q:Value->Shared->Prop}(I:Inv X pins σ H s)(hh:A.handled=none)(hr:∃ t u v,IsRange s.heap r 0 n 1 t u v)(hn:n<=63)(hne:∀ z,∃ i k,key z=i::k)
  (turn:∀ z∈(ac0 0 n).map (fun k:Nat=>(k:Int)),aC4 X A.in1.in1 σ H (.ref q) key z)
  (h:∀ (H':Hp) (s':Shared) (D:Addr) (zs:List Int),p7 H H'->H' D=none->zs.Perm ((ac0 0 n).map fun k:Nat=>(k:Int))->zs.Pairwise (fun x y=>Tim.D0 (key y) (key x)=false)->Inv X pins σ (upd H' D (.lst (zs.map V.int))) s'->Q (.ref D) s') :
  wpAny (model X.prog X.w) A (call (.builtin "sorted") [.ref r] [(Str.ofString "key",.ref q)]) Q E s:=by
 obtain⟨t,u,v,hr⟩:=hr
 refine call_function_entry_kw kind_sorted plain_sorted entry_sorted (ksk_s1 _ _) ?_
 unfold Builtin.«sorted»
 refine wpAny_bind (m:=checkCount "sorted" 1 1 _) (wpAny_pure ?_)
 refine wpAny_bind (aI9 (A:=A.in1) hh hr (p5 hn (by decide)) fun h1 tk vs kp hi=>?_)
 have hlen:=hi.length
 rw[b7,at8]at hlen
 have I1:Inv X pins σ H { s with heap:=h1,toks:=tk }:=I.kept kp
 refine wpAny_bind (wpAny_newList ?_ (by rw[sizeLine_eq];omega))
 have fD:J1 X pins H h1.objs.size:=I1.fpOk (c7 _) (I1.hok.fresh (c7 _))
 have I2:Inv X pins σ H { s with heap:=h1.push (seqObj "list" vs.toArray 0),toks:=tk }:=I1.kept (t':=tk) fun b o q=>b9 _ q
 have hoL:(h1.push (seqObj "list" vs.toArray 0)).get? h1.objs.size=some (seqObj "list" vs.toArray 0):=d6 _ rfl
 refine wpAny_bind (wpAny_holding (wpAny_call_entry_kw slot_list_sort (s:={ s with heap:=h1.push (seqObj "list" vs.toArray 0),toks:=tk }) ⟨_,hoL,rfl⟩ entry_list_sort ?body (ksk_l1 _ _)))
 show wpAny (model X.prog X.w) A.in1.in1 (Builtin.«list.sort» ⟨[.ref h1.objs.size],[(Str.ofString "key",.ref q)]⟩) _ _ _
 rw[ksk_t1]
 refine aX4 I2 hoL fD (by omega) hi hne turn fun H' s' out zs' c I' hS fa' hout hi' hp hs=>⟨_,rfl,?_⟩
 have hl2:zs'.length<=63:=by rw[hp.length_eq,b7,at8];exact hn
 refine wpAny_pure ⟨_,rfl,h H' s' h1.objs.size zs' hS fa'.1 hp hs ?_⟩
 have:=I'.take (t':=s'.toks) (h':=s'.heap) (o:=.lst (zs'.map V.int)) fa' (fun b u _ q=>q) ⟨by rw[b7,sizeLine_eq];omega,out,c,aa5 hi',hout⟩
 exact this
end
def bn3 (P:Addr)(lpos:Pos)(qual:Str)(lk:List (Option Nat))(te:TE)(tr:TA):TE:=fun σ H Q=>tr σ H fun vs H1=>∃ (r:Addr) (n:Nat) (key:Int->List Int),vs=[.ref r]/\H1 r=some (.rng 0 n)/\n<=63/\(∀ z,∃ i k,key z=i::k)/\K8 P lpos qual H1 /\
 ∀ H2,L7 P H1 H2->K8 P lpos qual H2->(∀ (H3:Hp) (z:Nat),p7 H2 H3->z<n->te (some (.int z)::W9 lk σ) H3 fun v H4=>∃ k,v=.ref k/\H4 k=some (.tup ((key z).map V.int))/\p7 H3 H4) /\
  ∀ (H':Hp) (D:Addr) (zs:List Int),p7 H2 H'->H' D=none->zs.Perm ((ac0 0 n).map fun k:Nat=>(k:Int))->zs.Pairwise (fun x y=>Tim.D0 (key y) (key x)=false)->Q (.ref D) (upd H' D (.lst (zs.map V.int)))
section
variable {X:Cx}
theorem aW1 {e body:Expr}{p:Str}{np pos lpos kpos:Pos}{params:Arguments}{scope:Scope}{c P:Addr}{cl:List (Str × Addr)}{N':List Str}{lk:List (Option Nat)}{te:TE}{tr:TA}(hc:X.calm=true)(hd:X.A.depth<recursionLimit)(hg:Gl X "sorted")(hm:X.mg "sorted"=none)(ha:PA X [e] tr)
  (B:ag5 X.base X.mg c P)(hcode:X.env.code=.ref c)(hcl:closureFor scope X.env=pure cl)(hdef:defaultsOf params X.env=([],[]))(hkind:scope.kind=.function)(hco:scope.isCoroutine=false)(hgen:scope.isGenerator=false)(hclo:at5 X.env cl)(hfr:ag6 scope.names cl=true)(hlk:ay8 X N' lk scope cl)
  (hp:scope.names.lookup p=some .local)(hbind:∀ (pm ctv u:Value) (c':Addr),bindArgs (PySem.W.kla_fn "<lambda>" (X.env.qual++"<lambda>") params body scope cl pm (.ref c') ctv) ⟨[u],[]⟩=pure [(p,u)])
  (he:∀ f c' s3 H3,PE (bg9 X X.A.in1.in1 (X.env.qual++"<lambda>") scope cl (p::N') f (.ref c') s3 H3) body te)
  (hs:backTo pos (starEach [e] X.env)=(false,eval e X.env)::backTo pos (starEach [] X.env):=by rfl)
  (hpl:(backTo pos (starEach [e] X.env)).any (·.1)=false:=by rfl) :
  PE X (.Call (.Name "sorted" np) [e] [⟨some "key",.Lambda params body scope lpos,kpos⟩] pos) (bn3 P lpos (X.env.qual++"<lambda>") lk te tr):=by
 intro pins s σ H Q I h
 refine wpAny_Call_Name_kw (P4 I hg hm (show bootBuiltins "sorted"=some (.builtin "sorted") from rfl) ?_ (by decide) (by decide))
 refine callWith_kw (thn (ha pos pins s σ H _ I h) fun us s1 ⟨vs,H1,I1,r1,q1⟩=>?_) hs hpl rfl rfl
 obtain⟨r,n,key,rfl,hr,hn,hne,tb,q⟩:=q1
 have hk:PK X [⟨some "key",.Lambda params body scope lpos,kpos⟩] (aD7 (bI7 P lpos (X.env.qual++"<lambda>") params body scope cl ((X.mg "__name__").getD .none)) ba8):=aA0 (be3 B hcode hcl hdef) aM3
 refine thn (hk pos pins s1 σ H1 (fun zs H2=>∃ f c' ctv,zs=[.ref f]/\L7 P H1 H2/\K8 P lpos (X.env.qual++"<lambda>") H2/\H2 f=some (K7 f (PySem.W.kla_obj "<lambda>" (X.env.qual++"<lambda>") params body scope cl ((X.mg "__name__").getD .none) c' ctv))/\H2 c'=some (ag7 c' (X.env.qual++"<lambda>"))) I1
  ⟨tb,fun f c' ctv H2 g1 g2 g3 g4 g5=>⟨f,c',ctv,rfl,g1,g2,g4,g5⟩⟩) fun ws s2 ⟨zs,H2,I2,r2,f,c',ctv,ez,g1,g2,g4,g5⟩=>?_
 subst ez
 obtain⟨w,rfl,rw⟩:=vals1 r2
 obtain⟨u,rfl,ru⟩:=vals1 r1
 cases rw
 cases ru
 obtain⟨wish,fin⟩:=q H2 g1 g2
 have rP:r≠P:=fun z=>by
  obtain⟨ps,hP,_⟩:=tb
  rw[z,hP]at hr
  cases hr
 have hr2:H2 r=some (.rng 0 n):=g1 r _ rP hr
 obtain⟨t1,t2,t3,hro⟩:=I2.hok r _ hr2
 have hh:X.A.handled=none:=I.ok.hd hc
 refine aE0 (n:=n) (key:=key) I2 hh ⟨t1,t2,t3,hro⟩ hn hne (fun z hz=>?_) fun H' s' D zs' a1 a2 a3 a4 I'=>⟨.ref D,_,I',rfl,fin H' D zs' a1 a2 a3 a4⟩
 obtain⟨k,hk',rfl⟩:=l5.mp hz
 have hkn:k<n:=by
  have:=au9.mp hk'
  omega
 intro t pins' s3 H3 I3 sm
 have ho:s3.heap.get? f=some (PySem.W.kla_obj "<lambda>" (X.env.qual++"<lambda>") params body scope cl ((X.mg "__name__").getD .none) c' ctv):=(I3.hok f _ (sm _ _ g4)).1
 have hcd:s3.heap.CodeRec (.ref c') (X.env.qual++"<lambda>"):=(I3.hok c' _ (sm _ _ g5)).1
 refine wpAny_mono (bg8 (A:=X.A.in1.in1) (v:=.int k) (u:=.int k t) I3 I3.ok.frames hh hd ho hcd (hbind _ _ _ _) hkind hco hgen hclo hfr hlk hp ⟨t,rfl⟩ (he f c' s3 H3) (wish H3 k sm hkn)) (fun u' s' hq=>?_) fun _ _ z=>z
 obtain⟨v',H',J,r',kk,rfl,hkk,sm'⟩:=hq
 cases r'
 exact⟨kk,H',rfl,hkk,J,sm'⟩
end
end L2
namespace HT
open PySem PyProof.Rows
theorem bd5 (A:Around)(s:Shared)(a:Int)(t:Tok)(c:Int)(u:Tok)(prog:Program)(w:World)(E:Value->Shared->Prop)(Q:Value->Shared->Prop)(h:Q (.bool (decide (a<=c))) s) :
  wpAny (model prog w) A (richCompare .LtE (.int a t) (.int c u)) Q E s:=
 (PyProof.Rows.le_int h:wpAny (model prog w) A (compareOp .LtE (.int a t) (.int c u)) Q E s)
section
open PySem.SeqAt
open PySem.AutoSeq1 (wpAny_loadPart')
open PySem.MeetsSeq PySem.MeetsSeq2 PySem.MeetsSeq3
theorem au2 (l b:Addr) (items items2:Array Value) (n n2:Nat) (dd dd2:Option Addr) (sl sl2:Array (Option Value)) (ns ms:List Int) (hi:IntsAre items.toList ns) (hj:IntsAre items2.toList ms) (hlm:ns.length=ms.length) :
  Meets (Builtin.«tuple.__le__» ⟨[.ref l,.ref b],[]⟩)
   (fun _ R s => s.heap.get? l = some { cls := .type "tuple", dict := dd, data := .seq items n, slots := sl } /\ s.heap.get? b = some { cls := .type "tuple", dict := dd2, data := .seq items2 n2, slots := sl2 } /\
    R (.ok (.ret (.bool (!lexLt ms ns)))) s):=
 .of_wp fun prog w A R s h=>by
  obtain⟨hp,g,d,tk,os⟩:=s;obtain⟨hl,hb,h⟩:=h
  have f2:=AutoSeq1.sub_tuple_tuple
  have z1:items.size=ns.length:=by rw[<- hi.length];simp
  have z2:items2.size=ms.length:=by rw[<- hj.length];simp
  wp_walk using wpAny_loadPart' hl,wpAny_loadPart' hb,wpAny_forIn_list _ (fun rest b s'=>b.1=none/\s'=⟨hp,g,d,tk,os⟩/\∃ (vs ws:List Value) (ns' ms':List Int),rest=vs.zip ws /\
   IntsAre vs ns'/\IntsAre ws ms'/\ns'.length=ms'.length/\R (.ok (.ret (.bool (!lexLt ms' ns')))) ⟨hp,g,d,tk,os⟩) _
  case turn =>
   rintro⟨y,x⟩ rest b s' ⟨hb',rfl,vs,ws,ns',ms',hz,hvi,hwi,hlen,hR⟩
   cases hvi with
   | nil=>rw[List.zip_nil_left]at hz;cases hz
   | cons a t hvi' =>
    cases hwi with
    | nil=>rw[List.zip_nil_right]at hz;cases hz
    | cons c u hwi' =>
     rw[O8]at hz
     injection hz with hyx hrest
     injection hyx with hy hx
     subst hy hx
     rw[W6]at hR
     simp only[m9]at hlen
     obtain⟨e,he,hiff⟩:=bj3 A.in1 ⟨hp,g,d,tk,os⟩ a t c u
     refine wpAny_bind (he prog w _ _ ?_)
     cases e with
     | true =>
      rw[if_pos (hiff.mp rfl).symm]at hR
      wp_walk
      exact⟨rfl,rfl,_,_,_,_,hrest,hvi',hwi',by omega,hR⟩
     | false =>
      rw[if_neg (fun q=>absurd (hiff.mpr q.symm) f6)]at hR
      have hri:=bd5 A.in1 ⟨hp,g,d,tk,os⟩ a t c u prog w
      wp_walk using hri
      refine⟨_,rfl,?_⟩
      have e2:decide (a<=c)=!decide (c<a):=by
       by_cases q:c<a
       ·rw[decide_eq_true q,decide_eq_false (by omega)];rfl
       ·rw[decide_eq_false q,decide_eq_true (by omega)];rfl
      simpa [e2] using hR
  case fin =>
   rintro⟨b1,b2⟩ s' ⟨hb',rfl,vs,ws,ns',ms',hz,hvi,hwi,hlen,hR⟩
   simp only at hb'
   subst hb'
   have hv:lexLt ms' ns'=false:=by
    cases hvi with
    | nil =>
     cases hwi with
     | nil=>rfl
     | cons _ _ _=>simp at hlen
    | cons _ _ _ =>
     cases hwi with
     | nil=>simp at hlen
     | cons _ _ _=>rw[O8]at hz;cases hz
   rw[hv]at hR
   wp_walk
   refine⟨_,rfl,?_⟩
   simpa [z1,z2,hlm,Builtin.Tuple.tupleCompareSizes] using hR
  exact⟨rfl,rfl,_,_,_,_,rfl,hi,hj,hlm,h⟩
end
end HT
namespace L2
open PySem PySem.Spec PyProof.Rows
section
variable {X:Cx}
def bP8 (K:W.Frag):R2:=fun x y H Q=>∃ a b ns ms,x=.ref a/\y=.ref b/\SqT K H a (ns.map V.int)/\SqT K H b (ms.map V.int)/\ns.length=ms.length/\Q (.bl (!HT.lexLt ms ns)) H
theorem bB3 (hu:X.A.units<cLine):OpR X (compareOp .LtE) (bP8 X.K):=by
 intro pins s σ H x y v u Q I rx ry h
 obtain⟨a,b,ns,ms,rfl,rfl,ha,hb,hl,q⟩:=h
 cases rx
 cases ry
 obtain⟨its,r1,p1,_⟩:=I.tuple ha
 obtain⟨its2,r2,p2,_⟩:=I.tuple hb
 have i1:IntsAre its.toArray.toList ns:=intsAre_of r1
 have i2:IntsAre its2.toArray.toList ms:=intsAre_of r2
 obtain⟨⟨cls,dd,data,sl⟩,ho,hc,n,hd⟩:=id p1
 obtain⟨⟨cls2,dd2,data2,sl2⟩,ho2,hc2,n2,hd2⟩:=id p2
 simp only at hc hd hc2 hd2
 subst hc hd hc2 hd2
 exact richCompare_meets_room (op:=.LtE) ⟨_,ho,rfl⟩ ⟨_,ho2,rfl⟩ PySem.F.slot_tuple_le PySem.F.entry_tuple_le (PySem.F.args_tuple_le_2 _ _) (HT.au2 a b its.toArray its2.toArray n n2 dd dd2 sl sl2 ns ms i1 i2 hl)
  ⟨ho,ho2,show Value.bool (!HT.lexLt ms ns)≠Value.notImplemented/\_ from ⟨(fun x=>nomatch x),⟨.bl (!HT.lexLt ms ns),H,I,rfl,q⟩⟩⟩ hu
end
def bL0:R2:=fun x y H Q=>∃ l b xs zs,x=.ref l/\y=.ref b/\H l=some (.lst xs)/\H b=some (.lst zs)/\xs.length+zs.length<=1000/\Q (.ref l) (upd H l (.lst (xs++zs)))
theorem aN6:fillsInplaceSlot (.type "list") "add" true=pure false:=by
 unfold fillsInplaceSlot
 show (typeLookup (.type "list") (dunderI "add") >>= fun fi=>pure (fi.isSome && !isSeqSlot fi))=pure false
 rw[F.slot_list_iadd.lookup]
 rw[pure_bind]
 congr 1
theorem aY1:seqSlot? (.type "list") (dunderI "add")=pure (some (.builtin "list.__iadd__")):=by
 unfold seqSlot?
 rw[F.slot_list_iadd.lookup]
 rfl
section
variable {X:Cx}
theorem bD9:PIp X .Add bL0:=by
 intro pins s σ H x y v u Q I rx ry h
 obtain⟨l,b,xs,zs,rfl,rfl,hH,hB,hz,q⟩:=h
 cases rx
 cases ry
 obtain⟨z,its,n,r,hl,e⟩:=I.lstM hH
 obtain⟨z2,its2,n2,r2,hl2,e2⟩:=I.lstM hB
 have hln:=r.length
 have hln2:=r2.length
 unfold inplaceOp
 refine wpAny_holding ?_
 refine wpAny_bind (wpAny_typeOf (T:="list") ⟨_,e,rfl⟩ (wpAny_bind (wpAny_of_eq aN6 ?_)))
 show wpAny _ _ (if false=true then _ else _) _ _ s
 rw[if_neg f6]
 refine wpAny_bind (wpAny_binaryOp1_none (a:=.ref l) (b:=.ref b) (s:=s) (nm:="add") (T:="list") ⟨_,e,rfl⟩ ⟨_,e2,rfl⟩ noFill_list_add ?_)
 refine wpAny_bind (wpAny_of_eq aY1 ?_)
 refine wpAny_bind (wpAny_rule ?_)
 have hd:¬(!its.toArray.isEmpty && Builtin.List.listTooLong (its.toArray.size+its2.toArray.size))=true:=extend_door (by rw[d7,d7,sizeLine_eq];omega)
 refine call_meets F.slot_list_iadd ⟨_,e,rfl⟩ F.entry_list_iadd (F.args_list_iadd_2 _ _) (PySem.AutoSeq1.list___iadd___list_list_0 l its.toArray n b its2.toArray n2 hd (by rw[d7,sizeLine_eq];omega) (by rw[d7,d7,sizeLine_eq];omega)) ⟨e,e2,?_⟩
 refine⟨.ref l,_,I.lset (its':=its++its2) hH e ?_ (r.append r2) ?_,rfl,q⟩
 ·show its.toArray++its2.toArray=_
  simp
 ·rw[p9,sizeLine_eq];omega
end
section
variable {M:Model} {A:Around} {Er:Value->Shared->Prop} {s:Shared}
end
section
variable {P:Program} {w:World} {K:W.Frag} {mg:Str->Option Value} {base:Heap} {N:List Str} {qual:Str} {scope:Scope} {f:Addr} {cd:Value} {A:Around} {outer:List Env} {s:Shared} {H:Hp} {E:XK}
 {pins:List (Addr × Obj)} {σ:St} {H1:Hp} {s1:Shared}
end
section
variable {P:Program} {w:World} {K:W.Frag} {mg:Str->Option Value} {base:Heap} {N:List Str} {qual:Str} {scope:Scope} {f:Addr} {cd:Value} {A:Around} {outer:List Env} {s:Shared} {H:Hp} {E:XK}
 {pins:List (Addr × Obj)} {σ:St}
end
section
variable {P:Program} {w:World} {K:W.Frag} {mg:Str->Option Value} {base:Heap} {N:List Str} {qual:Str} {scope0:Scope} {f:Addr} {cd:Value} {A:Around} {outer:List Env} {s0:Shared} {H0:Hp} {E:XK} {X:Cx}
end
end L2
namespace L2
open PySem PySem.Spec PyProof.Rows PySem.SeqAt
section
variable {X:Cx}
end
end L2
namespace PySem
section
variable {prog:Program} {w:World} {K:Type} [DecidableEq K] {knd:HeapKind prog w K} {A:Around} {E:Value->Shared->Prop} {s:Shared}
end
end PySem
namespace PySem
section
variable {prog:Program} {w:World} {K:Type} [DecidableEq K] {knd:HeapKind prog w K} {A:Around} {E:Value->Shared->Prop} {s:Shared}
end
end PySem
namespace L2
open PySem PySem.Spec PyProof.Rows
section
variable {X:Cx} {pins:List (Addr × Obj)} {σ:St} {H:Hp} {s:Shared} {a:Addr}
theorem freeze {kvs:List (List Key × V)}(I:Inv X pins σ H s)(e:H a=some (.dT kvs)):∃ o,Inv X pins σ (upd H a (.frz o (.dT kvs))) s:=by
 obtain⟨z,hd,xs,kt,o,es,ep,h1,h2,h3,h4,h5⟩:=(show B9 X.prog X.w H s.heap a (.dT kvs) from I.hok a _ e)
 refine⟨o,?_⟩
 have:=aB4 (ob:=.frz o (.dT kvs)) (h':=s.heap) (t':=s.toks) I (by rw[e];exact True.intro) (Heap.SameBut.refl _ _) ⟨o,h1⟩ ⟨h1,z,hd,xs,KT.keeps kt fun b ys eb=>by
  rw[m5 (fun q=>by rw[q,e]at eb;cases eb)]
  exact eb,o,es,ep,h1,h2,h3,h4,h5⟩
 exact this
end
section
variable {X:Cx}
theorem bB0 {e:Expr}{te:TE}(h:PE X e te):PE X e (fun σ H Q=>te σ H fun x H1=>∃ (a:Addr) (kvs:List (List Key × V)),x=.ref a/\H1 a=some (.dT kvs)/\∀ o,Q x (upd H1 a (.frz o (.dT kvs)))):=by
 intro pins s σ H Q I hw
 refine thn (h pins s σ H _ I hw) fun v s1 ⟨x,H1,I1,r1,a,kvs,ex,ea,q⟩=>?_
 obtain⟨o,I2⟩:=freeze I1 ea
 exact⟨x,_,I2,r1,q o⟩
end
def Itd (a:Addr)(o:Obj)(kvs:List (List Key × V)):It:=
 ⟨fun i H=>H a=some (.frz o (.dT kvs))/\i<kvs.length,fun i H x H'=>H'=H/\∃ kv p,kvs[i]?=some kv/\x=.ref p/\H p=some (.tup (kv.1.map kV)),fun i H=>H a=some (.frz o (.dT kvs))/\kvs.length=i⟩
theorem bm9 {P:Program}{w:World}{K:W.Frag}{tg:Expr}(a it:Addr)(hne:a≠it)(o:Obj)(kvs:List (List Key × V))(es:Array DictEntry)(ep:Nat)(hx:o.ExactDict)(hd:o.data=.dict es ep)(hes:es.size=kvs.length) :
  Turn P w K tg (Itd a o kvs) [it] it (fun i h=>h.IsKeyIter it a i es.size ep) where
 mem:=by simp
 obj:=fun i h st b hb=>by
  have e:b=it:=by simpa using hb
  subst e
  obtain⟨o,e,c,d⟩:=st
  exact⟨o,e,fun v z=>by rw[d]at z;cases z⟩
 keep:=fun i h h' st k=>st.at fun o e=>k it (by simp) o e
 item:=by
  intro X hP hw hK hc i pins s σ H E I hf st hg
  subst hP hw hK
  obtain⟨hH,hi⟩:=hg
  obtain⟨h1,z,hds,xs,kt,o',es',ep',g1,g2,g3,g4,g5⟩:=(show B9 X.prog X.w H s.heap a (.frz o (.dT kvs)) from I.hok a _ hH)
  have eo:o'=o:=by rw[h1]at g1;injection g1 with g1;exact g1.symm
  subst eo
  have ee:es'=es/\ep'=ep:=by rw[hd]at g3;cases g3;exact⟨rfl,rfl⟩
  obtain⟨rfl,rfl⟩:=ee
  obtain⟨f0,f1,f2,f3,f4,f5⟩:=hf it (by simp)
  have W:=aF3 (prog:=X.prog) (w:=X.w) (A:=X.A) (I.ok.hd hc) it a hne es' ep'
  refine W.item i s _ _ (by omega) ⟨st,o',h1,hx,hd⟩ fun v h' tk hv st' kk=>?_
  obtain⟨en,he,rfl⟩:=hv
  have I1:Inv X pins σ H { s with heap:=h',toks:=tk }:=I.turned (fun b o hb e=>kk b o (by simpa using hb) e) f0 f1 f3 f4 f5
  obtain⟨ot,e,c,d⟩:=id st'.1
  obtain⟨kv,hkv⟩:∃ kv,kvs[i]?=some kv:=⟨_,c8 hi⟩
  obtain⟨q,hq,hr⟩:=R6 kt hkv
  rw[entry_at g4 i,hq]at he
  cases he
  exact⟨_,rfl,aS9 (s:={ s with heap:=h',toks:=tk }) e c d (by decide) ⟨.ref q.2.1,H,I1,rfl,⟨rfl,kv,q.2.1,hkv,rfl,hr.2.1⟩,st'.1,fun b hb=>(hf b hb).1⟩⟩
 done:=by
  intro X hP hw hK hc i pins s σ H E I hf st hg
  subst hP hw hK
  obtain⟨hH,hi⟩:=hg
  obtain⟨h1,z,hds,xs,kt,o',es',ep',g1,g2,g3,g4,g5⟩:=(show B9 X.prog X.w H s.heap a (.frz o (.dT kvs)) from I.hok a _ hH)
  have eo:o'=o:=by rw[h1]at g1;injection g1 with g1;exact g1.symm
  subst eo
  have ee:es'=es/\ep'=ep:=by rw[hd]at g3;cases g3;exact⟨rfl,rfl⟩
  obtain⟨rfl,rfl⟩:=ee
  obtain⟨f0,f1,f2,f3,f4,f5⟩:=hf it (by simp)
  have W:=aF3 (prog:=X.prog) (w:=X.w) (A:=X.A) (I.ok.hd hc) it a hne es' ep'
  have ei:i=es'.size:=by omega
  subst ei
  exact W.done s _ _ ⟨st,o',h1,hx,hd⟩ fun h' tk kk=>⟨rfl,I.turned (fun b o hb e=>kk b o (by simpa using hb) e) f0 f1 f3 f4 f5⟩
 self:=fun _ _ _ _ _ st h=>wpAny_pyIter_keyiter st h
section
variable {X:Cx}
def bM7 (tl:TE):TI:=fun σ H R=>tl σ H fun x H1=>∃ (a:Addr) (o:Obj) (kvs:List (List Key × V)),x=.ref a/\H1 a=some (.frz o (.dT kvs))/\R (Itd a o kvs) H1
theorem bL3 {tg l:Expr}{tl:TE}(hl:PE X l tl):PI X tg l (bM7 tl):=by
 intro pins s σ H R I h
 refine thn (hl pins s σ H _ I h) fun v s1 ⟨x,H1,I1,r1,a,o,kvs,ex,hH,q⟩=>?_
 subst ex
 cases r1
 obtain⟨h1,z,hds,xs,kt,o',es,ep,g1,g2,g3,g4,g5⟩:=(show B9 X.prog X.w H1 s1.heap a (.frz o (.dT kvs)) from I1.hok a _ hH)
 have eo:o'=o:=by rw[h1]at g1;injection g1 with g1;exact g1.symm
 subst eo
 have hes:es.size=kvs.length:=by rw[size_of_entries g4];exact(Paired.length kt).symm
 refine bd7 hds ⟨o',h1,g2,g3⟩ ?_
 refine⟨s1.heap.objs.size,[s1.heap.objs.size],_,_,H1,rfl,I1.kept (t':=s1.toks) fun b o e=>b9 _ e,bm9 a _ (i4 (c9 h1)) o' kvs es ep g2 g3 hes,⟨_,d6 _ rfl,rfl,rfl⟩,fun b hb=>?_,q⟩
 have e:b=s1.heap.objs.size:=by simpa using hb
 subst e
 exact I1.fpOk (c7 _) (I1.hok.fresh (c7 _))
end
theorem bu0 {a D:Addr}{o:Obj}{kvs:List (List Key × V)}{g:TG}{tt:TT}{te:TE}{Qd:Hp->Prop}{σ0:St}{H0:Hp}(Pv:Nat->List V->St->Hp->Prop)(h0:Pv 0 [] σ0 H0)(hz:kvs.length<=sizeLine)(hl:∀ i xs σ H,i<=kvs.length->Pv i xs σ H->H a=some (.frz o (.dT kvs))/\H D=some (.lst xs)/\xs.length<=i)
  (hs:∀ i xs kv p σ H (N:List V->St->Hp->Prop),(∀ xs' σ' H',Pv (i+1) xs' σ' H'->N xs' σ' H')->kvs[i]?=some kv->H p=some (.tup (kv.1.map kV))->Pv i xs σ H->g (.ref p) σ H fun σ2 H2=>tt σ2 H2 fun b H3=>if b=true then te σ2 H3 fun v H4=>H4 D=some (.lst xs)/\N (xs++[v]) σ2 (upd H4 D (.lst (xs++[v]))) else N xs σ2 H3)
  (hd:∀ xs σ H,Pv kvs.length xs σ H->Qd H) :
  ∃ W:Nat->Nat->List V->St->Hp->Prop,(∃ m,W 0 m [] σ0 H0)/\∀ i m xs σ' H',W i m xs σ' H'->H' D=some (.lst xs)/\(((Itd a o kvs).stop i H'/\Qd H')\/((Itd a o kvs).go i H'/\xs.length<sizeLine/\∀ x H'',(Itd a o kvs).yld i H' x H''->g x σ' H'' fun σ2 H2=>tt σ2 H2 fun b H3 =>
   if b=true then te σ2 H3 fun v H4=>H4 D=some (.lst xs)/\∃ m',m'<m/\W (i+1) m' (xs++[v]) σ2 (upd H4 D (.lst (xs++[v]))) else ∃ m',m'<m/\W (i+1) m' xs σ2 H3)):=by
 refine⟨fun i m xs σ H=>m=kvs.length - i/\i<=kvs.length/\Pv i xs σ H,⟨kvs.length,by simp,o8 _,h0⟩,?_⟩
 rintro i m xs σ H ⟨rfl,hi,p⟩
 obtain⟨q,hD,hx⟩:=hl i xs σ H hi p
 refine⟨hD,?_⟩
 by_cases hlt:i<kvs.length
 ·refine .inr ⟨⟨q,hlt⟩,by omega,fun x H'' y=>?_⟩
  obtain⟨e,kv,r,hkv,ex,hr⟩:=y
  subst e ex
  exact hs i xs kv r σ _ (fun zs σ' H'=>∃ m',m'<kvs.length - i/\m'=kvs.length - (i+1)/\i+1<=kvs.length/\Pv (i+1) zs σ' H') (fun zs σ' H' r=>⟨_,by omega,rfl,hlt,r⟩) hkv hr p
 ·have e:i=kvs.length:=by omega
  subst e
  exact .inl ⟨⟨q,rfl⟩,hd xs σ H p⟩
end L2
namespace Web
open PySem L2
theorem bi0 {K:W.Frag}{A:Around}{H:Hp}{Q:VK}{l:Addr}{es:List Int}{z:Int}(hun:A.units+64<cLine)(hl:SqL K H l (es.map V.int))(q:Q (.bl (decide (z∈es))) H):aM2 K A false (.int z) (.ref l) H Q:=by
 refine⟨l,_,.int z,es.map .int,rfl,.inl hl,Dt.mkInt,A5.ints es,by simp[PyData.canLay0],lay_ints es,aK7 hun (by simp[PyData.depth]),?_⟩
 rw[af6,if_neg f6]
 exact q
inductive Wz where
 | odd | below (z:Int) | wall (z:Int)
theorem bx3 (a b:Int):decide (V.int a=V.int b)=decide (a=b):=by
 by_cases h:a=b
 ·rw[h,decide_eq_true rfl,decide_eq_true rfl]
 ·rw[decide_eq_false h,decide_eq_false (fun z=>h (by injection z))]
end Web
namespace L2
open PySem PySem.Spec PyProof.Rows
section
variable {X:Cx}
end
theorem S0 {lo:Int}{n:Nat}{D:Addr}{g:TG}{tt:TT}{te:TE}{Qd:Hp->Prop}{σ0:St}{H0:Hp}(Pv:Nat->List V->St->Hp->Prop)(h0:Pv 0 [] σ0 H0)(hz:n<=sizeLine)(hl:∀ i xs σ H,i<=n->Pv i xs σ H->H D=some (.lst xs)/\xs.length<=i)
  (hs:∀ i xs σ H (N:List V->St->Hp->Prop),(∀ xs' σ' H',Pv (i+1) xs' σ' H'->N xs' σ' H')->i<n->Pv i xs σ H->g (.int (lo+i)) σ H fun σ2 H2=>tt σ2 H2 fun b H3=>if b=true then te σ2 H3 fun v H4=>H4 D=some (.lst xs)/\N (xs++[v]) σ2 (upd H4 D (.lst (xs++[v]))) else N xs σ2 H3)
  (hd:∀ xs σ H,Pv n xs σ H->Qd H) :
  ∃ W:Nat->Nat->List V->St->Hp->Prop,(∃ m,W 0 m [] σ0 H0)/\∀ i m xs σ' H',W i m xs σ' H'->H' D=some (.lst xs)/\(((Itr lo n).stop i H'/\Qd H')\/((Itr lo n).go i H'/\xs.length<sizeLine/\∀ x H'',(Itr lo n).yld i H' x H''->g x σ' H'' fun σ2 H2=>tt σ2 H2 fun b H3 =>
   if b=true then te σ2 H3 fun v H4=>H4 D=some (.lst xs)/\∃ m',m'<m/\W (i+1) m' (xs++[v]) σ2 (upd H4 D (.lst (xs++[v]))) else ∃ m',m'<m/\W (i+1) m' xs σ2 H3)):=by
 refine⟨fun i m xs σ H=>m=n - i/\i<=n/\Pv i xs σ H,⟨n,by simp,o8 _,h0⟩,?_⟩
 rintro i m xs σ H ⟨rfl,hi,p⟩
 obtain⟨hD,hx⟩:=hl i xs σ H hi p
 refine⟨hD,?_⟩
 by_cases hlt:i<n
 ·refine .inr ⟨hlt,by omega,fun x H'' y=>?_⟩
  obtain⟨e,y⟩:=y
  subst e y
  exact hs i xs σ _ (fun zs σ' H'=>∃ m',m'<n - i/\m'=n - (i+1)/\i+1<=n/\Pv (i+1) zs σ' H') (fun zs σ' H' r=>⟨_,by omega,rfl,hlt,r⟩) hlt p
 ·obtain rfl:i=n:=by omega
  exact .inl ⟨c7 _,hd xs σ H p⟩
end L2
namespace Web
open PySem L2
def top (i:Nat):Stmt:=PySem.Challenge.pw_tallyweb_k50_least_off_small_tallies.main.body.getD i (.Pass ⟨0,0,0,0⟩)
abbrev ap4:Stmt:=top 8
abbrev sUp:Stmt:=top 9
abbrev ae2:Stmt:=top 10
abbrev ab8:Stmt:=top 12
abbrev ap3:Stmt:=top 13
abbrev X2:Stmt:=top 15
abbrev P0:Stmt:=top 16
abbrev Z1:Stmt:=top 17
abbrev ak0:Stmt:=top 18
abbrev R4:Stmt:=top 19
abbrev V6:Stmt:=top 20
abbrev aj9:Stmt:=top 21
abbrev V7:Stmt:=top 23
abbrev ae3:Stmt:=top 24
abbrev ak2:Stmt:=top 25
abbrev aE9:Stmt:=top 26
abbrev Z0:Stmt:=top 28
abbrev aF0:Stmt:=top 29
abbrev T5:Stmt:=top 30
abbrev aE7:Stmt:=top 32
abbrev ak1:Stmt:=top 33
abbrev ak4:Stmt:=top 34
abbrev ak6:Stmt:=top 36
abbrev Z3:Stmt:=top 37
abbrev ak7:Stmt:=top 38
abbrev aE5:Stmt:=top 39
abbrev ak5:Stmt:=top 40
abbrev Y9:Stmt:=top 41
abbrev ak3:Stmt:=top 42
abbrev aE8:Stmt:=top 43
abbrev Z2:Stmt:=top 44
abbrev au5:Stmt:=top 45
structure Bn (mg:Str->Option Value):Prop where
 len:mg "len"=none
 range:mg "range"=none
 enum:mg "enumerate"=none
 list:mg "list"=none
 tuple:mg "tuple"=none
 sorted:mg "sorted"=none
 set:mg "set"=none
 isin:mg "isinstance"=none
 int:mg "int"=none
 bool:mg "bool"=none
 min:mg "min"=none
 max:mg "max"=none
 sum:mg "sum"=none
 str:mg "str"=none
 ve:mg "ValueError"=none
 all:mg "all"=none
 zip:mg "zip"=none
theorem G7:1000<=sizeLine:=by decide
theorem d9 {H:Hp}{l:Addr}{o:HO}(h:H l=none):p7 H (upd H l o):=fun b u e=>by
 rw[m5 (m8 e h)]
 exact e
section
variable {P:Program} {w:World} {K:W.Frag} {mg:Str->Option Value} {base:Heap}
def bv8:Sp:=fun vs H Q _=>∃ a b:Int,vs=[.int a,.int b]/\Q (.bl (decide (0<=b) && decide (b<a))) H
theorem bJ9:t8 ["places","number"] ["places","number"] (g6 ap4):=⟨rfl,rfl,rfl,by decide +kernel,rfl,by decide +kernel,by decide +kernel⟩
theorem bC3 {f:Addr}{fd:FuncData}(F:Fun K "is_place" "is_place" ap4 f fd):t9 P w K mg base CX0 1 f fd ["places","number"] bv8:=by
 refine F.ok bJ9 (fun vs H Q E h=>?_) (fun cdv A outer s H vs Q E hr h=>?_)
 ·obtain⟨a,b,rfl,_⟩:=h
  rfl
 ·obtain⟨a,b,rfl,k⟩:=h
  refine⟨_,m4 (A2 (be5 Z6 af0 i9 (pv 1) (pv 0))),?_⟩
  refine⟨_,rfl,_,_,rfl,rfl,_,rfl,?_⟩
  cases e:decide ((0:Int)<=b) with
  | true =>
   refine N2 ⟨_,rfl,_,_,rfl,rfl,?_⟩
   rw[e,Bool.true_and]at k
   exact k
  | false =>
   refine F8 ?_
   rw[e,Bool.false_and]at k
   exact k
def bJ3 (K:W.Frag):Sp:=fun vs H Q _=>∃ (n:Nat) (a:Addr) (k:List Int),vs=[.int n,.ref a]/\SqT K H a (k.map V.int)/\al7 n k /\
 ∀ p,H p=none->Q (.ref p) (upd H p (.tup ((up k).map V.int)))
theorem bP5:t8 ["places","tie"] ["places","tie"] (g6 sUp):=⟨rfl,rfl,rfl,by decide +kernel,rfl,by decide +kernel,by decide +kernel⟩
theorem bL5 {f fI:Addr} {fd fdI:FuncData} (F:Fun K "turned_up" "turned_up" sUp f fd) (B:Bn mg) (FI:Fun K "is_place" "is_place" ap4 fI fdI) (bI:Binds K fdI ["places","number"] []) (mI:mg "is_place"=some (.ref fI)) :
  t9 P w K mg base CX0 2 f fd ["places","tie"] (bJ3 K):=by
 have GI:t9 P w K mg base CX0 1 fI fdI ["places","number"] bv8:=bC3 FI
 refine F.ok bP5 (fun vs H Q E h=>?_) (fun cdv A outer s H vs Q E hr h=>?_)
 ·obtain⟨n,a,k,rfl,_⟩:=h
  rfl
 ·obtain⟨n,a,k,rfl,hS,⟨i,j,h1,h2,h3,rfl⟩,q⟩:=h
  refine⟨_,f9 (F9 (PW.pt (S5 (M9 (P3 (p6 GI hr rfl mI FI.kp bI .nil C9 (b8 (pv 0) (b8 (B6 B4 (pv 1) i9 (fun _ _=>rfl)) d4)))))
     (ai0 (M9 (P3 (p6 GI hr rfl mI FI.kp bI .nil C9 (b8 (pv 0) (b8 (B6 B4 (pv 1) i9 (fun _ _=>rfl)) d4)))))))) E2 B3)
   (f9 (F9 (y7 aw3 (B6 B4 (pv 1) i9 (fun _ _=>rfl)) (B6 B4 (pv 1) i9 (fun _ _=>rfl)) (B2 _)) E2 B3)
   (m4 (A2 (N0 (b8 (m3 (ab5 rfl) (by rfl) B.min (by rfl) (b8 (B6 B4 (pv 1) i9 (fun _ _ => rfl)) (b8 (B6 B4 (pv 1) i9 (fun _ _ => rfl)) d4)))
    (b8 (m3 (ay0 rfl) (by rfl) B.max (by rfl) (b8 (B6 B4 (pv 1) i9 (fun _ _=>rfl)) (b8 (B6 B4 (pv 1) i9 (fun _ _=>rfl)) d4))) d4)))))),?_⟩
  have a0:atI (([(i:Int),(j:Int)]:List Int).map V.int) 0=some (.int i):=C1 (j:=0) rfl
  have a1:atI (([(i:Int),(j:Int)]:List Int).map V.int) 1=some (.int j):=C1 (j:=1) rfl
  refine⟨_,rfl,_,rfl,a,_,_,_,rfl,rfl,hS,a0,_,_,rfl,?_⟩
  rw[decide_eq_true (show (0:Int)<=i by omega),decide_eq_true (show (i:Int)<n by omega)]
  refine⟨_,rfl,F8 ?_⟩
  refine⟨_,rfl,_,rfl,a,_,_,_,rfl,rfl,hS,a1,_,_,rfl,?_⟩
  rw[decide_eq_true (show (0:Int)<=j by omega),decide_eq_true (show (j:Int)<n by omega)]
  refine⟨_,rfl,F8 ?_⟩
  refine⟨_,rfl,a,_,_,_,rfl,rfl,hS,a0,_,rfl,a,_,_,_,rfl,rfl,hS,a1,rfl,_,rfl,?_⟩
  rw[decide_eq_false (show ¬ V.int (i:Int)=V.int (j:Int) by intro z;injection z;omega)]
  refine F8 ?_
  refine⟨_,rfl,a,_,_,_,rfl,rfl,hS,a0,_,rfl,a,_,_,_,rfl,rfl,hS,a1,_,_,rfl,?_⟩
  refine⟨_,rfl,a,_,_,_,rfl,rfl,hS,a0,_,rfl,a,_,_,_,rfl,rfl,hS,a1,_,_,rfl,(by show 2<=sizeLine;decide),fun p hp=>?_⟩
  exact q p hp
def bc2 (K:W.Frag):Sp:=fun vs H Q _=>∃ (a:Addr) (ns:List Int) (k:Nat),vs=[.ref a,.int k]/\SqL K H a (ns.map V.int)/\∀ r:Int,Q (.int r) H
theorem bA4:t8 ["script","k"] ["script","k"] (g6 ak6):=⟨rfl,rfl,rfl,by decide +kernel,rfl,by decide +kernel,by decide +kernel⟩
theorem br0 {f:Addr}{fd:FuncData}(F:Fun K "_law_cell_at" "_law_cell_at" ak6 f fd)(B:Bn mg):t9 P w K mg base CX0 1 f fd ["script","k"] (bc2 K):=by
 refine F.ok bA4 (fun vs H Q E h=>?_) (fun cdv A outer s H vs Q E hr h=>?_)
 ·obtain⟨a,ns,k,rfl,_⟩:=h
  rfl
 ·obtain⟨a,ns,k,rfl,hS,q⟩:=h
  refine⟨_,f9 (F9 (y7 af0 (pv 1) (m3 r6 (by rfl) B.len PySem.boot_len (b8 (pv 0) d4)) (B2 _)) (m4 (A2 (B6 O4 (pv 0) (pv 1) (fun _ _=>rfl)))) B3)
   (m4 (A2 i9)),?_⟩
  refine⟨_,rfl,_,rfl,a,_,rfl,.inl hS,_,_,rfl,rfl,_,rfl,?_⟩
  refine aX9 (fun h=>?_) (fun h=>?_)
  ·have hl:k<ns.length:=by
    have:=of_decide_eq_true h
    rw[b7]at this
    omega
   refine⟨_,rfl,_,rfl,a,_,_,_,rfl,rfl,hS,C1 (j:=k) (v:=.int ns[k]) (by simp[hl]),?_⟩
   exact q _
  ·exact q _
def O6 (ns:List Int):Prop:=1<=ns.length/\ns.length<=24
def Sq (K:W.Frag)(H:Hp)(a:Addr)(ns:List Int):Prop:=SqL K H a (ns.map V.int)\/SqT K H a (ns.map V.int)
theorem Sq.same {H H':Hp}{a:Addr}{ns:List Int}(h:Sq K H a ns)(s:p7 H H'):Sq K H' a ns:=h.elim (fun h=>.inl (s.seq h)) fun h=>.inr (s.seqT h)
def av6 (K:W.Frag)(CB:Addr):Sp:=fun vs H Q E=>∃ (a:Addr) (ns:List Int),vs=[.ref a]/\Sq K H a ns/\(O6 ns->Q .non H)/\(¬ O6 ns->E (.ref CB) none H)
theorem bK1:t8 ["tally"] ["tally"] (g6 ab8):=⟨rfl,rfl,rfl,by decide +kernel,rfl,by decide +kernel,by decide +kernel⟩
theorem aA4 {f CB:Addr}{fd:FuncData}{tk:Tok}(F:Fun K "check_tally" "check_tally" ab8 f fd)(B:Bn mg)(mM:mg "MOST_PLACES"=some (.int 24 tk))(mB:mg "BadTally"=some (.ref CB))(cB:aa2 K CB):t9 P w K mg base (CXE P w) 1 f fd ["tally"] (av6 K CB):=by
 refine F.okX bK1 (fun vs H Q E h=>?_) (fun cdv A outer s H vs Q E hr h=>?_)
 ·obtain⟨a,ns,rfl,_⟩:=h
  rfl
 ·obtain⟨a,ns,rfl,hS,h1,h2⟩:=h
  refine⟨_,m4 (F9 (M9 (ae6 Z6 Z6 i9 (m3 r6 (by rfl) B.len PySem.boot_len (b8 (pv 0) d4)) (aA3 (v:=.int 24) (by rfl) mM ⟨tk,rfl⟩))) (m4 (ap7 (by rfl) mB cB)) B3),?_⟩
  refine⟨_,rfl,a,_,rfl,hS,_,_,rfl,rfl,_,rfl,?_⟩
  rw[b7]
  by_cases hp:(1:Int)<=(ns.length:Int)
  ·rw[decide_eq_true hp]
   refine N2 ⟨_,_,rfl,rfl,_,rfl,?_⟩
   by_cases hp':(ns.length:Int)<=24
   ·rw[decide_eq_true hp']
    exact F8 (h1 ⟨by omega,by omega⟩)
   ·rw[decide_eq_false hp']
    exact N2 (h2 fun z=>hp' (by have:=z.2;omega))
  ·rw[decide_eq_false hp]
   exact F8 ⟨_,rfl,N2 (h2 fun z=>hp (by have:=z.1;omega))⟩
end
section
variable {P:Program} {w:World} {K:W.Frag} {mg:Str->Option Value} {base:Heap}
def bb6 (K:W.Frag):Sp:=fun vs H Q _=>∃ (n:Nat) (a:Addr) (ys:List V) (hs:List (List Int)),vs=[.int n,.ref a]/\1<=n/\n<=24/\(SqL K H a ys\/SqT K H a ys)/\x8 K H ys hs/\(∀ k∈hs,al7 n k)/\(hs.map up).Nodup/\hs.length<64 /\
 ∀ p t zs ks H',p7 H H'->H p=none->H t=none->H' p=some (.tup [.int n,.ref t])->H' t=some (.tup zs)->x8 K H' zs ks->ks.Perm (hs.map up)->ks.Pairwise (fun a b=>Tim.D0 b a=false)->Q (.ref p) H'
theorem aL9:t8 ["places","ties","ascending"] ["places","ties"] (g6 ae2):=⟨rfl,rfl,rfl,by decide +kernel,rfl,by decide +kernel,by decide +kernel⟩
theorem bq3 {f fI fU:Addr} {fd fdI fdU:FuncData} {tk:Tok} (F:Fun K "made" "made" ae2 f fd) (B:Bn mg) (FI:Fun K "is_place" "is_place" ap4 fI fdI) (bI:Binds K fdI ["places","number"] []) (mI:mg "is_place"=some (.ref fI))
  (FU:Fun K "turned_up" "turned_up" sUp fU fdU) (bU:Binds K fdU ["places","tie"] []) (mU:mg "turned_up"=some (.ref fU)) (mM:mg "MOST_PLACES"=some (.int 24 tk)) :
  t9 P w K mg base CX0 3 f fd ["places","ties"] (bb6 K):=by
 have GU:t9 P w K mg base CX0 2 fU fdU ["places","tie"] (bJ3 K):=bL5 FU B FI bI mI
 refine F.ok aL9 (fun vs H Q E h=>?_) (fun cdv A outer s H vs Q E hr h=>?_)
 ·obtain⟨n,a,ys,hs,rfl,_⟩:=h
  rfl
 ·obtain⟨n,a,ys,hs,rfl,n1,n2,hS,hT,hE,hN,hL,q⟩:=h
  have hu8:=bH0 (Nat.add_le_add_left (by decide:8<=64) _) hr.units
  have hyl:=hT.len
  have nd2:(["tie","places"]:List Str).Nodup:=by decide +kernel
  have step:∀ (D:Addr),H D=none->∀ (i:Nat) (xs:List V) (H':Hp) (x:V) (N:List V->Hp->Prop),p7 H H'->H' D=some (.lst xs)->x8 K H' xs ((hs.take i).map up)->ys[i]?=some x ->
    (∀ xs' H'',p7 H H''->H'' D=some (.lst xs')->x8 K H'' xs' ((hs.take (i+1)).map up)->N xs' H'') ->
    ∃ (m:Nat) (b:Addr) (k:List Int),[V.int n,x]=[.int m,.ref b]/\SqT K H' b (k.map V.int)/\al7 m k/\∀ p,H' p=none->(upd H' p (.tup ((up k).map V.int))) D=some (.lst xs)/\N (xs++[.ref p]) (upd (upd H' p (.tup ((up k).map V.int))) D (.lst (xs++[.ref p]))):=by
   intro D hD i xs H' x N s1 hd ht hx k
   obtain⟨b,kk,rfl,hk,hq⟩:=hT.get hx
   refine⟨n,b,kk,rfl,s1.seqT hq,hE kk (i6 hk),fun p hp=>?_⟩
   have npd:D≠p:=m8 hd hp
   have hd':(upd H' p (.tup ((up kk).map V.int))) D=some (.lst xs):=by rw[m5 npd];exact hd
   refine⟨hd',k _ _ ((s1.trans (d9 hp)).upd hD) c6 ?_⟩
   have e:(hs.take (i+1)).map up=(hs.take i).map up++[up kk]:=by
    rw[x9,hk,i5]
    rfl
   rw[e]
   refine x8.updL hd' (x8.append (p7.tups (d9 hp) ht) (x8.one (SqT.of c6)))
  rcases hS with hS | hS
  ·refine⟨_,f9 (F9 (M9 (ae6 Z6 Z6 i9 (pv 0) (aA3 (v:=.int 24) rfl mM ⟨_,rfl⟩))) E2 B3)
    (f9 (u6 (i := 2) aL9.nd rfl (Or.inl rfl) (m3 af8 (by rfl) B.sorted (by rfl) (b8
     (G0 (N' := ["tie", "places"]) (lk := [none, some 0]) rfl (W1 (pv 1)) (by rfl) rfl (by decide +kernel) (by exact ⟨rfl, trivial⟩) (by rfl) (by exact LkL.ok ⟨⟨rfl, Or.inl rfl, rfl, Or.inl rfl⟩, trivial⟩)
      (fun _ _ _=>u7 (i:=0) nd2 rfl (Or.inl rfl)) (fun _ _ _=>K4) (fun _ _ _=>p6 GU hr (by rfl) mU FU.kp bU .nil C9 (b8 (pv 1) (b8 (pv 0) d4)))) d4)))
    (f9 (F9 (y7 af0 (m3 call_len_set (by rfl) B.len PySem.boot_len (b8 (G4 (aJ2 rfl hu8) (by rfl) B.set (by rfl) (b8 (pv 2) d4)) d4)) (m3 r6 (by rfl) B.len PySem.boot_len (b8 (pv 2) d4)) (B2 _)) E2 B3)
    (m4 (A2 (N0 (b8 (pv 0) (b8 (G4 E6 (by rfl) B.tuple (by rfl) (b8 (pv 2) d4)) d4))))))),?_⟩
   refine⟨_,rfl,_,_,rfl,rfl,_,rfl,?_⟩
   rw[decide_eq_true (show (1:Int)<=n by omega)]
   refine N2 ⟨_,_,rfl,rfl,_,rfl,?_⟩
   rw[decide_eq_true (show (n:Int)<=24 by omega)]
   refine F8 ?_
   refine⟨_,rfl,a,rfl,⟨_,hS⟩,fun D hD=>O1 (K:=K) (a:=a) (D:=D) (ys:=ys) (fun i xs σ' H'=>∃ v,σ'=[v,some (.int n)]/\p7 H H'/\H' D=some (.lst xs)/\x8 K H' xs ((hs.take i).map up)) ⟨none,rfl,d9 hD,c6,.nil⟩ (by have:=G7;omega)
    (fun i xs σ' H' hi ⟨_,_,s1,h1,h2⟩=>⟨s1.seq hS,h1,by have:=h2.len;simp at this;omega⟩) ?_ ?_⟩
   ·rintro i xs x σ' H' N kN hx ⟨v,rfl,s1,h1,h2⟩
    refine u0 ?_
    refine F1 ?_
    refine⟨_,rfl,_,rfl,?_⟩
    exact step D hD i xs H' x (fun xs' H''=>N xs' _ H'') s1 h1 h2 hx fun xs' H'' a1 a2 a3=>kN _ _ _ ⟨_,rfl,a1,a2,a3⟩
   ·rintro xs σ' H1 ⟨v,rfl,s1,h1,h2⟩
    rw[j0 (by omega)]at h2
    have hup:∀ k∈hs.map up,Up n k:=fun k hk=>by
     obtain⟨k0,h0,rfl⟩:=l5.mp hk
     exact(hE k0 h0).up
    refine⟨D,xs,_,rfl,SqL.of h1,h2,(fun k hk z=>by have:=(hup k hk).len;rw[z]at this;cases this),(by rw[b7];omega),fun l zs ks hl pk hs1 ht1=>?_⟩
    have hkl:ks.length=hs.length:=by rw[pk.length_eq,b7]
    have hzl:=ht1.len
    have s2:p7 H (upd H1 l (.lst zs)):=s1.trans (d9 hl)
    refine⟨_,rfl,l,zs,ks,rfl,SqL.of c6,ht1,(fun k hk=>(hup k (pk.mem_iff.mp hk)).key n2),by omega,fun S hSn=>?_⟩
    have hlS:l≠S:=m8 c6 hSn
    have s3:=s2.trans (d9 (o:=aO6 P w S (ks.foldl Sett.Q5 []).length) hSn)
    have l3:(upd (upd H1 l (.lst zs)) S (aO6 P w S (ks.foldl Sett.Q5 []).length)) l=some (.lst zs):=by rw[m5 hlS,c6]
    refine⟨S,_,rfl,c6,_,rfl,l,zs,rfl,.inl (SqL.of l3),_,_,rfl,rfl,_,rfl,?_⟩
    have hfold:(ks.foldl Sett.Q5 []).length=zs.length:=by
     have:=(Sett.ai9 ks []).mpr ⟨(pk.nodup_iff).mpr hN,fun x _=>by simp⟩
     simp at this
     omega
    rw[hfold,decide_eq_false (by omega)]
    refine F8 ?_
    refine⟨_,rfl,_,rfl,l,zs,rfl,.inl ⟨SqL.of (by rw[hfold]at l3;exact l3),fun t ht=>⟨(by show 2<=sizeLine;decide),fun p hp=>?_⟩⟩⟩
    rw[hfold]at s3
    have s4:=(s3.trans (d9 (o:=.tup zs) ht)).trans (d9 (o:=.tup [.int n,.ref t]) hp)
    refine q p t zs ks _ s4 ((s3.trans (d9 ht)).free hp) (s3.free ht) c6 ?_ ?_ pk hs1
    ·rw[m5 (m8 c6 hp),c6]
    ·exact p7.tups (((d9 hSn).trans (d9 ht)).trans (d9 hp)) ht1
  ·refine⟨_,f9 (F9 (M9 (ae6 Z6 Z6 i9 (pv 0) (aA3 (v:=.int 24) rfl mM ⟨_,rfl⟩))) E2 B3)
    (f9 (u6 (i := 2) aL9.nd rfl (Or.inl rfl) (m3 af8 (by rfl) B.sorted (by rfl) (b8
     (G0 (N' := ["tie", "places"]) (lk := [none, some 0]) rfl (aM4 (pv 1)) (by rfl) rfl (by decide +kernel) (by exact ⟨rfl, trivial⟩) (by rfl) (by exact LkL.ok ⟨⟨rfl, Or.inl rfl, rfl, Or.inl rfl⟩, trivial⟩)
      (fun _ _ _=>u7 (i:=0) nd2 rfl (Or.inl rfl)) (fun _ _ _=>K4) (fun _ _ _=>p6 GU hr (by rfl) mU FU.kp bU .nil C9 (b8 (pv 1) (b8 (pv 0) d4)))) d4)))
    (f9 (F9 (y7 af0 (m3 call_len_set (by rfl) B.len PySem.boot_len (b8 (G4 (aJ2 rfl hu8) (by rfl) B.set (by rfl) (b8 (pv 2) d4)) d4)) (m3 r6 (by rfl) B.len PySem.boot_len (b8 (pv 2) d4)) (B2 _)) E2 B3)
    (m4 (A2 (N0 (b8 (pv 0) (b8 (G4 E6 (by rfl) B.tuple (by rfl) (b8 (pv 2) d4)) d4))))))),?_⟩
   refine⟨_,rfl,_,_,rfl,rfl,_,rfl,?_⟩
   rw[decide_eq_true (show (1:Int)<=n by omega)]
   refine N2 ⟨_,_,rfl,rfl,_,rfl,?_⟩
   rw[decide_eq_true (show (n:Int)<=24 by omega)]
   refine F8 ?_
   refine⟨_,rfl,a,rfl,⟨_,hS⟩,fun D hD=>aI8 (K:=K) (a:=a) (D:=D) (ys:=ys) (fun i xs σ' H'=>∃ v,σ'=[v,some (.int n)]/\p7 H H'/\H' D=some (.lst xs)/\x8 K H' xs ((hs.take i).map up)) ⟨none,rfl,d9 hD,c6,.nil⟩ (by have:=G7;omega)
    (fun i xs σ' H' hi ⟨_,_,s1,h1,h2⟩=>⟨s1.seqT hS,h1,by have:=h2.len;simp at this;omega⟩) ?_ ?_⟩
   ·rintro i xs x σ' H' N kN hx ⟨v,rfl,s1,h1,h2⟩
    refine u0 ?_
    refine F1 ?_
    refine⟨_,rfl,_,rfl,?_⟩
    exact step D hD i xs H' x (fun xs' H''=>N xs' _ H'') s1 h1 h2 hx fun xs' H'' a1 a2 a3=>kN _ _ _ ⟨_,rfl,a1,a2,a3⟩
   ·rintro xs σ' H1 ⟨v,rfl,s1,h1,h2⟩
    rw[j0 (by omega)]at h2
    have hup:∀ k∈hs.map up,Up n k:=fun k hk=>by
     obtain⟨k0,h0,rfl⟩:=l5.mp hk
     exact(hE k0 h0).up
    refine⟨D,xs,_,rfl,SqL.of h1,h2,(fun k hk z=>by have:=(hup k hk).len;rw[z]at this;cases this),(by rw[b7];omega),fun l zs ks hl pk hs1 ht1=>?_⟩
    have hkl:ks.length=hs.length:=by rw[pk.length_eq,b7]
    have hzl:=ht1.len
    have s2:p7 H (upd H1 l (.lst zs)):=s1.trans (d9 hl)
    refine⟨_,rfl,l,zs,ks,rfl,SqL.of c6,ht1,(fun k hk=>(hup k (pk.mem_iff.mp hk)).key n2),by omega,fun S hSn=>?_⟩
    have hlS:l≠S:=m8 c6 hSn
    have s3:=s2.trans (d9 (o:=aO6 P w S (ks.foldl Sett.Q5 []).length) hSn)
    have l3:(upd (upd H1 l (.lst zs)) S (aO6 P w S (ks.foldl Sett.Q5 []).length)) l=some (.lst zs):=by rw[m5 hlS,c6]
    refine⟨S,_,rfl,c6,_,rfl,l,zs,rfl,.inl (SqL.of l3),_,_,rfl,rfl,_,rfl,?_⟩
    have hfold:(ks.foldl Sett.Q5 []).length=zs.length:=by
     have:=(Sett.ai9 ks []).mpr ⟨(pk.nodup_iff).mpr hN,fun x _=>by simp⟩
     simp at this
     omega
    rw[hfold,decide_eq_false (by omega)]
    refine F8 ?_
    refine⟨_,rfl,_,rfl,l,zs,rfl,.inl ⟨SqL.of (by rw[hfold]at l3;exact l3),fun t ht=>⟨(by show 2<=sizeLine;decide),fun p hp=>?_⟩⟩⟩
    rw[hfold]at s3
    have s4:=(s3.trans (d9 (o:=.tup zs) ht)).trans (d9 (o:=.tup [.int n,.ref t]) hp)
    refine q p t zs ks _ s4 ((s3.trans (d9 ht)).free hp) (s3.free ht) c6 ?_ ?_ pk hs1
    ·rw[m5 (m8 c6 hp),c6]
    ·exact p7.tups (((d9 hSn).trans (d9 ht)).trans (d9 hp)) ht1
end
def bL9 (st:Stmt):Pos:=match (p8 st).getD 1 (.Pass ⟨0,0,0,0⟩) with
 | .Return (some (.Call _ _ [⟨_,.Lambda _ _ _ p,_⟩] _)) _=>p
 | _=>⟨0,0,0,0⟩
def bQ2:Str:=(("order_of":Str)++(".<locals>.":Str))++("<lambda>":Str)
abbrev Tb (P:Addr)(H:Hp):Prop:=K8 P (bL9 ap3) bQ2 H
theorem L7.sqL {K:W.Frag}{P a:Addr}{H H':Hp}{xs:List V}{po:Pos}{qu:Str}(g:L7 P H H')(t:K8 P po qu H)(h:SqL K H a xs):SqL K H' a xs:=by
 obtain⟨ps,hP,_⟩:=t
 rcases h with(h | ⟨o,h⟩) | h
 ·exact .inl (.inl (g a _ (fun z=>by rw[z,hP]at h;cases h) h))
 ·exact .inl (.inr ⟨o,g a _ (fun z=>by rw[z,hP]at h;cases h) h⟩)
 ·exact .inr h
theorem L7.sqT {K:W.Frag}{P a:Addr}{H H':Hp}{xs:List V}{po:Pos}{qu:Str}(g:L7 P H H')(t:K8 P po qu H)(h:SqT K H a xs):SqT K H' a xs:=by
 obtain⟨ps,hP,_⟩:=t
 rcases h with(h | ⟨o,h⟩) | h
 ·exact .inl (.inl (g a _ (fun z=>by rw[z,hP]at h;cases h) h))
 ·exact .inl (.inr ⟨o,g a _ (fun z=>by rw[z,hP]at h;cases h) h⟩)
 ·exact .inr h
theorem Sq.grow {K:W.Frag}{P a:Addr}{H H':Hp}{ns:List Int}{po:Pos}{qu:Str}(h:Sq K H a ns)(g:L7 P H H')(t:K8 P po qu H):Sq K H' a ns:=h.elim (fun h=>.inl (L7.sqL g t h)) fun h=>.inr (L7.sqT g t h)
theorem ay8.one {X:Cx}{x:Str}{j:Nat}{scope:Scope}{cl:List (Str × Addr)}(h:X.N[j]?=some x/\(X.env.scope.names.lookup x=some .cell\/X.env.scope.names.lookup x=some .free)/\(cl.lookup x).isSome=true/\(scope.names.lookup x=some .cell\/scope.names.lookup x=some .free)) :
  ay8 X [x] [some j] scope cl:=⟨rfl,fun i j' y e1 e2=>by
 cases i with
 | zero =>
  have e1':x=y:=by simpa using e1
  have e2':j=j':=by simpa using e2
  subst e1' e2'
  exact h
 | succ i=>simp at e1⟩
theorem bA9 {X:Cx}{a b:Expr}{pos:Pos}{ta tb:TE}(K:W.Frag)(hK:X.K=K)(ha:PE X a ta)(hb:PE X b tb)(hs:aC3 b):PE X (.Subscript a b pos) (tOp (rIx K) ta tb):=by
 cases hK
 exact B6 bh7 ha hb hs
section
variable {P:Program} {w:World} {K:W.Frag} {mg:Str->Option Value} {base:Heap}
def bv7 (K:W.Frag)(CB PT:Addr):Sp:=fun vs H Q E=>∃ (a:Addr) (ns:List Int),vs=[.ref a]/\Sq K H a ns /\
 (O6 ns->Tb PT H/\∀ (zs:List Int) (D:Addr) (H':Hp),L7 PT H H'->Tb PT H'->H' D=some (.lst (zs.map V.int))->zs.Perm (rng ns.length)->zs.Pairwise (ole ns)->Q (.ref D) H')/\(¬ O6 ns->E (.ref CB) none H)
theorem bJ8:t8 ["tally"] ["tally"] (g6 ap3):=⟨rfl,rfl,rfl,by decide +kernel,rfl,by decide +kernel,by decide +kernel⟩
theorem bC1 {f fT CB c PT:Addr} {fd fdT:FuncData} {tk:Tok} (F:Fun K "order_of" "order_of" ap3 f fd) (hc:fd.code=.ref c) (LB:ag5 base mg c PT) (B:Bn mg) (FT:Fun K "check_tally" "check_tally" ab8 fT fdT) (bT:Binds K fdT ["tally"] []) (mT:mg "check_tally"=some (.ref fT))
  (mM:mg "MOST_PLACES"=some (.int 24 tk)) (mB:mg "BadTally"=some (.ref CB)) (cB:aa2 K CB):t9 P w K mg base (CXE P w) 2 f fd ["tally"] (bv7 K CB PT):=by
 have GT:t9 P w K mg base (CXE P w) 1 fT fdT ["tally"] (av6 K CB):=aA4 FT B mM mB cB
 refine F.okXC hc bJ8 (fun vs H Q E h=>?_) (fun A outer s H vs Q E hr h=>?_)
 ·obtain⟨a,ns,rfl,_⟩:=h
  rfl
 ·obtain⟨a,ns,rfl,hS,h1,h2⟩:=h
  have hsl:=G7
  refine⟨_,f9 (Q3 (p6 GT hr (by rfl) mT FT.kp bT .nil al0 (b8 (pv 0) d4)))
   (m4 (A2 (aW1 (p := "place") (N' := ["tally"]) (lk := [some 0]) rfl hr.depth (by rfl) B.sorted (b8 (bp0 (by rfl) B.range (b8 (m3 r6 (by rfl) B.len PySem.boot_len (b8 (pv 0) d4)) d4)) d4)
    LB rfl (by rfl) (by rfl) rfl rfl rfl (by exact⟨rfl,trivial⟩) (by rfl) (by exact ay8.one ⟨rfl,Or.inl rfl,rfl,Or.inr rfl⟩) rfl (fun _ _ _ _=>rfl)
    (fun _ _ _ _=>N0 (b8 (aR4 az2 (bA9 K rfl (pv 1) (pv 0) (fun _ _=>rfl))) (b8 (pv 0) d4)))))),?_⟩
  refine⟨_,rfl,a,ns,rfl,hS,fun ht=>?_,h2⟩
  obtain⟨tb,q⟩:=h1 ht
  refine⟨_,rfl,a,_,rfl,hS,(ns.map V.int).length,rfl,by rw[b7];have:=ht.2;omega,fun r hr0=>?_⟩
  have s0:=d9 (o:=.rng 0 ((ns.map V.int).length:Int)) hr0
  have tb1:Tb PT (upd H r (.rng 0 ((ns.map V.int).length:Int))):=tb.same s0
  refine⟨r,(ns.map V.int).length,aW4 ns,rfl,c6,by rw[b7];have:=ht.2;omega,bp9 ns,tb1,fun H2 g2 tb2=>⟨fun H3 z sm hz=>?_,fun H' D zs sm hD hp hs=>?_⟩⟩
  ·have hS3:Sq K H3 a ns:=((hS.same s0).grow g2 tb1).same sm
   rw[b7]at hz
   have hat:atI (ns.map V.int) (z:Int)=some (.int (ns.getD z 0)):=C1 (j:=z) (by simp[hz])
   have fin:∀ k,H3 k=none->(∃ k',(V.ref k:V)=.ref k'/\(upd H3 k (.tup [.int (-(ns.getD z 0)),.int z])) k'=some (.tup ((aW4 ns z).map V.int))/\p7 H3 (upd H3 k (.tup [.int (-(ns.getD z 0)),.int z]))):=fun k hk=>⟨k,rfl,c6,d9 hk⟩
   rcases hS3 with h3 | h3
   ·exact⟨_,rfl,_,rfl,.inl ⟨a,_,_,_,rfl,rfl,h3,hat,_,rfl,_,rfl,(by show 2<=sizeLine;decide),fin⟩⟩
   ·exact⟨_,rfl,_,rfl,.inr (.inl ⟨a,_,_,_,rfl,rfl,h3,hat,_,rfl,_,rfl,(by show 2<=sizeLine;decide),fin⟩)⟩
  ·have sD:=d9 (o:=.lst (zs.map V.int)) hD
   rw[b7]at hp
   exact q zs D _ (((s0.grow PT).trans g2).trans ((sm.trans sD).grow PT)) (tb2.same (sm.trans sD)) c6 hp hs
end
theorem ac5 (ns:List Int)(k:Nat):aj1 (ns.map V.int) (some (k:Int)) none=(ns.drop k).map V.int:=by rw[aY9,at6]
theorem Z9 (ns:List Int)(k:Nat):aj1 (ns.map V.int) none (some (k:Int))=(ns.take k).map V.int:=by rw[bt9,at7]
theorem J0 {ns:List Int}{i:Nat}{x:V}(h:(ns.map V.int)[i]?=some x):∃ z:Int,ns[i]?=some z/\x=V.int z:=by
 rw[l4]at h
 cases e:ns[i]? with
 | none=>rw[e]at h;cases h
 | some z=>rw[e]at h;cases h;exact⟨z,rfl,rfl⟩
theorem aC0 {ns:List Int}{j:Nat}(h:j<ns.length):atI (ns.map V.int) (j:Int)=some (.int (ns.getD j 0)):=C1 (j:=j) (by simp[h])
theorem aH6 {K:W.Frag}{H:Hp}{a:Addr}{ns:List Int}{j:Nat}{Q:VK}(h:Sq K H a ns)(hj:j<ns.length)(q:Q (.int (ns.getD j 0)) H):rIx K (.ref a) (.int j) H Q:=
 h.elim (fun h=>.inl ⟨a,_,_,_,rfl,rfl,h,aC0 hj,q⟩) fun h=>.inr (.inl ⟨a,_,_,_,rfl,rfl,h,aC0 hj,q⟩)
theorem ak9 {P:Program}{w:World}{X:Cx}:at4 (CXE P w) X E0:=fun _ _ _ _ _ _ _ h=>by
 obtain⟨_,_,_,_,_,_,_,_,_,_,_,hE⟩:=h
 exact hE.elim
theorem aS0 (z:Int):(PyData.int z).canLay0=true:=by simp[PyData.canLay0]
theorem aT9 (z:Int):(PyData.int z).depth<=8:=by simp[PyData.depth]
theorem bs9 {K:W.Frag}{A:Around}{H:Hp}{Q:VK}{l:Addr}{es:List Int}{z:Int}(hun:A.units+64<cLine)(hl:SqL K H l (es.map V.int))(q:Q (.bl (decide (z∈es))) H):aM2 K A false (.int z) (.ref l) H Q:=by
 refine⟨l,_,.int z,es.map .int,rfl,.inl hl,Dt.mkInt,A5.ints es,aS0 z,lay_ints es,aK7 hun (p5 (aT9 z) (by decide)),?_⟩
 rw[af6,if_neg f6]
 exact q
theorem aM9 {K:W.Frag}{A:Around}{H:Hp}{Q:VK}{l:Addr}{es:List Int}{z:Int}(hun:A.units+64<cLine)(hl:SqL K H l (es.map V.int))(q:Q (.bl (!decide (z∈es))) H):aM2 K A true (.int z) (.ref l) H Q:=by
 refine⟨l,_,.int z,es.map .int,rfl,.inl hl,Dt.mkInt,A5.ints es,aS0 z,lay_ints es,aK7 hun (p5 (aT9 z) (by decide)),?_⟩
 rw[af6,if_pos rfl]
 exact q
def P8 (ps zs:List Int):List Int:=zs.filter fun x=>!decide (x∈ps)
theorem aw1 (p:Int)(zs:List Int):P8 [p] zs=rest zs p:=by
 unfold P8 rest
 congr 1
 funext x
 by_cases h:x=p<;>simp[h]
theorem ax4 {PT l:Addr}{H H':Hp}{po:Pos}{qu:Str}(g:L7 PT H H')(t:K8 PT po qu H')(h:H' l=none):H l=none:=by
 cases e:H l with
 | none=>rfl
 | some o =>
  by_cases z:l=PT
  ·obtain⟨ps,hP,_⟩:=t
   rw[z,hP]at h
   cases h
  ·rw[g l o z e]at h
   cases h
section
variable {P:Program} {w:World} {K:W.Frag} {mg:Str->Option Value} {base:Heap}
def az3 (K:W.Frag)(PT:Addr):Sp:=fun vs H Q _=>∃ (a pa:Addr) (ns ps:List Int) (k:Nat),vs=[.ref a,.int k,.ref pa]/\Sq K H a ns/\O6 ns/\SqL K H pa (ps.map V.int)/\Tb PT H /\
 ∀ (zs:List Int) (D:Addr) (H':Hp),L7 PT H H'->Tb PT H'->H D=none->zs.Perm (rng ns.length)->zs.Pairwise (ole ns)->H' D=some (.lst (((P8 ps zs).take k).map V.int))->Q (.ref D) H'
theorem bo0:t8 ["tally","many","passed_over"] ["tally","many","passed_over"] (g6 V7):=⟨rfl,rfl,rfl,by decide +kernel,rfl,by decide +kernel,by decide +kernel⟩
theorem aG1 {f fO fT CB c PT:Addr} {fd fdO fdT:FuncData} {tk:Tok} (F:Fun K "first_of_order" "first_of_order" V7 f fd) (B:Bn mg) (FO:Fun K "order_of" "order_of" ap3 fO fdO) (bO:Binds K fdO ["tally"] []) (mO:mg "order_of"=some (.ref fO)) (hc:fdO.code=.ref c) (LB:ag5 base mg c PT)
  (FT:Fun K "check_tally" "check_tally" ab8 fT fdT) (bT:Binds K fdT ["tally"] []) (mT:mg "check_tally"=some (.ref fT)) (mM:mg "MOST_PLACES"=some (.int 24 tk)) (mB:mg "BadTally"=some (.ref CB)) (cB:aa2 K CB):t9 P w K mg base (CXE P w) 3 f fd ["tally","many","passed_over"] (az3 K PT):=by
 have GO:t9 P w K mg base (CXE P w) 2 fO fdO ["tally"] (bv7 K CB PT):=bC1 FO hc LB B FT bT mT mM mB cB
 refine F.okX bo0 (fun vs H Q E h=>?_) (fun cdv A outer s H vs Q E hr h=>?_)
 ·obtain⟨a,pa,ns,ps,k,rfl,_⟩:=h
  rfl
 ·obtain⟨a,pa,ns,ps,k,rfl,hS,ht,hpa,tb,q⟩:=h
  have hsl:=G7
  have hun:=hr.units
  have t2:=ht.2
  have nd2:(["place","passed_over"]:List Str).Nodup:=by decide +kernel
  refine⟨_,m4 (A2 (U5 aa7 (G0 (N':=["place","passed_over"]) (lk:=[none,some 2]) rfl (W1 (p6 GO hr (by rfl) mO FO.kp bO .nil (ak9 (P:=P) (w:=w)) (b8 (pv 0) d4))) (by rfl) rfl (by decide +kernel) (by exact⟨rfl,trivial⟩) (by rfl) (by exact LkL.ok ⟨⟨rfl,Or.inl rfl,rfl,Or.inl rfl⟩,trivial⟩)
   (fun _ _ _=>u7 (i:=0) nd2 rfl (Or.inl rfl)) (fun _ _ _=>aa9 (y7 (aM8 K hr.around rfl rfl) (pv 0) (pv 1) (by rfl))) (fun _ _ _=>pv 0)) ae7 (W0 (pv 1)))),?_⟩
  refine⟨_,rfl,a,ns,rfl,hS,fun _=>⟨tb,fun zs D1 H1 g1 tb1 gD hp hs=>⟨D1,rfl,⟨_,SqL.of gD⟩,fun D hD=>?_⟩⟩,fun h=>absurd ht h⟩
  have hzl:zs.length=ns.length:=by rw[hp.length_eq,S4]
  have hpa1:=L7.sqL g1 tb hpa
  refine O1 (K:=K) (a:=D1) (D:=D) (ys:=zs.map V.int) (fun i xs σ' H'=>(∃ v,σ'=[v,some (.ref pa)])/\p7 H1 H'/\H' D=some (.lst xs)/\xs=(P8 ps (zs.take i)).map V.int) ⟨⟨none,rfl⟩,d9 hD,c6,rfl⟩ (by rw[b7];omega)
   (fun i xs σ' H' hi ⟨_, s6, h6, e6⟩ => ⟨SqL.of (s6 _ _ gD), h6, by
    rw[e6,b7]
    have:=C8 (fun x=>!decide (x∈ps)) (zs.take i)
    rw[q8]at this
    unfold P8
    omega⟩) ?_ ?_
  ·rintro i xs x σ' H' N kN hx ⟨⟨v,rfl⟩,s6,h6,rfl⟩
   obtain⟨z,hz,rfl⟩:=J0 hx
   refine u0 ?_
   refine⟨_,rfl,_,rfl,aM9 hun (s6.seq hpa1) ⟨_,rfl,?_⟩⟩
   have et:P8 ps (zs.take (i+1))=P8 ps (zs.take i)++P8 ps [z]:=by
    unfold P8
    rw[x9,hz,am5,F7]
   by_cases hm:z∈ps
   ·rw[decide_eq_true hm]
    refine F8 ?_
    refine kN _ _ _ ⟨⟨_,rfl⟩,s6,h6,?_⟩
    have e0:P8 ps [z]=[]:=by unfold P8;rw[ac2 (by rw[decide_eq_true hm];decide)];rfl
    rw[et,e0,A6]
   ·rw[decide_eq_false hm]
    refine N2 ?_
    refine⟨_,rfl,h6,kN _ _ _ ⟨⟨_,rfl⟩,s6.upd hD,c6,?_⟩⟩
    have e0:P8 ps [z]=[z]:=by unfold P8;rw[ac1 (by rw[decide_eq_false hm];decide)];rfl
    rw[et,e0,i5]
    rfl
  ·rintro xs σ' H3 ⟨⟨v,rfl⟩,s6,h6,rfl⟩
   rw[j0 (by rw[b7];exact c7 _)]at h6
   refine⟨_,rfl,_,rfl,D,_,rfl,SqL.of h6,fun l hl=>?_⟩
   rw[Z9]
   have s7:=s6.trans (d9 (o:=.lst (((P8 ps zs).take k).map V.int)) hl)
   exact q zs l _ (g1.trans (s7.grow PT)) (tb1.same s7) (ax4 (g1.trans (s6.grow PT)) (tb1.same s6) hl) hp hs c6
def bb7 (K:W.Frag):Sp:=fun vs H Q _=>∃ (a ea:Addr) (ns es:List Int) (p:Nat),vs=[.ref a,.int p,.ref ea]/\Sq K H a ns/\ns.length<=24/\SqL K H ea (es.map V.int) /\
 ∀ (l:Addr) (H':Hp),p7 H H'->H l=none->H' l=some (.lst ((N7 ns p es).map V.int))->Q (.ref l) H'
theorem bc8:t8 ["tally","place","ends","others"] ["tally","place","ends"] (g6 ae3):=⟨rfl,rfl,rfl,by decide +kernel,rfl,by decide +kernel,by decide +kernel⟩
theorem bh6 {n p:Nat}{z:Int}(h:z∈F3 n p):∃ j:Nat,z=(j:Int)/\j<n:=by
 obtain⟨j,hj,rfl⟩:=l5.mp h
 exact⟨j,rfl,p0.mp (C6.mp hj).1⟩
theorem aX8 (ns es:List Int)(p:Nat):(F3 ns.length p).map (fun z=>S6 ns es z.toNat)=N7 ns p es:=by
 unfold F3 N7
 rw[F5]
 refine J2 fun j _=>?_
 show S6 ns es (j:Int).toNat=_
 rw[i8]
set_option maxHeartbeats 1000000 in
theorem bq4 {f:Addr} {fd:FuncData} (F:Fun K "left_of_others" "left_of_others" ae3 f fd) (B:Bn mg):t9 P w K mg base CX0 1 f fd ["tally","place","ends"] (bb7 K):=by
 refine F.ok bc8 (fun vs H Q E h=>?_) (fun cdv A outer s H vs Q E hr h=>?_)
 ·obtain⟨a,ea,ns,es,p,rfl,_⟩:=h
  rfl
 ·obtain⟨a,ea,ns,es,p,rfl,hS,hn,hea,q⟩:=h
  have hsl:=G7
  have hun:=hr.units
  have nd2:(["one","place"]:List Str).Nodup:=by decide +kernel
  have nd3:(["one","tally","ends"]:List Str).Nodup:=by decide +kernel
  refine⟨_,f9 (an0 (i:=3) bc8.nd rfl rfl (by rfl) (N':=["one","place"]) (lk:=[none,some 1]) rfl (K6 rfl B.range (b8 (m3 r6 (by rfl) B.len PySem.boot_len (b8 (pv 0) d4)) d4)) (by rfl) rfl (by decide +kernel) (by exact⟨rfl,trivial⟩) (by rfl) (by exact LkL.ok ⟨⟨rfl,Or.inl rfl,rfl,Or.inl rfl⟩,trivial⟩)
     (fun _ _ _=>u7 (i:=0) nd2 rfl (Or.inl rfl)) (fun _ _ _=>aa9 (y7 al4 (pv 0) (pv 1) (B2 _))) (fun _ _ _=>pv 0))
   (m4 (A2 (G0 (N':=["one","tally","ends"]) (lk:=[none,some 0,some 2]) rfl (W1 (pv 3)) (by rfl) rfl (by decide +kernel) (by exact⟨rfl,rfl,trivial⟩) (by rfl) (by exact LkL.ok ⟨⟨rfl,Or.inl rfl,rfl,Or.inl rfl⟩,⟨rfl,Or.inl rfl,rfl,Or.inl rfl⟩,trivial⟩)
     (fun _ _ _=>u7 (i:=0) nd3 rfl (Or.inl rfl)) (fun _ _ _=>K4) (fun _ _ _=>aF9 (y7 (aR8 K hr.around rfl rfl) (pv 0) (pv 2) (by rfl)) (v8 R7 (W4 K rfl (pv 1) (pv 0) (fun _ _=>rfl)) i9) (W4 K rfl (pv 1) (pv 0) (fun _ _=>rfl)))))),?_⟩
  refine⟨_,rfl,a,_,rfl,hS,(ns.length:Int),congrArg (fun z:Nat=>[V.int (z:Int)]) (b7 ..),by omega,by omega,fun D hD=>?_⟩
  rw[i8]
  refine S0 (lo:=0) (n:=ns.length) (D:=D) (fun i xs σ' H'=>(∃ v,σ'=[v,some (.int p)])/\p7 H H'/\H' D=some (.lst xs)/\xs=(F3 i p).map V.int) ⟨⟨none,rfl⟩,d9 hD,c6,rfl⟩ (by omega)
   (fun i xs σ' H' hi ⟨_, s6, h6, e6⟩ => ⟨h6, by
    rw[e6,b7]
    unfold F3
    rw[b7]
    have:=C8 (fun j=>decide (j≠p)) (k8 i)
    rw[o6]at this
    exact this⟩) ?_ ?_
  ·rintro i xs σ' H' N kN hi ⟨⟨v,rfl⟩,s6,h6,rfl⟩
   have e0:((0:Int)+(i:Int))=(i:Int):=by omega
   rw[e0]
   refine u0 ?_
   refine⟨_,rfl,_,rfl,rfl,_,rfl,?_⟩
   have et:F3 (i+1) p=F3 i p++(if i=p then [] else [(i:Int)]):=by
    unfold F3
    rw[v7,F7,i5]
    congr 1
    by_cases h:i=p<;>simp[h]
   by_cases hm:i=p
   ·refine al5 (by rw[hm]) ?_
    refine kN _ _ _ ⟨⟨_,rfl⟩,s6,h6,?_⟩
    rw[et,if_pos hm,A6]
   ·rw[decide_eq_false (show ¬ (V.int (i:Int)=V.int (p:Int)) from fun z=>hm (by injection z;omega))]
    refine N2 ?_
    refine⟨_,rfl,h6,kN _ _ _ ⟨⟨_,rfl⟩,s6.upd hD,c6,?_⟩⟩
    rw[et,if_neg hm,i5]
    rfl
  ·rintro xs σ' H3 ⟨⟨v,rfl⟩,s6,h6,rfl⟩
   have hkl:(F3 ns.length p).length<=24:=by
    unfold F3
    rw[b7]
    have:=C8 (fun j=>decide (j≠p)) (k8 ns.length)
    rw[o6]at this
    omega
   refine⟨_,rfl,D,rfl,⟨_,SqL.of h6⟩,fun D2 hD2=>?_⟩
   have hS3:=hS.same s6
   have hea3:=s6.seq hea
   refine O1 (K:=K) (a:=D) (D:=D2) (ys:=(F3 ns.length p).map V.int) (fun i xs σ' H'=>(∃ v,σ'=[v,some (.ref a),some (.ref ea)])/\p7 H3 H'/\H' D2=some (.lst xs)/\xs=(((F3 ns.length p).take i).map fun z=>S6 ns es z.toNat).map V.int) ⟨⟨none,rfl⟩,d9 hD2,c6,rfl⟩ (by rw[b7];omega)
    (fun i xs σ' H' hi ⟨_,s8,h8,e8⟩=>⟨SqL.of (s8 _ _ h6),h8,by rw[e8,b7,b7,q8];omega⟩) ?_ ?_
   ·rintro i xs x σ' H' N kN hx ⟨⟨v,rfl⟩,s8,h8,rfl⟩
    obtain⟨z,hz,rfl⟩:=J0 hx
    obtain⟨j,rfl,hj⟩:=bh6 (i6 hz)
    refine u0 (F1 ?_)
    have fin:∀ y:Int,y=S6 ns es j->(H' D2=some (.lst ((((F3 ns.length p).take i).map fun z=>S6 ns es z.toNat).map V.int))/\N ((((F3 ns.length p).take i).map fun z=>S6 ns es z.toNat).map V.int++[.int y]) [some (.int j),some (.ref a),some (.ref ea)] (upd H' D2 (.lst ((((F3 ns.length p).take i).map fun z=>S6 ns es z.toNat).map V.int++[.int y])))):=fun y ey=>by
     refine⟨h8,kN _ _ _ ⟨⟨_,rfl⟩,s8.upd hD2,c6,?_⟩⟩
     rw[x9,hz,i5,i5,ey]
     rfl
    refine⟨_,rfl,_,rfl,bs9 hun (s8.seq hea3) ⟨_,rfl,?_⟩⟩
    by_cases hm:(j:Int)∈es
    ·rw[decide_eq_true hm]
     refine N2 ⟨_,rfl,_,rfl,aH6 (hS3.same s8) hj ⟨_,_,rfl,rfl,fin _ ?_⟩⟩
     unfold S6
     rw[if_pos hm]
    ·rw[decide_eq_false hm]
     refine F8 ⟨_,rfl,_,rfl,aH6 (hS3.same s8) hj (fin _ ?_)⟩
     unfold S6
     rw[if_neg hm]
   ·rintro xs σ' H4 ⟨⟨v,rfl⟩,s8,h8,rfl⟩
    rw[j0 (by rw[b7];exact c7 _),aX8]at h8
    exact q D2 H4 (s6.trans s8) (s6.free hD2) h8
end
theorem p40:(0:Int)<10 ^ (Int.toNat 40):=Int.pow_pos (by decide)
theorem aE2 (ns:List Int)(j:Nat)(v:Int):(ns.map V.int).set j (.int v)=(ns.set j v).map V.int:=by rw[ah1]
theorem bx0 {k:Int}(h0:0<=k)(h1:k<1000):-(2 ^ 63)<=k/\k<2 ^ 63:=by
 constructor<;>omega
theorem bK5 (n:Nat)(z:Int):(v9 n [V.int z]).flatten=(v9 n z).map V.int:=by
 induction n with
 | zero=>rfl
 | succ n ih=>rw[E5,Q8,ih,E5];rfl
section
variable {P:Program} {w:World} {K:W.Frag} {mg:Str->Option Value} {base:Heap}
def aL4 (K:W.Frag):Sp:=fun vs H Q _=>∃ (a:Addr) (ns:List Int),vs=[.ref a]/\Sq K H a ns/\ns.length<64/\∀ (l:Addr) (H':Hp),p7 H H'->H l=none->H' l=some (.lst ((up2 ns).reverse.map V.int))->Q (.ref l) H'
theorem bA3:t8 ["tally"] ["tally"] (g6 X2):=⟨rfl,rfl,rfl,by decide +kernel,rfl,by decide +kernel,by decide +kernel⟩
theorem aR9 {f:Addr}{fd:FuncData}(F:Fun K "falling" "falling" X2 f fd)(B:Bn mg):t9 P w K mg base CX0 1 f fd ["tally"] (aL4 K):=by
 refine F.ok bA3 (fun vs H Q E h=>?_) (fun cdv A outer s H vs Q E hr h=>?_)
 ·obtain⟨a,ns,rfl,_⟩:=h
  rfl
 ·obtain⟨a,ns,rfl,hS,h64,q⟩:=h
  refine⟨_,m4 (A2 (be1 K rfl (by rfl) B.sorted (b8 (pv 0) d4))),?_⟩
  refine⟨_,rfl,a,ns,rfl,hS,h64,fun l zs hl hp hs=>?_⟩
  rw[aT4 hp hs]
  exact q l _ (d9 hl) hl c6
def az5 (K:W.Frag):Sp:=fun vs H Q _=>∃ (a:Addr) (ns:List Int) (M r:Nat),vs=[.ref a,.int M,.int r]/\SqL K H a ((up2 ns).reverse.map V.int)/\M<=1000000/\r<=100/\ns.length<64/\∀ (H':Hp),p7 H H'->Q (.int (X3 ns M r)) H'
theorem aQ7:t8 ["numbers","most","r","from_others"] ["numbers","most","r"] (g6 P0):=⟨rfl,rfl,rfl,by decide +kernel,rfl,by decide +kernel,by decide +kernel⟩
theorem aG3 {f:Addr} {fd:FuncData} (F:Fun K "room_among" "room_among" P0 f fd) (B:Bn mg):t9 P w K mg base CX0 1 f fd ["numbers","most","r"] (az5 K):=by
 refine F.ok aQ7 (fun vs H Q E h=>?_) (fun cdv A outer s H vs Q E hr h=>?_)
 ·obtain⟨a,ns,M,r,rfl,_⟩:=h
  rfl
 ·obtain⟨a,ns,M,r,rfl,hS,hM,hr1,h64,q⟩:=h
  have hsl:=G7
  have nd2:(["number","most","r"]:List Str).Nodup:=by decide +kernel
  have hlen:(up2 ns).reverse.length=ns.length:=by rw[bv2,am6]
  generalize hz:(up2 ns).reverse=zs at hS hlen
  refine⟨_,f9 (u6 (i:=3) aQ7.nd rfl (Or.inl rfl) (m3 (U8 rfl) (by rfl) B.sum (by rfl) (b8
    (G0 (N' := ["number", "most", "r"]) (lk := [none, some 1, some 2]) rfl (W1 (U5 aa7 (pv 0) (W0 (pv 2)) ae7)) (by rfl) rfl (by decide +kernel) (by exact ⟨rfl, rfl, trivial⟩) (by rfl) (by exact LkL.ok ⟨⟨rfl, Or.inl rfl, rfl, Or.inl rfl⟩, ⟨rfl, Or.inl rfl, rfl, Or.inl rfl⟩, trivial⟩)
     (fun _ _ _=>u7 (i:=0) nd2 rfl (Or.inl rfl)) (fun _ _ _=>K4) (fun _ _ _=>m3 (ab5 rfl) (by rfl) B.min (by rfl) (b8 (pv 0) (b8 (v8 ai2 (pv 1) (pv 2)) d4)))) d4)))
   (m4 (A2 (v8 R7 (v8 G8 (v8 ai2 (v8 ai2 (pv 1) (pv 2)) (v8 R7 (pv 2) i9)) (pv 3)) (m3 (U8 rfl) (by rfl) B.sum (by rfl) (b8 (U5 aa7 (pv 0) ae7 (W0 (pv 2))) d4))))),?_⟩
  refine⟨_,rfl,_,rfl,_,rfl,a,_,rfl,hS,fun c hc=>?_⟩
  rw[ac5]
  have s1:=d9 (o:=.lst ((zs.drop r).map V.int)) hc
  refine⟨c,rfl,⟨_,SqL.of c6⟩,fun D hD=>O1 (K:=K) (a:=c) (D:=D) (ys:=(zs.drop r).map V.int) (fun i xs σ' H'=>∃ v,σ'=[v,some (.int M),some (.int r)]/\p7 H H'/\H' c=some (.lst ((zs.drop r).map V.int))/\xs=(((zs.drop r).take i).map (mn ((M:Int)*(r:Int)))).map V.int/\H' D=some (.lst xs))
    ⟨none,rfl,s1.trans (d9 hD),d9 hD _ _ c6,by simp,c6⟩ (by rw[b7,K1];omega) (fun i xs σ' H' hi ⟨_,_,s3,g3,e3,h3⟩=>⟨SqL.of g3,h3,by rw[e3,b7,b7,q8,K1];omega⟩) ?_ ?_⟩
  ·rintro i xs x σ' H' N kN hx ⟨v,rfl,s3,g3,rfl,h3⟩
   obtain⟨z,hz',rfl⟩:=J0 hx
   refine u0 (F1 ?_)
   refine⟨_,rfl,_,rfl,_,rfl,_,_,rfl,rfl,.inl ⟨by omega,by omega⟩,_,_,rfl,?_⟩
   refine⟨h3,kN _ _ _ ⟨_,rfl,s3.upd (s1.free hD),?_,?_,c6⟩⟩
   ·rw[m5 (m8 c6 hD)];exact g3
   ·rw[x9,hz',i5,i5];rfl
  ·rintro xs σ' H3 ⟨v,rfl,s3,g3,rfl,h3⟩
   rw[j0 (by rw[b7];exact c7 _)]at h3
   refine⟨D,_,rfl,SqL.of h3,?_⟩
   refine⟨_,rfl,_,rfl,_,_,rfl,rfl,.inl ⟨by omega,by omega⟩,_,rfl,_,_,rfl,rfl,_,_,rfl,rfl,.inr ⟨by omega,by omega⟩,_,rfl,_,_,rfl,rfl,?_⟩
   refine⟨_,rfl,_,rfl,_,rfl,a,_,rfl,s3.seq hS,fun c2 hc2=>?_⟩
   rw[Z9]
   refine⟨c2,_,rfl,SqL.of c6,_,_,rfl,rfl,?_⟩
   have fin:=q _ (s3.trans (d9 (o:=.lst ((zs.take r).map V.int)) hc2))
   rw[<- ak8 (M:=M) (r:=r) hz.symm]at fin
   exact fin
end
def wlT:Wl->List V
 | .below p=>[.str "below",.int p]
 | .odd=>[.str "odd"]
 | .wall r=>[.str "wall",.int r]
 | .free=>[]
def bN9 (H:Hp)(v:V)(x:Wl):Prop:=(x=.free/\v=.non)\/(x≠.free/\∃ a,v=.ref a/\H a=some (.tup (wlT x)))
theorem bs7 {a b:Int}(h:decide (V.int a=V.int b)=true):a=b:=by
 have:=of_decide_eq_true h
 injection this
theorem bh8 {a b:Int}(h:¬ decide (V.int a=V.int b)=true):¬ a=b:=fun e=>h (by rw[e];exact decide_eq_true rfl)
section
variable {P:Program} {w:World} {K:W.Frag} {mg:Str->Option Value} {base:Heap}
def az4 (K:W.Frag):Sp:=fun vs H Q _=>∃ (a:Addr) (ns:List Int),vs=[.ref a]/\Sq K H a ns/\ns.length<=100/\∀ (l:Addr) (H':Hp),p7 H H'->H l=none->H' l=some (.lst ((bF7 ns).map V.int))->Q (.ref l) H'
theorem bo1:t8 ["numbers"] ["numbers"] (g6 R4):=⟨rfl,rfl,rfl,by decide +kernel,rfl,by decide +kernel,by decide +kernel⟩
theorem aG2 {f:Addr}{fd:FuncData}(F:Fun K "places_below" "places_below" R4 f fd)(B:Bn mg):t9 P w K mg base CX0 1 f fd ["numbers"] (az4 K):=by
 refine F.ok bo1 (fun vs H Q E h=>?_) (fun cdv A outer s H vs Q E hr h=>?_)
 ·obtain⟨a,ns,rfl,_⟩:=h
  rfl
 ·obtain⟨a,ns,rfl,hS,hn,q⟩:=h
  have hsl:=G7
  have nd2:(["place","number"]:List Str).Nodup:=by decide +kernel
  refine⟨_,m4 (A2 (G0 (N':=["place","number"]) (lk:=[none,none]) rfl (bd9 (an1 (by rfl) B.enum (b8 (pv 0) d4)) (aF8 (by rfl) B.enum (b8 (pv 0) d4))) (by rfl) rfl (by decide +kernel) (by exact trivial) (by rfl) (by exact LkL.ok trivial)
     (fun _ _ _=>ae8 (n:=2) K rfl rfl (E3 (u7 (i:=0) nd2 rfl (Or.inl rfl)) (E3 (u7 (i:=1) nd2 rfl (Or.inl rfl)) W2))) (fun _ _ _=>aa9 (y7 af0 (pv 1) i9 (B2 _))) (fun _ _ _=>pv 0))),?_⟩
  refine Or.imp (fun h=>⟨_,rfl,h⟩) (fun h=>⟨_,rfl,h⟩) (as2 (K:=K) (a:=a) (ys:=ns.map V.int) hS (by rw[b7];omega)
   (fun D i xs σ' H'=>(∃ v u,σ'=[v,u])/\p7 H H'/\H' D=some (.lst xs)/\xs=((ag1 ns i).map Int.ofNat).map V.int) (fun D hD=>⟨⟨none,none,rfl⟩,d9 hD,c6,rfl⟩)
   (fun D i xs σ' H' hD hi ⟨_,s1,h1,e1⟩=>⟨s1,h1,by rw[e1,b7,b7];exact bk3 ns i⟩) ?_ ?_)
  ·rintro D i xs x t σ' H' N hD kN hx ⟨⟨v,u,rfl⟩,s1,h1,rfl⟩ ht
   obtain⟨z,hz,rfl⟩:=J0 hx
   have s2:=d9 (o:=.tup [.int i,.int z]) ht
   refine⟨t,_,rfl,SqT.of c6,rfl,_,_,rfl,_,_,rfl,rfl,?_⟩
   refine⟨_,rfl,_,_,rfl,rfl,_,rfl,?_⟩
   have e3:=aZ9 ns i
   rw[ag0 hz]at e3
   by_cases hb:z<0
   ·rw[decide_eq_true hb]
    refine N2 ⟨_,rfl,s2 _ _ h1,kN _ _ _ ⟨⟨_,_,rfl⟩,(s1.trans s2).upd hD,c6,?_⟩⟩
    rw[e3,if_pos hb,i5,i5]
    rfl
   ·rw[decide_eq_false hb]
    refine F8 (kN _ _ _ ⟨⟨_,_,rfl⟩,s1.trans s2,s2 _ _ h1,?_⟩)
    rw[e3,if_neg hb,A6]
  ·rintro D xs σ' H' hD ⟨⟨v,u,rfl⟩,s1,h1,rfl⟩
   rw[b7]at h1
   exact q D H' s1 hD h1
def aQ0 (K:W.Frag)(CB:Addr):Sp:=fun vs H Q E=>∃ (a:Addr) (ns:List Int) (M:Nat),vs=[.ref a,.int M]/\Sq K H a ns/\M<=1000000/\(O6 ns->∀ (v:V) (x:Wl) (H':Hp),p7 H H'->aU8 ns M x->bN9 H' v x->Q v H')/\(¬ O6 ns->E (.ref CB) none H)
theorem am8:t8 ["tally","most","below","numbers","r"] ["tally","most"] (g6 V6):=⟨rfl,rfl,rfl,by decide +kernel,rfl,by decide +kernel,by decide +kernel⟩
set_option maxHeartbeats 1000000 in
theorem bf4 {f fT fF fA fβ CB:Addr} {fd fdT fdF fdA fdβ:FuncData} {tk:Tok} (F:Fun K "wall_with" "wall_with" V6 f fd) (B:Bn mg) (FT:Fun K "check_tally" "check_tally" ab8 fT fdT) (bT:Binds K fdT ["tally"] []) (mT:mg "check_tally"=some (.ref fT))
  (FF:Fun K "falling" "falling" X2 fF fdF) (bF:Binds K fdF ["tally"] []) (mF:mg "falling"=some (.ref fF)) (FA:Fun K "room_among" "room_among" P0 fA fdA) (bA:Binds K fdA ["numbers","most","r"] []) (mA:mg "room_among"=some (.ref fA))
  (Fβ:Fun K "places_below" "places_below" R4 fβ fdβ) (bβ:Binds K fdβ ["numbers"] []) (mβ:mg "places_below"=some (.ref fβ))
  (mM:mg "MOST_PLACES"=some (.int 24 tk)) (mB:mg "BadTally"=some (.ref CB)) (cB:aa2 K CB):t9 P w K mg base (CXE P w) 2 f fd ["tally","most"] (aQ0 K CB):=by
 have GT:t9 P w K mg base (CXE P w) 1 fT fdT ["tally"] (av6 K CB):=aA4 FT B mM mB cB
 have GF:t9 P w K mg base CX0 1 fF fdF ["tally"] (aL4 K):=aR9 FF B
 have GA:t9 P w K mg base CX0 1 fA fdA ["numbers","most","r"] (az5 K):=aG3 FA B
 have GL:t9 P w K mg base CX0 1 fβ fdβ ["numbers"] (az4 K):=aG2 Fβ B
 refine F.okX am8 (fun vs H Q E h=>?_) (fun cdv A outer s H vs Q E hr h=>?_)
 ·obtain⟨a,ns,M,rfl,_⟩:=h
  rfl
 ·obtain⟨a,ns,M,rfl,hS,hM,h1,h2⟩:=h
  have hsl:=G7
  refine⟨_,f9 (Q3 (p6 GT hr (by rfl) mT FT.kp bT .nil al0 (b8 (pv 0) d4)))
    (f9 (u6 (i:=2) am8.nd rfl (Or.inl rfl) (p6 GL hr (by rfl) mβ Fβ.kp bβ .nil C9 (b8 (pv 0) d4)))
    (f9 (F9 (ap6 (pv 2) (fun _=>rfl)) (m4 (A2 (N0 (b8 aq0 (b8 (B6 O4 (pv 2) i9 (fun _ _=>rfl)) d4))))) B3)
    (f9 (F9 (y7 aw3 (v8 W5 (m3 (ax9 rfl) (by rfl) B.sum (by rfl) (b8 (pv 0) d4)) i9) i9 (B2 _)) (m4 (A2 (N0 (b8 aq0 d4)))) B3)
    (f9 (u6 (i:=3) am8.nd rfl (Or.inl rfl) (p6 GF hr (by rfl) mF FF.kp bF .nil C9 (b8 (pv 0) d4)))
    (f9 (V9 bd8 rfl (av9 rfl B.range (b8 i9 (b8 (v8 G8 (m3 r6 (by rfl) B.len PySem.boot_len (b8 (pv 3) d4)) i9) d4))) (u7 (i := 4) am8.nd rfl (Or.inl rfl))
     (m4 (F9 (y7 af0 (p6 GA hr (by rfl) mA FA.kp bA .nil C9 (b8 (pv 3) (b8 (pv 1) (b8 (pv 4) d4)))) i9 (B2 _)) (m4 (A2 (N0 (b8 aq0 (b8 (pv 4) d4))))) B3)))
    (m4 (A2 aM6))))))),?_⟩
  refine⟨_,rfl,a,ns,rfl,hS,fun ht=>?_,h2⟩
  have t2:=ht.2
  refine⟨_,rfl,a,ns,rfl,hS,by omega,fun bl H1 s1 hbl g1=>?_⟩
  refine⟨_,rfl,_,.inl ⟨_,SqL.of g1,rfl⟩,?_⟩
  unfold bF7 at g1 ⊢
  cases hb:ag1 ns ns.length with
  | cons p ps =>
   rw[hb]at g1
   refine N2 ⟨_,rfl,bl,_,_,_,rfl,rfl,SqL.of g1,C1 (j:=0) rfl,(by show 2<=sizeLine;decide),fun q hq=>?_⟩
   exact h1 ht _ (.below p) _ (s1.trans (d9 hq)) (aJ6 hb) (.inr ⟨by simp,q,rfl,c6⟩)
  | nil =>
   have hall:AllP ns:=aU5 hb
   refine F8 ?_
   refine⟨_,rfl,a,ns,rfl,hS.same s1,_,_,rfl,rfl,(by show (0:Int)<2;decide),rfl,_,rfl,?_⟩
   refine aX9 (fun h=>?_) (fun h=>?_)
   ·exact⟨(by show 1<=sizeLine;decide),fun p hp=>h1 ht _ .odd _ (s1.trans (d9 hp)) ⟨hall,bs7 h⟩ (.inr ⟨by simp,p,rfl,c6⟩)⟩
   ·have hev:=bh8 h
    refine⟨_,rfl,a,ns,rfl,hS.same s1,by omega,fun l H2 s2 hl g2=>?_⟩
    refine⟨_,rfl,l,_,rfl,.inl (SqL.of g2),_,_,rfl,rfl,1,((ns.length:Int)+1),by rw[b7,bv2,am6],⟨by omega,by omega,by omega,by omega⟩,?_⟩
    rw[show ((ns.length:Int)+1 - 1).toNat=ns.length by omega]
    refine R1 (lo:=1) (n:=ns.length) (fun i σ H3=>∃ e4,σ=[some (.ref a),some (.int M),some (.ref bl),some (.ref l),e4]/\p7 H2 H3/\∀ k,1<=k->k<i+1->0<=X3 ns M k) ⟨none,rfl,p7.refl H2,fun k k1 k2=>by omega⟩ ?_ ?_
    ·rintro i σ H3 hi ⟨e4,rfl,s3,hrm⟩
     have e0:((1:Int)+(i:Int))=((i+1:Nat):Int):=by omega
     rw[e0]
     refine u0 ?_
     refine⟨_,rfl,_,rfl,_,rfl,l,ns,M,i+1,rfl,SqL.of (s3 _ _ g2),hM,by omega,by omega,fun H4 s4=>⟨_,_,rfl,rfl,_,rfl,?_⟩⟩
     refine aX9 (fun h=>?_) (fun h=>?_)
     ·refine⟨_,rfl,(by show 2<=sizeLine;decide),fun p hp=>?_⟩
      exact h1 ht _ (.wall (i+1)) _ ((((s1.trans s2).trans s3).trans s4).trans (d9 hp)) ⟨hall,hev,by omega,by omega,of_decide_eq_true h,hrm⟩ (.inr ⟨by simp,p,rfl,c6⟩)
     ·have h':¬ X3 ns M (i+1)<0:=fun q=>h (decide_eq_true q)
      refine⟨_,rfl,s3.trans s4,fun k k1 k2=>?_⟩
      rcases q0 k (i+1) with l1 | l1
      ·exact hrm k k1 l1
      ·rw[show k=i+1 by omega];omega
    ·rintro σ H3 ⟨e4,rfl,s3,hrm⟩
     exact h1 ht _ .free _ ((s1.trans s2).trans s3) ⟨hall,hev,fun k k1 k2=>hrm k k1 (by omega)⟩ (.inl ⟨rfl,rfl⟩)
def bb3 (K:W.Frag)(CB:Addr):Sp:=fun vs H Q E=>∃ (a:Addr) (ns:List Int),vs=[.ref a]/\Sq K H a ns/\(O6 ns->∀ (v:V) (x:Wl) (H':Hp),p7 H H'->aO8 ns x->bN9 H' v x->Q v H')/\(¬ O6 ns->E (.ref CB) none H)
theorem bz9:t8 ["tally"] ["tally"] (g6 aj9):=⟨rfl,rfl,rfl,by decide +kernel,rfl,by decide +kernel,by decide +kernel⟩
theorem bq0 {f fω fT fF fA fβ CB:Addr}{fd fdω fdT fdF fdA fdβ:FuncData}{tk:Tok}(F:Fun K "wall_of" "wall_of" aj9 f fd)(B:Bn mg)(FT:Fun K "check_tally" "check_tally" ab8 fT fdT)(bT:Binds K fdT ["tally"] [])(mT:mg "check_tally"=some (.ref fT))
  (FF:Fun K "falling" "falling" X2 fF fdF)(bF:Binds K fdF ["tally"] [])(mF:mg "falling"=some (.ref fF))(FA:Fun K "room_among" "room_among" P0 fA fdA)(bA:Binds K fdA ["numbers","most","r"] [])(mA:mg "room_among"=some (.ref fA))
  (Fβ:Fun K "places_below" "places_below" R4 fβ fdβ)(bβ:Binds K fdβ ["numbers"] [])(mβ:mg "places_below"=some (.ref fβ))(Fω:Fun K "wall_with" "wall_with" V6 fω fdω)(bω:Binds K fdω ["tally","most"] [])(mω:mg "wall_with"=some (.ref fω))
  (mM:mg "MOST_PLACES"=some (.int 24 tk))(mB:mg "BadTally"=some (.ref CB))(cB:aa2 K CB):t9 P w K mg base (CXE P w) 3 f fd ["tally"] (bb3 K CB):=by
 have GW:t9 P w K mg base (CXE P w) 2 fω fdω ["tally","most"] (aQ0 K CB):=bf4 Fω B FT bT mT FF bF mF FA bA mA Fβ bβ mβ mM mB cB
 refine F.okX bz9 (fun vs H Q E h=>?_) (fun cdv A outer s H vs Q E hr h=>?_)
 ·obtain⟨a,ns,rfl,_⟩:=h
  rfl
 ·obtain⟨a,ns,rfl,hS,h1,h2⟩:=h
  refine⟨_,m4 (A2 (p6 GW hr (by rfl) mω Fω.kp bω .nil al0 (b8 (pv 0) (b8 i9 d4)))),?_⟩
  exact⟨_,rfl,a,ns,1,rfl,hS,by decide,fun ht v x H' s' hx hv=>h1 ht v x H' s' (aP3 hx) hv,h2⟩
end
theorem ar6 {PT l:Addr}{H H':Hp}{xs:List V}{po:Pos}{qu:Str}(g:L7 PT H H')(t:K8 PT po qu H)(h:H l=some (.lst xs)):H' l=some (.lst xs):=by
 obtain⟨ps,hP,_⟩:=t
 exact g l _ (fun z=>by rw[z,hP]at h;cases h) h
theorem ax3 {K:W.Frag}{PT:Addr}{H H':Hp}{po:Pos}{qu:Str}(g:L7 PT H H')(t:K8 PT po qu H):∀ {zs:List V} {ks:List (List Int)},x8 K H zs ks->x8 K H' zs ks
 | _,_,.nil=>.nil
 | _,_,.cons ⟨a,e,h⟩ r=>.cons ⟨a,e,L7.sqT g t h⟩ (ax3 g t r)
section
variable {P:Program} {w:World} {K:W.Frag} {mg:Str->Option Value} {base:Heap}
theorem bp5:∀ n:Nat,n<=11->(j5 n).length<=55:=by decide +kernel
theorem bH9 {n:Nat}(hn:n<=11){ks:List (List Int)}(nd:ks.Nodup)(h:∀ k∈ks,Up n k):ks.length<=55:=
 p5 (aG4 nd fun k hk=>by
  obtain⟨i,j,h1,h2,rfl⟩:=h k hk
  exact aR5 h1 h2) (bp5 n hn)
theorem aa0.len55 {ns ps left:List Int}{ks:List (List Int)}(h:aa0 ns ps left ks)(hn:ns.length<=11):ks.length<=55:=by
 have:=bH9 hn h.nodup fun k hk=>by
  obtain⟨k',hk',rfl⟩:=l5.mp hk
  exact(h.ends k' hk').up
 rw[b7]at this
 exact this
noncomputable def aI2 (ns:List Int)(p:Nat)(es:List Int):List (List Int):=star p es++bh0 (ns.length - 1) (N7 ns p es) (F3 ns.length p)
def bb8 (K:W.Frag)(PT:Addr):Sp:=fun vs H Q _=>∃ (a ea:Addr) (ns es:List Int) (p:Nat),vs=[.ref a,.int p,.ref ea]/\Sq K H a ns/\O6 ns/\ns.length<=11/\p<ns.length/\SqL K H ea (es.map V.int)/\es.Nodup/\es.length<=24/\(∀ z∈es,0<=z/\z<ns.length/\z≠p)/\(es.length:Int)=ns.getD p 0/\Gr (N7 ns p es)/\Tb PT H /\
 ∀ (r t:Addr) (zs:List V) (ks:List (List Int)) (H':Hp),L7 PT H H'->Tb PT H'->H' r=some (.tup [.int ns.length,.ref t])->H' t=some (.tup zs)->x8 K H' zs ks->ks.Perm ((aI2 ns p es).map up)->ks.Pairwise (fun a b=>Tim.D0 b a=false)->tal ns.length ks=ns->(∀ k∈ks,Up ns.length k)->ks.Nodup->Q (.ref r) H'
theorem Y7:t8 ["tally","place","ends","ties","places","left","chosen"] ["tally","place","ends"] (g6 ak2):=⟨rfl,rfl,rfl,by decide +kernel,rfl,by decide +kernel,by decide +kernel⟩
set_option maxHeartbeats 2000000 in
theorem bq6 {f fI fU fV fO fT fF fL CB c PT:Addr} {fd fdI fdU fdV fdO fdT fdF fdL:FuncData} {tk:Tok} (F:Fun K "laid_around" "laid_around" ak2 f fd) (B:Bn mg) (FI:Fun K "is_place" "is_place" ap4 fI fdI) (bI:Binds K fdI ["places","number"] []) (mI:mg "is_place"=some (.ref fI))
    (FU:Fun K "turned_up" "turned_up" sUp fU fdU) (bU:Binds K fdU ["places","tie"] []) (mU:mg "turned_up"=some (.ref fU)) (FV:Fun K "made" "made" ae2 fV fdV) (bV:Binds K fdV ["places","ties"] []) (mV:mg "made"=some (.ref fV))
    (FO:Fun K "order_of" "order_of" ap3 fO fdO) (bO:Binds K fdO ["tally"] []) (mO:mg "order_of"=some (.ref fO)) (hc:fdO.code=.ref c) (LB:ag5 base mg c PT)
    (FT:Fun K "check_tally" "check_tally" ab8 fT fdT) (bT:Binds K fdT ["tally"] []) (mT:mg "check_tally"=some (.ref fT)) (FF:Fun K "first_of_order" "first_of_order" V7 fF fdF) (bF:Binds K fdF ["tally","many","passed_over"] []) (mF:mg "first_of_order"=some (.ref fF))
    (FL:Fun K "left_of_others" "left_of_others" ae3 fL fdL) (bL:Binds K fdL ["tally","place","ends"] []) (mL:mg "left_of_others"=some (.ref fL))
    (mM:mg "MOST_PLACES"=some (.int 24 tk)) (mB:mg "BadTally"=some (.ref CB)) (cB:aa2 K CB):t9 P w K mg base CX0 4 f fd ["tally","place","ends"] (bb8 K PT):=by
  have GF:t9 P w K mg base (CXE P w) 3 fF fdF ["tally","many","passed_over"] (az3 K PT):=aG1 FF B FO bO mO hc LB FT bT mT mM mB cB
  have GL:t9 P w K mg base CX0 3 fL fdL ["tally","place","ends"] (bb7 K):=(bq4 FL B).mono (by decide)
  have GV:t9 P w K mg base CX0 3 fV fdV ["places","ties"] (bb6 K):=bq3 FV B FI bI mI FU bU mU mM
  refine F.ok Y7 (fun vs H Q E h=>?_) (fun cdv A outer s H vs Q E hr h=>?_)
  · obtain⟨a,ea,ns,es,p,rfl,_⟩:=h
    rfl
  · obtain⟨a,ea,ns,es,p,rfl,hS,ht,h11,hp,hea,ne,hel,he,hn,hg,tb,q⟩:=h
    have hsl:=G7
    have t2:=ht.2
    have nd1:(["end","place"]:List Str).Nodup:=by decide +kernel
    have nd2:(["one","place"]:List Str).Nodup:=by decide +kernel
    have nd3:(["one","places"]:List Str).Nodup:=by decide +kernel
    refine⟨_,f9 (an0 (i:=3) Y7.nd rfl rfl (by rfl) (N':=["end","place"]) (lk:=[none,some 1]) rfl (W1 (pv 2)) (by rfl) rfl (by decide +kernel) (by exact⟨rfl,trivial⟩) (by rfl) (by exact LkL.ok ⟨⟨rfl,Or.inl rfl,rfl,Or.inl rfl⟩,trivial⟩)
          (fun _ _ _=>u7 (i:=0) nd1 rfl (Or.inl rfl)) (fun _ _ _=>K4) (fun _ _ _=>N0 (b8 (pv 1) (b8 (pv 0) d4))))
      (f9 (u6 (i:=4) Y7.nd rfl (Or.inr rfl) (G0 (N':=["one","place"]) (lk:=[none,some 1]) rfl (K6 rfl B.range (b8 (m3 r6 (by rfl) B.len PySem.boot_len (b8 (pv 0) d4)) d4)) (by rfl) rfl (by decide +kernel) (by exact⟨rfl,trivial⟩) (by rfl) (by exact LkL.ok ⟨⟨rfl,Or.inl rfl,rfl,Or.inl rfl⟩,trivial⟩)
          (fun _ _ _=>u7 (i:=0) nd2 rfl (Or.inl rfl)) (fun _ _ _=>aa9 (y7 al4 (pv 0) (pv 1) (B2 _))) (fun _ _ _=>pv 0)))
      (f9 (u6 (i:=5) Y7.nd rfl (Or.inl rfl) (p6 GL hr (by rfl) mL FL.kp bL .nil C9 (b8 (pv 0) (b8 (pv 1) (b8 (pv 2) d4)))))
      (f9 (aF7 PassesOwn.never (ap6 (pv 5) (fun _=>rfl))
        (f9 (u6 (i:=6) Y7.nd rfl (Or.inl rfl) (p6 GF hr (by rfl) mF FF.kp bF .nil (ak9 (P:=P) (w:=w)) (b8 (pv 5) (b8 (B6 O4 (pv 5) i9 (fun _ _=>rfl)) (b8 (W3 (b8 i9 d4)) d4)))))
        (f9 (bA7 (i:=3) Y7.nd rfl (Or.inl rfl) (G0 (N':=["one","places"]) (lk:=[none,some 4]) rfl (W1 (pv 6)) (by rfl) rfl (by decide +kernel) (by exact⟨rfl,trivial⟩) (by rfl) (by exact LkL.ok ⟨⟨rfl,Or.inl rfl,rfl,Or.inl rfl⟩,trivial⟩)
            (fun _ _ _=>u7 (i:=0) nd3 rfl (Or.inl rfl)) (fun _ _ _=>K4) (fun _ _ _=>N0 (b8 (W4 K rfl (pv 1) i9 (fun _ _=>rfl)) (b8 (W4 K rfl (pv 1) (pv 0) (fun _ _=>rfl)) d4)))) bD9)
        (f9 (u6 (i:=5) Y7.nd rfl (Or.inl rfl) (p6 GL hr (by rfl) mL FL.kp bL .nil C9 (b8 (pv 5) (b8 i9 (b8 (pv 6) d4)))))
        (m4 (u6 (i:=4) Y7.nd rfl (Or.inr rfl) (U5 aa7 (pv 4) (W0 i9) ae7)))))))
      (m4 (A2 (p6 GV hr (by rfl) mV FV.kp bV .nil C9 (b8 (m3 r6 (by rfl) B.len PySem.boot_len (b8 (pv 0) d4)) (b8 (pv 3) d4)))))))),?_⟩
    have hun:=hr.units
    refine⟨_,rfl,ea,rfl,⟨_,hea⟩,fun D hD=>O1 (K:=K) (a:=ea) (D:=D) (ys:=es.map V.int) (fun i xs σ' H'=>(∃ v,σ'=[v,some (.int p)])/\p7 H H'/\H' D=some (.lst xs)/\x8 K H' xs (star p (es.take i)))
      ⟨⟨none, rfl⟩, d9 hD, c6, .nil⟩ (by rw [b7]; omega) (fun i xs σ' H' hi ⟨_, s6, h6, t6⟩ => ⟨s6.seq hea, h6, by
        have h7:=t6.len
        unfold star at h7
        rw[b7,q8]at h7
        omega⟩) ?_ ?_⟩
    · rintro i xs x σ' H' N kN hx ⟨⟨v,rfl⟩,s6,h6,t6⟩
      obtain⟨z,hz,rfl⟩:=J0 hx
      refine u0 (F1 ?_)
      refine⟨_,rfl,_,rfl,(by show 2<=sizeLine;decide),fun t ft=>?_⟩
      have st:=d9 (o:=.tup [.int (p:Int),.int z]) ft
      have h6':=st _ _ h6
      refine⟨h6',kN _ _ _ ⟨⟨_,rfl⟩,(s6.trans st).upd hD,c6,?_⟩⟩
      have et:star p (es.take (i+1))=star p (es.take i)++[[(p:Int),z]]:=by
        unfold star
        rw[x9,hz,i5]
        rfl
      rw[et]
      refine x8.updL h6' (x8.append (st.tups t6) (x8.one (SqT.of ?_)))
      exact c6
    · rintro xs σ' H1 ⟨⟨v,rfl⟩,s1,h1,t1⟩
      rw[j0 (by rw[b7];exact c7 _)]at t1
      have hS1:=hS.same s1
      refine⟨_,rfl,a,_,rfl,hS1,(ns.length:Int),congrArg (fun z:Nat=>[V.int (z:Int)]) (b7 ..),by omega,by omega,fun D2 hD2=>?_⟩
      rw[i8]
      refine S0 (lo:=0) (n:=ns.length) (D:=D2) (fun i xs σ' H'=>(∃ v,σ'=[v,some (.int p)])/\p7 H1 H'/\H' D2=some (.lst xs)/\xs=(F3 i p).map V.int) ⟨⟨none,rfl⟩,d9 hD2,c6,rfl⟩ (by omega)
        (fun i xs σ' H' hi ⟨_,s6,h6,e6⟩=>⟨h6,by
          rw[e6,b7]
          unfold F3
          rw[b7]
          have:=C8 (fun j=>decide (j≠p)) (k8 i)
          rw[o6]at this
          exact this⟩) ?_ ?_
      · rintro i xs σ' H' N kN hi ⟨⟨v,rfl⟩,s6,h6,rfl⟩
        have e0:((0:Int)+(i:Int))=(i:Int):=by omega
        rw[e0]
        refine u0 ?_
        refine⟨_,rfl,_,rfl,rfl,_,rfl,?_⟩
        have et:F3 (i+1) p=F3 i p++(if i=p then [] else [(i:Int)]):=by
          unfold F3
          rw[v7,F7,i5]
          congr 1
          by_cases h:i=p<;>simp[h]
        by_cases hm:i=p
        · refine al5 (by rw[hm]) ?_
          refine kN _ _ _ ⟨⟨_,rfl⟩,s6,h6,?_⟩
          rw[et,if_pos hm,A6]
        · rw[decide_eq_false (show ¬ (V.int (i:Int)=V.int (p:Int)) from fun z=>hm (by injection z;omega))]
          refine N2 ?_
          refine⟨_,rfl,h6,kN _ _ _ ⟨⟨_,rfl⟩,s6.upd hD2,c6,?_⟩⟩
          rw[et,if_neg hm,i5]
          rfl
      · rintro xs2 σ' H2 ⟨⟨v2,rfl⟩,s2,h2,rfl⟩
        have s12:=s1.trans s2
        refine⟨_,rfl,_,rfl,_,rfl,a,ea,ns,es,p,rfl,hS.same s12,t2,s12.seq hea,fun l3 H3 s3 f3 g3=>?_⟩
        have s23:=s2.trans s3
        refine⟨fun m σ Ha=>∃ (ks:List (List Int)) (ps left:List Int) (zs:List V) (pa la:Addr) (e6:Option V),σ=[some (.ref a),some (.int p),some (.ref ea),some (.ref D),some (.ref pa),some (.ref la),e6]/\left.length=m/\m<24/\aa0 ns ps left ks/\Gr left/\ks++bh0 m left ps=aI2 ns p es/\Ha D=some (.lst zs)/\x8 K Ha zs ks /\
            Ha pa=some (.lst (ps.map V.int))/\pa≠D/\Ha la=some (.lst (left.map V.int))/\la≠D/\L7 PT H Ha/\Tb PT Ha,
          ⟨ns.length - 1,star p es,F3 ns.length p,N7 ns p es,xs,D2,l3,none,rfl,ab2 hp,by omega,aa0.start hp ne he hn,hg,rfl,s23 _ _ h1,s23.tups t1,s3 _ _ h2,(m8 h1 hD2).symm,g3,(m8 (s2 _ _ h1) f3).symm,(s12.trans s3).grow PT,tb.same (s12.trans s3)⟩,?_⟩
        rintro m σ Ha ⟨ks,ps,left,zs,pa,la,e6,rfl,hm,hm2,hI,hG,hF,gD,tD,gp,np,gl,nl,gr,tbA⟩
        have hpl:=hI.len
        refine⟨_,rfl,!(left.map V.int).isEmpty,.inl ⟨_,SqL.of gl,rfl⟩,?_⟩
        cases m with
        | zero =>
          obtain rfl:left=[]:=ac3.mp hm
          obtain rfl:ps=[]:=ac3.mp hpl.symm
          have hF:ks=aI2 ns p es:=by
            have:ks++[]=aI2 ns p es:=hF
            rw[A6]at this
            exact this
          have hle:=hI.len55 h11
          refine F8 ?_
          refine⟨_,rfl,a,_,rfl,hS.grow gr tb,_,rfl,ns.length,D,zs,ks,by rw[b7];rfl,ht.1,t2,.inl (SqL.of gD),tD,hI.ends,hI.nodup,by omega,fun r t zs2 ks2 H' s' _ _ k1 k2 tt pm so=>?_⟩
          refine q r t zs2 ks2 H' (gr.trans (s'.grow PT)) (tbA.same s') k1 k2 tt (by rw[<- hF];exact pm) so ?_ (fun k hk=>?_) (pm.nodup_iff.mpr hI.nodup)
          · rw[ba6 pm,by8 hI.ends]
            exact hI.last
          · obtain⟨k',hk',rfl⟩:=l5.mp (pm.mem_iff.mp hk)
            exact(hI.ends k' hk').up
        | succ m =>
          have h0:0<left.length:=by omega
          have hnn:=O7 (ar7 hG) h0
          obtain⟨k,hk⟩:∃ k:Nat,left.getD 0 0=(k:Int):=⟨(left.getD 0 0).toNat,by omega⟩
          have at0:atI (left.map V.int) 0=some (.int (k:Int)):=by
            rw[<- hk]
            exact aC0 (j:=0) h0
          have hne:(left.map V.int).isEmpty=false:=by
            cases left with
            | nil=>exact absurd h0 (u5 _)
            | cons _ _=>rfl
          rw[hne]
          refine N2 ⟨_,fun σ' H' h=>⟨m,T4 m,h⟩,?_⟩
          refine⟨_,rfl,_,rfl,la,_,_,_,rfl,rfl,SqL.of gl,at0,(by show 1<=sizeLine;decide),fun lz fz=>?_⟩
          have sz:=d9 (o:=.lst [.int 0]) fz
          refine⟨la,lz,left,[0],k,rfl,.inl (SqL.of (sz _ _ gl)),⟨by omega,by omega⟩,SqL.of c6,tbA.same sz,fun os D4 Hc gc tbC f4 hp4 hs4 g4=>?_⟩
          have ech:(P8 [0] os).take k=chF left 0:=by
            rw[aw1,aR6 hp4 hs4]
            unfold chF
            rw[hk,i8]
            rfl
          rw[ech]at g4
          have tbz:=tbA.same sz
          have gDc:=ar6 gc tbz (sz _ _ gD)
          have gpc:=ar6 gc tbz (sz _ _ gp)
          have glc:=ar6 gc tbz (sz _ _ gl)
          have tDc:=ax3 gc tbz (sz.tups tD)
          have grc:=gr.trans ((sz.grow PT).trans gc)
          have n4:D4≠D:=(m8 (sz _ _ gD) f4).symm
          have hcl:(chF left 0).length<=24:=by
            have h1:=aB6 hG h0
            have h2:=aS7 hG h0
            omega
          have hgo:=hI.go hG h0
          have hle:=hgo.len55 h11
          generalize upd Ha lz (.lst [.int 0])=Hz at gc f4
          refine⟨_,rfl,_,rfl,D4,rfl,⟨_,SqL.of g4⟩,fun D5 hD5=>O1 (K:=K) (a:=D4) (D:=D5) (ys:=(chF left 0).map V.int) (fun i xs σ' H'=>(∃ v,σ'=[v,some (.ref pa)])/\p7 Hc H'/\H' D5=some (.lst xs)/\x8 K H' xs (star (ps.getD 0 0) (((chF left 0).take i).map fun z=>ps.getD z.toNat 0)))
            ⟨⟨none, rfl⟩, d9 hD5, c6, .nil⟩ (by rw [b7]; omega) (fun i xs σ' H' hi ⟨_, s6, h6, t6⟩ => ⟨SqL.of (s6 _ _ g4), h6, by
              have h7:=t6.len
              unfold star at h7
              rw[b7,b7,q8]at h7
              omega⟩) ?_ ?_⟩
          · rintro i xs x σ' H' N kN hx ⟨⟨v,rfl⟩,s6,h6,t6⟩
            obtain⟨z,hz,rfl⟩:=J0 hx
            have hz2:=aO2 (i6 hz)
            obtain⟨j,rfl⟩:∃ j:Nat,z=(j:Int):=⟨z.toNat,by omega⟩
            refine u0 (F1 ?_)
            have hpa6:Sq K H' pa ps:=.inl (SqL.of (s6 _ _ gpc))
            refine⟨_,rfl,aH6 (j:=0) hpa6 (by omega) ⟨_,rfl,_,rfl,aH6 hpa6 (j:=j) (by omega) ⟨(by show 2<=sizeLine;decide),fun t ft=>?_⟩⟩⟩
            have st:=d9 (o:=.tup [.int (ps.getD 0 0),.int (ps.getD j 0)]) ft
            have h6':=st _ _ h6
            refine⟨h6',kN _ _ _ ⟨⟨_,rfl⟩,(s6.trans st).upd hD5,c6,?_⟩⟩
            have et:star (ps.getD 0 0) (((chF left 0).take (i+1)).map fun z=>ps.getD z.toNat 0)=star (ps.getD 0 0) (((chF left 0).take i).map fun z=>ps.getD z.toNat 0)++[[ps.getD 0 0,ps.getD j 0]]:=by
              unfold star
              rw[x9,hz,i5,i5]
              rfl
            rw[et]
            refine x8.updL h6' (x8.append (st.tups t6) (x8.one (SqT.of ?_)))
            exact c6
          · rintro xs5 σ' H5 ⟨⟨v5,rfl⟩,s5,h5,t5⟩
            rw[j0 (by rw[b7];exact c7 _)]at t5
            have gD5:=s5 _ _ gDc
            have hl5:=t5.len
            have hlD:=tDc.len
            rw[p9]at hle
            refine⟨D,D5,zs,xs5,rfl,rfl,gD5,h5,by omega,?_⟩
            have fD:H D=none:=hD
            have gu:L7 PT H (upd H5 D (.lst (zs++xs5))):=by
              intro b o nb hb
              rw[m5 (m8 hb fD)]
              exact(grc.trans (s5.grow PT)) b o nb hb
            have tb6:Tb PT (upd H5 D (.lst (zs++xs5))):=by
              obtain⟨ps',hP,hx⟩:=tbC.same s5
              refine⟨ps',?_,hx.1,hx.2.imp id fun⟨c',e,h⟩=>⟨c',e,by rw[m5 (fun z=>by rw[z,gD5]at h;cases h)];exact h⟩⟩
              rw[m5 (fun z=>by rw[z,gD5]at hP;cases hP)]
              exact hP
            have gl6:(upd H5 D (.lst (zs++xs5))) la=some (.lst (left.map V.int)):=by rw[m5 nl];exact s5 _ _ glc
            have gp6:(upd H5 D (.lst (zs++xs5))) pa=some (.lst (ps.map V.int)):=by rw[m5 np];exact s5 _ _ gpc
            have g46:(upd H5 D (.lst (zs++xs5))) D4=some (.lst ((chF left 0).map V.int)):=by rw[m5 n4];exact s5 _ _ g4
            have gD6:(upd H5 D (.lst (zs++xs5))) D=some (.lst (zs++xs5)):=c6
            have t6:x8 K (upd H5 D (.lst (zs++xs5))) (zs++xs5) (ks++star (ps.getD 0 0) ((chF left 0).map fun z=>ps.getD z.toNat 0)):=x8.updL gD5 (x8.append (s5.tups tDc) t5)
            generalize upd H5 D (.lst (zs++xs5))=H6 at gu tb6 gl6 gp6 g46 gD6 t6 ⊢
            refine⟨_,rfl,_,rfl,la,D4,left,chF left 0,0,rfl,.inl (SqL.of gl6),by omega,SqL.of g46,fun l7 H7 s7 f7 g7=>?_⟩
            refine⟨_,rfl,_,rfl,pa,ps.map V.int,rfl,SqL.of (s7 _ _ gp6),fun l8 f8=>?_⟩
            have ec:aj1 (ps.map V.int) (some 1) none=(ps.drop 1).map V.int:=ac5 ps 1
            rw[ec]
            have s8:=d9 (o:=.lst ((ps.drop 1).map V.int)) f8
            have s78:=s7.trans s8
            refine⟨_,ps.drop 1,N7 left 0 (chF left 0),zs++xs5,l8,l7,_,rfl,by rw[ab2 h0];omega,by omega,hgo,bk2 hG h0,?_,s78 _ _ gD6,s78.tups t6,c6,(m8 (s7 _ _ gD6) f8).symm,s8 _ _ g7,(m8 gD6 f7).symm,gu.trans (s78.grow PT),tb6.same s78⟩
            rw[aa4]
            exact hF
end
structure aJ8 (K:W.Frag) (H:Hp) (b:Addr) (ns:List Int) (ks:List (List Int)):Prop where
 at_:∃ t zs,H b=some (.tup [.int ns.length,.ref t])/\H t=some (.tup zs)/\x8 K H zs ks
 prm:ks.Perm ((aI2 ns 0 (chF ns 0)).map up)
 srt:ks.Pairwise (fun a b=>Tim.D0 b a=false)
 tal_:tal ns.length ks=ns
 ups:∀ k∈ks,Up ns.length k
 nd:ks.Nodup
def bO5 (K:W.Frag)(H:Hp)(r:Addr)(ns:List Int):Prop:=
 (∃ (x:Wl) (b:Addr),x≠.free/\aO8 ns x/\H r=some (.tup [.str "wall",.ref b])/\H b=some (.tup (wlT x))) \/
 (Gr ns/\∃ (b:Addr) (ks:List (List Int)),H r=some (.tup [.str "web",.ref b])/\aJ8 K H b ns ks)
section
variable {P:Program} {w:World} {K:W.Frag} {mg:Str->Option Value} {base:Heap}
def bc3 (K:W.Frag)(CB PT:Addr):Sp:=fun vs H Q E=>∃ (a:Addr) (ns:List Int),vs=[.ref a]/\Sq K H a ns/\ns.length<=11/\(O6 ns->Tb PT H/\∀ (r:Addr) (H':Hp),L7 PT H H'->Tb PT H'->bO5 K H' r ns->Q (.ref r) H')/\(¬ O6 ns->E (.ref CB) none H)
theorem bc9:t8 ["tally","wall"] ["tally"] (g6 aE9):=⟨rfl,rfl,rfl,by decide +kernel,rfl,by decide +kernel,by decide +kernel⟩
set_option maxHeartbeats 2000000 in
theorem bC6 {f fI fU fV fO fT fF fL fY fW fG fA fβ fω CB c PT:Addr}{fd fdI fdU fdV fdO fdT fdF fdL fdY fdW fdG fdA fdβ fdω:FuncData}{tk:Tok}(F:Fun K "answered" "answered" aE9 f fd)(B:Bn mg)(FI:Fun K "is_place" "is_place" ap4 fI fdI)(bI:Binds K fdI ["places","number"] [])(mI:mg "is_place"=some (.ref fI))
  (FU:Fun K "turned_up" "turned_up" sUp fU fdU)(bU:Binds K fdU ["places","tie"] [])(mU:mg "turned_up"=some (.ref fU))(FV:Fun K "made" "made" ae2 fV fdV)(bV:Binds K fdV ["places","ties"] [])(mV:mg "made"=some (.ref fV))
  (FO:Fun K "order_of" "order_of" ap3 fO fdO)(bO:Binds K fdO ["tally"] [])(mO:mg "order_of"=some (.ref fO))(hc:fdO.code=.ref c)(LB:ag5 base mg c PT)
  (FT:Fun K "check_tally" "check_tally" ab8 fT fdT)(bT:Binds K fdT ["tally"] [])(mT:mg "check_tally"=some (.ref fT))(FF:Fun K "first_of_order" "first_of_order" V7 fF fdF)(bF:Binds K fdF ["tally","many","passed_over"] [])(mF:mg "first_of_order"=some (.ref fF))
  (FL:Fun K "left_of_others" "left_of_others" ae3 fL fdL)(bL:Binds K fdL ["tally","place","ends"] [])(mL:mg "left_of_others"=some (.ref fL))(FY:Fun K "laid_around" "laid_around" ak2 fY fdY)(bY:Binds K fdY ["tally","place","ends"] [])(mY:mg "laid_around"=some (.ref fY))
  (FW:Fun K "wall_of" "wall_of" aj9 fW fdW)(bW:Binds K fdW ["tally"] [])(mW:mg "wall_of"=some (.ref fW))(FG:Fun K "falling" "falling" X2 fG fdG)(bG:Binds K fdG ["tally"] [])(mG:mg "falling"=some (.ref fG))
  (FA:Fun K "room_among" "room_among" P0 fA fdA)(bA:Binds K fdA ["numbers","most","r"] [])(mA:mg "room_among"=some (.ref fA))(Fβ:Fun K "places_below" "places_below" R4 fβ fdβ)(bβ:Binds K fdβ ["numbers"] [])(mβ:mg "places_below"=some (.ref fβ))(Fω:Fun K "wall_with" "wall_with" V6 fω fdω)(bω:Binds K fdω ["tally","most"] [])(mω:mg "wall_with"=some (.ref fω))
  (mM:mg "MOST_PLACES"=some (.int 24 tk))(mB:mg "BadTally"=some (.ref CB))(cB:aa2 K CB):t9 P w K mg base (CXE P w) 5 f fd ["tally"] (bc3 K CB PT):=by
 have GF:t9 P w K mg base (CXE P w) 4 fF fdF ["tally","many","passed_over"] (az3 K PT):=(aG1 FF B FO bO mO hc LB FT bT mT mM mB cB).mono (by decide)
 have GY:t9 P w K mg base CX0 4 fY fdY ["tally","place","ends"] (bb8 K PT):=bq6 FY B FI bI mI FU bU mU FV bV mV FO bO mO hc LB FT bT mT FF bF mF FL bL mL mM mB cB
 have GW:t9 P w K mg base (CXE P w) 4 fW fdW ["tally"] (bb3 K CB):=(bq0 FW B FT bT mT FG bG mG FA bA mA Fβ bβ mβ Fω bω mω mM mB cB).mono (by decide)
 refine F.okX bc9 (fun vs H Q E h=>?_) (fun cdv A outer s H vs Q E hr h=>?_)
 ·obtain⟨a,ns,rfl,_⟩:=h
  rfl
 ·obtain⟨a,ns,rfl,hS,h11,h1,h2⟩:=h
  have hsl:=G7
  refine⟨_,f9 (u6 (i:=1) bc9.nd rfl (Or.inl rfl) (p6 GW hr (by rfl) mW FW.kp bW .nil al0 (b8 (pv 0) d4)))
   (f9 (F9 (y7 bp7 (pv 1) aM6 (B2 _)) (m4 (A2 (N0 (b8 aq0 (b8 (pv 1) d4))))) B3)
   (m4 (A2 (N0 (b8 aq0 (b8 (p6 GY hr (by rfl) mY FY.kp bY .nil C9 (b8 (pv 0) (b8 i9 (b8 (p6 GF hr (by rfl) mF FF.kp bF .nil (ak9 (P:=P) (w:=w)) (b8 (pv 0) (b8 (W4 K rfl (pv 0) i9 (fun _ _=>rfl)) (b8 (W3 (b8 i9 d4)) d4)))) d4)))) d4)))))),?_⟩
  refine⟨_,rfl,a,ns,rfl,hS,fun ht v x H1 s1 hw hv=>?_,h2⟩
  obtain⟨tb,q⟩:=h1 ht
  have t2:=ht.2
  refine⟨_,rfl,rfl,_,rfl,?_⟩
  obtain⟨rfl,rfl⟩ | ⟨hx,b,rfl,gb⟩:=hv
  ·have hG:=aT2 hw
   refine F8 ?_
   have h0:0<ns.length:=ht.1
   have hnn:=O7 (ar7 hG) h0
   obtain⟨k,hk⟩:∃ k:Nat,ns.getD 0 0=(k:Int):=⟨(ns.getD 0 0).toNat,by omega⟩
   have hS1:=hS.same s1
   have tb1:=tb.same s1
   refine⟨_,rfl,_,rfl,_,rfl,aH6 (j:=0) hS1 h0 ?_⟩
   rw[hk]
   refine⟨(by show 1<=sizeLine;decide),fun lz fz=>?_⟩
   have sz:=d9 (o:=.lst [.int 0]) fz
   refine⟨a,lz,ns,[0],k,rfl,hS1.same sz,ht,SqL.of c6,tb1.same sz,fun os D4 Hc gc tbC f4 hp4 hs4 g4=>?_⟩
   have ech:(P8 [0] os).take k=chF ns 0:=by
    rw[aw1,aR6 hp4 hs4]
    unfold chF
    rw[hk,i8]
    rfl
   rw[ech]at g4
   have hcl:=aB6 hG h0
   have hlt:=aS7 hG h0
   refine⟨a,D4,ns,chF ns 0,0,rfl,(hS1.same sz).grow gc (tb1.same sz),ht,h11,h0,SqL.of g4,bk1 ns 0,by omega,fun z hz=>aO2 hz,hcl,bk2 hG h0,tbC,fun r t zs ks H5 g5 tb5 k1 k2 tt pm so tl ups nd=>?_⟩
   refine⟨(by show 2<=sizeLine;decide),fun p fp=>?_⟩
   have sp:=d9 (o:=.tup [.str "web",.ref r]) fp
   exact q p _ ((((s1.trans sz).grow PT).trans (gc.trans g5)).trans (sp.grow PT)) (tb5.same sp) (.inr ⟨hG,r,ks,c6,⟨⟨t,zs,sp _ _ k1,sp _ _ k2,sp.tups tt⟩,pm,so,tl,ups,nd⟩⟩)
  ·refine N2 ⟨_,rfl,(by show 2<=sizeLine;decide),fun p fp=>?_⟩
   have sp:=d9 (o:=.tup [.str "wall",.ref b]) fp
   exact q p _ ((s1.trans sp).grow PT) (tb.same (s1.trans sp)) (.inl ⟨x,b,hx,hw,c6,sp _ _ gb⟩)
end
section
variable {P:Program} {w:World} {K:W.Frag} {mg:Str->Option Value} {base:Heap}
def isR (ns:List Int)(r:Int):Prop:=0<=r/\r<=ns.length
def aQ1 (K:W.Frag)(CB CN:Addr):Sp:=fun vs H Q E=>∃ (a:Addr) (ns:List Int) (M:Nat) (r:Int),vs=[.ref a,.int M,.int r]/\Sq K H a ns/\M<=1000000/\(O6 ns->isR ns r->∀ H':Hp,p7 H H'->Q (.int (X3 ns M r.toNat)) H')/\(O6 ns->¬ isR ns r->E (.ref CN) none H)/\(¬ O6 ns->E (.ref CB) none H)
theorem bn9:t8 ["tally","most","r"] ["tally","most","r"] (g6 Z1):=⟨rfl,rfl,rfl,by decide +kernel,rfl,by decide +kernel,by decide +kernel⟩
theorem bf5 {f fT fF fA CB CN:Addr}{fd fdT fdF fdA:FuncData}{tk:Tok}(F:Fun K "room_with" "room_with" Z1 f fd)(B:Bn mg)(FT:Fun K "check_tally" "check_tally" ab8 fT fdT)(bT:Binds K fdT ["tally"] [])(mT:mg "check_tally"=some (.ref fT))
  (FF:Fun K "falling" "falling" X2 fF fdF)(bF:Binds K fdF ["tally"] [])(mF:mg "falling"=some (.ref fF))(FA:Fun K "room_among" "room_among" P0 fA fdA)(bA:Binds K fdA ["numbers","most","r"] [])(mA:mg "room_among"=some (.ref fA))
  (mM:mg "MOST_PLACES"=some (.int 24 tk))(mB:mg "BadTally"=some (.ref CB))(cB:aa2 K CB)(mN:mg "BadNumber"=some (.ref CN))(cN:aa2 K CN):t9 P w K mg base (CXE P w) 2 f fd ["tally","most","r"] (aQ1 K CB CN):=by
 have GT:t9 P w K mg base (CXE P w) 1 fT fdT ["tally"] (av6 K CB):=aA4 FT B mM mB cB
 have GF:t9 P w K mg base CX0 1 fF fdF ["tally"] (aL4 K):=aR9 FF B
 have GA:t9 P w K mg base CX0 1 fA fdA ["numbers","most","r"] (az5 K):=aG3 FA B
 refine F.okX bn9 (fun vs H Q E h=>?_) (fun cdv A outer s H vs Q E hr h=>?_)
 ·obtain⟨a,ns,M,r,rfl,_⟩:=h
  rfl
 ·obtain⟨a,ns,M,r,rfl,hS,hM,h1,h2,h3⟩:=h
  refine⟨_,f9 (Q3 (p6 GT hr (by rfl) mT FT.kp bT .nil al0 (b8 (pv 0) d4)))
   (f9 (F9 (M9 (ae6 Z6 Z6 i9 (pv 2) (m3 r6 (by rfl) B.len PySem.boot_len (b8 (pv 0) d4)))) (m4 (ap7 (by rfl) mN cN)) B3)
   (m4 (A2 (p6 GA hr (by rfl) mA FA.kp bA .nil C9 (b8 (p6 GF hr (by rfl) mF FF.kp bF .nil C9 (b8 (pv 0) d4)) (b8 (pv 1) (b8 (pv 2) d4))))))),?_⟩
  refine⟨_,rfl,a,ns,rfl,hS,fun ht=>?_,h3⟩
  have t2:=ht.2
  refine⟨_,rfl,_,_,rfl,rfl,_,rfl,?_⟩
  by_cases hp:(0:Int)<=r
  ·rw[decide_eq_true hp]
   refine N2 ⟨_,rfl,a,_,rfl,hS,_,_,rfl,rfl,_,rfl,?_⟩
   rw[b7]
   by_cases hp':r<=(ns.length:Int)
   ·rw[decide_eq_true hp']
    refine F8 ?_
    obtain⟨k,rfl⟩:∃ k:Nat,r=(k:Int):=⟨r.toNat,by omega⟩
    refine⟨_,rfl,a,ns,rfl,hS,by omega,fun l H1 s1 hl g1=>?_⟩
    refine⟨_,rfl,_,rfl,l,ns,M,k,rfl,SqL.of g1,hM,by omega,by omega,fun H2 s2=>?_⟩
    exact h1 ht ⟨hp,hp'⟩ H2 (s1.trans s2)
   ·rw[decide_eq_false hp']
    exact N2 (h2 ht fun z=>hp' z.2)
  ·rw[decide_eq_false hp]
   exact F8 ⟨_,rfl,N2 (h2 ht fun z=>hp z.1)⟩
def aL3 (K:W.Frag)(CB CN:Addr):Sp:=fun vs H Q E=>∃ (a:Addr) (ns:List Int) (r:Int),vs=[.ref a,.int r]/\Sq K H a ns/\(O6 ns->isR ns r->∀ H':Hp,p7 H H'->Q (.int (F2 ns r.toNat)) H')/\(O6 ns->¬ isR ns r->E (.ref CN) none H)/\(¬ O6 ns->E (.ref CB) none H)
theorem bA0:t8 ["tally","r"] ["tally","r"] (g6 ak0):=⟨rfl,rfl,rfl,by decide +kernel,rfl,by decide +kernel,by decide +kernel⟩
theorem bq1 {f fW fT fF fA CB CN:Addr}{fd fdW fdT fdF fdA:FuncData}{tk:Tok}(F:Fun K "room" "room" ak0 f fd)(B:Bn mg)(FT:Fun K "check_tally" "check_tally" ab8 fT fdT)(bT:Binds K fdT ["tally"] [])(mT:mg "check_tally"=some (.ref fT))
  (FF:Fun K "falling" "falling" X2 fF fdF)(bF:Binds K fdF ["tally"] [])(mF:mg "falling"=some (.ref fF))(FA:Fun K "room_among" "room_among" P0 fA fdA)(bA:Binds K fdA ["numbers","most","r"] [])(mA:mg "room_among"=some (.ref fA))
  (FW:Fun K "room_with" "room_with" Z1 fW fdW)(bW:Binds K fdW ["tally","most","r"] [])(mW:mg "room_with"=some (.ref fW))
  (mM:mg "MOST_PLACES"=some (.int 24 tk))(mB:mg "BadTally"=some (.ref CB))(cB:aa2 K CB)(mN:mg "BadNumber"=some (.ref CN))(cN:aa2 K CN):t9 P w K mg base (CXE P w) 3 f fd ["tally","r"] (aL3 K CB CN):=by
 have GW:t9 P w K mg base (CXE P w) 2 fW fdW ["tally","most","r"] (aQ1 K CB CN):=bf5 FW B FT bT mT FF bF mF FA bA mA mM mB cB mN cN
 refine F.okX bA0 (fun vs H Q E h=>?_) (fun cdv A outer s H vs Q E hr h=>?_)
 ·obtain⟨a,ns,r,rfl,_⟩:=h
  rfl
 ·obtain⟨a,ns,r,rfl,hS,h1,h2,h3⟩:=h
  refine⟨_,m4 (A2 (p6 GW hr (by rfl) mW FW.kp bW .nil al0 (b8 (pv 0) (b8 i9 (b8 (pv 1) d4))))),?_⟩
  refine⟨_,rfl,_,rfl,a,ns,1,r,rfl,hS,by decide,fun ht hr' H' s'=>?_,h2,h3⟩
  rw[Q9]
  exact h1 ht hr' H' s'
end
theorem bG0 (M L c:Int)(hM:0<=M):(if (if c - L > 0 then c - L else 0)<M then (if c - L > 0 then c - L else 0) else M)=abv M L c:=by
 unfold abv
 by_cases h1:c - L<=0
 ·have e:(if c - L > 0 then c - L else 0)=0:=if_neg (by omega)
  rw[if_pos h1,e]
  by_cases h0:(0:Int)<M
  ·rw[if_pos h0]
  ·rw[if_neg h0];omega
 ·have e:(if c - L > 0 then c - L else 0)=c - L:=if_pos (by omega)
  rw[if_neg h1,e]
  by_cases h2:c - L<=M
  ·rw[if_pos h2]
   by_cases h3:c - L<M
   ·rw[if_pos h3]
   ·rw[if_neg h3];omega
  ·rw[if_neg h2,if_neg (by omega)]
theorem bg2 {x k1 k2 k3:Str}{c a1 a2 a3:Addr}(h:A7 x [(k1,a1),(k2,a2),(k3,a3)]=some c):(x=k1/\c=a1)\/(x=k2/\c=a2)\/(x=k3/\c=a3):=by
 by_cases z1:x=k1
 ·subst z1
  simp[A7]at h
  exact .inl ⟨rfl,h.symm⟩
 ·have e1:(x == k1)=false:=by simpa using z1
  by_cases z2:x=k2
  ·subst z2
   simp[A7,e1]at h
   exact .inr (.inl ⟨rfl,h.symm⟩)
  ·have e2:(x == k2)=false:=by simpa using z2
   by_cases z3:x=k3
   ·subst z3
    simp[A7,e1,e2]at h
    exact .inr (.inr ⟨rfl,h.symm⟩)
   ·have e3:(x == k3)=false:=by simpa using z3
    simp[A7,e1,e2,e3]at h
theorem bQ4 {x y k1 k2 k3:Str}{c a1 a2 a3:Addr}(n12:a1≠a2)(n13:a1≠a3)(n23:a2≠a3)(hx:A7 x [(k1,a1),(k2,a2),(k3,a3)]=some c)(hy:A7 y [(k1,a1),(k2,a2),(k3,a3)]=some c):x=y:=by
 rcases bg2 hx with⟨rfl,e⟩ | ⟨rfl,e⟩ | ⟨rfl,e⟩<;>rcases bg2 hy with⟨h,e'⟩ | ⟨h,e'⟩ | ⟨h,e'⟩
 all_goals first | exact h.symm | exact absurd (e.symm.trans e') n12 | exact absurd (e.symm.trans e') n13 | exact absurd (e.symm.trans e') n23 | exact absurd (e'.symm.trans e) n12 | exact absurd (e'.symm.trans e) n13 | exact absurd (e'.symm.trans e) n23
theorem lk1 {k1 k2 k3:Str}{a1 a2 a3:Addr}:A7 k1 [(k1,a1),(k2,a2),(k3,a3)]=some a1:=by simp[A7]
theorem lk2 {k1 k2 k3:Str}{a1 a2 a3:Addr}(h:(k2 == k1)=false):A7 k2 [(k1,a1),(k2,a2),(k3,a3)]=some a2:=by simp[A7,h]
theorem lk3 {k1 k2 k3:Str}{a1 a2 a3:Addr}(h:(k3 == k1)=false)(h':(k3 == k2)=false):A7 k3 [(k1,a1),(k2,a2),(k3,a3)]=some a3:=by simp[A7,h,h']
theorem aU6 {M L:Int}:∀ {ns:List Int},(∀ x∈ns,x<=L)->(ns.map (abv M L)).sum=0
 | [],_=>rfl
 | c::ns,h=>by
  rw[k6,D3,aU6 fun x hx=>h x (d5 _ hx)]
  have:=h c d8
  unfold abv
  rw[if_pos (by omega)]
  rfl
def mpN (M L:Int)(ns:List Int)(i:Nat):List Int:=((k8 i).filter fun j=>decide (abv M L (ns.getD j 0)<abv M (L - 1) (ns.getD j 0))).map fun j:Nat=>(j:Int)
theorem aG7 (M L:Int)(ns:List Int)(i:Nat):mpN M L ns (i+1)=mpN M L ns i++(if abv M L (ns.getD i 0)<abv M (L - 1) (ns.getD i 0) then [(i:Int)] else []):=by
 unfold mpN
 rw[v7,F7,i5]
 congr 1
 by_cases h:abv M L (ns.getD i 0)<abv M (L - 1) (ns.getD i 0)
 ·rw[if_pos h,ac9,if_pos (decide_eq_true h)];rfl
 ·rw[if_neg h,ac9,if_neg (by rw[decide_eq_false h];decide)];rfl
theorem br4 (M L:Int)(ns:List Int):mpN M L ns ns.length=R8 M L ns:=by
 unfold mpN R8 rng
 rw[List.filter_map,<- aj8]
 congr 1
theorem br3 (M L:Int)(ns:List Int)(i:Nat):(mpN M L ns i).length<=i:=by
 unfold mpN
 rw[b7]
 have:=C8 (fun j=>decide (abv M L (ns.getD j 0)<abv M (L - 1) (ns.getD j 0))) (k8 i)
 rw[o6]at this
 exact this
theorem ar8 {M L:Int}{ns:List Int}{j:Nat}(h:j<ns.length):(ns.map (abv M L)).getD j 0=abv M L (ns.getD j 0):=by
 rw[c5,c5,l4,c8 h]
 rfl
theorem aY4 {f:Nat->Int}{n j:Nat}(h:j<n):((k8 n).map f).getD j 0=f j:=by
 rw[c5,l4,C4 h]
 rfl
theorem bN8 {K:W.Frag}{H:Hp}{a:Addr}{ns:List Int}{j:Nat}{Q:VK}(h:SqL K H a (ns.map V.int))(hj:j<ns.length)(q:Q (.int (ns.getD j 0)) H):rIx K (.ref a) (.int j) H Q:=.inl ⟨a,_,_,_,rfl,rfl,h,aC0 hj,q⟩
seal L2.PE L2.PA L2.PS L2.PSs L2.PT
section
variable {P:Program} {w:World} {K:W.Frag} {mg:Str->Option Value} {base:Heap}
def aP9 (P:Program)(w:World)(K:W.Frag)(mg:Str->Option Value)(base:Heap)(k:Nat):Sp:=fun vs H Q _=>∃ (lo hi:Int) (f:Addr) (ob:Obj) (fd:FuncData) (x:Str) (sp:Sp) (J:Hp->Prop) (p:Int->Bool),vs=[.int lo,.int hi,.ref f]/\lo<=hi/\ob.data=.func fd /\
 t9 P w K mg base CX0 k f fd [x] sp/\Binds K fd [x] []/\(∀ H,J H->H f=some (K7 f ob))/\(∀ (H:Hp) (m:Int) (Q:VK),J H->lo<=m->m<hi->(∀ H',p7 H H'->J H'->Q (.bl (p m)) H')->sp [.int m] H Q E0)/\J H /\
 ∀ (r:Int) (H':Hp),lo<=r->r<=hi->(r<hi->p r=true)->(lo<r->p (r - 1)=false)->J H'->p7 H H'->Q (.int r) H'
theorem am7:t8 ["low","high","holds","middle"] ["low","high","holds"] (g6 Z0):=⟨rfl,rfl,rfl,by decide +kernel,rfl,by decide +kernel,by decide +kernel⟩
theorem bf3 {k:Nat} {f:Addr} {fd:FuncData} (F:Fun K "least_where" "least_where" Z0 f fd):t9 P w K mg base CX0 (k+1) f fd ["low","high","holds"] (aP9 P w K mg base k):=by
 refine F.ok am7 (fun vs H Q E h=>?_) (fun cdv A outer s H vs Q E hr h=>?_)
 ·obtain⟨lo,hi,fl,ob,fd,x,sp,J,p,rfl,_⟩:=h
  rfl
 ·obtain⟨lo,hi,fl,ob,fdl,x,sp,J,p,rfl,hlh,hob,FL,bL,hJ,hcall,hJ0,q⟩:=h
  refine⟨_,f9 (aF7 PassesOwn.never (y7 af0 (pv 0) (pv 1) (B2 _))
   (f9 (u6 (i:=3) am7.nd rfl (Or.inl rfl) (v8 an2 (v8 G8 (pv 0) (pv 1)) i9))
   (m4 (F9 (P3 (be6 hr (i := 2) rfl (Or.inl rfl) (b8 (pv 3) d4)))
    (m4 (u6 (i:=1) am7.nd rfl (Or.inl rfl) (pv 3))) (m4 (u6 (i:=0) am7.nd rfl (Or.inl rfl) (v8 G8 (pv 3) i9)))))))
   (m4 (A2 (pv 0))),?_⟩
  refine⟨fun m σ H1=>∃ (a b:Int) (e3:Option V),m=(b - a).toNat/\σ=[some (.int a),some (.int b),some (.ref fl),e3]/\lo<=a/\a<=b/\b<=hi/\(b<hi->p b=true)/\(lo<a->p (a - 1)=false)/\J H1/\p7 H H1,⟨_,lo,hi,none,rfl,rfl,by omega,hlh,by omega,fun z=>absurd z (by omega),fun z=>absurd z (by omega),hJ0,p7.refl H⟩,?_⟩
  rintro m σ H1 ⟨a,b,e3,rfl,rfl,h1,h2,h3,h4,h5,h6,h7⟩
  refine⟨_,rfl,_,rfl,_,_,rfl,rfl,_,rfl,?_⟩
  refine aX9 (fun hc=>?_) (fun hc=>?_)
  ·have hab:=of_decide_eq_true hc
   refine⟨fun σ' H'=>∃ (a' b':Int) (e3:Option V),(b' - a').toNat<(b - a).toNat/\σ'=[some (.int a'),some (.int b'),some (.ref fl),e3]/\lo<=a'/\a'<=b'/\b'<=hi/\(b'<hi->p b'=true)/\(lo<a'->p (a' - 1)=false)/\J H'/\p7 H H',fun σ' H' ⟨a',b',e3',z0,z1,z2,z3,z4,z5,z6,z7,z8⟩=>⟨_,z0,a',b',e3',rfl,z1,z2,z3,z4,z5,z6,z7,z8⟩,?_⟩
   refine⟨_,rfl,_,rfl,_,_,rfl,rfl,_,_,rfl,rfl,⟨by decide,by decide⟩,?_⟩
   refine ax5 fun c hcm=>?_
   refine u0 ?_
   have hc1:a<=c:=by omega
   have hc2:c<b:=by omega
   refine⟨fl,ob,fdl,rfl,hJ _ h6,hob,_,rfl,[x],sp,hJ _ h6,FL,bL,hcall H1 c _ h6 (by omega) (by omega) fun H2 s2 j2=>⟨_,rfl,?_⟩⟩
   refine aX9 (fun hp=>?_) (fun hp=>?_)
   ·exact⟨_,rfl,a,c,_,by omega,rfl,h1,by omega,by omega,fun _=>hp,h5,j2,h7.trans s2⟩
   ·refine⟨_,rfl,_,_,rfl,rfl,c+1,b,_,by omega,rfl,by omega,by omega,h3,h4,fun _=>?_,j2,h7.trans s2⟩
    rw[show c+1 - 1=c by omega]
    simpa using hp
  ·have hab:¬ a<b:=fun z=>hc (decide_eq_true z)
   have e:b=a:=by omega
   rw[e]at h4
   exact⟨_,rfl,q a H1 h1 (by omega) h4 h5 h6 h7⟩
def bc5 (K:W.Frag):Sp:=fun vs H Q _=>∃ (a:Addr) (ns:List Int) (L M:Int),vs=[.ref a,.int L,.int M]/\Sq K H a ns/\ns.length<=100/\0<=M/\∀ (l:Addr) (H':Hp),p7 H H'->H l=none->H' l=some (.lst ((ns.map (abv M L)).map V.int))->Q (.ref l) H'
theorem bK3:t8 ["numbers","level","most"] ["numbers","level","most"] (g6 aF0):=⟨rfl,rfl,rfl,by decide +kernel,rfl,by decide +kernel,by decide +kernel⟩
theorem bC7 {f:Addr}{fd:FuncData}(F:Fun K "above" "above" aF0 f fd)(B:Bn mg):t9 P w K mg base CX0 1 f fd ["numbers","level","most"] (bc5 K):=by
 refine F.ok bK3 (fun vs H Q E h=>?_) (fun cdv A outer s H vs Q E hr h=>?_)
 ·obtain⟨a,ns,L,M,rfl,_⟩:=h
  rfl
 ·obtain⟨a,ns,L,M,rfl,hS,hn,hM,q⟩:=h
  have hsl:=G7
  have nd3:(["number","level","most"]:List Str).Nodup:=by decide +kernel
  refine⟨_,m4 (A2 (G0 (N':=["number","level","most"]) (lk:=[none,some 1,some 2]) rfl (bd9 (W1 (pv 0)) (aM4 (pv 0))) (by rfl) rfl (by decide +kernel) (by exact⟨rfl,rfl,trivial⟩) (by rfl) (by exact LkL.ok ⟨⟨rfl,Or.inl rfl,rfl,Or.inl rfl⟩,⟨rfl,Or.inl rfl,rfl,Or.inl rfl⟩,trivial⟩)
     (fun _ _ _=>u7 (i:=0) nd3 rfl (Or.inl rfl)) (fun _ _ _=>K4) (fun _ _ _=>m3 (ab5 rfl) (by rfl) B.min (by rfl) (b8 (pv 2) (b8 (m3 (ay0 rfl) (by rfl) B.max (by rfl) (b8 i9 (b8 (v8 R7 (pv 0) (pv 1)) d4))) d4))))),?_⟩
  refine Or.imp (fun h=>⟨_,rfl,h⟩) (fun h=>⟨_,rfl,h⟩) (aZ0 (K:=K) (a:=a) (ys:=ns.map V.int) hS (by rw[b7];omega) (fun D i xs σ' H'=>(∃ v,σ'=[v,some (.int L),some (.int M)])/\p7 H H'/\H' D=some (.lst xs)/\xs=((ns.take i).map (abv M L)).map V.int)
   (fun D hD=>⟨⟨none,rfl⟩,d9 hD,c6,rfl⟩) (fun D i xs σ' H' hD hi ⟨_,s6,h6,e6⟩=>⟨s6,h6,by rw[e6,b7,b7,q8];omega⟩) ?_ ?_)
  ·rintro D i xs x σ' H' N hD kN hx ⟨⟨v,rfl⟩,s6,h6,rfl⟩
   obtain⟨z,hz,rfl⟩:=J0 hx
   refine u0 (F1 ?_)
   refine⟨_,rfl,_,rfl,_,rfl,_,_,rfl,rfl,_,_,rfl,_,_,rfl,?_⟩
   rw[bG0 M L z hM]
   refine⟨h6,kN _ _ _ ⟨⟨_,rfl⟩,s6.upd hD,c6,?_⟩⟩
   rw[x9,hz,i5,i5]
   rfl
  ·rintro D xs σ' H' hD ⟨⟨v,rfl⟩,s6,h6,rfl⟩
   rw[j0 (by rw[b7];exact c7 _)]at h6
   exact q D H' s6 hD h6
def bC9 (st:Stmt):Pos:=match (p8 st).getD 0 (.Pass ⟨0,0,0,0⟩) with
 | .Assign _ (.Call _ [_,_,.Lambda _ _ _ p] _ _) _=>p
 | _=>⟨0,0,0,0⟩
def X4 (st:Stmt):Arguments × Expr × Scope:=match (p8 st).getD 0 (.Pass ⟨0,0,0,0⟩) with
 | .Assign _ (.Call _ [_,_,.Lambda a b c _] _ _) _=>(a,b,c)
 | _=>({ posonlyargs:=[],args:=[],vararg:=none,kwonlyargs:=[],kw_defaults:=[],kwarg:=none,defaults:=[] },.Constant .none 0 ⟨0,0,0,0⟩,{ kind:=.function,names:=[],isGenerator:=false,isCoroutine:=false })
def aw9:Str:=(("shares":Str)++(".<locals>.":Str))++("<lambda>":Str)
abbrev Tb2 (P:Addr)(H:Hp):Prop:=K8 P (bC9 T5) aw9 H
theorem Sq.rmv {K:W.Frag}{a:Addr}{H:Hp}{l:Addr->Option Obj}{ns:List Int}(h:Sq K H a ns)(hl:∀ b o,l b=some o->H b=some (K7 b o)):Sq K (R5 H l) a ns:=by
 have go:∀ u,(∀ o,u≠K7 a o)->H a=some u->R5 H l a=some u:=fun u hu q=>by rw[C3 (ai7 hl q hu)];exact q
 rcases h with((h | ⟨o,h⟩) | h) | ((h | ⟨o,h⟩) | h)
 ·exact .inl (.inl (.inl (go _ (fun o z=>by unfold K7 at z;cases z) h)))
 ·exact .inl (.inl (.inr ⟨o,go _ (fun o z=>by unfold K7 at z;cases z) h⟩))
 ·exact .inl (.inr h)
 ·exact .inr (.inl (.inl (go _ (fun o z=>by unfold K7 at z;cases z) h)))
 ·exact .inr (.inl (.inr ⟨o,go _ (fun o z=>by unfold K7 at z;cases z) h⟩))
 ·exact .inr (.inr h)
theorem bd0 {H:Hp}{l:Addr->Option Obj}(hl:∀ b o,l b=some o->H b=none):p7 H (ab7 H l):=fun b u e=>by
 cases hb:l b with
 | some z=>rw[hl b z hb]at e;cases e
 | none=>rw[C2 hb];exact e
theorem aV7 {H H':Hp}{l:Addr->Option Obj}(hl:∀ b o,l b=some o->H b=some (K7 b o))(s:p7 (R5 H l) H'):p7 H (ab7 H' l):=fun b u e=>by
 cases hb:l b with
 | some z=>rw[hl b z hb]at e;rw[ad8 hb];exact e
 | none=>rw[C2 hb];exact s b u (by rw[C3 hb];exact e)
theorem bd3 {H H2:Hp}{l:Addr->Option Obj}(hl:∀ b o,l b=some o->H b=none)(s:p7 (ab7 H l) H2):p7 H (R5 H2 l):=fun b u e=>by
 cases hb:l b with
 | some z=>rw[hl b z hb]at e;cases e
 | none=>rw[C3 hb];exact s b u (by rw[C2 hb];exact e)
def bb4 (K:W.Frag)(PT:Addr):Sp:=fun vs H Q _=>∃ (na:Addr) (ns:List Int) (a:Int) (M:Nat),vs=[.ref na,.int a,.int M]/\Sq K H na ns/\ns.length<=24/\AllP ns/\0<=a/\Tb2 PT H /\
 ∀ (l:Addr) (xs:List Int) (L:Int) (H':Hp),L7 PT H H'->Tb2 PT H'->Lvl M ns a L->xs.length=ns.length->(∀ j,j<ns.length->xs.getD j 0=shx M L ns (a - (ns.map (abv M L)).sum).toNat j)->H l=none->H' l=some (.lst (xs.map V.int))->Q (.ref l) H'
theorem aE4:t8 ["numbers","much","most","level","taken","deeper","one_more"] ["numbers","much","most"] (g6 T5):=⟨rfl,rfl,rfl,by decide +kernel,rfl,by decide +kernel,by decide +kernel⟩
set_option maxHeartbeats 4000000 in
theorem bB9 {f fA fW c PT:Addr}{fd fdA fdW:FuncData}(F:Fun K "shares" "shares" T5 f fd)(hc:fd.code=.ref c)(LB:ag5 base mg c PT)(B:Bn mg)(FA:Fun K "above" "above" aF0 fA fdA)(bA:Binds K fdA ["numbers","level","most"] [])(mA:mg "above"=some (.ref fA))
  (FW:Fun K "least_where" "least_where" Z0 fW fdW)(bW:Binds K fdW ["low","high","holds"] [])(mW:mg "least_where"=some (.ref fW)):t9 P w K mg base (CXE P w) 4 f fd ["numbers","much","most"] (bb4 K PT):=by
 have GA:t9 P w K mg base CX0 1 fA fdA ["numbers","level","most"] (bc5 K):=bC7 FA B
 have GA3:t9 P w K mg base CX0 3 fA fdA ["numbers","level","most"] (bc5 K):=GA.mono (by decide)
 have GW:t9 P w K mg base CX0 3 fW fdW ["low","high","holds"] (aP9 P w K mg base 2):=bf3 FW
 refine F.okXC hc aE4 (fun vs H Q E h=>?_) (fun A outer s H vs Q E hr h=>?_)
 ·obtain⟨na,ns,a,M,rfl,_⟩:=h
  rfl
 ·obtain⟨na,ns,a,M,rfl,hS,hn,hp,ha,tb,q⟩:=h
  have hsl:=G7
  have hun:=hr.units
  have nd3:(["place","deeper","taken"]:List Str).Nodup:=by decide +kernel
  have nd4:(["place","many","one_more"]:List Str).Nodup:=by decide +kernel
  refine⟨_,f9 (u6 (i:=3) aE4.nd rfl (Or.inl rfl) (be7 (js:=[(0,s.heap.objs.size+1),(1,s.heap.objs.size+2),(2,s.heap.objs.size+3)]) GW hr (by rfl) mW FW.kp bW (fun q hq=>by
     simp only[d3,B5,or_false]at hq
     rcases hq with e | e | e
     ·rw[e];exact⟨K2 _ _,"numbers",rfl,rfl,rfl⟩
     ·rw[e];exact⟨K2 _ _,"much",rfl,rfl,rfl⟩
     ·rw[e];exact⟨K2 _ _,"most",rfl,rfl,rfl⟩) (b8 i9 (b8 (bp1 K rfl rfl (by rfl) B.max (b8 (pv 0) d4)) (b8 (be3 LB rfl (by rfl) (by rfl)) d4)))))
   (f9 (u6 (i:=4) aE4.nd rfl (Or.inr rfl) (p6 GA3 hr (by rfl) mA FA.kp bA .nil C9 (b8 (pv 0) (b8 (pv 3) (b8 (pv 2) d4)))))
   (f9 (u6 (i:=5) aE4.nd rfl (Or.inr rfl) (p6 GA3 hr (by rfl) mA FA.kp bA .nil C9 (b8 (pv 0) (b8 (v8 R7 (pv 3) i9) (b8 (pv 2) d4)))))
   (f9 (u6 (i:=6) aE4.nd rfl (Or.inr rfl) (U5 aa7 (G0 (N':=["place","deeper","taken"]) (lk:=[none,some 5,some 4]) rfl (K6 rfl B.range (b8 (m3 r6 (by rfl) B.len PySem.boot_len (b8 (pv 0) d4)) d4)) (by rfl) rfl (by decide +kernel) (by exact⟨rfl,rfl,trivial⟩) (by rfl) (by exact LkL.ok ⟨⟨rfl,Or.inl rfl,rfl,Or.inl rfl⟩,⟨rfl,Or.inl rfl,rfl,Or.inl rfl⟩,trivial⟩)
     (fun _ _ _=>u7 (i:=0) nd3 rfl (Or.inl rfl)) (fun _ _ _=>aa9 (y7 bL4 (W4 K rfl (pv 1) (pv 0) (fun _ _=>rfl)) (W4 K rfl (pv 2) (pv 0) (fun _ _=>rfl)) (B2 _))) (fun _ _ _=>pv 0)) ae7 (W0 (v8 R7 (pv 1) (m3 (U8 rfl) (by rfl) B.sum (by rfl) (b8 (pv 4) d4))))))
   (m4 (A2 (G0 (N':=["place","many","one_more"]) (lk:=[none,none,some 6]) rfl (bd9 (an1 (by rfl) B.enum (b8 (pv 4) d4)) (aF8 (by rfl) B.enum (b8 (pv 4) d4))) (by rfl) rfl (by decide +kernel) (by exact⟨rfl,trivial⟩) (by rfl) (by exact LkL.ok ⟨⟨rfl,Or.inl rfl,rfl,Or.inl rfl⟩,trivial⟩)
     (fun _ _ _=>ae8 (n:=2) K rfl rfl (E3 (u7 (i:=0) nd4 rfl (Or.inl rfl)) (E3 (u7 (i:=1) nd4 rfl (Or.inl rfl)) W2))) (fun _ _ _=>K4) (fun _ _ _=>aF9 (y7 (aR8 K hr.around rfl rfl) (pv 0) (pv 2) (by rfl)) (v8 G8 (pv 1) i9) (pv 1)))))))),?_⟩
  obtain⟨bb,hB⟩:∃ b,SqB b K H na (ns.map V.int):=hS.elim (fun h=>⟨true,h⟩) fun h=>⟨false,h⟩
  refine⟨_,rfl,bb,na,ns,rfl,hB,hp,fun hi h0 hmx=>⟨tb,fun fl c' ctv H2 g2 tb2 hfn hfo hco l hl hjv=>?_⟩⟩
  obtain⟨o1,u1,hl1,hd1,ru1⟩:=hjv _ d8 (.ref na) rfl
  obtain⟨o2,u2,hl2,hd2,ru2⟩:=hjv _ (d5 _ d8) (.int a) rfl
  obtain⟨o3,u3,hl3,hd3,ru3⟩:=hjv _ (d5 _ (d5 _ d8)) (.int (M:Int)) rfl
  have hS2:=Sq.grow hS g2 tb
  have st:=bd0 hl
  have n1:(("much":Str) == ("numbers":Str))=false:=by decide +kernel
  have n2:(("most":Str) == ("numbers":Str))=false:=by decide +kernel
  have n3:(("most":Str) == ("much":Str))=false:=by decide +kernel
  refine⟨0,hi,fl,PySem.W.kla_obj "<lambda>" aw9 (X4 T5).1 (X4 T5).2.1 (X4 T5).2.2 [("numbers",s.heap.objs.size+1),("much",s.heap.objs.size+2),("most",s.heap.objs.size+3)] ((mg "__name__").getD .none) c' ctv,PySem.W.kla_fn "<lambda>" aw9 (X4 T5).1 (X4 T5).2.1 (X4 T5).2.2 [("numbers",s.heap.objs.size+1),("much",s.heap.objs.size+2),("most",s.heap.objs.size+3)] ((mg "__name__").getD .none) (.ref c') ctv,"tried",?sp,?J,?p,rfl,h0,rfl,?F,?b,?h3,?h4,?h5,?h6⟩
  case F =>
   refine bC8 (k:=1) (p:="tried") (qual:=aw9) (params:=(X4 T5).1) (body:=(X4 T5).2.1) (scope:=(X4 T5).2.2) (cl:=[("numbers",s.heap.objs.size+1),("much",s.heap.objs.size+2),("most",s.heap.objs.size+3)]) (f:=fl) (c':=c') (l:=l) (cvs:=[some (.int (M:Int)),some (.int a),some (.ref na)]) (N':=["most","much","numbers"]) rfl rfl rfl (by rfl) rfl ?_ ?_ rfl ?_ (fun A' outer' s' H' hr'=>ae9 Z6 (m3 (aZ5 K rfl rfl) (by rfl) B.sum (by rfl) (b8 (p6 GA hr' (by rfl) mA FA.kp bA .nil C9 (b8 (pv 3) (b8 (pv 0) (b8 (pv 1) d4)))) d4)) (pv 2) (by rfl))
   ·intro x y c hx hy
    exact bQ4 (show (s.heap.objs.size+1:Nat)≠s.heap.objs.size+2 by omega) (show (s.heap.objs.size+1:Nat)≠s.heap.objs.size+3 by omega) (show (s.heap.objs.size+2:Nat)≠s.heap.objs.size+3 by omega) hx hy
   ·intro x c hx
    rcases bg2 hx with⟨_,e⟩ | ⟨_,e⟩ | ⟨_,e⟩
    ·rw[e];exact⟨o1,_,hl1,hd1⟩
    ·rw[e];exact⟨o2,_,hl2,hd2⟩
    ·rw[e];exact⟨o3,_,hl3,hd3⟩
   ·intro i x v e1 e2
    match i,e1,e2 with
    | 0,e1,e2 =>
     have e1':("most":Str)=x:=Option.some.inj e1
     have e2':V.int (M:Int)=v:=Option.some.inj (Option.some.inj e2)
     subst e1' e2'
     exact⟨rfl,_,o3,u3,lk3 n2 n3,hl3,hd3,ru3⟩
    | 1,e1,e2 =>
     have e1':("much":Str)=x:=Option.some.inj e1
     have e2':V.int a=v:=Option.some.inj (Option.some.inj e2)
     subst e1' e2'
     exact⟨rfl,_,o2,u2,lk2 n1,hl2,hd2,ru2⟩
    | 2,e1,e2 =>
     have e1':("numbers":Str)=x:=Option.some.inj e1
     have e2':V.ref na=v:=Option.some.inj (Option.some.inj e2)
     subst e1' e2'
     exact⟨rfl,_,o1,u1,lk1,hl1,hd1,ru1⟩
    | i+3,e1,e2=>cases e1
  case b=>exact .all fun us hl=>match us,hl with | [_],_=>rfl
  case J=>exact fun Hx=>Hx fl=some (K7 fl (PySem.W.kla_obj "<lambda>" aw9 (X4 T5).1 (X4 T5).2.1 (X4 T5).2.2 [("numbers",s.heap.objs.size+1),("much",s.heap.objs.size+2),("most",s.heap.objs.size+3)] ((mg "__name__").getD .none) c' ctv))/\Hx c'=some (ag7 c' aw9)/\(∀ b o,l b=some o->Hx b=some (K7 b o))/\Sq K Hx na ns
  case p=>exact fun t=>decide ((ns.map (abv M t)).sum<=a)
  case h3=>exact fun Hx h=>h.1
  case h4 =>
   rintro Hx m Qx ⟨j1,j2,j3,j4⟩ hm1 hm2 hq
   refine⟨.int m,rfl,j1,j2,j3,?_⟩
   refine⟨_,rfl,_,rfl,_,rfl,na,ns,m,M,rfl,Sq.rmv j4 j3,by omega,by omega,fun l8 H8 s8 f8 g8=>⟨l8,_,rfl,SqL.of g8,_,rfl,_,_,rfl,rfl,fun hfr=>?_⟩⟩
   have sb:=aV7 j3 s8
   exact hq _ sb ⟨sb _ _ j1,sb _ _ j2,fun b o e=>ad8 e,j4.same sb⟩
  case h5=>exact⟨st _ _ hfo,st _ _ hco,fun b o e=>ad8 e,hS2.same st⟩
  case h6 =>
   rintro L H' hr1 hr2 hp1 hp2 ⟨j1,j2,j3,j4⟩ s'
   have so:=bd3 hl s'
   refine⟨j3,?_⟩
   have hlv:Lvl M ns a L:=by
    refine⟨hr1,?_,fun h=>?_⟩
    ·rcases bm0 L hi with z | z
     ·exact of_decide_eq_true (hp1 z)
     ·rw[aU6 fun x hx=>Int.le_trans (hmx x hx) z]
      exact ha
    ·have:=of_decide_eq_false (hp2 h)
     omega
   have g3:L7 PT H (R5 H' l):=g2.trans (so.grow PT)
   have tb3:=tb2.same so
   have hS3:=hS2.same so
   generalize R5 H' l=H3 at g3 tb3 hS3 ⊢
   refine⟨_,rfl,_,rfl,_,rfl,na,ns,L,M,rfl,hS3,by omega,by omega,fun lt H4 s4 f4 g4=>?_⟩
   refine⟨_,rfl,_,rfl,_,_,rfl,rfl,_,rfl,na,ns,L - 1,M,rfl,hS3.same s4,by omega,by omega,fun ld H5 s5 f5 g5=>?_⟩
   have g45:=s5 _ _ g4
   have hS5:=hS3.same (s4.trans s5)
   have hle:=hlv.le
   obtain⟨k,hk⟩:∃ k:Nat,a - (ns.map (abv M L)).sum=(k:Int):=⟨(a - (ns.map (abv M L)).sum).toNat,by omega⟩
   refine⟨_,rfl,na,_,rfl,hS5,(ns.length:Int),congrArg (fun z:Nat=>[V.int (z:Int)]) (b7 ..),by omega,by omega,fun D hD=>?_⟩
   rw[i8]
   refine S0 (lo:=0) (n:=ns.length) (D:=D) (fun i xs σ' H'=>(∃ v,σ'=[v,some (.ref ld),some (.ref lt)])/\p7 H5 H'/\H' D=some (.lst xs)/\xs=(mpN M L ns i).map V.int) ⟨⟨none,rfl⟩,d9 hD,c6,rfl⟩ (by omega)
    (fun i xs σ' H' hi ⟨_,s6,h6,e6⟩=>⟨h6,by rw[e6,b7];exact br3 M L ns i⟩) ?_ ?_
   ·rintro i xs σ' H' N kN hi ⟨⟨v,rfl⟩,s6,h6,rfl⟩
    have e0:((0:Int)+(i:Int))=(i:Int):=by omega
    rw[e0]
    refine u0 ?_
    refine⟨_,rfl,_,rfl,bN8 (SqL.of (s6 _ _ g5)) (by rw[b7];exact hi) ⟨_,rfl,_,rfl,bN8 (SqL.of (s6 _ _ g45)) (by rw[b7];exact hi) ⟨_,_,rfl,rfl,_,rfl,?_⟩⟩⟩
    rw[ar8 hi,ar8 hi]
    by_cases hm:abv M L (ns.getD i 0)<abv M (L - 1) (ns.getD i 0)
    ·rw[decide_eq_true hm]
     refine N2 ⟨_,rfl,h6,kN _ _ _ ⟨⟨_,rfl⟩,s6.upd hD,c6,?_⟩⟩
     rw[aG7,if_pos hm,i5]
     rfl
    ·rw[decide_eq_false hm]
     refine F8 (kN _ _ _ ⟨⟨_,rfl⟩,s6,h6,?_⟩)
     rw[aG7,if_neg hm,A6]
   ·rintro xs σ' H6 ⟨⟨v,rfl⟩,s6,h6,rfl⟩
    rw[br4]at h6
    refine⟨_,rfl,_,rfl,lt,_,rfl,SqL.of (s6 _ _ g45),_,_,rfl,rfl,_,rfl,D,_,rfl,SqL.of h6,fun lo flo=>?_⟩
    rw[hk,Z9]
    have s7:=d9 (o:=.lst (((R8 M L ns).take k).map V.int)) flo
    have g7:(upd H6 lo (.lst (((R8 M L ns).take k).map V.int))) lo=some (.lst ((aq4 M L ns k).map V.int)):=c6
    have s57:=s6.trans s7
    generalize upd H6 lo (.lst (((R8 M L ns).take k).map V.int))=H7 at s57 g7 ⊢
    have g47:=s57 _ _ g45
    refine Or.imp (fun h=>⟨_,rfl,h⟩) (fun h=>⟨_,rfl,h⟩) (as2 (K:=K) (a:=lt) (ys:=(ns.map (abv M L)).map V.int) (.inl (SqL.of g47)) (by rw[b7,b7];omega)
     (fun D i xs σ' H'=>(∃ v u,σ'=[v,u,some (.ref lo)])/\p7 H7 H'/\H' D=some (.lst xs)/\xs=((k8 i).map (shx M L ns k)).map V.int) (fun D hD=>⟨⟨none,none,rfl⟩,d9 hD,c6,rfl⟩)
     (fun D i xs σ' H' hD hi ⟨_,s1,h1,e1⟩=>⟨s1,h1,by rw[e1,b7,b7,o6];exact c7 _⟩) ?_ ?_)
    ·rintro D8 i xs x t σ' H' N hD8 kN hx ⟨⟨v,u,rfl⟩,s1,h1,rfl⟩ ht'
     obtain⟨z,hz,rfl⟩:=J0 hx
     have s2:=d9 (o:=.tup [.int i,.int z]) ht'
     have hi:i<ns.length:=by
      rcases q0 i ns.length with h | h
      ·exact h
      ·rw[j6 (by rw[b7];exact h)]at hz;cases hz
     have ez:z=abv M L (ns.getD i 0):=by
      rw[<- ar8 hi,c5,hz]
      rfl
     refine⟨t,_,rfl,SqT.of c6,rfl,_,_,rfl,_,_,rfl,rfl,F1 ?_⟩
     refine⟨_,rfl,_,rfl,bi0 hun (SqL.of ((s1.trans s2) _ _ g7)) ⟨_,rfl,?_⟩⟩
     have ex:((k8 (i+1)).map (shx M L ns k)).map V.int=((k8 i).map (shx M L ns k)).map V.int++[V.int (shx M L ns k i)]:=by
      rw[v7,i5,i5]
      rfl
     by_cases hm:(i:Int)∈aq4 M L ns k
     ·rw[decide_eq_true hm]
      refine N2 ⟨_,rfl,_,_,rfl,rfl,s2 _ _ h1,kN _ _ _ ⟨⟨_,_,rfl⟩,(s1.trans s2).upd hD8,c6,?_⟩⟩
      rw[ex]
      unfold shx
      rw[if_pos hm,ez]
     ·rw[decide_eq_false hm]
      refine F8 ⟨_,rfl,s2 _ _ h1,kN _ _ _ ⟨⟨_,_,rfl⟩,(s1.trans s2).upd hD8,c6,?_⟩⟩
      rw[ex]
      unfold shx
      rw[if_neg hm,ez,bl7]
    ·rintro D8 xs σ' H8 hD8 ⟨⟨v,u,rfl⟩,s1,h1,rfl⟩
     rw[b7,b7]at h1
     have sE:=(s4.trans s5).trans (s57.trans s1)
     have sF:=(s4.trans s5).trans s57
     refine q D8 _ L H8 (g3.trans (sE.grow PT)) (tb3.same sE) hlv (by rw[b7,o6]) (fun j hj=>?_) (ax4 (g3.trans (sF.grow PT)) (tb3.same sF) hD8) h1
     rw[aY4 hj,hk,i8]
end
end Web
namespace Web
open PySem L2
theorem bk7 {M L L':Int}(hM:1<=M)(h:L<=L')(c:Int):abv M L' c<=abv M L c:=by
 unfold abv
 by_cases h1:c - L'<=0
 ·rw[if_pos h1]
  split
  ·omega
  ·split<;>omega
 ·rw[if_neg h1,if_neg (show ¬ c - L<=0 by omega)]
  by_cases h2:c - L'<=M
  ·rw[if_pos h2]
   split<;>omega
  ·rw[if_neg h2,if_neg (by omega)]
   omega
theorem ao4 {M L L':Int}(hM:1<=M)(h:L<=L'):∀ ns:List Int,(ns.map (abv M L')).sum<=(ns.map (abv M L)).sum
 | []=>B1 _
 | c::ns=>by
  rw[k6,k6,D3,D3]
  have:=bk7 hM h c
  have:=ao4 hM h ns
  omega
theorem Lvl.uniq {M a L L':Int}{ns:List Int}(hM:1<=M)(h:Lvl M ns a L)(g:Lvl M ns a L'):L=L':=by
 rcases Int.lt_trichotomy L L' with z | z | z
 ·have h1:=g.lt (by have:=h.l0;omega)
  have h2:=ao4 hM (show L<=L' - 1 by omega) ns
  have h3:=h.le
  omega
 ·exact z
 ·have h1:=h.lt (by have:=g.l0;omega)
  have h2:=ao4 hM (show L'<=L - 1 by omega) ns
  have h3:=g.le
  omega
theorem aX0 {xs ys:List Int}(hl:xs.length=ys.length)(h:∀ j,j<ys.length->xs.getD j 0=ys.getD j 0):xs=ys:=by
 apply L9
 intro j
 rcases q0 j ys.length with z | z
 ·have:=h j z
  rw[c5,c5,c8 z,c8 (show j<xs.length by omega)]at this
  rw[c8 z,c8 (show j<xs.length by omega)]
  exact congrArg some this
 ·rw[j6 z,j6 (by omega)]
def Gw (P P':Addr)(H H':Hp):Prop:=∀ b o,b≠P->b≠P'->H b=some o->H' b=some o
theorem Gw.trans {P P':Addr}{H H1 H2:Hp}(a:Gw P P' H H1)(b:Gw P P' H1 H2):Gw P P' H H2:=fun c o n n' h=>b c o n n' (a c o n n' h)
theorem aD5 {P P':Addr}{po po':Pos}{qu qu':Str}{H H':Hp}(g:L7 P H H')(t:K8 P po qu H)(t':K8 P' po' qu' H)(hne:P'≠P):K8 P' po' qu' H':=by
 obtain⟨ps,hP,_⟩:=t
 obtain⟨qs,h1,h2,h3⟩:=t'
 refine⟨qs,g _ _ hne h1,h2,h3.imp id fun⟨c,e,h⟩=>⟨c,e,g _ _ (fun z=>?_) h⟩⟩
 rw[z,hP]at h
 unfold ag7 at h
 cases h
theorem bc7 {M:Nat}{a L L':Int}{ns xs ys:List Int}(h:Lvl M ns a L)(g:Lvl M ns a L')(hl:xs.length=ns.length)(gl:ys.length=ns.length)(hx:∀ j,j<ns.length->xs.getD j 0=shx M L ns (a - (ns.map (abv M L)).sum).toNat j)(gx:∀ j,j<ns.length->ys.getD j 0=shx M L' ns (a - (ns.map (abv M L')).sum).toNat j):xs=ys:=by
 refine aX0 (by rw[hl,gl]) fun j hj=>?_
 rw[gl]at hj
 rw[hx j hj,gx j hj]
 by_cases hM:1<=M
 ·rw[Lvl.uniq (by omega) h g]
 ·have e:M=0:=by omega
  subst e
  have z0:∀ L k,shx ((0:Nat):Int) L ns k j=0:=fun L k=>by
   have e0:R8 ((0:Nat):Int) L ns=[]:=by
    unfold R8
    refine Q1.mpr fun z _=>?_
    show ¬ decide (abv 0 L _<abv 0 (L - 1) _)=true
    rw[U9,U9]
    decide
   unfold shx aq4
   rw[e0,List.take_nil,if_neg B5]
   show abv 0 L _+0=0
   rw[U9]
   rfl
  rw[z0,z0]
def LOK (ns:List Int):Prop:=ns.length<=11
theorem LOK.le {ns cs:List Int}(h:LOK ns)(e:cs.length=ns.length):cs.length<=11:=by unfold LOK at h;omega
theorem SqB.same {b:Bool}{K:W.Frag}{H H':Hp}{a:Addr}{xs:List V}(h:SqB b K H a xs)(s:p7 H H'):SqB b K H' a xs:=by
 cases b with
 | true=>exact s.seq h
 | false=>exact s.seqT h
structure Fst (ns:List Int) (mn:Int) (j:Nat):Prop where
 le:j<=ns.length
 eq:F2 ns j=mn
 no:∀ k,k<j->F2 ns k≠mn
theorem Fst.uniq {ns:List Int}{mn:Int}{i j:Nat}(h:Fst ns mn i)(g:Fst ns mn j):i=j:=by
 rcases G5 i j with z | z | z
 ·exact absurd h.eq (g.no i z)
 ·exact z
 ·exact absurd g.eq (h.no j z)
theorem Lst.uniq {ns:List Int}{m m':Int}(h:Lst ns m)(g:Lst ns m'):m=m':=by
 obtain⟨r,r1,r2⟩:=h.at_
 obtain⟨q,q1,q2⟩:=g.at_
 have:=h.le q q1
 have:=g.le r r1
 omega
theorem bE6 {ns:List Int}{mn:Int}(h:∃ r,r<=ns.length/\mn=F2 ns r):∃ j,Fst ns mn j:=by
 obtain⟨r,r1,r2⟩:=h
 obtain⟨j,⟨h1,h2⟩,h3⟩:=Sett.aB1 (P:=fun j=>j<=ns.length/\F2 ns j=mn) ⟨r,r1,r2.symm⟩
 exact⟨j,h1,h2,fun k hk e=>h3 k hk ⟨by omega,e⟩⟩
def aK0 (ns cs:List Int)(mn:Int):Prop:=∃ (M:Nat) (L:Int) (xs:List Int),(M:Int)∈ns/\(∀ x∈ns,x<=(M:Int))/\Lvl M ns (Q4 ns.sum (-mn)) L/\xs.length=ns.length/\(∀ j,j<ns.length->xs.getD j 0=shx M L ns (Q4 ns.sum (-mn) - (ns.map (abv M L)).sum).toNat j)/\cs=U2 ns xs
theorem aK0.uniq {ns cs cs':List Int}{mn:Int}(h:aK0 ns cs mn)(g:aK0 ns cs' mn):cs=cs':=by
 obtain⟨M,L,xs,h1,h2,h3,h4,h5,rfl⟩:=h
 obtain⟨M',L',xs',g1,g2,g3,g4,g5,rfl⟩:=g
 have e:M=M':=by
  have:=g2 _ h1
  have:=h2 _ g1
  omega
 subst e
 rw[bc7 h3 g3 h4 g4 h5 g5]
theorem aK0.facts {ns cs:List Int}{mn:Int}(h:aK0 ns cs mn)(h0:AllP ns)(hm:Lst ns mn):Gr cs/\cs.length=ns.length/\(∀ j,j<ns.length->0<=cs.getD j 0/\cs.getD j 0<=ns.getD j 0)/\cs.sum=ns.sum - Q4 ns.sum (-mn):=by
 obtain⟨M,L,xs,h1,h2,h3,h4,h5,rfl⟩:=h
 obtain⟨a,b,c⟩:=bg5 h0 h2 hm h3 h5
 exact⟨a,Y2 _ _,b,c⟩
structure LoT (K:W.Frag) (H:Hp) (p b:Addr) (ns cs:List Int) (ks:List (List Int)) (mn:Int) (j:Nat):Prop where
 lst:Lst ns mn
 fst:Fst ns mn j
 cs_:aK0 ns cs mn
 tup:H p=some (.tup [.int (Q4 ns.sum (-mn)),.ref b,.int (j:Int)])
 web:aJ8 K H b cs ks
theorem aJ8.same {K:W.Frag}{H H':Hp}{b:Addr}{ns:List Int}{ks:List (List Int)}(h:aJ8 K H b ns ks)(s:p7 H H'):aJ8 K H' b ns ks:=by
 obtain⟨⟨t,zs,h1,h2,h3⟩,a,b,c,d,e⟩:=h
 exact⟨⟨t,zs,s _ _ h1,s _ _ h2,s.tups h3⟩,a,b,c,d,e⟩
theorem LoT.same {K:W.Frag}{H H':Hp}{p b:Addr}{ns cs:List Int}{ks:List (List Int)}{mn:Int}{j:Nat}(h:LoT K H p b ns cs ks mn j)(s:p7 H H'):LoT K H' p b ns cs ks mn j:=⟨h.lst,h.fst,h.cs_,s _ _ h.tup,h.web.same s⟩
def Tbs (PT PU:Addr)(H:Hp):Prop:=Tb PT H/\Tb2 PU H/\PT≠PU
theorem Tbs.same {PT PU:Addr}{H H':Hp}(h:Tbs PT PU H)(s:p7 H H'):Tbs PT PU H':=⟨h.1.same s,h.2.1.same s,h.2.2⟩
theorem bE5 {P P':Addr}{H H':Hp}(g:L7 P H H'):Gw P P' H H':=fun b o n _ e=>g b o n e
theorem bE4 {P P':Addr}{H H':Hp}(g:L7 P' H H'):Gw P P' H H':=fun b o _ n e=>g b o n e
theorem W7 {H H':Hp}{P P':Addr}(s:p7 H H'):Gw P P' H H':=fun b o _ _ e=>s b o e
section
variable {PT PU:Addr} {H H':Hp} (g:Gw PT PU H H') (t:Tbs PT PU H)
include g t
theorem ac4 {a:Addr}{o:HO}(h:H a=some o)(ho:∀ ps,o≠.tbl ps):H' a=some o:=by
 obtain⟨⟨ps,hP,_⟩,⟨qs,hQ,_⟩,_⟩:=t
 exact g a o (fun z=>by rw[z,hP]at h;cases h;exact ho _ rfl) (fun z=>by rw[z,hQ]at h;cases h;exact ho _ rfl) h
theorem ar5 {a:Addr}{xs:List V}(h:H a=some (.lst xs)):H' a=some (.lst xs):=ac4 g t h fun _ z=>by cases z
theorem bE3 {K:W.Frag}{a:Addr}{xs:List V}(h:SqL K H a xs):SqL K H' a xs:=by
 rcases h with(h | ⟨o,h⟩) | h
 ·exact .inl (.inl (ac4 g t h fun _ z=>by cases z))
 ·exact .inl (.inr ⟨o,ac4 g t h fun _ z=>by cases z⟩)
 ·exact .inr h
theorem bi3 {K:W.Frag}{a:Addr}{xs:List V}(h:SqT K H a xs):SqT K H' a xs:=by
 rcases h with(h | ⟨o,h⟩) | h
 ·exact .inl (.inl (ac4 g t h fun _ z=>by cases z))
 ·exact .inl (.inr ⟨o,ac4 g t h fun _ z=>by cases z⟩)
 ·exact .inr h
theorem bM9 {K:W.Frag}{a:Addr}{ns:List Int}(h:Sq K H a ns):Sq K H' a ns:=h.elim (fun h=>.inl (bE3 g t h)) fun h=>.inr (bi3 g t h)
theorem aS6 {K:W.Frag}:∀ {zs:List V} {ks:List (List Int)},x8 K H zs ks->x8 K H' zs ks
 | _,_,.nil=>.nil
 | _,_,.cons ⟨a,e,h⟩ r=>.cons ⟨a,e,bi3 g t h⟩ (aS6 r)
end
theorem LoT.gw {K:W.Frag}{PT PU:Addr}{H H':Hp}{p b:Addr}{ns cs:List Int}{ks:List (List Int)}{mn:Int}{j:Nat}(h:LoT K H p b ns cs ks mn j)(g:Gw PT PU H H')(t:Tbs PT PU H):LoT K H' p b ns cs ks mn j:=by
 obtain⟨⟨u,zs,h1,h2,h3⟩,a2,a3,a4,a5,a6⟩:=h.web
 exact⟨h.lst,h.fst,h.cs_,ac4 g t h.tup (fun _ z=>by cases z),⟨⟨u,zs,ac4 g t h1 (fun _ z=>by cases z),ac4 g t h2 (fun _ z=>by cases z),aS6 g t h3⟩,a2,a3,a4,a5,a6⟩⟩
theorem U3 {ns:List Int}{n r:Nat}(h:r<n):((k8 n).map (F2 ns))[r]?=some (F2 ns r):=by rw[l4,C4 h];rfl
seal L2.PE L2.PA L2.PS L2.PSs L2.PT
section
variable {P:Program} {w:World} {K:W.Frag} {mg:Str->Option Value} {base:Heap}
def bv9 (K:W.Frag)(CB CW:Addr):Sp:=fun vs H Q E=>∃ (a:Addr) (ns:List Int),vs=[.ref a]/\Sq K H a ns/\(O6 ns->AllP ns->∀ H':Hp,p7 H H'->Q .non H')/\(¬ O6 ns->E (.ref CB) none H)/\(O6 ns->¬ AllP ns->∀ H':Hp,p7 H H'->E (.ref CW) none H')
theorem bK0:t8 ["tally"] ["tally"] (g6 aE7):=⟨rfl,rfl,rfl,by decide +kernel,rfl,by decide +kernel,by decide +kernel⟩
theorem bC4 {f fT fβ CB CW:Addr}{fd fdT fdβ:FuncData}(F:Fun K "check_none_below" "check_none_below" aE7 f fd)(FT:Fun K "check_tally" "check_tally" ab8 fT fdT)(bT:Binds K fdT ["tally"] [])(mT:mg "check_tally"=some (.ref fT))(GT:t9 P w K mg base (CXE P w) 1 fT fdT ["tally"] (av6 K CB))
  (Fβ:Fun K "places_below" "places_below" R4 fβ fdβ)(bβ:Binds K fdβ ["numbers"] [])(mβ:mg "places_below"=some (.ref fβ))(Gβ:t9 P w K mg base CX0 1 fβ fdβ ["numbers"] (az4 K))(mW:mg "NoWeb"=some (.ref CW))(cW:aa2 K CW):t9 P w K mg base (CXE P w) 2 f fd ["tally"] (bv9 K CB CW):=by
 refine F.okX bK0 (fun vs H Q E h=>?_) (fun cdv A outer s H vs Q E hr h=>?_)
 ·obtain⟨a,ns,rfl,_⟩:=h
  rfl
 ·obtain⟨a,ns,rfl,hS,q,qb,qw⟩:=h
  refine⟨_,f9 (Q3 (p6 GT hr (by rfl) mT FT.kp bT .nil al0 (b8 (pv 0) d4)))
   (m4 (F9 (ap6 (p6 Gβ hr (by rfl) mβ Fβ.kp bβ .nil C9 (b8 (pv 0) d4)) (fun _=>rfl)) (m4 (ap7 (by rfl) mW cW)) B3)),?_⟩
  refine⟨_,rfl,a,ns,rfl,hS,fun ht=>?_,qb⟩
  have t2:=ht.2
  refine⟨_,rfl,a,ns,rfl,hS,by omega,fun bl H1 s1 hbl g1=>?_⟩
  refine⟨_,.inl ⟨_,SqL.of g1,rfl⟩,?_⟩
  unfold bF7 at g1 ⊢
  cases hb:ag1 ns ns.length with
  | cons p ps =>
   refine N2 (qw ht (fun z=>?_) H1 s1)
   obtain⟨x,h1,h2⟩:=(aJ6 hb).1
   have:=z p x h1
   omega
  | nil=>exact F8 (q ht (aU5 hb) H1 s1)
def bb5 (K:W.Frag):Sp:=fun vs H Q _=>∃ (a:Addr) (ns:List Int) (z:Int),vs=[.ref a,.int z]/\Sq K H a ns/\Q (.int (Q4 ns.sum z)) H
theorem bA1:t8 ["tally","want"] ["tally","want"] (g6 ak1):=⟨rfl,rfl,rfl,by decide +kernel,rfl,by decide +kernel,by decide +kernel⟩
theorem bq2 {f:Addr}{fd:FuncData}(F:Fun K "off_by_want" "off_by_want" ak1 f fd)(B:Bn mg):t9 P w K mg base CX0 1 f fd ["tally","want"] (bb5 K):=by
 refine F.ok bA1 (fun vs H Q E h=>?_) (fun cdv A outer s H vs Q E hr h=>?_)
 ·obtain⟨a,ns,z,rfl,_⟩:=h
  rfl
 ·obtain⟨a,ns,z,rfl,hS,q⟩:=h
  refine⟨_,m4 (A2 (v8 G8 (pv 1) (v8 W5 (v8 G8 (pv 1) (m3 (ax9 rfl) (by rfl) B.sum (by rfl) (b8 (pv 0) d4))) i9))),?_⟩
  exact⟨_,rfl,_,rfl,_,rfl,a,ns,rfl,hS,_,_,rfl,rfl,_,_,rfl,rfl,(by show (0:Int)<2;decide),_,_,rfl,rfl,q⟩
def bc0 (K:W.Frag)(CB CW PT PU:Addr):Sp:=fun vs H Q E=>∃ (a:Addr) (ns:List Int),vs=[.ref a]/\Sq K H a ns/\ns.length<=24/\LOK ns /\
 (O6 ns->AllP ns->Tbs PT PU H/\∀ (p b:Addr) (cs:List Int) (ks:List (List Int)) (mn:Int) (j:Nat) (H':Hp),Gw PT PU H H'->Tbs PT PU H'->H p=none->LoT K H' p b ns cs ks mn j->Q (.ref p) H')/\(¬ O6 ns->E (.ref CB) none H)/\(O6 ns->¬ AllP ns->∀ H':Hp,p7 H H'->E (.ref CW) none H')
theorem ap1:t8 ["tally","rooms","much","lacking","web"] ["tally"] (g6 ak4):=⟨rfl,rfl,rfl,by decide +kernel,rfl,by decide +kernel,by decide +kernel⟩
set_option maxHeartbeats 4000000 in
theorem bq8 {f fC fM fO fS fX CB CW CN PT PU:Addr}{fd fdC fdM fdO fdS fdX:FuncData}(F:Fun K "least_off" "least_off" ak4 f fd)(B:Bn mg)
  (FC:Fun K "check_none_below" "check_none_below" aE7 fC fdC)(bC:Binds K fdC ["tally"] [])(mC:mg "check_none_below"=some (.ref fC))(GC:t9 P w K mg base (CXE P w) 5 fC fdC ["tally"] (bv9 K CB CW))
  (FM:Fun K "room" "room" ak0 fM fdM)(bM:Binds K fdM ["tally","r"] [])(mM:mg "room"=some (.ref fM))(GM:t9 P w K mg base (CXE P w) 5 fM fdM ["tally","r"] (aL3 K CB CN))
  (FO:Fun K "off_by_want" "off_by_want" ak1 fO fdO)(bO:Binds K fdO ["tally","want"] [])(mO:mg "off_by_want"=some (.ref fO))(GO:t9 P w K mg base CX0 5 fO fdO ["tally","want"] (bb5 K))
  (FS:Fun K "shares" "shares" T5 fS fdS)(bS:Binds K fdS ["numbers","much","most"] [])(mS:mg "shares"=some (.ref fS))(GS:t9 P w K mg base (CXE P w) 5 fS fdS ["numbers","much","most"] (bb4 K PU))
  (FX:Fun K "answered" "answered" aE9 fX fdX)(bX:Binds K fdX ["tally"] [])(mX:mg "answered"=some (.ref fX))(GX:t9 P w K mg base (CXE P w) 5 fX fdX ["tally"] (bc3 K CB PT)):t9 P w K mg base (CXE P w) 6 f fd ["tally"] (bc0 K CB CW PT PU):=by
 refine F.okX ap1 (fun vs H Q E h=>?_) (fun cdv A outer s H vs Q E hr h=>?_)
 ·obtain⟨a,ns,rfl,_⟩:=h
  rfl
 ·obtain⟨a,ns,rfl,hS,h24,hok,q,qb,qw⟩:=h
  have hsl:=G7
  have nd2:(["r","tally"]:List Str).Nodup:=by decide +kernel
  have nd3:(["number","less"]:List Str).Nodup:=by decide +kernel
  refine⟨_,f9 (Q3 (p6 GC hr (by rfl) mC FC.kp bC .nil al0 (b8 (pv 0) d4)))
   (f9 (an0 (i:=1) ap1.nd rfl rfl (by rfl) (N':=["r","tally"]) (lk:=[none,some 0]) rfl (K6 rfl B.range (b8 (v8 G8 (m3 r6 (by rfl) B.len PySem.boot_len (b8 (pv 0) d4)) i9) d4)) (by rfl) rfl (by decide +kernel) (by exact⟨rfl,trivial⟩) (by rfl) (by exact LkL.ok ⟨⟨rfl,Or.inl rfl,rfl,Or.inl rfl⟩,trivial⟩)
     (fun _ _ _=>u7 (i:=0) nd2 rfl (Or.inl rfl)) (fun _ _ _=>K4) (fun _ _ _=>p6 GM hr (by rfl) mM FM.kp bM .nil (ak9 (P:=P) (w:=w)) (b8 (pv 1) (b8 (pv 0) d4))))
   (f9 (u6 (i:=2) ap1.nd rfl (Or.inl rfl) (p6 GO hr (by rfl) mO FO.kp bO .nil C9 (b8 (pv 0) (b8 (aR4 az2 (m3 (ab4 rfl) (by rfl) B.min (by rfl) (b8 (pv 1) d4))) d4))))
   (f9 (u6 (i:=3) ap1.nd rfl (Or.inl rfl) (p6 GS hr (by rfl) mS FS.kp bS .nil (ak9 (P:=P) (w:=w)) (b8 (pv 0) (b8 (pv 2) (b8 (m3 (aZ6 rfl) (by rfl) B.max (by rfl) (b8 (pv 0) d4)) d4)))))
   (f9 (u6 (i:=4) ap1.nd rfl (Or.inl rfl) (B6 B4 (p6 GX hr (by rfl) mX FX.kp bX .nil (ak9 (P:=P) (w:=w)) (b8 (G0 (N':=["number","less"]) (lk:=[none,none]) rfl (aA2 (by rfl) B.zip (b8 (pv 0) (b8 (pv 3) d4))) (by rfl) rfl (by decide +kernel) (by exact trivial) (by rfl) (by exact LkL.ok trivial)
     (fun _ _ _=>ae8 (n:=2) K rfl rfl (E3 (u7 (i:=0) nd3 rfl (Or.inl rfl)) (E3 (u7 (i:=1) nd3 rfl (Or.inl rfl)) W2))) (fun _ _ _=>K4) (fun _ _ _=>v8 R7 (pv 0) (pv 1))) d4)) i9 (fun _ _=>rfl)))
   (m4 (A2 (N0 (b8 (pv 2) (b8 (pv 4) (b8 (aw0 PySem.F.plainAttrs_list PySem.F.slot_list_index PySem.F.type_list_index aw4 (pv 1) (b8 (m3 (ab4 rfl) (by rfl) B.min (by rfl) (b8 (pv 1) d4)) d4)) d4)))))))))),?_⟩
  refine⟨_,rfl,a,ns,rfl,hS,fun ht h0 H1 s1=>?_,qb,qw⟩
  obtain⟨tbs,q⟩:=q ht h0
  have t2:=ht.2
  have t1:=ht.1
  have hS1:=hS.same s1
  refine⟨_,rfl,a,_,rfl,hS1,_,_,rfl,rfl,((ns.length+1:Nat):Int),congrArg (fun z:Nat=>[V.int ((z:Int)+1)]) (b7 ..),by omega,by omega,fun D hD=>?_⟩
  rw[i8]
  refine S0 (lo:=0) (n:=ns.length+1) (D:=D) (fun i xs σ' H'=>(∃ v,σ'=[v,some (.ref a)])/\p7 H1 H'/\H' D=some (.lst xs)/\xs=((k8 i).map (F2 ns)).map V.int) ⟨⟨none,rfl⟩,d9 hD,c6,rfl⟩ (by omega)
   (fun i xs σ' H' hi ⟨_,s6,h6,e6⟩=>⟨h6,by rw[e6,b7,b7,o6];exact c7 _⟩) ?_ ?_
  ·rintro i xs σ' H' N kN hi ⟨⟨v,rfl⟩,s6,h6,rfl⟩
   rw[show ((0:Int)+(i:Int))=(i:Int) by omega]
   refine u0 (F1 ?_)
   refine⟨_,rfl,_,rfl,a,ns,(i:Int),rfl,hS1.same s6,fun _ _ H7 s7=>?_,fun _ h=>absurd ⟨by omega,by omega⟩ h,fun h=>absurd ht h⟩
   have h7:=s7 _ _ h6
   refine⟨h7,kN _ _ _ ⟨⟨_,rfl⟩,(s6.trans s7).upd hD,c6,?_⟩⟩
   rw[v7,i5,i5]
   rfl
  rintro xs σ' H2 ⟨⟨v,rfl⟩,s2,gD,rfl⟩
  have fD:H D=none:=s1.free hD
  have s12:=s1.trans s2
  have hS2:=hS.same s12
  have hrl:((k8 (ns.length+1)).map (F2 ns)).length=ns.length+1:=by rw[b7,o6]
  refine⟨_,rfl,_,rfl,D,_,rfl,SqL.of gD,by omega,fun mn hm1 hm2=>⟨mn,rfl,a,ns,-mn,rfl,hS2,?_⟩⟩
  have hmr:∃ r,r<=ns.length/\mn=F2 ns r:=by
   obtain⟨r,hr1,hr2⟩:=l5.mp hm1
   have:=p0.mp hr1
   exact⟨r,by omega,hr2.symm⟩
  have hL:Lst ns mn:=⟨fun r hr=>hm2 _ (i6 (U3 (by omega))),hmr⟩
  obtain⟨j,hj⟩:=bE6 hmr
  obtain⟨o0,o1,o2,o3⟩:=hL.off h0
  refine u0 ?_
  obtain⟨bb,hB⟩:∃ b,SqB b K H2 a (ns.map V.int):=hS2.elim (fun h=>⟨true,h⟩) fun h=>⟨false,h⟩
  refine⟨_,rfl,_,rfl,_,rfl,bb,a,ns,rfl,hB,by omega,fun mx hx1 hx2=>?_⟩
  have mx0:0<=mx:=by
   obtain⟨i,hi⟩:=r9.mp hx1
   exact h0 i mx hi
  obtain⟨M,rfl⟩:∃ M:Nat,mx=(M:Int):=⟨mx.toNat,by omega⟩
  have tbs2:=tbs.same s12
  refine⟨a,ns,_,M,rfl,hS2,by omega,h0,o0,tbs2.2.1,fun lx xs L H3 g3 tb3 hLv hxl hx flx glx=>?_⟩
  have gw3:Gw PT PU H2 H3:=bE4 g3
  have tbs3:Tbs PT PU H3:=⟨aD5 g3 tbs2.2.1 tbs2.1 tbs2.2.2,tb3,tbs2.2.2⟩
  have hS3:=bM9 gw3 tbs2 hS2
  have gD3:=ar5 gw3 tbs2 gD
  refine u0 ?_
  obtain⟨b3,hB3⟩:∃ b,SqB b K H3 a (ns.map V.int):=hS3.elim (fun h=>⟨true,h⟩) fun h=>⟨false,h⟩
  refine⟨_,rfl,_,rfl,b3,true,a,lx,rfl,⟨_,hB3⟩,⟨_,SqL.of glx⟩,fun D4 hD4=>?_⟩
  refine aj3 (b1:=b3) (b2:=true) (K:=K) (a:=a) (b:=lx) (D:=D4) (ys:=ns.map V.int) (zs:=xs.map V.int) (by rw[b7,b7,hxl]) (fun i ds σ' H'=>(∃ v u,σ'=[v,u])/\p7 H3 H'/\H' D4=some (.lst ds)/\ds=((k8 i).map fun j=>ns.getD j 0 - xs.getD j 0).map V.int)
   ⟨⟨none,none,rfl⟩,d9 hD4,c6,rfl⟩ (by rw[b7];omega) (fun i ds σ' H' hi ⟨_,s8,h8,e8⟩=>⟨SqB.same hB3 s8,SqL.of (s8 _ _ glx),h8,by rw[e8,b7,b7,o6];exact c7 _⟩) ?_ ?_
  ·rintro i ds x y t σ' H' N kN hx hy ⟨⟨v,u,rfl⟩,s8,h8,rfl⟩ ht'
   obtain⟨z1,hz1,rfl⟩:=J0 hx
   obtain⟨z2,hz2,rfl⟩:=J0 hy
   have s9:=d9 (o:=.tup [.int z1,.int z2]) ht'
   refine⟨t,_,rfl,SqT.of c6,rfl,_,_,rfl,_,_,rfl,rfl,F1 ?_⟩
   refine⟨_,rfl,_,rfl,_,_,rfl,rfl,s9 _ _ h8,kN _ _ _ ⟨⟨_,_,rfl⟩,(s8.trans s9).upd hD4,c6,?_⟩⟩
   rw[v7,i5,i5]
   show _=_++[V.int (ns.getD i 0 - xs.getD i 0)]
   rw[c5,c5,hz1,hz2]
   rfl
  rintro ds σ' H4 ⟨⟨v,u,rfl⟩,s4,gD4,rfl⟩
  rw[b7]at gD4
  have hcs:aK0 ns (U2 ns xs) mn:=⟨M,L,xs,hx1,hx2,hLv,hxl,hx,rfl⟩
  have gD4':H4 D4=some (.lst ((U2 ns xs).map V.int)):=gD4
  obtain⟨hGr,hcl,_,_⟩:=hcs.facts h0 hL
  generalize U2 ns xs=cs at hcs gD4' hGr hcl
  have tbs4:=tbs3.same s4
  have htc:O6 cs:=⟨by omega,by omega⟩
  refine⟨D4,cs,rfl,.inl (SqL.of gD4'),LOK.le hok hcl,fun _=>⟨tbs4.1,fun rA H5 g5 tb5 ans=>?_⟩,fun h=>absurd htc h⟩
  rcases ans with⟨x,b,k1,k2,k3,k4⟩ | ⟨_,b,ks,k1,k2⟩
  ·exact absurd (bm6 k2 (aS8 hGr)) k1
  have a1:atI ([.str "web",.ref b]:List V) 1=some (.ref b):=C1 (j:=1) rfl
  have gw5:Gw PT PU H4 H5:=bE5 g5
  have tbs5:Tbs PT PU H5:=⟨tb5,aD5 g5 tbs4.1 tbs4.2.1 (fun z=>tbs4.2.2 z.symm),tbs4.2.2⟩
  have gD5:=ar5 gw5 tbs4 (s4 _ _ gD3)
  refine⟨rA,_,_,_,rfl,rfl,SqT.of k1,a1,?_⟩
  refine u0 ?_
  have hne:∀ m c,m<j->((k8 (ns.length+1)).map (F2 ns))[m]?=some c->c≠mn:=fun m c hm e=>by
   have:=hj.le
   rw[U3 (by omega)]at e
   cases e
   exact hj.no m hm
  refine⟨_,rfl,_,rfl,_,rfl,.inl ⟨rfl,_,SqL.of gD5⟩,_,rfl,D,_,rfl,SqL.of gD5,by omega,fun mn' hn1 hn2=>?_⟩
  obtain rfl:mn'=mn:=by
   have:=hm2 _ hn1
   have:=hn2 _ hm1
   omega
  have hjl:=hj.le
  refine⟨D,_,mn',j,rfl,rfl,gD5,by rw[U3 (by omega),hj.eq],hne,by omega,?_⟩
  refine⟨(by show 3<=sizeLine;decide),fun p fp=>?_⟩
  have sp:=d9 (o:=.tup [.int (Q4 ns.sum (-mn')),.ref b,.int (j:Int)]) fp
  have gwA:Gw PT PU H H5:=((W7 s12).trans gw3).trans ((W7 s4).trans gw5)
  refine q p b cs ks mn' j _ (gwA.trans (W7 sp)) (tbs5.same sp) ?_ ⟨hL,hj,hcs,c6,k2.same sp⟩
  cases e:H p with
  | none=>rfl
  | some o =>
   by_cases z1:p=PT
   ·obtain⟨⟨ps,hP,_⟩,_⟩:=tbs5
    rw[z1,hP]at fp
    cases fp
   ·by_cases z2:p=PU
    ·obtain⟨_,⟨ps,hP,_⟩,_⟩:=tbs5
     rw[z2,hP]at fp
     cases fp
    ·rw[gwA p o z1 z2 e]at fp
     cases fp
end
end Web
namespace Web
open PySem L2
seal L2.PE L2.PA L2.PS L2.PSs L2.PT
section
variable {P:Program} {w:World} {K:W.Frag} {mg:Str->Option Value} {base:Heap}
def aQ3 (K:W.Frag):Sp:=fun vs H Q _=>∃ n:Nat,vs=[.int n]/\n<=24/\∀ l zs H',p7 H H'->H l=none->H' l=some (.lst zs)->x8 K H' zs (j5 n)->Q (.ref l) H'
theorem am9:t8 ["places","pairs","one","other"] ["places"] (g6 Z3):=⟨rfl,rfl,rfl,by decide +kernel,rfl,by decide +kernel,by decide +kernel⟩
theorem bf7 {f:Addr} {fd:FuncData} (F:Fun K "_law_pairs" "_law_pairs" Z3 f fd) (B:Bn mg):t9 P w K mg base CX0 1 f fd ["places"] (aQ3 K):=by
 refine F.ok am9 (fun vs H Q E h=>?_) (fun cdv A outer s H vs Q E hr h=>?_)
 ·obtain⟨n,rfl,_⟩:=h
  rfl
 ·obtain⟨n,rfl,hn,q⟩:=h
  refine⟨_,f9 (u6 (i:=1) am9.nd rfl (Or.inl rfl) (W3 d4))
   (f9 (V9 PassesOwn.never rfl (K6 rfl B.range (b8 (pv 0) d4)) (u7 (i := 2) am9.nd rfl (Or.inl rfl))
    (m4 (V9 PassesOwn.never rfl (av9 rfl B.range (b8 (v8 G8 (pv 2) i9) (b8 (pv 0) d4))) (u7 (i := 3) am9.nd rfl (Or.inl rfl))
     (m4 (Q3 (aw0 PySem.F.plainAttrs_list PySem.F.slot_list_append PySem.F.type_list_append R0 (pv 1) (b8 (N0 (b8 (pv 2) (b8 (pv 3) d4))) d4)))))))
   (m4 (A2 (pv 1)))),?_⟩
  refine⟨by show 0<=sizeLine;omega,fun l hl=>?_⟩
  have hlen:=aw6 n hn
  have hsl:=G7
  refine⟨_,rfl,n,rfl,by omega,by omega,R1 (lo:=0) (n:=n) (fun i σ H1=>∃ a b zs,σ=[some (.int n),some (.ref l),a,b]/\p7 H H1/\H1 l=some (.lst zs)/\x8 K H1 zs ((k8 i).flatMap fun j=>V8 j (n - (j+1))))
   ⟨none,none,[],rfl,d9 hl,c6,.nil⟩ ?_ ?_⟩
  ·rintro i σ H1 hi ⟨a,b,zs,rfl,s1,h1,t1⟩
   refine⟨_,rfl,_,_,rfl,rfl,_,rfl,_,_,rfl,⟨by omega,by omega,by omega,by omega⟩,R1 (lo:=0+(i:Int)+1) (fun d σ H2=>∃ b zs,σ=[some (.int n),some (.ref l),some (.int (0+i)),b]/\p7 H H2/\H2 l=some (.lst zs)/\x8 K H2 zs (((k8 i).flatMap fun j=>V8 j (n - (j+1)))++V8 i d))
    ⟨b,zs,rfl,s1,h1,by simpa [V8] using t1⟩ ?_ ?_⟩
   ·rintro d σ H2 hd ⟨b,zs,rfl,s2,h2,t2⟩
    have hlz:=t2.len
    have hpart:=bg3 n (i+1) (by omega)
    rw[aq1,p9]at hpart
    have hrow:∀ m,(V8 i m).length=m:=fun m=>by simp[V8]
    rw[p9,hrow]at hlz
    rw[hrow]at hpart
    refine⟨_,rfl,.inl ⟨rfl,_,SqL.of h2⟩,_,rfl,_,rfl,(by show 2<=sizeLine;decide),fun p hp=>?_⟩
    have hlp:l≠p:=m8 h2 hp
    have h2':(upd H2 p (.tup [.int (0+(i:Int)),.int (0+(i:Int)+1+(d:Int))])) l=some (.lst zs):=by rw[m5 hlp];exact h2
    refine⟨l,zs,_,rfl,rfl,h2',by omega,?_⟩
    refine⟨_,_,rfl,(s2.trans (d9 hp)).upd hl,c6,?_⟩
    rw[aV8,<- aa4]
    refine x8.updL h2' (x8.append (p7.tups (d9 hp) t2) (x8.one (SqT.of ?_)))
    rw[c6]
    simp
   ·rintro σ H2 ⟨b,zs,rfl,s2,h2,t2⟩
    refine⟨_,_,zs,rfl,s2,h2,?_⟩
    rw[aq1]
    have e:((n:Int) - (0+(i:Int)+1)).toNat=n - (i+1):=by omega
    rw[e]at t2
    exact t2
  ·rintro σ H1 ⟨a,b,zs,rfl,s1,h1,t1⟩
   exact⟨_,rfl,q l zs H1 s1 hl h1 t1⟩
end
end Web
namespace Web
open PySem L2
theorem aN7 {k:Nat}{A:Around}(hr:P6 k A):A.units+1<cLine:=by have:=hr.units;omega
theorem aL8:2000<=sizeLine:=by decide
theorem bF5 (m k:Nat):decide (V.int (Builtin.bitAnd ((m:Int) / 2 ^ (k:Int).toNat) 1)=V.int 1)=decide (m / 2 ^ k % 2=1):=by
 have e:((m:Int) / 2 ^ (k:Int).toNat)=((m / 2 ^ k:Nat):Int):=by
  rw[i8]
  norm_cast
 rw[e]
 generalize m / 2 ^ k=q
 rw[PyProof.Rows.bitAnd_pp (by omega) (by decide),i8,show (1:Int).toNat=1 from rfl,Nat.and_one_is_mod]
 by_cases h:q % 2=1
 ·rw[h];rfl
 ·rw[decide_eq_false h,decide_eq_false fun z=>h (by injection z with z;omega)]
theorem af4 (xs:List Int):(xs.map (Sum.inl:Int->Key)).map kV=xs.map V.int:=by rw[F5];rfl
theorem S7:∀ {xs ys:List Int},xs.map (Sum.inl:Int->Key)=ys.map Sum.inl->xs=ys
 | [],[],_=>rfl
 | [],_::_,h=>by cases h
 | _::_,[],h=>by cases h
 | x::xs,y::ys,h=>by
  rw[k6,k6]at h
  injection h with h1 h2
  injection h1 with h1
  rw[h1,S7 h2]
theorem av8:∀ n:Nat,n<6->2 ^ (j5 n).length<=1024:=by decide +kernel
def TTa (K:W.Frag)(H:Hp)(a:Addr)(T:List (List Int)):Prop:=∃ ys,SqT K H a ys/\x8 K H ys T
theorem TTa.same {K:W.Frag}{H H':Hp}{a:Addr}{T:List (List Int)}(h:TTa K H a T)(s:p7 H H'):TTa K H' a T:=let ⟨ys,h1,h2⟩:=h;⟨ys,s.seqT h1,s.tups h2⟩
theorem TTa.updL {K:W.Frag}{H:Hp}{a l:Addr}{xs zs:List V}{T:List (List Int)}(h:TTa K H a T)(hl:H l=some (.lst xs)):TTa K (upd H l (.lst zs)) a T:=let ⟨ys,h1,h2⟩:=h;⟨ys,h1.updL hl,x8.updL hl h2⟩
def Wls (K:W.Frag)(H:Hp)(us:List V)(ws:List (List (List Int))):Prop:=us.length=ws.length/\∀ (i:Nat) (u:V) (T:List (List Int)),us[i]?=some u->ws[i]?=some T->∃ a,u=.ref a/\TTa K H a T
theorem Wls.same {K:W.Frag}{H H':Hp}{us:List V}{ws:List (List (List Int))}(h:Wls K H us ws)(s:p7 H H'):Wls K H' us ws:=⟨h.1,fun i u T e1 e2=>let ⟨a,x,y⟩:=h.2 i u T e1 e2;⟨a,x,y.same s⟩⟩
theorem Wls.updL {K:W.Frag}{H:Hp}{l:Addr}{xs zs us:List V}{ws:List (List (List Int))}(h:Wls K H us ws)(hl:H l=some (.lst xs)):Wls K (upd H l (.lst zs)) us ws:=⟨h.1,fun i u T e1 e2=>let ⟨a,x,y⟩:=h.2 i u T e1 e2;⟨a,x,y.updL hl⟩⟩
theorem Wls.snoc {K:W.Frag}{H:Hp}{us:List V}{ws:List (List (List Int))}{a:Addr}{T:List (List Int)}(h:Wls K H us ws)(t:TTa K H a T):Wls K H (us++[.ref a]) (ws++[T]):=by
 refine⟨by rw[p9,p9,h.1];rfl,fun i u U e1 e2=>?_⟩
 rcases q0 i us.length with z | z
 ·rw[N4 z]at e1
  rw[N4 (by rw[<- h.1];exact z)]at e2
  exact h.2 i u U e1 e2
 ·rw[M0 z]at e1
  rw[M0 (by rw[<- h.1];exact z),<- h.1]at e2
  cases hz:i - us.length with
  | zero =>
   rw[hz]at e1 e2
   cases e1
   cases e2
   exact⟨a,rfl,t⟩
  | succ n=>rw[hz]at e1;cases e1
def wks (n:Nat)(ts:List Int)(k:Nat):List (List (List Int)):=((k8 k).filter fun m=>decide (tal n (A3 (j5 n) m)=ts)).map (A3 (j5 n))
theorem aD2 (n:Nat)(ts:List Int)(k:Nat):wks n ts (k+1)=wks n ts k++(if tal n (A3 (j5 n) k)=ts then [A3 (j5 n) k] else []):=by
 unfold wks
 rw[v7,F7,i5,ac9,aK3]
 by_cases h:tal n (A3 (j5 n) k)=ts
 ·rw[decide_eq_true h,if_pos rfl,if_pos h];rfl
 ·rw[decide_eq_false h,if_neg f6,if_neg h];rfl
structure AW (K:W.Frag) (H:Hp) (kvs:List (List Key × V)) (n m:Nat):Prop where
 has:∀ key:List Int,(G6 kvs (key.map Sum.inl)).isSome=true↔∃ q,q<m/\tal n (A3 (j5 n) q)=key
 val:∀ (key:List Int) (v:V),G6 kvs (key.map Sum.inl)=some v->∃ l us,v=.ref l/\H l=some (.lst us)/\Wls K H us (wks n key m)
 inj:∀ (key key':List Int) (l:Addr),G6 kvs (key.map Sum.inl)=some (.ref l)->G6 kvs (key'.map Sum.inl)=some (.ref l)->key=key'
 keys:∀ kv∈kvs,∃ q,q<m/\kv.1=(tal n (A3 (j5 n) q)).map Sum.inl
 len:kvs.length<=m
theorem AW.same {K:W.Frag}{H H':Hp}{kvs:List (List Key × V)}{n m:Nat}(h:AW K H kvs n m)(s:p7 H H'):AW K H' kvs n m:=
 ⟨h.has,fun key v e=>let ⟨l,us,e1,e2,e3⟩:=h.val key v e;⟨l,us,e1,s _ _ e2,e3.same s⟩,h.inj,h.keys,h.len⟩
theorem bo8 {kvs:List (List Key × V)}{k:List Key}{v:V}:∀ kv∈putK kvs k v,kv∈kvs\/kv.1=k:=fun kv hm=>by
 by_cases e:kv.1=k
 ·exact .inr e
 ·left
  unfold putK at hm
  split at hm
  ·obtain⟨x,hx,hxe⟩:=l5.mp hm
   split at hxe
   ·rename_i hk
    rw[<- hxe]at e;exact absurd hk e
   ·rw[<- hxe];exact hx
  ·rcases C7.mp hm with h | h
   ·exact h
   ·rw[y6.mp h]at e;exact absurd rfl e
theorem rep0 (n:Nat):(v9 n [V.int 0]).flatten=(tal n []).map V.int:=by
 rw[bn2]
 exact bK5 n 0
theorem SqT.updD {K:W.Frag}{H:Hp}{a d:Addr}{ys:List V}{kvs:List (List Key × V)}{o:HO}(h:SqT K H a ys)(hd:H d=some (.dT kvs)):SqT K (upd H d o) a ys:=by
 rcases h with(h | ⟨u,h⟩) | h
 ·exact .inl (.inl (by rw[m5 (fun z=>by rw[z,hd]at h;cases h)];exact h))
 ·exact .inl (.inr ⟨u,by rw[m5 (fun z=>by rw[z,hd]at h;cases h)];exact h⟩)
 ·exact .inr h
theorem x8.updD {K:W.Frag}{H:Hp}{d:Addr}{kvs:List (List Key × V)}{o:HO}(hd:H d=some (.dT kvs)):∀ {ys:List V} {ks:List (List Int)},x8 K H ys ks->x8 K (upd H d o) ys ks
 | _,_,.nil=>.nil
 | _,_,.cons r t=>by
  obtain⟨a,h1,h2⟩:=r
  exact .cons ⟨a,h1,SqT.updD h2 hd⟩ (x8.updD hd t)
theorem Wls.updD {K:W.Frag}{H:Hp}{d:Addr}{kvs:List (List Key × V)}{o:HO}{us:List V}{ws:List (List (List Int))}(h:Wls K H us ws)(hd:H d=some (.dT kvs)):Wls K (upd H d o) us ws:=
 ⟨h.1,fun i u T e1 e2=>let ⟨a,x,ys,y1,y2⟩:=h.2 i u T e1 e2;⟨a,x,ys,SqT.updD y1 hd,x8.updD hd y2⟩⟩
structure AX (K:W.Frag) (H:Hp) (kvs:List (List Key × V)) (n m:Nat):Prop where
 has:∀ key:List Int,(G6 kvs (key.map Sum.inl)).isSome=true↔∃ q,q<m+1/\tal n (A3 (j5 n) q)=key
 val:∀ (key:List Int) (v:V),G6 kvs (key.map Sum.inl)=some v->∃ l us,v=.ref l/\H l=some (.lst us)/\Wls K H us (wks n key m)
 inj:∀ (key key':List Int) (l:Addr),G6 kvs (key.map Sum.inl)=some (.ref l)->G6 kvs (key'.map Sum.inl)=some (.ref l)->key=key'
 keys:∀ kv∈kvs,∃ q,q<m+1/\kv.1=(tal n (A3 (j5 n) q)).map Sum.inl
 len:kvs.length<=m+1
theorem AX.same {K:W.Frag}{H H':Hp}{kvs:List (List Key × V)}{n m:Nat}(h:AX K H kvs n m)(s:p7 H H'):AX K H' kvs n m:=
 ⟨h.has,fun key v e=>let ⟨l,us,e1,e2,e3⟩:=h.val key v e;⟨l,us,e1,s _ _ e2,e3.same s⟩,h.inj,h.keys,h.len⟩
theorem bm7 (n:Nat)(ts:List Int)(k:Nat):(wks n ts k).length<=k:=by
 unfold wks
 rw[b7]
 have:=C8 (fun m=>decide (tal n (A3 (j5 n) m)=ts)) (k8 k)
 rw[o6]at this
 exact this
theorem AX.step {K:W.Frag}{H:Hp}{kvs:List (List Key × V)}{n m:Nat}{l a:Addr}{us:List V}(h:AX K H kvs n m)(hv:G6 kvs ((tal n (A3 (j5 n) m)).map Sum.inl)=some (.ref l))(hl:H l=some (.lst us))(hw:Wls K H us (wks n (tal n (A3 (j5 n) m)) m))(ht:TTa K H a (A3 (j5 n) m)) :
  AW K (upd H l (.lst (us++[.ref a]))) kvs n (m+1):=by
 refine⟨h.has,fun key v e=>?_,h.inj,h.keys,h.len⟩
 by_cases hk:tal n (A3 (j5 n) m)=key
 ·subst hk
  rw[hv]at e
  cases e
  refine⟨l,us++[.ref a],rfl,c6,?_⟩
  rw[aD2,if_pos rfl]
  exact(hw.updL hl).snoc (ht.updL hl)
 ·obtain⟨l2,us2,rfl,e2,e3⟩:=h.val key v e
  have hne:l2≠l:=fun z=>hk (by rw[z]at e;exact(h.inj _ _ _ e hv).symm)
  refine⟨l2,us2,rfl,by rw[m5 hne];exact e2,?_⟩
  rw[aD2,if_neg hk,A6]
  exact e3.updL hl
theorem AW.toX {K:W.Frag}{H:Hp}{kvs:List (List Key × V)}{n m:Nat}(h:AW K H kvs n m)(hs:(G6 kvs ((tal n (A3 (j5 n) m)).map Sum.inl)).isSome=true):AX K H kvs n m:=by
 refine⟨fun key=>(h.has key).trans ⟨fun⟨q,h1,h2⟩=>⟨q,by omega,h2⟩,fun⟨q,h1,h2⟩=>?_⟩,h.val,h.inj,fun kv hk=>let ⟨q,h1,h2⟩:=h.keys kv hk;⟨q,by omega,h2⟩,Nat.le_succ_of_le h.len⟩
 by_cases e:q=m
 ·have:=(h.has (tal n (A3 (j5 n) m))).mp hs
  rw[e]at h2
  rw[h2]at this
  exact this
 ·exact⟨q,by omega,h2⟩
theorem AW.fresh {K:W.Frag}{H:Hp}{kvs:List (List Key × V)}{n m:Nat}{l:Addr}(h:AW K H kvs n m)(hno:G6 kvs ((tal n (A3 (j5 n) m)).map Sum.inl)=none)(hl:H l=some (.lst []))(hfr:∀ key w,G6 kvs ((key:List Int).map Sum.inl)=some w->w≠.ref l) :
  AX K H (putK kvs ((tal n (A3 (j5 n) m)).map Sum.inl) (.ref l)) n m:=by
 have none_wks:wks n (tal n (A3 (j5 n) m)) m=[]:=by
  unfold wks
  rw[List.map_eq_nil_iff,Q1]
  intro q hq hdq
  have:=(h.has (tal n (A3 (j5 n) m))).mpr ⟨q,p0.mp hq,of_decide_eq_true hdq⟩
  rw[hno]at this
  cases this
 refine⟨fun key=>?_,fun key w e=>?_,fun key key' l2 e1 e2=>?_,fun kv hk=>?_,p5 (Z7 _ _ _) (Nat.succ_le_succ h.len)⟩
 ·rw[Y0]
  by_cases hkey:key=tal n (A3 (j5 n) m)
  ·rw[if_pos (by rw[hkey])]
   exact⟨fun _=>⟨m,by omega,hkey.symm⟩,fun _=>rfl⟩
  ·rw[if_neg (fun z=>hkey (S7 z))]
   refine(h.has key).trans ⟨fun⟨m',h1,h2⟩=>⟨m',by omega,h2⟩,fun⟨m',h1,h2⟩=>?_⟩
   by_cases e:m'=m
   ·rw[e]at h2;exact absurd h2.symm hkey
   ·exact⟨m',by omega,h2⟩
 ·rw[Y0]at e
  by_cases hkey:key=tal n (A3 (j5 n) m)
  ·rw[if_pos (by rw[hkey])]at e
   cases e
   refine⟨l,[],rfl,hl,?_⟩
   rw[hkey,none_wks]
   exact⟨rfl,fun i u T e1=>by cases e1⟩
  ·rw[if_neg (fun z=>hkey (S7 z))]at e
   exact h.val key w e
 ·rw[Y0]at e1 e2
  by_cases k1:key=tal n (A3 (j5 n) m)
  ·by_cases k2:key'=tal n (A3 (j5 n) m)
   ·rw[k1,k2]
   ·rw[if_pos (by rw[k1])]at e1
    rw[if_neg (fun z=>k2 (S7 z))]at e2
    cases e1
    exact absurd rfl (hfr key' _ e2)
  ·by_cases k2:key'=tal n (A3 (j5 n) m)
   ·rw[if_neg (fun z=>k1 (S7 z))]at e1
    rw[if_pos (by rw[k2])]at e2
    cases e2
    exact absurd rfl (hfr key _ e1)
   ·rw[if_neg (fun z=>k1 (S7 z))]at e1
    rw[if_neg (fun z=>k2 (S7 z))]at e2
    exact h.inj key key' l2 e1 e2
 ·rcases bo8 kv hk with hm | hm
  ·obtain⟨q,h1,h2⟩:=h.keys kv hm
   exact⟨q,by omega,h2⟩
  ·exact⟨m,by omega,hm⟩
seal L2.PE L2.PA L2.PS L2.PSs L2.PT
section
variable {P:Program} {w:World} {K:W.Frag} {mg:Str->Option Value} {base:Heap}
def bc4 (K:W.Frag):Sp:=fun vs H Q _=>∃ n:Nat,vs=[.int n]/\1<=n/\n<=5/\∀ (d:Addr) (kvs:List (List Key × V)) (H':Hp),p7 H H'->H d=none->H' d=some (.dT kvs)->AW K H' kvs n (2 ^ (j5 n).length)->Q (.ref d) H'
theorem Y8:t8 ["places","pairs","webs","number","counts","ties","k","pair"] ["places"] (g6 ak7):=⟨rfl,rfl,rfl,by decide +kernel,rfl,by decide +kernel,by decide +kernel⟩
set_option maxHeartbeats 4000000 in
theorem br1 {f fP:Addr} {fd fdP:FuncData} (F:Fun K "_law_all_webs" "_law_all_webs" ak7 f fd) (B:Bn mg) (FP:Fun K "_law_pairs" "_law_pairs" Z3 fP fdP) (bP:Binds K fdP ["places"] []) (mP:mg "_law_pairs"=some (.ref fP)):t9 P w K mg base CX0 2 f fd ["places"] (bc4 K):=by
 have GP:t9 P w K mg base CX0 1 fP fdP ["places"] (aQ3 K):=bf7 FP B
 refine F.ok Y8 (fun vs H Q E h=>?_) (fun cdv A outer s H vs Q E hr h=>?_)
 ·obtain⟨n,rfl,_⟩:=h
  rfl
 ·obtain⟨n,rfl,n1,n2,q⟩:=h
  have hsl:=aL8
  have hlen:=aw6 n (by omega)
  have hpw:=av8 n (by omega)
  refine⟨_,f9 (u6 (i:=1) Y8.nd rfl (Or.inl rfl) (p6 GP hr (by rfl) mP FP.kp bP .nil C9 (b8 (pv 0) d4)))
   (f9 (u6 (i:=2) Y8.nd rfl (Or.inl rfl) be4)
   (f9 (V9 PassesOwn.never rfl (K6 rfl B.range (b8 (v8 bB2 i9 (m3 r6 (by rfl) B.len PySem.boot_len (b8 (pv 1) d4))) d4)) (u7 (i := 3) Y8.nd rfl (Or.inl rfl))
    (f9 (u6 (i:=4) Y8.nd rfl (Or.inl rfl) (v8 be9 (W3 (b8 i9 d4)) (pv 0)))
    (f9 (u6 (i:=5) Y8.nd rfl (Or.inl rfl) (W3 d4))
    (f9 (V9 PassesOwn.never rfl (an1 (by rfl) B.enum (b8 (pv 1) d4)) (aM5 rfl (E3 (u7 (i := 6) Y8.nd rfl (Or.inl rfl)) (E3 (u7 (i := 7) Y8.nd rfl (Or.inl rfl)) W2)))
     (m4 (F9 (y7 aw3 (v8 bB7 (v8 bB1 (pv 3) (pv 6)) i9) i9 (B2 _))
      (f9 (ap8 (v8 G8 (B6 O4 (pv 4) (B6 B4 (pv 7) i9 (fun _ _=>rfl)) (fun _ _=>rfl)) i9) (ap9 (pv 4) (B6 B4 (pv 7) i9 (fun _ _=>rfl)) set_list))
      (f9 (ap8 (v8 G8 (B6 O4 (pv 4) (B6 B4 (pv 7) i9 (fun _ _=>rfl)) (fun _ _=>rfl)) i9) (ap9 (pv 4) (B6 B4 (pv 7) i9 (fun _ _=>rfl)) set_list))
      (m4 (Q3 (aw0 PySem.F.plainAttrs_list PySem.F.slot_list_append PySem.F.type_list_append R0 (pv 5) (b8 (pv 7) d4)))))) B3)))
    (aR2 (F9 (bA6 (aW2 (aN7 hr) (G4 E6 (by rfl) B.tuple (by rfl) (b8 (pv 4) d4)) (pv 2))) (m4 (bo9 (aN7 hr) (pv 2) (G4 E6 (by rfl) B.tuple (by rfl) (b8 (pv 4) d4)) (W3 d4) rfl)) B3)
    (m4 (Q3 (aw0 PySem.F.plainAttrs_list PySem.F.slot_list_append PySem.F.type_list_append R0 (bp2 (aN7 hr) (pv 2) (G4 E6 (by rfl) B.tuple (by rfl) (b8 (pv 4) d4)) (fun _ _=>rfl)) (b8 (G4 E6 (by rfl) B.tuple (by rfl) (b8 (pv 5) d4)) d4)))))))))
   (m4 (A2 (pv 2))))),?_⟩
  refine⟨_,rfl,n,rfl,by omega,fun l1 zs H1 s1 f1 g1 t1=>?_⟩
  have hz:=t1.len
  refine fun d fd=>?_
  have s2:=d9 (o:=.dT []) fd
  have fdH:H d=none:=s1.free fd
  have g2:=s2 _ _ g1
  have hpI:((2 ^ (j5 n).length:Nat):Int)<=1024:=by
   generalize 2 ^ (j5 n).length=q at hpw
   omega
  have hp0:(0:Int)<=((2 ^ (j5 n).length:Nat):Int):=at9 _
  have hp62:((2 ^ (j5 n).length:Nat):Int)<2 ^ 62:=Int.lt_of_le_of_lt hpI (by decide)
  refine⟨_,rfl,l1,_,rfl,.inl (SqL.of g2),_,_,rfl,rfl,⟨by omega,by omega,by decide⟩,((2 ^ (j5 n).length:Nat):Int),?_,Int.le_trans (by decide) hp0,hp62,?_⟩
  ·show [V.int (1*2 ^ ((zs.length:Int)).toNat)]=_
   rw[ac7,i8,hz,Int.natCast_pow];rfl
  rw[i8]
  refine R1 (lo:=0) (n:=2 ^ (j5 n).length) (fun m σ H2=>∃ (kvs:List (List Key × V)) (e3 e4 e5 e6 e7:Option V),σ=[some (.int n),some (.ref l1),some (.ref d),e3,e4,e5,e6,e7]/\p7 H1 H2/\H2 d=some (.dT kvs)/\AW K H2 kvs n m/\∀ (key:List Int) (l:Addr),G6 kvs (key.map Sum.inl)=some (.ref l)->H1 l=none)
   ⟨[],none,none,none,none,none,rfl,s2,c6,⟨fun key=>⟨fun h=>(by cases h),fun⟨m,hm,_⟩=>absurd hm (aK4 _)⟩,fun key v e=>(by cases e),fun key key' l e=>(by cases e),(fun kv hk=>absurd hk B5),c7 _⟩,fun key l e=>(by cases e)⟩ ?_ ?_
  ·rintro m σ H2 hm ⟨kvs,e3,e4,e5,e6,e7,rfl,sa,gd,hK,hfr⟩
   have e0:((0:Int)+(m:Int))=(m:Int):=by omega
   rw[e0]
   refine u0 ?_
   have hkl:=hK.len
   have hk:=bx0 (k:=(n:Int)) (by omega) (by omega)
   refine⟨(by show 1<=sizeLine;decide),fun l0 f0=>⟨_,rfl,l0,_,_,rfl,rfl,c6,hk.1,hk.2,by show 1*_<=sizeLine;omega,fun lc fc=>?_⟩⟩
   rw[i8,rep0]
   have s0:=d9 (o:=.lst [.int 0]) f0
   have s3:=s0.trans (d9 (o:=.lst ((tal n []).map V.int)) fc)
   have nld:d≠lc:=m8 (s0 _ _ gd) fc
   have fc1:H1 lc=none:=(sa.trans s0).free fc
   have fc2:H2 lc=none:=s0.free fc
   have gl3:(upd (upd H2 l0 (.lst [.int 0])) lc (.lst ((tal n []).map V.int))) lc=some (.lst ((tal n (A3 ((j5 n).take 0) m)).map V.int)):=c6
   generalize upd (upd H2 l0 (.lst [.int 0])) lc (.lst ((tal n []).map V.int))=H3 at s3 gl3
   refine⟨by show 0<=sizeLine;omega,fun lt ft=>?_⟩
   have s4:=d9 (o:=.lst []) ft
   have ft1:H1 lt=none:=(sa.trans s3).free ft
   have ft2:H2 lt=none:=s3.free ft
   have nlt:lc≠lt:=m8 gl3 ft
   have gl4:=s4 _ _ gl3
   have gt4:(upd H3 lt (.lst [])) lt=some (.lst []):=c6
   have s24:=s3.trans s4
   generalize upd H3 lt (.lst [])=H4 at s24 gl4 gt4
   refine⟨_,rfl,l1,rfl,⟨_,SqL.of ((sa.trans s24) _ _ g1)⟩,aI4 (K:=K) (a:=l1) (xs:=zs) (fun i σ H5=>∃ e6 e7 ys,σ=[some (.int n),some (.ref l1),some (.ref d),some (.int (m:Int)),some (.ref lc),some (.ref lt),e6,e7]/\p7 H2 H5/\H5 lc=some (.lst ((tal n (A3 ((j5 n).take i) m)).map V.int))/\H5 lt=some (.lst ys)/\x8 K H5 ys (A3 ((j5 n).take i) m)/\ys.length<=i)
    ⟨e6,e7,[],rfl,s24,gl4,gt4,.nil,c7 _⟩ (fun i σ H5 _ ⟨_,_,_,_,s,_⟩=>SqL.of ((sa.trans s) _ _ g1)) ?_ ?_⟩
   ·rintro i x t σ H5 hx ⟨e6,e7,ys,rfl,sc,gl5,gt5,ty5,ly5⟩ ht
    obtain⟨pa,pk,rfl,hk',hq⟩:=t1.get hx
    obtain⟨u,v,huv,hvn,rfl⟩:=ai5 (i6 hk')
    have st:=d9 (o:=.tup [.int i,.ref pa]) ht
    have sd:=sc.trans st
    have gl6:=st _ _ gl5
    have gt6:=st _ _ gt5
    have ty6:=st.tups ty5
    have q5:=(sa.trans sd).seqT hq
    have etk:=av4 (j5 n) i m _ hk'
    have hil:i<zs.length:=(o7.mp hx).1
    refine⟨t,_,rfl,SqT.of c6,rfl,_,_,rfl,_,_,rfl,rfl,?_⟩
    generalize upd H5 t (.tup [.int i,.ref pa])=H6 at sd gl6 gt6 ty6 q5
    refine⟨_,rfl,_,rfl,_,_,rfl,rfl,by omega,_,_,rfl,rfl,rfl,_,rfl,?_⟩
    rw[bF5]
    have at0:atI (([(u:Int),(v:Int)]:List Int).map V.int) 0=some (.int u):=C1 (j:=0) rfl
    have at1:atI (([(u:Int),(v:Int)]:List Int).map V.int) 1=some (.int v):=C1 (j:=1) rfl
    by_cases hb:m / 2 ^ i % 2=1
    ·rw[decide_eq_true hb]
     rw[if_pos hb]at etk
     refine N2 ?_
     have t1':((tal n (A3 ((j5 n).take i) m)).map V.int)[u]?=some (.int (J9 (A3 ((j5 n).take i) m) u)):=by rw[l4,Q2 (by omega)];rfl
     have t2':(((tal n (A3 ((j5 n).take i) m)).map V.int).set u (.int ((J9 (A3 ((j5 n).take i) m) u:Int)+1)))[v]?=some (.int (J9 (A3 ((j5 n).take i) m) v)):=by
      rw[M4 (by omega),l4,Q2 hvn];rfl
     have lt':((tal n (A3 ((j5 n).take i) m)).map V.int).length=n:=by rw[b7,O3]
     refine⟨_,rfl,_,rfl,pa,_,_,_,rfl,rfl,q5,at0,lc,_,_,_,rfl,rfl,SqL.of gl6,C1 t1',_,_,rfl,rfl,_,rfl,_,rfl,pa,_,_,_,rfl,rfl,q5,at0,lc,_,_,u,rfl,rfl,gl6,by rw[lt'];exact af5 (by omega),?_⟩
     have q6:=q5.updL (zs:=((tal n (A3 ((j5 n).take i) m)).map V.int).set u (.int ((J9 (A3 ((j5 n).take i) m) u:Int)+1))) gl6
     refine⟨_,rfl,_,rfl,pa,_,_,_,rfl,rfl,q6,at1,lc,_,_,_,rfl,rfl,SqL.of c6,C1 t2',_,_,rfl,rfl,_,rfl,_,rfl,pa,_,_,_,rfl,rfl,q6,at1,lc,_,_,v,rfl,rfl,c6,by rw[V1,lt'];exact af5 hvn,?_⟩
     rw[aP5]
     have el:(((tal n (A3 ((j5 n).take i) m)).map V.int).set u (.int ((J9 (A3 ((j5 n).take i) m) u:Int)+1))).set v (.int ((J9 (A3 ((j5 n).take i) m) v:Int)+1))=(tal n (A3 ((j5 n).take (i+1)) m)).map V.int:=by
      rw[etk,<- aP6 (n:=n) (i:=u) (j:=v) (by omega) hvn (by omega) (A3 ((j5 n).take i) m) _ _ rfl rfl,ah1,ah1]
     rw[el]
     have gt7:(upd H6 lc (.lst ((tal n (A3 ((j5 n).take (i+1)) m)).map V.int))) lt=some (.lst ys):=by rw[m5 (Ne.symm nlt)];exact gt6
     refine⟨_,rfl,.inl ⟨rfl,_,SqL.of gt7⟩,_,rfl,lt,ys,_,rfl,rfl,gt7,by omega,?_⟩
     refine⟨_,_,ys++[.ref pa],rfl,(sd.upd fc2).upd ft2,by rw[m5 nlt,c6],c6,?_,by rw[p9,ah0];omega⟩
     have ty7:=x8.updL (zs:=ys++[.ref pa]) gt7 (x8.append (x8.updL (zs:=(tal n (A3 ((j5 n).take (i+1)) m)).map V.int) gl6 ty6) (x8.one (q5.updL gl6)))
     generalize upd (upd H6 lc _) lt _=H7 at ty7 ⊢
     rw[etk]
     exact ty7
    ·rw[decide_eq_false hb]
     rw[if_neg hb,A6]at etk
     refine F8 ⟨_,_,ys,rfl,sd,?_,gt6,?_,by omega⟩
     ·rw[etk];exact gl6
     ·rw[etk];exact ty6
   ·rintro σ H5 ⟨e6',e7',ys,rfl,sc,gl5,gt5,ty5,ly5⟩
    rw[j0 (by omega)]at gl5 ty5
    have gd5:=sc _ _ gd
    have K5:=hK.same sc
    have fd2:H1 d=none:=fd
    refine⟨fun σ Hn=>∃ kvs',σ=[some (.int n),some (.ref l1),some (.ref d),some (.int (m:Int)),some (.ref lc),some (.ref lt),e6',e7']/\p7 H1 Hn/\Hn d=some (.dT kvs')/\Hn lc=some (.lst ((tal n (A3 (j5 n) m)).map V.int))/\Hn lt=some (.lst ys)/\x8 K Hn ys (A3 (j5 n) m) /\
     AX K Hn kvs' n m/\(G6 kvs' ((tal n (A3 (j5 n) m)).map Sum.inl)).isSome=true/\∀ (key:List Int) (l:Addr),G6 kvs' (key.map Sum.inl)=some (.ref l)->H1 l=none,?_,?_⟩
    ·refine⟨_,rfl,lc,_,rfl,.inl ⟨SqL.of gl5,fun tu ftu=>?_⟩⟩
     have su:=d9 (o:=.tup ((tal n (A3 (j5 n) m)).map V.int)) ftu
     refine⟨_,rfl,d,_,rfl,aC6.t (k:=(tal n (A3 (j5 n) m)).map Sum.inl) (su _ _ gd5) (by rw[af4];exact c6),_,rfl,?_⟩
     cases hv:G6 kvs ((tal n (A3 (j5 n) m)).map Sum.inl) with
     | some w =>
      refine F8 ⟨kvs,rfl,sa.trans (sc.trans su),su _ _ gd5,su _ _ gl5,su _ _ gt5,su.tups ty5,(K5.same su).toX (by rw[hv];rfl),by rw[hv];rfl,hfr⟩
     | none =>
      refine N2 ⟨by show 0<=sizeLine;omega,fun nl fnl=>?_⟩
      have sn:=d9 (o:=.lst []) fnl
      refine⟨_,rfl,_,rfl,lc,_,rfl,.inl ⟨SqL.of ((su.trans sn) _ _ gl5),fun tv ftv=>?_⟩⟩
      have sv:=d9 (o:=.tup ((tal n (A3 (j5 n) m)).map V.int)) ftv
      have s5v:=su.trans (sn.trans sv)
      have gdv:=s5v _ _ gd5
      refine⟨d,_,rfl,bl4.t (k:=(tal n (A3 (j5 n) m)).map Sum.inl) (v:=.ref nl) gdv (by rw[af4];exact c6) (by omega),?_⟩
      have gnl:(upd (upd (upd H5 tu (.tup ((tal n (A3 (j5 n) m)).map V.int))) nl (.lst [])) tv (.tup ((tal n (A3 (j5 n) m)).map V.int))) nl=some (.lst []):=sv _ _ c6
      have fr5:H5 nl=none:=su.free fnl
      have fr1:H1 nl=none:=(sa.trans sc).free fr5
      have hx:=(K5.same s5v).fresh hv gnl fun key w e z=>by
       obtain⟨l2,us,rfl,e2,_⟩:=K5.val key w e
       injection z with z
       rw[z,fr5]at e2
       cases e2
      have ne:∀ {b:Addr} {xs:List V},(upd (upd (upd H5 tu (.tup ((tal n (A3 (j5 n) m)).map V.int))) nl (.lst [])) tv (.tup ((tal n (A3 (j5 n) m)).map V.int))) b=some (.lst xs)->b≠d:=fun {b xs} e z=>by rw[z,gdv]at e;cases e
      generalize upd (upd (upd H5 tu (.tup ((tal n (A3 (j5 n) m)).map V.int))) nl (.lst [])) tv (.tup ((tal n (A3 (j5 n) m)).map V.int))=H6 at s5v gdv gnl hx ne
      refine⟨_,rfl,((sa.trans sc).trans s5v).upd fd2,c6,by rw[m5 (ne (s5v _ _ gl5))];exact s5v _ _ gl5,by rw[m5 (ne (s5v _ _ gt5))];exact s5v _ _ gt5,x8.updD gdv (s5v.tups ty5),⟨hx.has,fun key w e=>?_,hx.inj,hx.keys,hx.len⟩,by rw[Y0,if_pos rfl];rfl,fun key l e=>?_⟩
      ·obtain⟨l2,us,e1,e2,e3⟩:=hx.val key w e
       exact⟨l2,us,e1,by rw[m5 (ne e2)];exact e2,e3.updD gdv⟩
      ·rw[Y0]at e
       split at e
       ·cases e;exact fr1
       ·exact hfr key l e
    ·rintro σ' Hn ⟨kvs',rfl,sN,gdN,glN,gtN,tyN,X,hsome,hfr'⟩
     obtain⟨w,hw⟩:=k9.mp hsome
     obtain⟨l,us,rfl,gl,wl⟩:=X.val _ _ hw
     refine⟨_,rfl,_,rfl,lc,_,rfl,.inl ⟨SqL.of glN,fun tu ftu=>?_⟩⟩
     have su:=d9 (o:=.tup ((tal n (A3 (j5 n) m)).map V.int)) ftu
     refine⟨d,.ref l,rfl,by rw[<- hw];exact aC6.t (k:=(tal n (A3 (j5 n) m)).map Sum.inl) (su _ _ gdN) (by rw[af4];exact c6),?_⟩
     refine⟨.inl ⟨rfl,_,SqL.of (su _ _ gl)⟩,_,rfl,lt,_,rfl,.inl ⟨SqL.of (su _ _ gtN),fun tt ftt=>?_⟩⟩
     have st:=d9 (o:=.tup ys) ftt
     have sut:=su.trans st
     have hul:=wl.1
     have hwl:=bm7 n (tal n (A3 (j5 n) m)) m
     have gl2:=sut _ _ gl
     refine⟨l,us,_,rfl,rfl,gl2,by omega,?_⟩
     have hA:=(X.same sut).step (a:=tt) hw gl2 (wl.same sut) ⟨ys,SqT.of c6,sut.tups tyN⟩
     have hld:d≠l:=fun z=>by rw[<- z,gdN]at gl;cases gl
     refine⟨kvs',_,_,_,_,_,rfl,(sN.trans sut).upd (hfr' _ l hw),by rw[m5 hld];exact sut _ _ gdN,hA,hfr'⟩
  ·rintro σ H2 ⟨kvs,e3,e4,e5,e6,e7,rfl,sa,gd,hK,_⟩
   exact⟨_,rfl,q d kvs H2 (s1.trans sa) fdH gd hK⟩
end
end Web
namespace Web
open PySem L2
theorem br9 {n:Nat}{a b:List Int}(ha:Up n a)(hb:Up n b)(hne:a≠b)(h:Tim.D0 b a=false):Tim.D0 a b=true:=by
 obtain⟨i,j,_,_,rfl⟩:=ha
 obtain⟨u,v,_,_,rfl⟩:=hb
 unfold Tim.D0 Tim.D0 at h ⊢
 by_cases e1:(u:Int)=i
 ·rw[if_pos e1]at h
  rw[if_pos e1.symm]
  by_cases e2:(v:Int)=j
  ·exact absurd (by rw[e1,e2]) hne
  ·rw[if_neg e2]at h
   rw[if_neg (Ne.symm e2)]
   have:=of_decide_eq_false h
   exact decide_eq_true (by omega)
 ·rw[if_neg e1]at h
  rw[if_neg (Ne.symm e1)]
  have:=of_decide_eq_false h
  exact decide_eq_true (by omega)
theorem bF8 {n:Nat}{ks:List (List Int)}(ups:∀ k∈ks,Up n k)(nd:ks.Nodup)(so:ks.Pairwise (fun a b=>Tim.D0 b a=false)):Asc ks:=by
 have h2:=E7.mp nd
 have h3:=so.and h2
 exact List.Pairwise.imp_of_mem (fun {a b} ha hb h=>br9 (ups a ha) (ups b hb) h.2 h.1) h3
structure Tld (n:Nat) (ks:List (List Int)):Prop where
 ups:∀ k∈ks,Up n k
 nd:ks.Nodup
 srt:ks.Pairwise (fun a b=>Tim.D0 b a=false)
theorem br7 {a b c d:Int}(h:Tim.D0 [c,d] [a,b]=false)(hne:([a,b]:List Int)≠[c,d]):HT.lexLt [a,b] [c,d]=true:=by
 unfold Tim.D0 Tim.D0 at h
 rw[HT.W6]
 by_cases e1:c=a
 ·rw[if_pos e1]at h
  rw[if_pos e1.symm,HT.W6]
  by_cases e2:d=b
  ·exact absurd (by rw[e1,e2]) hne
  ·rw[if_neg e2]at h
   rw[if_neg (Ne.symm e2)]
   have:=of_decide_eq_false h
   exact decide_eq_true (by omega)
 ·rw[if_neg e1]at h
  rw[if_neg (Ne.symm e1)]
  have:=of_decide_eq_false h
  exact decide_eq_true (by omega)
theorem aX1 {c d:Int}(h:0<=c):HT.lexLt [-1,-1] [c,d]=true:=by
 rw[HT.W6,if_neg (by omega)]
 exact decide_eq_true (by omega)
def ar1 (ks:List (List Int)):Nat->List Int
 | 0=>[-1,-1]
 | i+1=>ks.getD i []
theorem bs0 {n:Nat}{ks:List (List Int)}(T:Tld n ks){i:Nat}{k:List Int}(h:ks[i]?=some k):HT.lexLt (ar1 ks i) k=true/\(ar1 ks i).length=2:=by
 obtain⟨u,v,_,_,rfl⟩:=T.ups k (i6 h)
 cases i with
 | zero=>exact⟨aX1 (by omega),rfl⟩
 | succ i =>
  have hil:i+1<ks.length:=(o7.mp h).1
  have e1:ks[i]?=some ks[i]:=c8 (by omega)
  have el:ar1 ks (i+1)=ks[i]:=by show ks.getD i []=_;rw[c5,e1];rfl
  have e2:ks[i+1]=[(u:Int),(v:Int)]:=by
   have:=c8 hil
   rw[h]at this
   exact(Option.some.inj this).symm
  have p1:=x5.mp T.srt i (i+1) (by omega) hil (by omega)
  have p2:=x5.mp T.nd i (i+1) (by omega) hil (by omega)
  obtain⟨a,b,_,_,e3⟩:=T.ups ks[i] (N5 _)
  rw[el]
  rw[e2]at p1 p2
  rw[e3]at p1 p2 ⊢
  exact⟨br7 p1 p2,rfl⟩
def aB9 (ns ms:List Int):Bool:=((k8 ns.length).map fun j=>decide (ms.getD j 0<=ns.getD j 0)).all id
theorem aJ5 {ns ms:List Int}:aB9 ns ms=true↔∀ j,j<ns.length->ms.getD j 0<=ns.getD j 0:=by
 unfold aB9
 rw[C0]
 constructor
 ·intro h j hj
  exact of_decide_eq_true (h _ (l5.mpr ⟨j,p0.mpr hj,rfl⟩))
 ·intro h b hb
  obtain⟨j,hj,rfl⟩:=l5.mp hb
  exact decide_eq_true (h j (p0.mp hj))
theorem bb2 {ns ms:List Int}(h:ms.length=ns.length):(U2 ns ms).sum=ns.sum - ms.sum:=by
 rw[<- ag4,Y2,Grf.m6 (fun j hj=>Y3 (xs:=ms) hj),Grf.B0,ag4]
 have:=ag4 ms
 rw[h]at this
 rw[this]
seal L2.PE L2.PA L2.PS L2.PSs L2.PT
section
variable {P:Program} {w:World} {K:W.Frag} {mg:Str->Option Value} {base:Heap}
def bv6 (K:W.Frag):Sp:=fun vs H Q _=>∃ (a:Addr) (ns:List Int) (r:Nat),vs=[.ref a,.int r]/\SqL K H a (ns.map V.int)/\r<=ns.length/\ns.length<=24/\∀ (H':Hp),p7 H H'->Q (.int (F2 ns r)) H'
theorem av7:t8 ["tally","r","rest","space","k"] ["tally","r"] (g6 aE5):=⟨rfl,rfl,rfl,by decide +kernel,rfl,by decide +kernel,by decide +kernel⟩
theorem bC0 {f:Addr} {fd:FuncData} (F:Fun K "_law_room_at" "_law_room_at" aE5 f fd) (B:Bn mg):t9 P w K mg base CX0 1 f fd ["tally","r"] (bv6 K):=by
 refine F.ok av7 (fun vs H Q E h=>?_) (fun cdv A outer s H vs Q E hr h=>?_)
 ·obtain⟨a,ns,r,rfl,_⟩:=h
  rfl
 ·obtain⟨a,ns,r,rfl,hS,hr1,hn,q⟩:=h
  have hsl:=G7
  refine⟨_,f9 (u6 (i:=2) av7.nd rfl (Or.inl rfl) (m3 aO3 (by rfl) B.sorted (by rfl) (b8 (pv 0) d4)))
   (f9 (u6 (i:=3) av7.nd rfl (Or.inl rfl) (v8 ai2 (pv 1) (v8 R7 (pv 1) i9)))
   (f9 (V9 PassesOwn.never rfl (K6 rfl B.range (b8 (m3 r6 (by rfl) B.len PySem.boot_len (b8 (pv 2) d4)) d4)) (u7 (i := 4) av7.nd rfl (Or.inl rfl))
    (m4 (F9 (y7 af0 (pv 4) (v8 R7 (m3 r6 (by rfl) B.len PySem.boot_len (b8 (pv 2) d4)) (pv 1)) (B2 _))
     (m4 (u6 (i:=3) av7.nd rfl (Or.inl rfl) (v8 G8 (pv 3) (m3 (ab5 rfl) (by rfl) B.min (by rfl) (b8 (B6 O4 (pv 2) (pv 4) (fun _ _=>rfl)) (b8 (pv 1) d4))))))
     (m4 (u6 (i:=3) av7.nd rfl (Or.inl rfl) (v8 R7 (pv 3) (B6 O4 (pv 2) (pv 4) (fun _ _=>rfl))))))))
   (m4 (A2 (pv 3))))),?_⟩
  refine⟨_,rfl,a,ns,rfl,.inl hS,by omega,fun l zs hl hp hs=>?_⟩
  have ez:=bo4 hp hs
  have hzl:zs.length=ns.length:=hp.length_eq
  have s1:=d9 (o:=.lst (zs.map V.int)) hl
  refine⟨_,rfl,_,rfl,_,_,rfl,rfl,_,_,rfl,rfl,.inl ⟨by omega,by omega⟩,?_⟩
  refine⟨_,rfl,l,_,rfl,.inl (SqL.of c6),(ns.length:Int),by rw[b7,hzl],by omega,by omega,?_⟩
  rw[i8]
  refine R1 (lo:=0) (n:=ns.length) (fun i σ H1=>∃ (b:Option V),σ=[some (.ref a),some (.int r),some (.ref l),some (.int ((r:Int)*((r:Int) - 1)+part (ns.length - r) r (zs.take i))),b]/\p7 H H1/\H1 l=some (.lst (zs.map V.int)))
   ⟨none,by rw[List.take_zero,be8,bl7];rfl,s1,c6⟩ ?_ ?_
  ·rintro i σ H1 hi ⟨b,rfl,s2,g2⟩
   have e0:((0:Int)+(i:Int))=(i:Int):=by omega
   rw[e0]
   obtain⟨x,hx⟩:∃ x,zs[i]?=some x:=⟨_,c8 (by omega)⟩
   have hat:atI (zs.map V.int) (i:Int)=some (.int x):=C1 (j:=i) (by rw[l4,hx];rfl)
   refine u0 ?_
   refine⟨_,rfl,_,rfl,l,_,rfl,.inl (SqL.of g2),_,rfl,_,_,rfl,rfl,_,_,rfl,rfl,_,rfl,?_⟩
   rw[b7,hzl]
   by_cases hi2:i<ns.length - r
   ·rw[decide_eq_true (show (i:Int)<(ns.length:Int) - (r:Int) by omega)]
    refine N2 ?_
    refine⟨_,rfl,_,rfl,_,rfl,l,_,_,_,rfl,rfl,SqL.of g2,hat,_,rfl,_,_,rfl,_,_,rfl,rfl,?_⟩
    refine⟨some (.int (i:Int)),?_,s2,g2⟩
    rw[bp3 hi2 hx,<- Int.add_assoc]
    rfl
   ·rw[decide_eq_false (show ¬ (i:Int)<(ns.length:Int) - (r:Int) by omega)]
    refine F8 ?_
    refine⟨_,rfl,_,rfl,_,rfl,l,_,_,_,rfl,rfl,SqL.of g2,hat,_,_,rfl,rfl,?_⟩
    refine⟨some (.int (i:Int)),?_,s2,g2⟩
    rw[bp4 (by omega) hx,<- Int.add_sub_assoc]
    rfl
  ·rintro σ H1 ⟨b,rfl,s2,g2⟩
   refine⟨_,rfl,?_⟩
   rw[j0 (by omega),ez]
   exact q H1 s2
def aP8:Sp:=fun vs H Q _=>∃ z:Int,vs=[.int z]/\Q (.bl true) H
theorem bn8:t8 ["found"] ["found"] (g6 Y9):=⟨rfl,rfl,rfl,by decide +kernel,rfl,by decide +kernel,by decide +kernel⟩
theorem bf2 {f:Addr}{fd:FuncData}(F:Fun K "_law_whole" "_law_whole" Y9 f fd)(B:Bn mg):t9 P w K mg base CX0 1 f fd ["found"] aP8:=by
 refine F.ok bn8 (fun vs H Q E h=>?_) (fun cdv A outer s H vs Q E hr h=>?_)
 ·obtain⟨z,rfl,_⟩:=h
  rfl
 ·obtain⟨z,rfl,q⟩:=h
  refine⟨_,m4 (A2 (aM7 (m3 (af9 K rfl) (by rfl) B.isin (by rfl) (b8 (pv 0) (b8 (ab0 (v:=.ty "int") (by rfl) B.int (by rfl) rfl) d4)))
    (be2 (bA8 (m3 (af9 K rfl) (by rfl) B.isin (by rfl) (b8 (pv 0) (b8 (ab0 (v:=.ty "bool") (by rfl) B.bool (by rfl) rfl) d4))))))),?_⟩
  refine⟨_,rfl,_,_,_,true,rfl,.int z,rfl,true,rfl,N2 ?_⟩
  exact⟨_,rfl,_,_,_,false,rfl,.int z,rfl,false,rfl,q⟩
def bc1 (K:W.Frag):Sp:=fun vs H Q _=>∃ (r:Addr) (n:Nat) (ks:List (List Int)),vs=[.ref r,.int n]/\(∃ t zs,H r=some (.tup [.int n,.ref t])/\H t=some (.tup zs)/\x8 K H zs ks)/\Tld n ks/\n<=24/\∀ (l:Addr) (H':Hp),p7 H H'->H l=none->H' l=some (.lst ((tal n ks).map V.int))->Q (.ref l) H'
theorem ap2:t8 ["found","places","counts","last","tie"] ["found","places"] (g6 ak5):=⟨rfl,rfl,rfl,by decide +kernel,rfl,by decide +kernel,by decide +kernel⟩
set_option maxHeartbeats 2000000 in
theorem bq9 {f:Addr} {fd:FuncData} (F:Fun K "_law_counts" "_law_counts" ak5 f fd) (B:Bn mg):t9 P w K mg base CX0 1 f fd ["found","places"] (bc1 K):=by
 refine F.ok ap2 (fun vs H Q E h=>?_) (fun cdv A outer s H vs Q E hr h=>?_)
 ·obtain⟨r,n,ks,rfl,_⟩:=h
  rfl
 ·obtain⟨r,n,ks,rfl,⟨t,zs,gr,gt,tz⟩,T,h11,q⟩:=h
  have hsl:=G7
  have hun:=hr.units
  have hu8:=bH0 (K2 _ 64) hr.units
  have a0:atI ([.int n,.ref t]:List V) 0=some (.int n):=C1 (j:=0) rfl
  have a1:atI ([.int n,.ref t]:List V) 1=some (.ref t):=C1 (j:=1) rfl
  refine⟨_,f9 (F9 (PW.pt (S5 (M9 (P3 (m3 Q6 (by rfl) B.isin (by rfl) (b8 (pv 0) (b8 (ab0 (v:=.ty "tuple") (by rfl) B.tuple (by rfl) rfl) d4)))))
     (S5 (y7 al4 (m3 r6 (by rfl) B.len PySem.boot_len (b8 (pv 0) d4)) i9 (B2 _))
     (S5 (y7 al4 (B6 B4 (pv 0) i9 (fun _ _=>rfl)) (pv 1) (B2 _))
     (ai0 (M9 (P3 (m3 Q6 (by rfl) B.isin (by rfl) (b8 (B6 B4 (pv 0) i9 (fun _ _=>rfl)) (b8 (ab0 (v:=.ty "tuple") (by rfl) B.tuple (by rfl) rfl) d4)))))))))) E2 B3)
   (f9 (u6 (i:=2) ap2.nd rfl (Or.inl rfl) (v8 be9 (W3 (b8 i9 d4)) (pv 1)))
   (f9 (u6 (i:=3) ap2.nd rfl (Or.inl rfl) (N0 (b8 (aR4 az2 i9) (b8 (aR4 az2 i9) d4))))
   (f9 (V9 PassesOwn.never rfl (aM4 (B6 B4 (pv 0) i9 (fun _ _ => rfl))) (u7 (i := 4) ap2.nd rfl (Or.inl rfl))
    (f9 (F9 (PW.pt (S5 (M9 (P3 (m3 Q6 (by rfl) B.isin (by rfl) (b8 (pv 4) (b8 (ab0 (v:=.ty "tuple") (by rfl) B.tuple (by rfl) rfl) d4)))))
      (S5 (y7 al4 (m3 r6 (by rfl) B.len PySem.boot_len (b8 (pv 4) d4)) i9 (B2 _))
      (ai0 (y7 (bB3 hu8) (pv 4) (pv 3) (B2 _)))))) E2 B3)
    (f9 (F9 (PW.pt (S5 (y7 af0 (B6 B4 (pv 4) i9 (fun _ _=>rfl)) i9 (B2 _))
      (S5 (y7 bw7 (B6 B4 (pv 4) i9 (fun _ _=>rfl)) (B6 B4 (pv 4) i9 (fun _ _=>rfl)) (B2 _))
      (ai0 (y7 bw7 (B6 B4 (pv 4) i9 (fun _ _=>rfl)) (pv 1) (B2 _)))))) E2 B3)
    (f9 (ap8 (v8 G8 (B6 O4 (pv 2) (B6 B4 (pv 4) i9 (fun _ _=>rfl)) (fun _ _=>rfl)) i9) (ap9 (pv 2) (B6 B4 (pv 4) i9 (fun _ _=>rfl)) set_list))
    (f9 (ap8 (v8 G8 (B6 O4 (pv 2) (B6 B4 (pv 4) i9 (fun _ _=>rfl)) (fun _ _=>rfl)) i9) (ap9 (pv 2) (B6 B4 (pv 4) i9 (fun _ _=>rfl)) set_list))
    (m4 (u6 (i:=3) ap2.nd rfl (Or.inl rfl) (pv 4))))))))
   (m4 (A2 (pv 2)))))),?_⟩
  refine⟨_,rfl,r,_,_,true,rfl,SqT.of gr,rfl,_,rfl,F8 ?_⟩
  refine⟨_,rfl,r,_,rfl,.inr (SqT.of gr),rfl,_,rfl,al5 rfl ?_⟩
  refine⟨_,rfl,r,_,_,_,rfl,rfl,SqT.of gr,a0,_,rfl,rfl,_,rfl,al5 rfl ?_⟩
  refine⟨_,rfl,r,_,_,_,rfl,rfl,SqT.of gr,a1,t,_,_,true,rfl,SqT.of gt,rfl,_,rfl,F8 ?_⟩
  have hk:=bx0 (k:=(n:Int)) (by omega) (by omega)
  refine⟨(by show 1<=sizeLine;decide),fun l0 f0=>⟨_,rfl,l0,_,_,rfl,rfl,c6,hk.1,hk.2,by show 1*_<=sizeLine;omega,fun lc fc=>?_⟩⟩
  rw[i8,rep0]
  have s0:=d9 (o:=.lst [.int 0]) f0
  have s1:=s0.trans (d9 (o:=.lst ((tal n []).map V.int)) fc)
  have gc1:(upd (upd H l0 (.lst [.int 0])) lc (.lst ((tal n []).map V.int))) lc=some (.lst ((tal n (ks.take 0)).map V.int)):=c6
  have fcH:H lc=none:=s0.free fc
  generalize upd (upd H l0 (.lst [.int 0])) lc (.lst ((tal n []).map V.int))=H1 at s1 gc1 ⊢
  refine⟨_,rfl,_,rfl,(by show 2<=sizeLine;omega),fun lp flp=>?_⟩
  have s2:=d9 (o:=.tup [.int (-1),.int (-1)]) flp
  have gl2:(upd H1 lp (.tup [.int (-1),.int (-1)])) lp=some (.tup ((ar1 ks 0).map V.int)):=c6
  have gc2:=s2 _ _ gc1
  have s12:=s1.trans s2
  generalize upd H1 lp (.tup [.int (-1),.int (-1)])=H2 at s12 gl2 gc2 ⊢
  have hzl:=tz.len
  refine⟨_,rfl,r,_,_,_,rfl,rfl,SqT.of (s12 _ _ gr),a1,t,rfl,⟨_,SqT.of (s12 _ _ gt)⟩,bt5 (K:=K) (a:=t) (xs:=zs) (fun i σ Ha=>∃ (lp:Addr) (e4:Option V),σ=[some (.ref r),some (.int (n:Int)),some (.ref lc),some (.ref lp),e4]/\p7 H Ha/\Ha lc=some (.lst ((tal n (ks.take i)).map V.int))/\(i<ks.length->SqT K Ha lp ((ar1 ks i).map V.int)))
   ⟨lp,none,rfl,s12,gc2,fun _=>SqT.of gl2⟩ (fun i σ Ha _ ⟨_,_,_,s,_⟩=>SqT.of (s _ _ gt)) ?_ ?_⟩
  ·rintro i x σ Ha hx ⟨lp,e4,rfl,sa,gca,gla⟩
   obtain⟨pa,pk,rfl,hk',hq⟩:=tz.get hx
   have hil:i<ks.length:=(o7.mp hk').1
   obtain⟨hlt,hl2⟩:=bs0 T hk'
   have gl3:=gla hil
   obtain⟨u,v,huv,hvn,rfl⟩:=T.ups pk (i6 hk')
   have at0:atI (([(u:Int),(v:Int)]:List Int).map V.int) 0=some (.int u):=C1 (j:=0) rfl
   have at1:atI (([(u:Int),(v:Int)]:List Int).map V.int) 1=some (.int v):=C1 (j:=1) rfl
   have q5:=sa.seqT hq
   refine u0 ?_
   refine⟨_,rfl,pa,_,_,true,rfl,q5,rfl,_,rfl,F8 ?_⟩
   refine⟨_,rfl,pa,_,rfl,.inr q5,rfl,_,rfl,al5 rfl ?_⟩
   refine⟨_,rfl,_,rfl,pa,lp,[(u:Int),(v:Int)],ar1 ks i,rfl,rfl,q5,gl3,hl2.symm,_,rfl,?_⟩
   rw[hlt]
   refine F8 ?_
   refine⟨_,rfl,pa,_,_,_,rfl,rfl,q5,at0,_,_,rfl,rfl,_,rfl,?_⟩
   rw[decide_eq_false (show ¬ ((u:Int)<0) by omega)]
   refine F8 ?_
   refine⟨_,rfl,pa,_,_,_,rfl,rfl,q5,at0,_,rfl,pa,_,_,_,rfl,rfl,q5,at1,_,_,rfl,rfl,_,rfl,?_⟩
   rw[decide_eq_false (show ¬ ((v:Int)<=u) by omega)]
   refine F8 ?_
   refine⟨_,rfl,pa,_,_,_,rfl,rfl,q5,at1,_,rfl,_,_,rfl,rfl,_,rfl,?_⟩
   rw[decide_eq_false (show ¬ ((n:Int)<=v) by omega)]
   refine F8 ?_
   have etk:ks.take (i+1)=ks.take i++[[(u:Int),(v:Int)]]:=by rw[x9,hk'];rfl
   have t1':((tal n (ks.take i)).map V.int)[u]?=some (.int (J9 (ks.take i) u)):=by rw[l4,Q2 (by omega)];rfl
   have t2':(((tal n (ks.take i)).map V.int).set u (.int ((J9 (ks.take i) u:Int)+1)))[v]?=some (.int (J9 (ks.take i) v)):=by
    rw[M4 (by omega),l4,Q2 hvn];rfl
   have lt':((tal n (ks.take i)).map V.int).length=n:=by rw[b7,O3]
   refine⟨_,rfl,_,rfl,pa,_,_,_,rfl,rfl,q5,at0,lc,_,_,_,rfl,rfl,SqL.of gca,C1 t1',_,_,rfl,rfl,_,rfl,_,rfl,pa,_,_,_,rfl,rfl,q5,at0,lc,_,_,u,rfl,rfl,gca,by rw[lt'];exact af5 (by omega),?_⟩
   have q6:=q5.updL (zs:=((tal n (ks.take i)).map V.int).set u (.int ((J9 (ks.take i) u:Int)+1))) gca
   refine⟨_,rfl,_,rfl,pa,_,_,_,rfl,rfl,q6,at1,lc,_,_,_,rfl,rfl,SqL.of c6,C1 t2',_,_,rfl,rfl,_,rfl,_,rfl,pa,_,_,_,rfl,rfl,q6,at1,lc,_,_,v,rfl,rfl,c6,by rw[V1,lt'];exact af5 hvn,?_⟩
   rw[aP5]
   have el:(((tal n (ks.take i)).map V.int).set u (.int ((J9 (ks.take i) u:Int)+1))).set v (.int ((J9 (ks.take i) v:Int)+1))=(tal n (ks.take (i+1))).map V.int:=by
    rw[etk,<- aP6 (n:=n) (i:=u) (j:=v) (by omega) hvn (by omega) (ks.take i) _ _ rfl rfl,ah1,ah1]
   rw[el]
   refine⟨_,rfl,pa,_,rfl,sa.upd fcH,c6,fun _=>?_⟩
   have e2:ar1 ks (i+1)=[(u:Int),(v:Int)]:=by show ks.getD i []=_;rw[c5,hk'];rfl
   rw[e2]
   exact q5.updL gca
  ·rintro σ Ha ⟨lp,e4,rfl,sa,gca,_⟩
   rw[j0 (by omega)]at gca
   exact⟨_,rfl,q lc Ha sa fcH gca⟩
def bb9 (K:W.Frag):Sp:=fun vs H Q _=>∃ (a c:Addr) (ns ms:List Int),vs=[.ref a,.ref c]/\Sq K H a ns/\Sq K H c ms/\ms.length=ns.length/\ns.length<=24/\∀ H':Hp,p7 H H'->Q (.int (ns.sum - ms.sum)) H'
theorem bA2:t8 ["tally","counts"] ["tally","counts"] (g6 ak3):=⟨rfl,rfl,rfl,by decide +kernel,rfl,by decide +kernel,by decide +kernel⟩
theorem bq7 {f:Addr}{fd:FuncData}(F:Fun K "_law_lack" "_law_lack" ak3 f fd)(B:Bn mg):t9 P w K mg base CX0 1 f fd ["tally","counts"] (bb9 K):=by
 refine F.ok bA2 (fun vs H Q E h=>?_) (fun cdv A outer s H vs Q E hr h=>?_)
 ·obtain⟨a,c,ns,ms,rfl,_⟩:=h
  rfl
 ·obtain⟨a,c,ns,ms,rfl,hS,hC,hl,hn,q⟩:=h
  have hsl:=G7
  have nd2:(["number","having"]:List Str).Nodup:=by decide +kernel
  obtain⟨b1,hA⟩:∃ b,SqB b K H a (ns.map V.int):=hS.elim (fun h=>⟨true,h⟩) fun h=>⟨false,h⟩
  obtain⟨b2,hB⟩:∃ b,SqB b K H c (ms.map V.int):=hC.elim (fun h=>⟨true,h⟩) fun h=>⟨false,h⟩
  refine⟨_,m4 (A2 (m3 (U8 rfl) (by rfl) B.sum (by rfl) (b8 (G0 (N':=["number","having"]) (lk:=[none,none]) rfl (aA2 (by rfl) B.zip (b8 (pv 0) (b8 (pv 1) d4))) (by rfl) rfl (by decide +kernel) (by exact trivial) (by rfl) (by exact LkL.ok trivial) (fun _ _ _=>ae8 (n:=2) K rfl rfl (E3 (u7 (i:=0) nd2 rfl (Or.inl rfl)) (E3 (u7 (i:=1) nd2 rfl (Or.inl rfl)) W2))) (fun _ _ _=>K4) (fun _ _ _=>v8 R7 (pv 0) (pv 1))) d4))),?_⟩
  refine⟨_,rfl,_,rfl,b1,b2,a,c,rfl,⟨_,hA⟩,⟨_,hB⟩,fun D hD=>?_⟩
  refine aj3 (b1:=b1) (b2:=b2) (K:=K) (a:=a) (b:=c) (D:=D) (ys:=ns.map V.int) (zs:=ms.map V.int) (by rw[b7,b7,hl]) (fun i ds σ' H'=>(∃ v u,σ'=[v,u])/\p7 H H'/\H' D=some (.lst ds)/\ds=((k8 i).map fun j=>V.int (ns.getD j 0 - ms.getD j 0)))
   ⟨⟨none,none,rfl⟩,d9 hD,c6,rfl⟩ (by rw[b7];omega) (fun i ds σ' H' hi ⟨_,s8,h8,e8⟩=>⟨SqB.same hA s8,SqB.same hB s8,h8,by rw[e8,b7,o6];exact c7 _⟩) ?_ ?_
  ·rintro i ds x y t σ' H' N kN hx hy ⟨⟨v,u,rfl⟩,s8,h8,rfl⟩ ht'
   obtain⟨z1,hz1,rfl⟩:=J0 hx
   obtain⟨z2,hz2,rfl⟩:=J0 hy
   have s9:=d9 (o:=.tup [.int z1,.int z2]) ht'
   refine⟨t,_,rfl,SqT.of c6,rfl,_,_,rfl,_,_,rfl,rfl,F1 ?_⟩
   refine⟨_,rfl,_,rfl,_,_,rfl,rfl,s9 _ _ h8,kN _ _ _ ⟨⟨_,_,rfl⟩,(s8.trans s9).upd hD,c6,?_⟩⟩
   rw[v7,i5]
   have e1:ns.getD i 0=z1:=by rw[c5,hz1];rfl
   have e2:ms.getD i 0=z2:=by rw[c5,hz2];rfl
   rw[<- e1,<- e2]
   rfl
  ·rintro ds σ' H4 ⟨⟨v,u,rfl⟩,s4,gD4,rfl⟩
   rw[b7]at gD4
   have e:((k8 ns.length).map fun j=>V.int (ns.getD j 0 - ms.getD j 0))=(U2 ns ms).map V.int:=by
    unfold U2
    rw[F5]
    rfl
   rw[e]at gD4
   have q':=q H4 s4
   rw[<- bb2 hl]at q'
   exact⟨D,U2 ns ms,rfl,SqL.of gD4,q'⟩
def bw0 (K:W.Frag):Sp:=fun vs H Q _=>∃ (a c:Addr) (ns ms:List Int),vs=[.ref a,.ref c]/\Sq K H a ns/\Sq K H c ms/\ms.length=ns.length/\ns.length<=24/\∀ H':Hp,p7 H H'->Q (.bl (aB9 ns ms)) H'
theorem bK2:t8 ["tally","counts"] ["tally","counts"] (g6 aE8):=⟨rfl,rfl,rfl,by decide +kernel,rfl,by decide +kernel,by decide +kernel⟩
theorem bC5 {f:Addr}{fd:FuncData}(F:Fun K "_law_beneath" "_law_beneath" aE8 f fd)(B:Bn mg):t9 P w K mg base CX0 1 f fd ["tally","counts"] (bw0 K):=by
 refine F.ok bK2 (fun vs H Q E h=>?_) (fun cdv A outer s H vs Q E hr h=>?_)
 ·obtain⟨a,c,ns,ms,rfl,_⟩:=h
  rfl
 ·obtain⟨a,c,ns,ms,rfl,hS,hC,hl,hn,q⟩:=h
  have hsl:=G7
  have nd2:(["number","having"]:List Str).Nodup:=by decide +kernel
  obtain⟨b1,hA⟩:∃ b,SqB b K H a (ns.map V.int):=hS.elim (fun h=>⟨true,h⟩) fun h=>⟨false,h⟩
  obtain⟨b2,hB⟩:∃ b,SqB b K H c (ms.map V.int):=hC.elim (fun h=>⟨true,h⟩) fun h=>⟨false,h⟩
  refine⟨_,m4 (A2 (m3 (aZ7 rfl) (by rfl) B.all boot_all (b8 (G0 (N':=["number","having"]) (lk:=[none,none]) rfl (aA2 (by rfl) B.zip (b8 (pv 0) (b8 (pv 1) d4))) (by rfl) rfl (by decide +kernel) (by exact trivial) (by rfl) (by exact LkL.ok trivial) (fun _ _ _=>ae8 (n:=2) K rfl rfl (E3 (u7 (i:=0) nd2 rfl (Or.inl rfl)) (E3 (u7 (i:=1) nd2 rfl (Or.inl rfl)) W2))) (fun _ _ _=>K4) (fun _ _ _=>ae9 Z6 (pv 1) (pv 0) (B2 _))) d4))),?_⟩
  refine⟨_,rfl,_,rfl,b1,b2,a,c,rfl,⟨_,hA⟩,⟨_,hB⟩,fun D hD=>?_⟩
  refine aj3 (b1:=b1) (b2:=b2) (K:=K) (a:=a) (b:=c) (D:=D) (ys:=ns.map V.int) (zs:=ms.map V.int) (by rw[b7,b7,hl]) (fun i ds σ' H'=>(∃ v u,σ'=[v,u])/\p7 H H'/\H' D=some (.lst ds)/\ds=((k8 i).map fun j=>V.bl (decide (ms.getD j 0<=ns.getD j 0))))
   ⟨⟨none,none,rfl⟩,d9 hD,c6,rfl⟩ (by rw[b7];omega) (fun i ds σ' H' hi ⟨_,s8,h8,e8⟩=>⟨SqB.same hA s8,SqB.same hB s8,h8,by rw[e8,b7,o6];exact c7 _⟩) ?_ ?_
  ·rintro i ds x y t σ' H' N kN hx hy ⟨⟨v,u,rfl⟩,s8,h8,rfl⟩ ht'
   obtain⟨z1,hz1,rfl⟩:=J0 hx
   obtain⟨z2,hz2,rfl⟩:=J0 hy
   have s9:=d9 (o:=.tup [.int z1,.int z2]) ht'
   refine⟨t,_,rfl,SqT.of c6,rfl,_,_,rfl,_,_,rfl,rfl,F1 ?_⟩
   refine⟨_,rfl,_,rfl,_,_,rfl,rfl,s9 _ _ h8,kN _ _ _ ⟨⟨_,_,rfl⟩,(s8.trans s9).upd hD,c6,?_⟩⟩
   rw[v7,i5]
   have e1:ns.getD i 0=z1:=by rw[c5,hz1];rfl
   have e2:ms.getD i 0=z2:=by rw[c5,hz2];rfl
   rw[<- e1,<- e2]
   rfl
  ·rintro ds σ' H4 ⟨⟨v,u,rfl⟩,s4,gD4,rfl⟩
   rw[b7]at gD4
   have e:((k8 ns.length).map fun j=>V.bl (decide (ms.getD j 0<=ns.getD j 0)))=((k8 ns.length).map fun j=>decide (ms.getD j 0<=ns.getD j 0)).map V.bl:=by
    rw[F5]
    rfl
   rw[e]at gD4
   exact⟨D,_,rfl,gD4,q H4 s4⟩
end
end Web
namespace Web
open PySem L2
theorem bt0 {PT PU a:Addr}{H H':Hp}(g:Gw PT PU H H')(t:Tbs PT PU H')(h:H' a=none):H a=none:=by
 cases e:H a with
 | none=>rfl
 | some o =>
  obtain⟨⟨ps,hP,_⟩,⟨qs,hQ,_⟩,_⟩:=t
  rw[g a o (fun z=>by rw[z,hP]at h;cases h) (fun z=>by rw[z,hQ]at h;cases h) e]at h
  cases h
theorem aP7 {P l:Addr}{po:Pos}{qu:Str}{H:Hp}{xs zs:List V}(t:K8 P po qu H)(h:H l=some (.lst xs)):K8 P po qu (upd H l (.lst zs)):=by
 obtain⟨ps,hP,h1,h2⟩:=t
 refine⟨ps,by rw[m5 (fun z=>by rw[z,h]at hP;cases hP)];exact hP,h1,h2.imp id fun⟨c,e,hc⟩=>⟨c,e,by rw[m5 (fun z=>by rw[z,h]at hc;unfold ag7 at hc;cases hc)];exact hc⟩⟩
theorem Tbs.upd {PT PU l:Addr}{H:Hp}{xs zs:List V}(t:Tbs PT PU H)(h:H l=some (.lst xs)):Tbs PT PU (L2.upd H l (.lst zs)):=⟨aP7 t.1 h,aP7 t.2.1 h,t.2.2⟩
theorem br5 (c:Int){n:Nat}(h:0<n):∃ j:Nat,c % (n:Int)=(j:Int)/\j<n:=by
 have h1:=ah3 c (show (n:Int)≠0 by omega)
 have h2:=bG4 c (show (0:Int)<(n:Int) by omega)
 exact⟨(c % (n:Int)).toNat,by omega,by omega⟩
def dLo (a n:Int)(ks:List (List Int))(j:Int):PyData:=.tuple [.int a,dW n ks,.int j]
theorem bg7 (a n:Int)(ks:List (List Int))(j:Int):(dLo a n ks j).canLay0=true:=by simp[dLo,PyData.canLay0,PyData.canLayAll0,bL8]
theorem bF4 (a n:Int)(ks:List (List Int))(j:Int):(dLo a n ks j).depth<=6:=by
 have:=bN7 n ks
 simp only[dLo,PyData.depth,PyData.depthAll]
 omega
theorem bF1 (a n:Int)(ks:List (List Int))(j:Int):PyData.eqv (dLo a n ks j) (dLo a n ks j)=true:=by
 simp only[dLo,PyData.eqv,PyData.eqvAll,bN4]
 simp
theorem LoT.dt {K:W.Frag}{H:Hp}{p b:Addr}{ns cs:List Int}{ks:List (List Int)}{mn:Int}{j:Nat}(h:LoT K H p b ns cs ks mn j):Dt K H (dLo (Q4 ns.sum (-mn)) cs.length ks j) (.ref p):=by
 obtain⟨t,zs,h1,h2,h3⟩:=h.web.at_
 exact Dt.mkT (SqT.of h.tup) (.mkC .mkInt (.mkC (Dt.mkT (SqT.of h1) (.mkC .mkInt (.mkC (Dt.mkT (SqT.of h2) h3.dtAll) .mkN))) (.mkC .mkInt .mkN)))
theorem LoT.uniq {K:W.Frag}{H H':Hp}{p b p' b':Addr}{ns cs cs':List Int}{ks ks':List (List Int)}{mn mn':Int}{j j':Nat}(h:LoT K H p b ns cs ks mn j)(g:LoT K H' p' b' ns cs' ks' mn' j'):mn'=mn/\cs'=cs/\ks'=ks/\j'=j:=by
 have e:=Lst.uniq g.lst h.lst
 subst e
 have e2:=aK0.uniq g.cs_ h.cs_
 subst e2
 refine⟨rfl,rfl,?_,Fst.uniq g.fst h.fst⟩
 exact aJ7 (bF8 h.web.ups h.web.nd h.web.srt) (g.web.prm.trans h.web.prm.symm) g.web.srt
structure Wk (kvs:List (List Key × V)) (n:Nat):Prop where
 key:∀ kv∈kvs,∃ ts:List Int,kv.1=ts.map Sum.inl/\ts.length=n/\Gr ts
 all:∀ ts:List Int,ts.length=n->Gr ts->∃ kv∈kvs,kv.1=ts.map Sum.inl
 len:kvs.length<=1024
theorem AW.wk {K:W.Frag}{H:Hp}{kvs:List (List Key × V)}{n:Nat}(h:AW K H kvs n (2 ^ (j5 n).length))(hn:n<=5):Wk kvs n:=by
 refine⟨fun kv hk=>?_,fun ts e G=>?_,p5 h.len (av8 n (by omega))⟩
 ·obtain⟨q,hq,e⟩:=h.keys kv hk
  refine⟨_,e,O3 ..,bi5.mpr ?_⟩
  rw[O3]
  exact⟨q,hq,rfl⟩
 ·have:=(h.has ts).mpr (by
   obtain⟨m,h1,h2⟩:=bi5.mp G
   rw[e]at h1 h2
   exact⟨m,h1,h2⟩)
  obtain⟨v,hv⟩:=k9.mp this
  obtain⟨kv,h1,h2⟩:=l5.mp (bm8 hv)
  exact⟨kv,h1,h2⟩
theorem bs6 {K:W.Frag}{A:Around}{H:Hp}{Q:VK}{l u:Addr}{ns:List Int}(hun:A.units+64<cLine)(gl:SqL K H l (ns.map V.int))(gu:SqL K H u (ns.map V.int))(q:Q (.bl true) H):bL1 K A false (.ref l) (.ref u) H Q:=by
 refine⟨.list (ns.map .int),.list (ns.map .int),Dt.mkLi gl,Dt.mkLi gu,bg6 _,bg6 _,?_,?_⟩
 ·refine bv3 hun (p5 (Nat.min_le_left _ _) ?_)
  have:=bF3 ns
  omega
 ·show Q (.bl (PyData.eqv _ _)) _
  rw[bF0,decide_eq_true rfl]
  exact q
theorem bL2 {X:Cx}{st:Stmt}{t t':TS}(h:PS X st t)(i:∀ D σ H,t' D σ H->t D σ H):PS X st t':=fun pins s σ H D I hw=>h pins s σ H D I (i D σ H hw)
def plc (c p:Int):Int:=if c / 4 % 6=5 then 5 else p
def tPl:TS:=fun D σ H=>∃ (sc:V) (c p:Int) (rest:St),σ=some sc::some (.int c)::some (.int p)::rest/\D.nx (some sc::some (.int c)::some (.int (plc c p))::rest) H
seal L2.PE L2.PA L2.PS L2.PSs L2.PT
section
variable {P:Program} {w:World} {K:W.Frag} {mg:Str->Option Value} {base:Heap}
def aQ2 (K:W.Frag)(PT PU:Addr):Sp:=fun vs H Q _=>∃ (a d:Addr) (ns:List Int) (o:Obj) (kvs:List (List Key × V)),vs=[.ref a,.ref d]/\H a=some (.lst (ns.map V.int))/\H d=some (.frz o (.dT kvs))/\Wk kvs ns.length/\1<=ns.length/\ns.length<=5/\AllP ns/\Tbs PT PU H/\∀ H':Hp,Gw PT PU H H'->Tbs PT PU H'->Q (.bl true) H'
theorem aa8:t8 ["tally","webs","handed","found","due","counts","rooms"] ["tally","webs"] (g6 Z2):=⟨rfl,rfl,rfl,by decide +kernel,rfl,by decide +kernel,by decide +kernel⟩
set_option maxHeartbeats 4000000 in
theorem bf6 {f fO fW fL fB fN fR CB CW PT PU:Addr}{fd fdO fdW fdL fdB fdN fdR:FuncData}(F:Fun K "_law_right" "_law_right" Z2 f fd)(B:Bn mg)
  (FO:Fun K "least_off" "least_off" ak4 fO fdO)(bO:Binds K fdO ["tally"] [])(mO:mg "least_off"=some (.ref fO))(GO:t9 P w K mg base (CXE P w) 7 fO fdO ["tally"] (bc0 K CB CW PT PU))
  (FW:Fun K "_law_whole" "_law_whole" Y9 fW fdW)(bW:Binds K fdW ["found"] [])(mW:mg "_law_whole"=some (.ref fW))(GW:t9 P w K mg base CX0 7 fW fdW ["found"] (aP8))
  (FL:Fun K "_law_lack" "_law_lack" ak3 fL fdL)(bL:Binds K fdL ["tally","counts"] [])(mL:mg "_law_lack"=some (.ref fL))(GL:t9 P w K mg base CX0 7 fL fdL ["tally","counts"] (bb9 K))
  (FB:Fun K "_law_beneath" "_law_beneath" aE8 fB fdB)(bB:Binds K fdB ["tally","counts"] [])(mB:mg "_law_beneath"=some (.ref fB))(GB:t9 P w K mg base CX0 7 fB fdB ["tally","counts"] (bw0 K))
  (FN:Fun K "_law_counts" "_law_counts" ak5 fN fdN)(bN:Binds K fdN ["found","places"] [])(mN:mg "_law_counts"=some (.ref fN))(GN:t9 P w K mg base CX0 7 fN fdN ["found","places"] (bc1 K))
  (FR:Fun K "_law_room_at" "_law_room_at" aE5 fR fdR)(bR:Binds K fdR ["tally","r"] [])(mR:mg "_law_room_at"=some (.ref fR))(GR:t9 P w K mg base CX0 7 fR fdR ["tally","r"] (bv6 K)):t9 P w K mg base CX0 8 f fd ["tally","webs"] (aQ2 K PT PU):=by
 refine F.ok aa8 (fun vs H Q E h=>?_) (fun cdv A outer s H vs Q E hr h=>?_)
 ·obtain⟨a,d,ns,o,kvs,rfl,_⟩:=h
  rfl
 ·obtain⟨a,d,ns,o,kvs,rfl,ga,gd,hk,n1,n5,h0,tbs,q⟩:=h
  have hsl:=aL8
  have hun:=hr.units
  have nd2:(["counts","tally"]:List Str).Nodup:=by decide +kernel
  have nd3:(["r","tally"]:List Str).Nodup:=by decide +kernel
  have ht:O6 ns:=⟨n1,by omega⟩
  refine⟨_,f9 (u6 (i:=2) aa8.nd rfl (Or.inl rfl) (G4 aB7 (by rfl) B.list (by rfl) (b8 (pv 0) d4)))
   (f9 (u6 (i:=3) aa8.nd rfl (Or.inl rfl) (p6 GO hr (by rfl) mO FO.kp bO .nil (ak9 (P:=P) (w:=w)) (b8 (pv 2) d4)))
   (f9 (F9 (PW.pt (S5 (M9 (P3 (m3 Q6 (by rfl) B.isin (by rfl) (b8 (pv 3) (b8 (ab0 (v:=.ty "tuple") (by rfl) B.tuple (by rfl) rfl) d4)))))
     (S5 (y7 al4 (m3 r6 (by rfl) B.len PySem.boot_len (b8 (pv 3) d4)) i9 (B2 _))
     (S5 (M9 (P3 (p6 GW hr (by rfl) mW FW.kp bW .nil C9 (b8 (B6 B4 (pv 3) i9 (fun _ _=>rfl)) d4)))) (ai0 (M9 (P3 (p6 GW hr (by rfl) mW FW.kp bW .nil C9 (b8 (B6 B4 (pv 3) i9 (fun _ _=>rfl)) d4))))))))) E2 B3)
   (f9 (u6 (i:=4) aa8.nd rfl (Or.inl rfl) (m3 (ab4 rfl) (by rfl) B.min (by rfl) (b8 (G0 (N':=["counts","tally"]) (lk:=[none,some 0]) rfl (bL3 (pv 1)) (by rfl) rfl (by decide +kernel) (by exact⟨rfl,trivial⟩) (by rfl) (by exact LkL.ok ⟨⟨rfl,Or.inl rfl,rfl,Or.inl rfl⟩,trivial⟩) (fun _ _ _=>u7 (i:=0) nd2 rfl (Or.inl rfl)) (fun _ _ _=>aa9 (P3 (p6 GB hr (by rfl) mB FB.kp bB .nil C9 (b8 (pv 1) (b8 (pv 0) d4))))) (fun _ _ _=>(p6 GL hr (by rfl) mL FL.kp bL .nil C9 (b8 (pv 1) (b8 (pv 0) d4))))) d4)))
   (f9 (u6 (i:=5) aa8.nd rfl (Or.inl rfl) (p6 GN hr (by rfl) mN FN.kp bN .nil C9 (b8 (B6 B4 (pv 3) i9 (fun _ _=>rfl)) (b8 (m3 r6 (by rfl) B.len PySem.boot_len (b8 (pv 0) d4)) d4))))
   (f9 (F9 (PW.pt (S5 (y7 al4 (B6 B4 (pv 3) i9 (fun _ _=>rfl)) (pv 4) (B2 _)) (S5 (y7 bB4 (pv 5) aM6 (B2 _)) (S5 (M9 (P3 (p6 GB hr (by rfl) mB FB.kp bB .nil C9 (b8 (pv 0) (b8 (pv 5) d4))))) (ai0 (y7 al4 (p6 GL hr (by rfl) mL FL.kp bL .nil C9 (b8 (pv 0) (b8 (pv 5) d4))) (pv 4) (B2 _))))))) E2 B3)
   (f9 (an0 (i:=6) aa8.nd rfl rfl (by rfl) (N':=["r","tally"]) (lk:=[none,some 0]) rfl (K6 rfl B.range (b8 (v8 G8 (m3 r6 (by rfl) B.len PySem.boot_len (b8 (pv 0) d4)) i9) d4)) (by rfl) rfl (by decide +kernel) (by exact⟨rfl,trivial⟩) (by rfl) (by exact LkL.ok ⟨⟨rfl,Or.inl rfl,rfl,Or.inl rfl⟩,trivial⟩) (fun _ _ _=>u7 (i:=0) nd3 rfl (Or.inl rfl)) (fun _ _ _=>K4) (fun _ _ _=>(p6 GR hr (by rfl) mR FR.kp bR .nil C9 (b8 (pv 1) (b8 (pv 0) d4)))))
   (m4 (A2 (aM7 (ae9 aw3 (B6 B4 (pv 3) i9 (fun _ _=>rfl)) (aw0 PySem.F.plainAttrs_list PySem.F.slot_list_index PySem.F.type_list_index aw4 (pv 6) (b8 (m3 (ab4 rfl) (by rfl) B.min (by rfl) (b8 (pv 6) d4)) d4)) (B2 _)) (aM7 (ae9 bf1 (pv 2) (pv 0) (B2 _)) (be2 (ae9 bf1 (p6 GO hr (by rfl) mO FO.kp bO .nil (ak9 (P:=P) (w:=w)) (b8 (G4 E6 (by rfl) B.tuple (by rfl) (b8 (pv 0) d4)) d4)) (pv 3) (B2 _))))))))))))),?_⟩
  refine⟨_,rfl,a,_,rfl,.inl (SqL.of ga),fun lh flh=>?_⟩
  have s1:=d9 (o:=.lst (ns.map V.int)) flh
  have gh1:(upd H lh (.lst (ns.map V.int))) lh=some (.lst (ns.map V.int)):=c6
  generalize upd H lh (.lst (ns.map V.int))=H1 at s1 gh1 ⊢
  refine u0 ?_
  have tbs1:=tbs.same s1
  refine⟨_,rfl,lh,ns,rfl,.inl (SqL.of gh1),by omega,(by show ns.length<=11;omega),fun _ _=>⟨tbs1,fun p b cs ks mn j H2 g2 tbs2 fp T=>?_⟩,fun h=>absurd ht h,fun _ h=>absurd h0 h⟩
  refine u0 ?_
  have gw12:Gw PT PU H H2:=(W7 s1).trans g2
  have ga2:=ar5 gw12 tbs ga
  have gh2:=ar5 g2 tbs1 gh1
  have gd2:H2 d=some (.frz o (.dT kvs)):=ac4 gw12 tbs gd (fun _ z=>by cases z)
  obtain⟨hG,hcl,hle,hsum⟩:=T.cs_.facts h0 T.lst
  have hT:=SqT.of (K:=K) T.tup
  have a0:atI ([.int (Q4 ns.sum (-mn)),.ref b,.int (j:Int)]:List V) 0=some (.int (Q4 ns.sum (-mn))):=C1 (j:=0) rfl
  have a1:atI ([.int (Q4 ns.sum (-mn)),.ref b,.int (j:Int)]:List V) 1=some (.ref b):=C1 (j:=1) rfl
  have a2:atI ([.int (Q4 ns.sum (-mn)),.ref b,.int (j:Int)]:List V) 2=some (.int (j:Int)):=C1 (j:=2) rfl
  refine⟨_,rfl,p,_,_,true,rfl,hT,rfl,_,rfl,F8 ?_⟩
  refine⟨_,rfl,p,_,rfl,.inr hT,rfl,_,rfl,al5 rfl ?_⟩
  refine⟨_,rfl,p,_,_,_,rfl,rfl,hT,a0,_,rfl,_,rfl,F8 ?_⟩
  refine⟨_,rfl,p,_,_,_,rfl,rfl,hT,a2,_,rfl,_,rfl,F8 ?_⟩
  have hkl:=hk.len
  refine⟨_,rfl,d,o,kvs,rfl,gd2,fun D hD=>bu0 (a:=d) (D:=D) (o:=o) (kvs:=kvs) (fun i xs σ' H'=>(∃ v,σ'=[v,some (.ref a)])/\p7 H2 H'/\H' D=some (.lst xs)/\∃ ms:List Int,xs=ms.map V.int/\ms.length<=i/\(∀ m∈ms,∃ ts:List Int,ts.length=ns.length/\Gr ts/\aB9 ns ts=true/\m=ns.sum - ts.sum)/\∀ kv∈kvs.take i,∀ ts:List Int,kv.1=ts.map Sum.inl->aB9 ns ts=true->ns.sum - ts.sum∈ms)
   ⟨⟨none,rfl⟩,d9 hD,c6,[],rfl,c7 _,fun m hm=>absurd hm B5,fun kv hkv=>absurd hkv B5⟩ (by omega) (fun i xs σ' H' hi ⟨_,s6,h6,ms,e6,l6,_⟩=>⟨s6 _ _ gd2,h6,by rw[e6,b7];exact l6⟩) ?_ ?_⟩
  ·rintro i xs kv kp σ' H' N kN hx hp ⟨⟨v,rfl⟩,s6,h6,ms,rfl,l6,m1,m2⟩
   obtain⟨ts,e1,e2,e3⟩:=hk.key kv (i6 hx)
   rw[e1,af4]at hp
   refine u0 ?_
   refine⟨_,rfl,_,rfl,a,kp,ns,ts,rfl,.inl (SqL.of (s6 _ _ ga2)),.inr (SqT.of hp),e2,by omega,fun H7 s7=>⟨_,rfl,?_⟩⟩
   have tk:∀ ms':List Int,(∀ z∈ms,z∈ms')->(aB9 ns ts=true->ns.sum - ts.sum∈ms')->∀ kv'∈kvs.take (i+1),∀ ts':List Int,kv'.1=ts'.map Sum.inl->aB9 ns ts'=true->ns.sum - ts'.sum∈ms':=fun ms' i1 i2 kv' hkv ts' e4 e5=>by
    rw[x9,hx]at hkv
    rcases C7.mp hkv with h | h
    ·exact i1 _ (m2 kv' h ts' e4 e5)
    ·have h':kv'=kv:=by simpa using h
     subst h'
     have:=S7 (e1.symm.trans e4)
     subst this
     exact i2 e5
   by_cases hb:aB9 ns ts=true
   ·rw[hb]
    refine N2 ⟨_,rfl,_,rfl,a,kp,ns,ts,rfl,.inl (SqL.of ((s6.trans s7) _ _ ga2)),.inr (SqT.of (s7 _ _ hp)),e2,by omega,fun H8 s8=>?_⟩
    have s68:=(s6.trans s7).trans s8
    refine⟨(s7.trans s8) _ _ h6,kN _ _ _ ⟨⟨_,rfl⟩,s68.upd hD,c6,ms++[ns.sum - ts.sum],by rw[i5];rfl,by rw[p9];exact Nat.succ_le_succ l6,fun m hm=>?_,tk _ (fun z hz=>aj7 _ hz) fun _=>m7 _ d8⟩⟩
    rcases C7.mp hm with h | h
    ·exact m1 m h
    ·exact⟨ts,e2,e3,hb,by simpa using h⟩
   ·rw[bH2]at hb
    rw[hb]
    exact F8 (kN _ _ _ ⟨⟨_,rfl⟩,s6.trans s7,s7 _ _ h6,ms,rfl,by omega,m1,tk _ (fun z hz=>hz) fun z=>by rw[hb]at z;cases z⟩)
  rintro xs σ' H3 ⟨⟨v,rfl⟩,s3,g3,ms,rfl,l3,m1,m2⟩
  rw[j0 (c7 _)]at m2
  obtain⟨kvc,hkc,ekc⟩:=hk.all cs hcl hG
  have hbc:aB9 ns cs=true:=aJ5.mpr fun i hi=>(hle i hi).2
  have hin:ns.sum - cs.sum∈ms:=m2 kvc hkc cs ekc hbc
  refine⟨D,ms,rfl,SqL.of g3,ba3 hin,fun due hd1 hd2=>?_⟩
  have hdue:due=Q4 ns.sum (-mn):=by
   obtain⟨ts,t1,t2,t3,t4⟩:=m1 due hd1
   have:=bh1 t1 (aJ5.mp t3) t2 T.lst
   have:=hd2 _ hin
   omega
  subst hdue
  refine u0 ?_
  have ga3:=s3 _ _ ga2
  have T3:=T.same s3
  have hT3:=SqT.of (K:=K) T3.tup
  obtain⟨t,zs,w1,w2,w3⟩:=T3.web.at_
  refine⟨_,rfl,p,_,_,_,rfl,rfl,hT3,a1,_,rfl,a,_,rfl,.inl (SqL.of ga3),b,cs.length,ks,(by rw[b7,hcl];rfl),⟨t,zs,w1,w2,w3⟩,⟨T.web.ups,T.web.nd,T.web.srt⟩,by omega,fun lc H4 s4 flc glc=>?_⟩
  rw[T.web.tal_]at glc
  refine u0 ?_
  have hT4:=s4.seqT hT3
  have ga4:=s4 _ _ ga3
  refine⟨_,rfl,p,_,_,_,rfl,rfl,hT4,a0,_,rfl,rfl,_,rfl,al5 rfl ?_⟩
  refine⟨_,rfl,rfl,_,rfl,F8 ?_⟩
  refine⟨_,rfl,_,rfl,a,lc,ns,cs,rfl,.inl (SqL.of ga4),.inl (SqL.of glc),hcl,by omega,fun H5 s5=>⟨_,rfl,?_⟩⟩
  rw[hbc]
  refine F8 ?_
  refine⟨_,rfl,_,rfl,a,lc,ns,cs,rfl,.inl (SqL.of (s5 _ _ ga4)),.inl (SqL.of (s5 _ _ glc)),hcl,by omega,fun H6 s6=>⟨_,rfl,rfl,_,rfl,al5 (congrArg V.int (show ns.sum - cs.sum=Q4 ns.sum (-mn) by omega)) ?_⟩⟩
  have s36:=(s4.trans s5).trans s6
  have ga6:=s36 _ _ ga3
  refine⟨_,rfl,a,_,rfl,.inl (SqL.of ga6),_,_,rfl,rfl,((ns.length+1:Nat):Int),congrArg (fun z:Nat=>[V.int ((z:Int)+1)]) (b7 ..),by omega,by omega,fun D7 hD7=>?_⟩
  rw[i8]
  refine S0 (lo:=0) (n:=ns.length+1) (D:=D7) (fun i xs σ' H'=>(∃ v,σ'=[v,some (.ref a)])/\p7 H6 H'/\H' D7=some (.lst xs)/\xs=((k8 i).map (F2 ns)).map V.int) ⟨⟨none,rfl⟩,d9 hD7,c6,rfl⟩ (by omega)
   (fun i xs σ' H' hi ⟨_,s6,h6,e6⟩=>⟨h6,by rw[e6,b7,b7,o6];exact c7 _⟩) ?_ ?_
  ·rintro i xs σ' H' N kN hi ⟨⟨v,rfl⟩,s7,h7,rfl⟩
   rw[show ((0:Int)+(i:Int))=(i:Int) by omega]
   refine u0 (F1 ?_)
   refine⟨_,rfl,_,rfl,a,ns,i,rfl,SqL.of (s7 _ _ ga6),by omega,by omega,fun H8 s8=>?_⟩
   refine⟨s8 _ _ h7,kN _ _ _ ⟨⟨_,rfl⟩,(s7.trans s8).upd hD7,c6,?_⟩⟩
   rw[v7,i5,i5]
   rfl
  rintro xs σ' H7 ⟨⟨v,rfl⟩,s7,g7,rfl⟩
  have s27:=s3.trans (s36.trans s7)
  have hT7:=s27.seqT hT
  have hrl:((k8 (ns.length+1)).map (F2 ns)).length=ns.length+1:=by rw[b7,o6]
  refine⟨_,rfl,p,_,_,_,rfl,rfl,hT7,a2,_,rfl,.inl ⟨rfl,_,SqL.of g7⟩,_,rfl,D7,_,rfl,SqL.of g7,by omega,fun mn' hn1 hn2=>?_⟩
  obtain rfl:mn'=mn:=by
   obtain⟨r,hr1,hr2⟩:=l5.mp hn1
   have hr1:=p0.mp hr1
   have l1:=T.lst.le r (by omega)
   obtain⟨r',r1,r2⟩:=T.lst.at_
   have l2:=hn2 _ (i6 (U3 (ns:=ns) (show r'<ns.length+1 by omega)))
   omega
  have hjl:=T.fst.le
  refine⟨D7,_,mn',j,rfl,rfl,g7,by rw[U3 (by omega),T.fst.eq],fun m c hm e=>?_,by omega,?_⟩
  ·rw[U3 (by omega)]at e
   cases e
   exact T.fst.no m hm
  refine⟨rfl,_,rfl,?_⟩
  rw[bx3,decide_eq_true rfl]
  refine N2 ?_
  refine⟨_,rfl,_,rfl,bs6 hun (SqL.of (s27 _ _ gh2)) (SqL.of (s27 _ _ ga2)) ⟨_,rfl,N2 ?_⟩⟩
  refine⟨_,rfl,a,_,rfl,.inl ⟨SqL.of (s27 _ _ ga2),fun tt ftt=>?_⟩⟩
  have s8:=d9 (o:=.tup (ns.map V.int)) ftt
  have gt8:(upd H7 tt (.tup (ns.map V.int))) tt=some (.tup (ns.map V.int)):=c6
  have s28:=s27.trans s8
  generalize upd H7 tt (.tup (ns.map V.int))=H8 at s28 gt8 ⊢
  have tbs8:=tbs2.same s28
  refine⟨tt,ns,rfl,.inr (SqT.of gt8),by omega,(by show ns.length<=11;omega),fun _ _=>⟨tbs8,fun p' b' cs' ks' mn2 j' H9 g9 tbs9 _ T'=>?_⟩,fun h=>absurd ht h,fun _ h=>absurd h0 h⟩
  obtain⟨rfl,rfl,rfl,rfl⟩:=T.uniq T'
  have T9:=(T.same s28).gw g9 tbs8
  refine⟨_,rfl,_,_,T'.dt,T9.dt,bg7 _ _ _ _,bg7 _ _ _ _,?_,?_⟩
  ·refine bv3 hun (p5 (Nat.min_le_left _ _) ?_)
   exact p5 (bF4 _ _ _ _) (by decide)
  ·rw[if_neg f6,bF1]
   exact q H9 (gw12.trans ((W7 s28).trans g9)) tbs9
def aD9 (K:W.Frag)(PT PU:Addr):Sp:=fun vs H Q _=>∃ (a:Addr) (ns:List Int),vs=[.ref a]/\SqL K H a (ns.map V.int)/\ns.length<=63/\Tb PT H/\Tb2 PU H/\PT≠PU/\∀ H',Q (.bl true) H'
theorem Y6:t8 ["script","base","places","webs","k","cell","tally","rest","place"] ["script"] (g6 au5):=⟨rfl,rfl,rfl,by decide +kernel,rfl,by decide +kernel,by decide +kernel⟩
set_option maxHeartbeats 4000000 in
theorem bq5 {f fC fK fR PT PU:Addr} {fd fdC fdK fdR:FuncData} (F:Fun K "law" "law" au5 f fd) (B:Bn mg)
  (FC:Fun K "_law_cell_at" "_law_cell_at" ak6 fC fdC) (bC:Binds K fdC ["script","k"] []) (mC:mg "_law_cell_at"=some (.ref fC)) (GC:t9 P w K mg base CX0 8 fC fdC ["script","k"] (bc2 K))
  (FK:Fun K "_law_all_webs" "_law_all_webs" ak7 fK fdK) (bK:Binds K fdK ["places"] []) (mK:mg "_law_all_webs"=some (.ref fK)) (GK:t9 P w K mg base CX0 8 fK fdK ["places"] (bc4 K))
  (FR:Fun K "_law_right" "_law_right" Z2 fR fdR) (bR:Binds K fdR ["tally","webs"] []) (mR:mg "_law_right"=some (.ref fR)) (GR:t9 P w K mg base CX0 8 fR fdR ["tally","webs"] (aQ2 K PT PU)):t9 P w K mg base CX0 9 f fd ["script"] (aD9 K PT PU):=by
 refine F.ok Y6 (fun vs H Q E h=>?_) (fun cdv A outer s H vs Q E hr h=>?_)
 ·obtain⟨a,ns,rfl,_⟩:=h
  rfl
 ·obtain⟨sc,ns,rfl,hS,hlen,tb1,tb2,hne,q⟩:=h
  have hsl:=aL8
  refine⟨_,f9 (u6 (i:=1) Y6.nd rfl (Or.inl rfl) (v8 W5 (p6 GC hr (by rfl) mC FC.kp bC .nil C9 (b8 (pv 0) (b8 i9 d4))) (v8 bf0 i9 i9)))
   (f9 (u6 (i:=2) Y6.nd rfl (Or.inl rfl) (v8 G8 i9 (v8 W5 (pv 1) i9)))
   (f9 (bL2 (t':=tPl) (F9 (y7 aw3 (v8 W5 (v8 an2 (pv 1) i9) i9) i9 (B2 _)) (m4 (u6 (i:=2) Y6.nd rfl (Or.inl rfl) i9)) B3) (fun D σ H h=>?pl))
   (f9 (u6 (i:=3) Y6.nd rfl (Or.inl rfl) (bB0 (p6 GK hr (by rfl) mK FK.kp bK .nil C9 (b8 (pv 2) d4))))
   (f9 (V9 PassesOwn.never rfl (an1 (by rfl) B.enum (b8 (v8 bB6 (W3 (b8 (v8 an2 (pv 1) i9) d4)) (U5 aa7 (pv 0) (W0 i9) (W0 i9))) d4)) (aM5 rfl (E3 (u7 (i := 4) Y6.nd rfl (Or.inl rfl)) (E3 (u7 (i := 5) Y6.nd rfl (Or.inl rfl)) W2)))
    (f9 (u6 (i:=6) Y6.nd rfl (Or.inl rfl) (W3 d4))
    (f9 (u6 (i:=7) Y6.nd rfl (Or.inl rfl) (pv 5))
    (f9 (V9 PassesOwn.never rfl (K6 rfl B.range (b8 (pv 2) d4)) (u7 (i := 8) Y6.nd rfl (Or.inl rfl))
     (f9 (Q3 (aw0 PySem.F.plainAttrs_list PySem.F.slot_list_append PySem.F.type_list_append R0 (pv 6) (b8 (v8 W5 (pv 7) (v8 G8 (v8 ai2 i9 (pv 2)) i9)) d4)))
     (m4 (u6 (i:=7) Y6.nd rfl (Or.inl rfl) (v8 an2 (pv 7) (v8 G8 (v8 ai2 i9 (pv 2)) i9))))))
    (aR2 (F9 (y7 aw3 (v8 W5 (pv 5) i9) i9 (B2 _)) (m4 (ap8 (v8 W5 (pv 5) (v8 bf0 i9 i9)) (ap9 (pv 6) (v8 W5 (pv 4) (pv 2)) set_list))) B3)
    (m4 (F9 (M9 (P3 (p6 GR hr (by rfl) mR FR.kp bR .nil C9 (b8 (pv 6) (b8 (pv 3) d4))))) E2 B3)))))))
   (m4 (A2 bw6)))))),?_⟩
  case pl =>
   obtain⟨s0,c,p,rest,rfl,hx⟩:=h
   refine⟨_,rfl,_,_,rfl,rfl,⟨by decide,by decide⟩,_,_,rfl,rfl,(by show (0:Int)<6;decide),rfl,_,rfl,?_⟩
   rw[bx3]
   unfold plc at hx
   by_cases e:c / 4 % 6=5
   ·rw[if_pos e]at hx
    rw[decide_eq_true e]
    exact N2 hx
   ·rw[if_neg e]at hx
    rw[decide_eq_false e]
    exact F8 hx
  refine⟨_,rfl,sc,ns,0,rfl,hS,fun r0=>?_⟩
  refine⟨_,_,rfl,rfl,⟨by decide,by decide,by decide⟩,_,_,rfl,rfl,p40,?_⟩
  refine ax5 fun c _=>?_
  refine⟨_,rfl,_,_,rfl,rfl,(by show (0:Int)<4;decide),_,_,rfl,rfl,?_⟩
  refine u0 ?_
  refine⟨_,c,1+c % 4,_,rfl,?_⟩
  obtain⟨n,hn,n1,n2⟩:∃ n:Nat,plc c (1+c % 4)=(n:Int)/\1<=n/\n<=5:=by
   unfold plc
   split
   ·exact⟨5,rfl,by decide,by decide⟩
   ·exact⟨(1+c % 4).toNat,by omega,by omega,by omega⟩
  rw[hn]
  refine⟨_,rfl,n,rfl,n1,n2,fun d kvs H0 s0 fd0 gd0 hK0=>⟨d,kvs,rfl,gd0,fun o=>?_⟩⟩
  have hk:=hK0.wk n2
  have s1:p7 H (upd H0 d (.frz o (.dT kvs))):=s0.upd fd0
  have gd:(upd H0 d (.frz o (.dT kvs))) d=some (.frz o (.dT kvs)):=c6
  generalize upd H0 d (.frz o (.dT kvs))=H1 at s1 gd ⊢
  refine⟨_,rfl,_,_,rfl,rfl,⟨by decide,by decide⟩,(by show 1<=sizeLine;decide),fun l2 f2=>?_⟩
  have s2:=d9 (o:=.lst [.int (c / 24)]) f2
  obtain⟨ms,hms,hml⟩:=aY8 ns (some 1) (some 9)
  refine⟨_,rfl,_,rfl,_,rfl,sc,ns.map V.int,rfl,(s1.trans s2).seq hS,fun p3 f3=>?_⟩
  rw[hms]
  have s3:=d9 (o:=.lst (ms.map V.int)) f3
  refine⟨l2,p3,_,_,rfl,rfl,s3 _ _ c6,c6,by rw[b7];simp;omega,fun lt flt=>⟨lt,rfl,⟨_,SqL.of c6⟩,?_⟩⟩
  have s4:=d9 (o:=.lst ([V.int (c / 24)]++ms.map V.int)) flt
  have gt:(upd (upd (upd H1 l2 (.lst [.int (c / 24)])) p3 (.lst (ms.map V.int))) lt (.lst ([V.int (c / 24)]++ms.map V.int))) lt=some (.lst ((c / 24::ms).map V.int)):=c6
  have s14:=(s2.trans s3).trans s4
  generalize upd (upd (upd H1 l2 (.lst [.int (c / 24)])) p3 (.lst (ms.map V.int))) lt (.lst ([V.int (c / 24)]++ms.map V.int))=HL at s14 gt ⊢
  have tbH:Tbs PT PU H:=⟨tb1,tb2,hne⟩
  have tbL:Tbs PT PU HL:=(tbH.same s1).same s14
  have gdL:=s14 _ _ gd
  refine aI4 (K:=K) (a:=lt) (xs:=(c / 24::ms).map V.int) (fun _ σ Ha=>∃ e4 e5 e6 e7 e8,σ=[some (.ref sc),some (.int c),some (.int n),some (.ref d),e4,e5,e6,e7,e8]/\Gw PT PU HL Ha/\Tbs PT PU Ha) ⟨none,none,none,none,none,rfl,fun _ _ _ _ e=>e,tbL⟩ (fun i σ Ha _ ⟨_,_,_,_,_,_,g,_⟩=>SqL.of (ar5 g tbL gt)) ?_ ?_
  ·rintro i x t σ Ha hx ⟨e4,e5,e6,e7,e8,rfl,gA,tbA⟩ ft
   obtain⟨z,rfl⟩:=int_at hx
   have st:=d9 (o:=.tup [.int i,.int z]) ft
   refine⟨t,_,rfl,SqT.of c6,rfl,_,_,rfl,_,_,rfl,rfl,?_⟩
   have gB:=gA.trans (W7 (P:=PT) (P':=PU) st)
   have tbB:=tbA.same st
   generalize upd Ha t (.tup [.int i,.int z])=Hb at gB tbB ⊢
   refine⟨(by show 0<=sizeLine;omega),fun tl ftl=>?_⟩
   have s5:=d9 (o:=.lst []) ftl
   refine u0 ?_
   refine⟨_,rfl,?_⟩
   refine u0 ?_
   refine⟨_,rfl,(n:Int),rfl,by omega,by omega,?_⟩
   rw[i8]
   have hpos:(0:Int)<2*(n:Int)+1:=by omega
   refine R1 (lo:=0) (n:=n) (fun m σ Hc=>∃ (ts:List Int) (rz:Int) (e8:Option V),σ=[some (.ref sc),some (.int c),some (.int n),some (.ref d),some (.int i),some (.int z),some (.ref tl),some (.int rz),e8]/\p7 Hb Hc/\Hc tl=some (.lst (ts.map V.int))/\ts.length=m/\AllP ts) ⟨[],z,e8,rfl,s5,c6,rfl,fun j x h=>by cases h⟩ ?_ ?_
   ·rintro m σ Hc hm ⟨ts,rz,e8,rfl,sc',gt',hl,hp⟩
    refine u0 ?_
    refine⟨_,rfl,.inl ⟨rfl,_,SqL.of gt'⟩,_,rfl,_,rfl,_,_,rfl,rfl,.inl ⟨by omega,by omega⟩,_,_,rfl,rfl,_,_,rfl,rfl,hpos,tl,_,_,rfl,rfl,gt',by rw[b7];omega,?_⟩
    refine⟨_,rfl,_,rfl,_,_,rfl,rfl,.inl ⟨by omega,by omega⟩,_,_,rfl,rfl,_,_,rfl,rfl,⟨by omega,by omega⟩,?_⟩
    refine⟨ts++[rz % (2*(n:Int)+1)],_,_,rfl,sc'.upd ftl,by rw[c6,i5];rfl,by rw[p9,hl];rfl,fun j x h=>?_⟩
    rcases q0 j ts.length with w1 | w1
    ·rw[N4 w1]at h
     exact hp j x h
    ·rw[M0 w1]at h
     have:=y6.mp (i6 h)
     rw[this]
     exact ah3 _ (by omega)
   ·rintro σ Hc ⟨ts,rz,e8,rfl,sc',gt',hl,hp⟩
    have gC:=gB.trans (W7 (P:=PT) (P':=PU) sc')
    have tbC:=tbB.same sc'
    refine⟨fun σ Hd=>∃ (ts:List Int),σ=[some (.ref sc),some (.int c),some (.int n),some (.ref d),some (.int i),some (.int z),some (.ref tl),some (.int rz),e8]/\Gw PT PU HL Hd/\Tbs PT PU Hd/\Hd tl=some (.lst (ts.map V.int))/\ts.length=n/\AllP ts,?_,?_⟩
    ·refine⟨_,rfl,_,_,rfl,rfl,(by show (0:Int)<10;decide),rfl,_,rfl,?_⟩
     refine aX9 (fun _=>?_) (fun _=>⟨ts,rfl,gC,tbC,gt',hl,hp⟩)
     obtain⟨m,m1,m2⟩:=br5 (i:Int) (show 0<n by omega)
     refine⟨_,rfl,_,_,rfl,rfl,⟨by decide,by decide,by decide⟩,_,_,rfl,rfl,p40,_,rfl,_,rfl,_,rfl,_,_,rfl,rfl,(by show (0:Int)<(n:Int);omega),tl,_,_,m,rfl,congrArg V.int m1,gt',af5 (by rw[b7];omega),?_⟩
     have hfr:HL tl=none:=by
      cases e:HL tl with
      | none=>rfl
      | some o =>
       have hz:=bt0 gB tbB ftl
       rw[e]at hz
       cases hz
     refine⟨ts.set m (z % 10 ^ (Int.toNat 40)),rfl,fun b o' b1 b2 e=>?_,?_,by rw[c6,aE2],by rw[V1];exact hl,fun j x h=>?_⟩
     ·rw[m5 (fun y=>by rw[y,hfr]at e;cases e)]
      exact gC b o' b1 b2 e
     ·exact tbC.upd gt'
     ·by_cases hj:m=j
      ·subst hj
       rw[ad4 (by omega)]at h
       cases h
       exact ah3 _ (Int.ne_of_gt p40)
      ·rw[M4 hj]at h
       exact hp j x h
    ·rintro σ Hd ⟨ts,rfl,gD,tbD,gtD,hlD,hpD⟩
     refine⟨_,rfl,_,rfl,tl,d,ts,o,kvs,rfl,gtD,ac4 gD tbL gdL (fun _ y=>by cases y),by rw[hlD];exact hk,by omega,by omega,hpD,tbD,fun He gE tbE=>?_⟩
     exact⟨_,rfl,F8 ⟨_,_,_,_,_,rfl,gD.trans gE,tbE⟩⟩
  ·rintro σ Ha ⟨e4,e5,e6,e7,e8,rfl,gA,tbA⟩
   exact q _
theorem bC2 {f fI fU fV fT fO fG fA fρ fM fβ fω fW fF fL fY fX fD fE fS fN fQ fJ fC fP fK fR fδ fφ fψ fν fτ CB CN CW c PT d PU:Addr}{fd fdI fdU fdV fdT fdO fdG fdA fdρ fdM fdβ fdω fdW fdF fdL fdY fdX fdD fdE fdS fdN fdQ fdJ fdC fdP fdK fdR fdδ fdφ fdψ fdν fdτ:FuncData}{tk:Tok}(F0:Fun K "law" "law" au5 f fd)(Bx:Bn mg)(mo:mg "MOST_PLACES"=some (.int 24 tk))
  (FI:Fun K "is_place" "is_place" ap4 fI fdI)(bI:Binds K fdI ["places","number"] [])(mI:mg "is_place"=some (.ref fI))
  (FU:Fun K "turned_up" "turned_up" sUp fU fdU)(bU:Binds K fdU ["places","tie"] [])(mU:mg "turned_up"=some (.ref fU))
  (FV:Fun K "made" "made" ae2 fV fdV)(bV:Binds K fdV ["places","ties"] [])(mV:mg "made"=some (.ref fV))
  (FT:Fun K "check_tally" "check_tally" ab8 fT fdT)(bT:Binds K fdT ["tally"] [])(mT:mg "check_tally"=some (.ref fT))
  (FO:Fun K "order_of" "order_of" ap3 fO fdO)(bO:Binds K fdO ["tally"] [])(mO:mg "order_of"=some (.ref fO))
  (FG:Fun K "falling" "falling" X2 fG fdG)(bG:Binds K fdG ["tally"] [])(mG:mg "falling"=some (.ref fG))
  (FA:Fun K "room_among" "room_among" P0 fA fdA)(bA:Binds K fdA ["numbers","most","r"] [])(mA:mg "room_among"=some (.ref fA))
  (Fρ:Fun K "room_with" "room_with" Z1 fρ fdρ)(bρ:Binds K fdρ ["tally","most","r"] [])(mρ:mg "room_with"=some (.ref fρ))
  (FM:Fun K "room" "room" ak0 fM fdM)(bM:Binds K fdM ["tally","r"] [])(mM:mg "room"=some (.ref fM))
  (Fβ:Fun K "places_below" "places_below" R4 fβ fdβ)(bβ:Binds K fdβ ["numbers"] [])(mβ:mg "places_below"=some (.ref fβ))
  (Fω:Fun K "wall_with" "wall_with" V6 fω fdω)(bω:Binds K fdω ["tally","most"] [])(mω:mg "wall_with"=some (.ref fω))
  (FW:Fun K "wall_of" "wall_of" aj9 fW fdW)(bW:Binds K fdW ["tally"] [])(mW:mg "wall_of"=some (.ref fW))
  (FF:Fun K "first_of_order" "first_of_order" V7 fF fdF)(bF:Binds K fdF ["tally","many","passed_over"] [])(mF:mg "first_of_order"=some (.ref fF))
  (FL:Fun K "left_of_others" "left_of_others" ae3 fL fdL)(bL:Binds K fdL ["tally","place","ends"] [])(mL:mg "left_of_others"=some (.ref fL))
  (FY:Fun K "laid_around" "laid_around" ak2 fY fdY)(bY:Binds K fdY ["tally","place","ends"] [])(mY:mg "laid_around"=some (.ref fY))
  (FX:Fun K "answered" "answered" aE9 fX fdX)(bX:Binds K fdX ["tally"] [])(mX:mg "answered"=some (.ref fX))
  (FD:Fun K "least_where" "least_where" Z0 fD fdD)(bD:Binds K fdD ["low","high","holds"] [])(mD:mg "least_where"=some (.ref fD))
  (FE:Fun K "above" "above" aF0 fE fdE)(bE:Binds K fdE ["numbers","level","most"] [])(mE:mg "above"=some (.ref fE))
  (FS:Fun K "shares" "shares" T5 fS fdS)(bS:Binds K fdS ["numbers","much","most"] [])(mS:mg "shares"=some (.ref fS))
  (FN:Fun K "check_none_below" "check_none_below" aE7 fN fdN)(bN:Binds K fdN ["tally"] [])(mN:mg "check_none_below"=some (.ref fN))
  (FQ:Fun K "off_by_want" "off_by_want" ak1 fQ fdQ)(bQ:Binds K fdQ ["tally","want"] [])(mQ:mg "off_by_want"=some (.ref fQ))
  (FJ:Fun K "least_off" "least_off" ak4 fJ fdJ)(bJ:Binds K fdJ ["tally"] [])(mJ:mg "least_off"=some (.ref fJ))
  (FC:Fun K "_law_cell_at" "_law_cell_at" ak6 fC fdC)(bC:Binds K fdC ["script","k"] [])(mC:mg "_law_cell_at"=some (.ref fC))
  (FP:Fun K "_law_pairs" "_law_pairs" Z3 fP fdP)(bP:Binds K fdP ["places"] [])(mP:mg "_law_pairs"=some (.ref fP))
  (FK:Fun K "_law_all_webs" "_law_all_webs" ak7 fK fdK)(bK:Binds K fdK ["places"] [])(mK:mg "_law_all_webs"=some (.ref fK))
  (FR:Fun K "_law_room_at" "_law_room_at" aE5 fR fdR)(bR:Binds K fdR ["tally","r"] [])(mR:mg "_law_room_at"=some (.ref fR))
  (Fδ:Fun K "_law_counts" "_law_counts" ak5 fδ fdδ)(bδ:Binds K fdδ ["found","places"] [])(mδ:mg "_law_counts"=some (.ref fδ))
  (Fφ:Fun K "_law_whole" "_law_whole" Y9 fφ fdφ)(bφ:Binds K fdφ ["found"] [])(mφ:mg "_law_whole"=some (.ref fφ))
  (Fψ:Fun K "_law_lack" "_law_lack" ak3 fψ fdψ)(bψ:Binds K fdψ ["tally","counts"] [])(mψ:mg "_law_lack"=some (.ref fψ))
  (Fν:Fun K "_law_beneath" "_law_beneath" aE8 fν fdν)(bν:Binds K fdν ["tally","counts"] [])(mν:mg "_law_beneath"=some (.ref fν))
  (Fτ:Fun K "_law_right" "_law_right" Z2 fτ fdτ)(bτ:Binds K fdτ ["tally","webs"] [])(mτ:mg "_law_right"=some (.ref fτ))
  (xB:mg "BadTally"=some (.ref CB))(yB:aa2 K CB)(xN:mg "BadNumber"=some (.ref CN))(yN:aa2 K CN)(xW:mg "NoWeb"=some (.ref CW))(yW:aa2 K CW)(hc:fdO.code=.ref c)(LB:ag5 base mg c PT)(hd:fdS.code=.ref d)(LD:ag5 base mg d PU):t9 P w K mg base CX0 9 f fd ["script"] (aD9 K PT PU):=by
 have GT:t9 P w K mg base (CXE P w) 1 fT fdT ["tally"] (av6 K CB):=aA4 FT Bx mo xB yB
 have GN:=bC4 (P:=P) (w:=w) (base:=base) FN FT bT mT GT Fβ bβ mβ (aG2 Fβ Bx) xW yW
 have GM:t9 P w K mg base (CXE P w) 3 fM fdM ["tally","r"] (aL3 K CB CN):=bq1 FM Bx FT bT mT FG bG mG FA bA mA Fρ bρ mρ mo xB yB xN yN
 have GS:t9 P w K mg base (CXE P w) 4 fS fdS ["numbers","much","most"] (bb4 K PU):=bB9 FS hd LD Bx FE bE mE FD bD mD
 have GX:t9 P w K mg base (CXE P w) 5 fX fdX ["tally"] (bc3 K CB PT):=bC6 FX Bx FI bI mI FU bU mU FV bV mV FO bO mO hc LB FT bT mT FF bF mF FL bL mL FY bY mY FW bW mW FG bG mG FA bA mA Fβ bβ mβ Fω bω mω mo xB yB
 have GJ:=bq8 (P:=P) (w:=w) (base:=base) FJ Bx FN bN mN (GN.mono (by decide)) FM bM mM (GM.mono (by decide)) FQ bQ mQ ((bq2 FQ Bx).mono (by decide)) FS bS mS (GS.mono (by decide)) FX bX mX GX
 have Gτ:=bf6 (P:=P) (w:=w) (base:=base) Fτ Bx FJ bJ mJ (GJ.mono (by decide)) Fφ bφ mφ ((bf2 Fφ Bx).mono (by decide)) Fψ bψ mψ ((bq7 Fψ Bx).mono (by decide)) Fν bν mν ((bC5 Fν Bx).mono (by decide)) Fδ bδ mδ ((bq9 Fδ Bx).mono (by decide)) FR bR mR ((bC0 FR Bx).mono (by decide))
 exact bq5 F0 Bx FC bC mC ((br0 FC Bx).mono (by decide)) FK bK mK ((br1 FK Bx FP bP mP).mono (by decide)) Fτ bτ mτ Gτ
end
end Web
namespace Web
open PySem L2
def am0 (K:W.Frag):List (Addr × Addr):=match PySem.W.tabIn K "order_of",PySem.W.tabIn K "shares" with
 | some q,some r=>[q,r]
 | _,_=>[]
def aF6 (K:W.Frag):Addr:=((PySem.W.tabIn K "order_of").getD (0,0)).2
def aF5 (K:W.Frag):Addr:=((PySem.W.tabIn K "shares").getD (0,0)).2
theorem ls1 {p:List Value->Prop}(h:∀ x0,p [x0]):∀ us,us.length=1->p us
 | [x0],_=>h x0
theorem ls2 {p:List Value->Prop}(h:∀ x0 x1,p [x0,x1]):∀ us,us.length=2->p us
 | [x0,x1],_=>h x0 x1
theorem ls3 {p:List Value->Prop}(h:∀ x0 x1 x2,p [x0,x1,x2]):∀ us,us.length=3->p us
 | [x0,x1,x2],_=>h x0 x1 x2
set_option maxHeartbeats 0 in
theorem all_mk {l:PySem.W.OpenLaw}{w:World}{K:W.Frag}{h:Heap}{mg:Str->Option Value}{fa fI fU fV fT fO fG fA fρ fM fβ fω fW fF fL fY fX fD fE fS fN fQ fJ fC fP fK fR fδ fφ fψ fν fτ fZ CBadTally CBadNumber CNoWeb:Addr}{tk:Tok}(X:K.In h)(G:h.Ns mainGlobals mg)(hfa:mg "law"=some (.ref fa))
  {odI anI odU anU odV anV odT anT odO anO odG anG odA anA odρ anρ odM anM odβ anβ odω anω odW anW odF anF odL anL odY anY odX anX odD anD odE anE odS anS odN anN odQ anQ odJ anJ odC anC odP anP odK anK odR anR odδ anδ odφ anφ odψ anψ odν anν odτ anτ odZ anZ:Option Addr}{slI slU slV slT slO slG slA slρ slM slβ slω slW slF slL slY slX slD slE slS slN slQ slJ slC slP slK slR slδ slφ slψ slν slτ slZ:Array (Option Value)}
  {ocI kVI dcI pmI cdI ctI ocU kVU dcU pmU cdU ctU ocV kVV dcV pmV cdV ctV ocT kVT dcT pmT cdT ctT ocO kVO dcO pmO cdO ctO ocG kVG dcG pmG cdG ctG ocA kVA dcA pmA cdA ctA ocρ kVρ dcρ pmρ cdρ ctρ ocM kVM dcM pmM cdM ctM ocβ kVβ dcβ pmβ cdβ ctβ ocω kVω dcω pmω cdω ctω ocW kVW dcW pmW cdW ctW ocF kVF dcF pmF cdF ctF ocL kVL dcL pmL cdL ctL ocY kVY dcY pmY cdY ctY ocX kVX dcX pmX cdX ctX ocD kVD dcD pmD cdD ctD ocE kVE dcE pmE cdE ctE ocS kVS dcS pmS cdS ctS ocN kVN dcN pmN cdN ctN ocQ kVQ dcQ pmQ cdQ ctQ ocJ kVJ dcJ pmJ cdJ ctJ ocC kVC dcC pmC cdC ctC ocP kVP dcP pmP cdP ctP ocK kVK dcK pmK cdK ctK ocR kVR dcR pmR cdR ctR ocδ kVδ dcδ pmδ cdδ ctδ ocφ kVφ dcφ pmφ cdφ ctφ ocψ kVψ dcψ pmψ cdψ ctψ ocν kVν dcν pmν cdν ctν ocτ kVτ dcτ pmτ cdτ ctτ ocZ kVZ dcZ pmZ cdZ ctZ:Value}
  (aI:i3 K mainGlobals "is_place"=some (some (.ref fI)))(lI:K.lookup fI=some ⟨ocI,odI,.func (k7 "is_place" "is_place" (t7 ap4) (p8 ap4) (g6 ap4) .none kVI dcI pmI anI cdI ctI),slI⟩)(cI:j7 K cdI "is_place"=true)(kI:i7 K (.ref fI)=true)
  (aU:i3 K mainGlobals "turned_up"=some (some (.ref fU)))(lU:K.lookup fU=some ⟨ocU,odU,.func (k7 "turned_up" "turned_up" (t7 sUp) (p8 sUp) (g6 sUp) .none kVU dcU pmU anU cdU ctU),slU⟩)(cU:j7 K cdU "turned_up"=true)(kU:i7 K (.ref fU)=true)
  (aV:i3 K mainGlobals "made"=some (some (.ref fV)))(lV:K.lookup fV=some ⟨ocV,odV,.func (k7 "made" "made" (t7 ae2) (p8 ae2) (g6 ae2) .none kVV dcV pmV anV cdV ctV),slV⟩)(cV:j7 K cdV "made"=true)(kV:i7 K (.ref fV)=true)
  (aT:i3 K mainGlobals "check_tally"=some (some (.ref fT)))(lT:K.lookup fT=some ⟨ocT,odT,.func (k7 "check_tally" "check_tally" (t7 ab8) (p8 ab8) (g6 ab8) .none kVT dcT pmT anT cdT ctT),slT⟩)(cT:j7 K cdT "check_tally"=true)(kT:i7 K (.ref fT)=true)
  (aO:i3 K mainGlobals "order_of"=some (some (.ref fO)))(lO:K.lookup fO=some ⟨ocO,odO,.func (k7 "order_of" "order_of" (t7 ap3) (p8 ap3) (g6 ap3) .none kVO dcO pmO anO cdO ctO),slO⟩)(cO:j7 K cdO "order_of"=true)(kO:i7 K (.ref fO)=true)
  (aG:i3 K mainGlobals "falling"=some (some (.ref fG)))(lG:K.lookup fG=some ⟨ocG,odG,.func (k7 "falling" "falling" (t7 X2) (p8 X2) (g6 X2) .none kVG dcG pmG anG cdG ctG),slG⟩)(cG:j7 K cdG "falling"=true)(kG:i7 K (.ref fG)=true)
  (aA:i3 K mainGlobals "room_among"=some (some (.ref fA)))(lA:K.lookup fA=some ⟨ocA,odA,.func (k7 "room_among" "room_among" (t7 P0) (p8 P0) (g6 P0) .none kVA dcA pmA anA cdA ctA),slA⟩)(cA:j7 K cdA "room_among"=true)(kA:i7 K (.ref fA)=true)
  (aρ:i3 K mainGlobals "room_with"=some (some (.ref fρ)))(lρ:K.lookup fρ=some ⟨ocρ,odρ,.func (k7 "room_with" "room_with" (t7 Z1) (p8 Z1) (g6 Z1) .none kVρ dcρ pmρ anρ cdρ ctρ),slρ⟩)(cρ:j7 K cdρ "room_with"=true)(kρ:i7 K (.ref fρ)=true)
  (aM:i3 K mainGlobals "room"=some (some (.ref fM)))(lM:K.lookup fM=some ⟨ocM,odM,.func (k7 "room" "room" (t7 ak0) (p8 ak0) (g6 ak0) .none kVM dcM pmM anM cdM ctM),slM⟩)(cM:j7 K cdM "room"=true)(kM:i7 K (.ref fM)=true)
  (aβ:i3 K mainGlobals "places_below"=some (some (.ref fβ)))(lβ:K.lookup fβ=some ⟨ocβ,odβ,.func (k7 "places_below" "places_below" (t7 R4) (p8 R4) (g6 R4) .none kVβ dcβ pmβ anβ cdβ ctβ),slβ⟩)(cβ:j7 K cdβ "places_below"=true)(kβ:i7 K (.ref fβ)=true)
  (aω:i3 K mainGlobals "wall_with"=some (some (.ref fω)))(lω:K.lookup fω=some ⟨ocω,odω,.func (k7 "wall_with" "wall_with" (t7 V6) (p8 V6) (g6 V6) .none kVω dcω pmω anω cdω ctω),slω⟩)(cω:j7 K cdω "wall_with"=true)(kω:i7 K (.ref fω)=true)
  (aW:i3 K mainGlobals "wall_of"=some (some (.ref fW)))(lW:K.lookup fW=some ⟨ocW,odW,.func (k7 "wall_of" "wall_of" (t7 aj9) (p8 aj9) (g6 aj9) .none kVW dcW pmW anW cdW ctW),slW⟩)(cW:j7 K cdW "wall_of"=true)(kW:i7 K (.ref fW)=true)
  (aF:i3 K mainGlobals "first_of_order"=some (some (.ref fF)))(lF:K.lookup fF=some ⟨ocF,odF,.func (k7 "first_of_order" "first_of_order" (t7 V7) (p8 V7) (g6 V7) .none kVF dcF pmF anF cdF ctF),slF⟩)(cF:j7 K cdF "first_of_order"=true)(kF:i7 K (.ref fF)=true)
  (aL:i3 K mainGlobals "left_of_others"=some (some (.ref fL)))(lL:K.lookup fL=some ⟨ocL,odL,.func (k7 "left_of_others" "left_of_others" (t7 ae3) (p8 ae3) (g6 ae3) .none kVL dcL pmL anL cdL ctL),slL⟩)(cL:j7 K cdL "left_of_others"=true)(kL:i7 K (.ref fL)=true)
  (aY:i3 K mainGlobals "laid_around"=some (some (.ref fY)))(lY:K.lookup fY=some ⟨ocY,odY,.func (k7 "laid_around" "laid_around" (t7 ak2) (p8 ak2) (g6 ak2) .none kVY dcY pmY anY cdY ctY),slY⟩)(cY:j7 K cdY "laid_around"=true)(kY:i7 K (.ref fY)=true)
  (aX:i3 K mainGlobals "answered"=some (some (.ref fX)))(lX:K.lookup fX=some ⟨ocX,odX,.func (k7 "answered" "answered" (t7 aE9) (p8 aE9) (g6 aE9) .none kVX dcX pmX anX cdX ctX),slX⟩)(cX:j7 K cdX "answered"=true)(kX:i7 K (.ref fX)=true)
  (aD:i3 K mainGlobals "least_where"=some (some (.ref fD)))(lD:K.lookup fD=some ⟨ocD,odD,.func (k7 "least_where" "least_where" (t7 Z0) (p8 Z0) (g6 Z0) .none kVD dcD pmD anD cdD ctD),slD⟩)(cD:j7 K cdD "least_where"=true)(kD:i7 K (.ref fD)=true)
  (aE:i3 K mainGlobals "above"=some (some (.ref fE)))(lE:K.lookup fE=some ⟨ocE,odE,.func (k7 "above" "above" (t7 aF0) (p8 aF0) (g6 aF0) .none kVE dcE pmE anE cdE ctE),slE⟩)(cE:j7 K cdE "above"=true)(kE:i7 K (.ref fE)=true)
  (aS:i3 K mainGlobals "shares"=some (some (.ref fS)))(lS:K.lookup fS=some ⟨ocS,odS,.func (k7 "shares" "shares" (t7 T5) (p8 T5) (g6 T5) .none kVS dcS pmS anS cdS ctS),slS⟩)(cS:j7 K cdS "shares"=true)(kS:i7 K (.ref fS)=true)
  (aN:i3 K mainGlobals "check_none_below"=some (some (.ref fN)))(lN:K.lookup fN=some ⟨ocN,odN,.func (k7 "check_none_below" "check_none_below" (t7 aE7) (p8 aE7) (g6 aE7) .none kVN dcN pmN anN cdN ctN),slN⟩)(cN:j7 K cdN "check_none_below"=true)(kN:i7 K (.ref fN)=true)
  (aQ:i3 K mainGlobals "off_by_want"=some (some (.ref fQ)))(lQ:K.lookup fQ=some ⟨ocQ,odQ,.func (k7 "off_by_want" "off_by_want" (t7 ak1) (p8 ak1) (g6 ak1) .none kVQ dcQ pmQ anQ cdQ ctQ),slQ⟩)(cQ:j7 K cdQ "off_by_want"=true)(kQ:i7 K (.ref fQ)=true)
  (aJ:i3 K mainGlobals "least_off"=some (some (.ref fJ)))(lJ:K.lookup fJ=some ⟨ocJ,odJ,.func (k7 "least_off" "least_off" (t7 ak4) (p8 ak4) (g6 ak4) .none kVJ dcJ pmJ anJ cdJ ctJ),slJ⟩)(cJ:j7 K cdJ "least_off"=true)(kJ:i7 K (.ref fJ)=true)
  (aC:i3 K mainGlobals "_law_cell_at"=some (some (.ref fC)))(lC:K.lookup fC=some ⟨ocC,odC,.func (k7 "_law_cell_at" "_law_cell_at" (t7 ak6) (p8 ak6) (g6 ak6) .none kVC dcC pmC anC cdC ctC),slC⟩)(cC:j7 K cdC "_law_cell_at"=true)(kC:i7 K (.ref fC)=true)
  (aP:i3 K mainGlobals "_law_pairs"=some (some (.ref fP)))(lP:K.lookup fP=some ⟨ocP,odP,.func (k7 "_law_pairs" "_law_pairs" (t7 Z3) (p8 Z3) (g6 Z3) .none kVP dcP pmP anP cdP ctP),slP⟩)(cP:j7 K cdP "_law_pairs"=true)(kP:i7 K (.ref fP)=true)
  (aK:i3 K mainGlobals "_law_all_webs"=some (some (.ref fK)))(lK:K.lookup fK=some ⟨ocK,odK,.func (k7 "_law_all_webs" "_law_all_webs" (t7 ak7) (p8 ak7) (g6 ak7) .none kVK dcK pmK anK cdK ctK),slK⟩)(cK:j7 K cdK "_law_all_webs"=true)(kK:i7 K (.ref fK)=true)
  (aR:i3 K mainGlobals "_law_room_at"=some (some (.ref fR)))(lR:K.lookup fR=some ⟨ocR,odR,.func (k7 "_law_room_at" "_law_room_at" (t7 aE5) (p8 aE5) (g6 aE5) .none kVR dcR pmR anR cdR ctR),slR⟩)(cR:j7 K cdR "_law_room_at"=true)(kR:i7 K (.ref fR)=true)
  (aδ:i3 K mainGlobals "_law_counts"=some (some (.ref fδ)))(lδ:K.lookup fδ=some ⟨ocδ,odδ,.func (k7 "_law_counts" "_law_counts" (t7 ak5) (p8 ak5) (g6 ak5) .none kVδ dcδ pmδ anδ cdδ ctδ),slδ⟩)(cδ:j7 K cdδ "_law_counts"=true)(kδ:i7 K (.ref fδ)=true)
  (aφ:i3 K mainGlobals "_law_whole"=some (some (.ref fφ)))(lφ:K.lookup fφ=some ⟨ocφ,odφ,.func (k7 "_law_whole" "_law_whole" (t7 Y9) (p8 Y9) (g6 Y9) .none kVφ dcφ pmφ anφ cdφ ctφ),slφ⟩)(cφ:j7 K cdφ "_law_whole"=true)(kφ:i7 K (.ref fφ)=true)
  (aψ:i3 K mainGlobals "_law_lack"=some (some (.ref fψ)))(lψ:K.lookup fψ=some ⟨ocψ,odψ,.func (k7 "_law_lack" "_law_lack" (t7 ak3) (p8 ak3) (g6 ak3) .none kVψ dcψ pmψ anψ cdψ ctψ),slψ⟩)(cψ:j7 K cdψ "_law_lack"=true)(kψ:i7 K (.ref fψ)=true)
  (aν:i3 K mainGlobals "_law_beneath"=some (some (.ref fν)))(lν:K.lookup fν=some ⟨ocν,odν,.func (k7 "_law_beneath" "_law_beneath" (t7 aE8) (p8 aE8) (g6 aE8) .none kVν dcν pmν anν cdν ctν),slν⟩)(cν:j7 K cdν "_law_beneath"=true)(kν:i7 K (.ref fν)=true)
  (aτ:i3 K mainGlobals "_law_right"=some (some (.ref fτ)))(lτ:K.lookup fτ=some ⟨ocτ,odτ,.func (k7 "_law_right" "_law_right" (t7 Z2) (p8 Z2) (g6 Z2) .none kVτ dcτ pmτ anτ cdτ ctτ),slτ⟩)(cτ:j7 K cdτ "_law_right"=true)(kτ:i7 K (.ref fτ)=true)
  (aZ:i3 K mainGlobals "law"=some (some (.ref fZ)))(lZ:K.lookup fZ=some ⟨ocZ,odZ,.func (k7 "law" "law" (t7 au5) (p8 au5) (g6 au5) .none kVZ dcZ pmZ anZ cdZ ctZ),slZ⟩)(cZ:j7 K cdZ "law"=true)(kZ:i7 K (.ref fZ)=true)
  (mo:i3 K mainGlobals "MOST_PLACES"=some (some (.int 24 tk)))
  (aBadTally:i3 K mainGlobals "BadTally"=some (some (.ref CBadTally)))
  (aBadNumber:i3 K mainGlobals "BadNumber"=some (some (.ref CBadNumber)))
  (aNoWeb:i3 K mainGlobals "NoWeb"=some (some (.ref CNoWeb)))
  (qBadTally:PySem.W.excIn K CBadTally [.type "ValueError",.type "Exception",.type "BaseException",.type "object"] "ValueError.__new__"=true)
  (xmBadTally:PySem.W.exmOne K (.ref CBadTally) (.ref CBadTally)=some true)
  (qBadNumber:PySem.W.excIn K CBadNumber [.type "ValueError",.type "Exception",.type "BaseException",.type "object"] "ValueError.__new__"=true)
  (xmBadNumber:PySem.W.exmOne K (.ref CBadNumber) (.ref CBadNumber)=some true)
  (qNoWeb:PySem.W.excIn K CNoWeb [.type "ValueError",.type "Exception",.type "BaseException",.type "object"] "ValueError.__new__"=true)
  (xmNoWeb:PySem.W.exmOne K (.ref CNoWeb) (.ref CNoWeb)=some true)
  (tb:(PySem.W.tabIn K "order_of").isSome=true)
  (tb2:(PySem.W.tabIn K "shares").isSome=true)
  (z1:i3 K mainGlobals "len"=some none)
  (z2:i3 K mainGlobals "range"=some none)
  (z3:i3 K mainGlobals "enumerate"=some none)
  (z4:i3 K mainGlobals "list"=some none)
  (z5:i3 K mainGlobals "tuple"=some none)
  (z6:i3 K mainGlobals "sorted"=some none)
  (z7:i3 K mainGlobals "set"=some none)
  (z8:i3 K mainGlobals "isinstance"=some none)
  (z9:i3 K mainGlobals "int"=some none)
  (z10:i3 K mainGlobals "bool"=some none)
  (z11:i3 K mainGlobals "min"=some none)
  (z12:i3 K mainGlobals "max"=some none)
  (z13:i3 K mainGlobals "sum"=some none)
  (z14:i3 K mainGlobals "str"=some none)
  (z15:i3 K mainGlobals "ValueError"=some none)
  (z16:i3 K mainGlobals "all"=some none)
  (z17:i3 K mainGlobals "zip"=some none) :
  ∃ fd:FuncData,(∀ (s:Shared) (v:Value),BindsTo s fd ⟨[v],[]⟩ [("script",v)])/\∀ base:Heap,K.In base->base.Ns mainGlobals mg->(∀ q∈am0 K,ag5 base mg q.1 q.2)->t9 l.prog w K mg base CX0 9 fa fd ["script"] (aD9 K (aF6 K) (aF5 K)):=by
 have e:=hfa.symm.trans (j9 X G aZ)
 cases e
 have B:Bn mg:=⟨o9 X G z1,o9 X G z2,o9 X G z3,o9 X G z4,o9 X G z5,o9 X G z6,o9 X G z7,o9 X G z8,o9 X G z9,o9 X G z10,o9 X G z11,o9 X G z12,o9 X G z13,o9 X G z14,o9 X G z15,o9 X G z16,o9 X G z17⟩
 have FI:=A8 (st:=ap4) lI cI kI
 have bI:=FI.binds (ps:=["places","number"]) fun _ _ _ _ _ _=>ls2 fun _ _=>rfl
 have FU:=A8 (st:=sUp) lU cU kU
 have bU:=FU.binds (ps:=["places","tie"]) fun _ _ _ _ _ _=>ls2 fun _ _=>rfl
 have FV:=A8 (st:=ae2) lV cV kV
 have bV:=FV.binds (ps:=["places","ties"]) fun _ _ _ _ _ _=>ls2 fun _ _=>rfl
 have FT:=A8 (st:=ab8) lT cT kT
 have bT:=FT.binds (ps:=["tally"]) fun _ _ _ _ _ _=>ls1 fun _=>rfl
 have FO:=A8 (st:=ap3) lO cO kO
 have bO:=FO.binds (ps:=["tally"]) fun _ _ _ _ _ _=>ls1 fun _=>rfl
 have FG:=A8 (st:=X2) lG cG kG
 have bG:=FG.binds (ps:=["tally"]) fun _ _ _ _ _ _=>ls1 fun _=>rfl
 have FA:=A8 (st:=P0) lA cA kA
 have bA:=FA.binds (ps:=["numbers","most","r"]) fun _ _ _ _ _ _=>ls3 fun _ _ _=>rfl
 have Fρ:=A8 (st:=Z1) lρ cρ kρ
 have bρ:=Fρ.binds (ps:=["tally","most","r"]) fun _ _ _ _ _ _=>ls3 fun _ _ _=>rfl
 have FM:=A8 (st:=ak0) lM cM kM
 have bM:=FM.binds (ps:=["tally","r"]) fun _ _ _ _ _ _=>ls2 fun _ _=>rfl
 have Fβ:=A8 (st:=R4) lβ cβ kβ
 have bβ:=Fβ.binds (ps:=["numbers"]) fun _ _ _ _ _ _=>ls1 fun _=>rfl
 have Fω:=A8 (st:=V6) lω cω kω
 have bω:=Fω.binds (ps:=["tally","most"]) fun _ _ _ _ _ _=>ls2 fun _ _=>rfl
 have FW:=A8 (st:=aj9) lW cW kW
 have bW:=FW.binds (ps:=["tally"]) fun _ _ _ _ _ _=>ls1 fun _=>rfl
 have FF:=A8 (st:=V7) lF cF kF
 have bF:=FF.binds (ps:=["tally","many","passed_over"]) fun _ _ _ _ _ _=>ls3 fun _ _ _=>rfl
 have FL:=A8 (st:=ae3) lL cL kL
 have bL:=FL.binds (ps:=["tally","place","ends"]) fun _ _ _ _ _ _=>ls3 fun _ _ _=>rfl
 have FY:=A8 (st:=ak2) lY cY kY
 have bY:=FY.binds (ps:=["tally","place","ends"]) fun _ _ _ _ _ _=>ls3 fun _ _ _=>rfl
 have FX:=A8 (st:=aE9) lX cX kX
 have bX:=FX.binds (ps:=["tally"]) fun _ _ _ _ _ _=>ls1 fun _=>rfl
 have FD:=A8 (st:=Z0) lD cD kD
 have bD:=FD.binds (ps:=["low","high","holds"]) fun _ _ _ _ _ _=>ls3 fun _ _ _=>rfl
 have FE:=A8 (st:=aF0) lE cE kE
 have bE:=FE.binds (ps:=["numbers","level","most"]) fun _ _ _ _ _ _=>ls3 fun _ _ _=>rfl
 have FS:=A8 (st:=T5) lS cS kS
 have bS:=FS.binds (ps:=["numbers","much","most"]) fun _ _ _ _ _ _=>ls3 fun _ _ _=>rfl
 have FN:=A8 (st:=aE7) lN cN kN
 have bN:=FN.binds (ps:=["tally"]) fun _ _ _ _ _ _=>ls1 fun _=>rfl
 have FQ:=A8 (st:=ak1) lQ cQ kQ
 have bQ:=FQ.binds (ps:=["tally","want"]) fun _ _ _ _ _ _=>ls2 fun _ _=>rfl
 have FJ:=A8 (st:=ak4) lJ cJ kJ
 have bJ:=FJ.binds (ps:=["tally"]) fun _ _ _ _ _ _=>ls1 fun _=>rfl
 have FC:=A8 (st:=ak6) lC cC kC
 have bC:=FC.binds (ps:=["script","k"]) fun _ _ _ _ _ _=>ls2 fun _ _=>rfl
 have FP:=A8 (st:=Z3) lP cP kP
 have bP:=FP.binds (ps:=["places"]) fun _ _ _ _ _ _=>ls1 fun _=>rfl
 have FK:=A8 (st:=ak7) lK cK kK
 have bK:=FK.binds (ps:=["places"]) fun _ _ _ _ _ _=>ls1 fun _=>rfl
 have FR:=A8 (st:=aE5) lR cR kR
 have bR:=FR.binds (ps:=["tally","r"]) fun _ _ _ _ _ _=>ls2 fun _ _=>rfl
 have Fδ:=A8 (st:=ak5) lδ cδ kδ
 have bδ:=Fδ.binds (ps:=["found","places"]) fun _ _ _ _ _ _=>ls2 fun _ _=>rfl
 have Fφ:=A8 (st:=Y9) lφ cφ kφ
 have bφ:=Fφ.binds (ps:=["found"]) fun _ _ _ _ _ _=>ls1 fun _=>rfl
 have Fψ:=A8 (st:=ak3) lψ cψ kψ
 have bψ:=Fψ.binds (ps:=["tally","counts"]) fun _ _ _ _ _ _=>ls2 fun _ _=>rfl
 have Fν:=A8 (st:=aE8) lν cν kν
 have bν:=Fν.binds (ps:=["tally","counts"]) fun _ _ _ _ _ _=>ls2 fun _ _=>rfl
 have Fτ:=A8 (st:=Z2) lτ cτ kτ
 have bτ:=Fτ.binds (ps:=["tally","webs"]) fun _ _ _ _ _ _=>ls2 fun _ _=>rfl
 have FZ:=A8 (st:=au5) lZ cZ kZ
 obtain⟨⟨c,PT⟩,hcp⟩:=k9.mp tb
 obtain⟨⟨d,PU⟩,hdp⟩:=k9.mp tb2
 have hc:=aD6 hcp aO lO
 have hd:=aD6 hdp aS lS
 have ept:aF6 K=PT:=by unfold aF6;rw[hcp];rfl
 have epu:aF5 K=PU:=by unfold aF5;rw[hdp];rfl
 have ets:am0 K=[(c,PT),(d,PU)]:=by unfold am0;rw[hcp,hdp]
 rw[ept,epu,ets]
 exact⟨k7 "law" "law" (t7 au5) (p8 au5) (g6 au5) .none kVZ dcZ pmZ anZ cdZ ctZ,fun s v=>.of_eq rfl,fun base _ _ hL=>bC2 FZ B (j9 X G mo) FI bI (j9 X G aI) FU bU (j9 X G aU) FV bV (j9 X G aV) FT bT (j9 X G aT) FO bO (j9 X G aO) FG bG (j9 X G aG) FA bA (j9 X G aA) Fρ bρ (j9 X G aρ) FM bM (j9 X G aM) Fβ bβ (j9 X G aβ) Fω bω (j9 X G aω) FW bW (j9 X G aW) FF bF (j9 X G aF) FL bL (j9 X G aL) FY bY (j9 X G aY) FX bX (j9 X G aX) FD bD (j9 X G aD) FE bE (j9 X G aE) FS bS (j9 X G aS) FN bN (j9 X G aN) FQ bQ (j9 X G aQ) FJ bJ (j9 X G aJ) FC bC (j9 X G aC) FP bP (j9 X G aP) FK bK (j9 X G aK) FR bR (j9 X G aR) Fδ bδ (j9 X G aδ) Fφ bφ (j9 X G aφ) Fψ bψ (j9 X G aψ) Fν bν (j9 X G aν) Fτ bτ (j9 X G aτ) (j9 X G aBadTally) ⟨qBadTally⟩ (j9 X G aBadNumber) ⟨qBadNumber⟩ (j9 X G aNoWeb) ⟨qNoWeb⟩ hc (hL (c,PT) d8) hd (hL (d,PU) (d5 _ d8))⟩
theorem walk {l:PySem.W.OpenLaw} {q:Program} {loose:List Str} {XP:(Str->Option Value)->Heap->Prop} {YP:World->Heap->Prop} {d:DefRec} {K:Params->PySem.W.Frag} (hn:l.most=some 63) (hdf:d.params.defaults=[])
  (hY:∀ (w:World) (h:Heap),YP w h->(K w.params).In h) (hK0:∀ w:World,PySem.W.noTabs (K w.params)=true) (hrec:((PyProof.Rows.recsOf q).find? (fun e=>e.name == ("order_of":Str))).isSome=true) (htb:∀ w:World,(PySem.W.tabIn (K w.params) "order_of").isSome=true) (hrec2:((PyProof.Rows.recsOf q).find? (fun e=>e.name == ("shares":Str))).isSome=true) (htb2:∀ w:World,(PySem.W.tabIn (K w.params) "shares").isSome=true) (hne:∀ w:World,decide (aF6 (K w.params)=aF5 (K w.params))=false)
  (F : ∀ (w : World) (mg : Str -> Option Value) (fa : Addr) (h : Heap), (K w.params).In h -> h.Ns mainGlobals mg -> mg d.name = some (.ref fa) ->
   ∃ fd:FuncData,(∀ (s:Shared) (u:Value),BindsTo s fd ⟨[u],[]⟩ [("script",u)])/\∀ base:Heap,(K w.params).In base->base.Ns mainGlobals mg->(∀ q∈am0 (K w.params),ag5 base mg q.1 q.2)->t9 l.prog w (K w.params) mg base CX0 9 fa fd ["script"] (aD9 (K w.params) (aF6 (K w.params)) (aF5 (K w.params)))) :
  PySem.W.WalkO q loose XP YP l.row.toRowW d [] (fun f vs=>PySem.call f vs):=by
 refine L2.walk_ofT (n:=63) (k:=9) (x:="script") (CX:=fun _=>CX0) (sp:=fun w _=>aD9 (K w.params) (aF6 (K w.params)) (aF5 (K w.params))) (ts:=fun w=>am0 (K w.params)) hn (by decide) hdf ⟨rfl,by decide,by decide⟩ hY hK0 (fun w loose mean mg mb h T X=>?_) F (fun w H a ns hl hT hS=>?_) fun _ _ _ _ _ z=>z
 ·obtain⟨⟨c,PT⟩,hcp⟩:=k9.mp (htb w)
  obtain⟨⟨e,PU⟩,hep⟩:=k9.mp (htb2 w)
  obtain⟨d',hd'⟩:=k9.mp hrec
  obtain⟨d2,hd2⟩:=k9.mp hrec2
  have ets:am0 (K w.params)=[(c,PT),(e,PU)]:=by unfold am0;rw[hcp,hep]
  show PySem.W.TabsAt (am0 (K w.params)) h
  rw[ets]
  intro r hr
  rcases d3.mp hr with hr | hr
  ·rw[hr]
   exact PySem.W.tab_of T X hd' hcp
  ·rw[y6.mp hr]
   exact PySem.W.tab_of T X hd2 hep
 ·obtain⟨⟨c,PT⟩,hcp⟩:=k9.mp (htb w)
  obtain⟨⟨e,PU⟩,hep⟩:=k9.mp (htb2 w)
  have ets:am0 (K w.params)=[(c,PT),(e,PU)]:=by unfold am0;rw[hcp,hep]
  have ept:aF6 (K w.params)=PT:=by unfold aF6;rw[hcp];rfl
  have epu:aF5 (K w.params)=PU:=by unfold aF5;rw[hep];rfl
  have hn:=of_decide_eq_false (hne w)
  refine⟨a,ns,rfl,hS,hl,?_,?_,hn,fun _=>rfl⟩
  ·rw[ept]
   exact⟨#[],hT (c,PT) (by show (c,PT)∈am0 (K w.params);rw[ets];exact d8),trivial,.inl rfl⟩
  ·rw[epu]
   exact⟨#[],hT (e,PU) (by show (e,PU)∈am0 (K w.params);rw[ets];exact d5 _ d8),trivial,.inl rfl⟩
end Web
set_option Elab.async false
namespace PySem.W.Fast
def tw2432822445136362028:=0
def tw15186942029789669158:=0
def tw17808911855463265363:=0
def tw1410286281304008620:=0
def tw15564966177320706607:=0
def tw11628402385639867963:=0
def tw17064192747760061499:=0
def tw12769933497555035859:=0
def tw3916379259855496767:=0
def tw13891546669404337003:=0
def tw18061219187787944953:=0
def tw1688494861702292127:=0
def tw13945493793018695050:=0
def tw9592246148010476624:=0
def tw5606208520182208289:=0
def tw8699079549543102953:=0
def tw10457395596647096840:=0
def tw13237961891762047422:=0
def tw14584918364180223785:=0
def tw6859288056607129913:=0
def tw7580080463055985825:=0
def tw17092486420238017278:=0
def tw17304775069135445816:=0
def tw3478611742373448693:=0
def tw16930500087260230232:=0
def tw7885479458843304437:=0
def tw18122850516967212759:=0
def tw3022600439057087987:=0
def tw5372423242286297378:=0
def tw6330068203322344621:=0
def tw16354184216566599207:=0
def tw17974094287938094125:=0
def tw4533958691735912015:=0
def tw15295917722722502282:=0
def tw10121796357241409646:=0
def tw7810902259525947506:=0
def tw12584810788413444843:=0
def tw6483685242489547285:=0
def tw18215498418307295896:=0
def tw4564052225718988773:=0
def tw1675027109209786749:=0
def tw3374707488029999493:=0
def tw4599645107742697367:=0
def tw3011409466577905681:=0
def tw12165878002606616500:=0
def tw6349346669302170229:=0
def tw10213628561829769352:=0
def tw16459628144318103305:=0
def tw14490149255156030466:=0
def tw16709813403185510720:=0
def tw11380036451673939122:=0
def tw12596645453277946088:=0
def tw10579643103360757162:=0
def tw11891475909684229570:=0
def tw15327543057158003045:=0
def tw6048907808090372918:=0
def tw968855542444639606:=0
def tw16285272834375748068:=0
def tw15140752069956985784:=0
def tw13086618246859141040:=0
def tw15788345789976729160:=0
def tw8915596305764882253:=0
def tw10296393226011875501:=0
def tw8620139916711859030:=0
def tw3106246406809901476:=0
def tw977277412673921092:=0
def tw6001525483337930556:=0
def tw14248634536544020824:=0
def tw18422610217451891387:=0
def tw429286672859213240:=0
def tw13572577331202290722:=0
def tw14305113984844738450:=0
def tw6575799409862338638:=0
def tw4246956410585306375:=0
def tw1789150870774621883:=0
def tw2587062452355441499:=0
def tw5295158075733342569:=0
def tw7579808432695841517:=0
def tw14192390123243483319:=0
def tw10966154415312836077:=0
def tw10316026530465472406:=0
def tw14920194256476815697:=0
def tw13485890131420064044:=0
def tw11746439896723728387:=0
def tw10572262313763853767:=0
def tw13489340725847798143:=0
def tw5019577098817590121:=0
def tw1765062079762282811:=0
def tw1258223519461466465:=0
def tw14214487705808258934:=0
def tw7283409874026085989:=0
def tw6727007313559523449:=0
def tw17421201663573337159:=0
def tw6560326156434860680:=0
def tw3653687912330111994:=0
def tw14418708781386602446:=0
def tw11783618728484726148:=0
def tw5576103125681673377:=0
def tw4968432550520747241:=0
def tw10960891180114859506:=0
def tw12876995595755700110:=0
def tw181553887422249476:=0
def tw16532165404900005617:=0
def tw12074857160103322872:=0
def tw6817196977455361482:=0
def tw9746108270664039789:=0
def tw8436203978509542524:=0
def tw539154680819910366:=0
def tw18396838079078161837:=0
def tw2111870280380084189:=0
def tw3536829532231369232:=0
def tw15083431311949728155:=0
def tw12559291710777156605:=0
def tw10805276336491715163:=0
def tw13420924657595664004:=0
def tw760983062169155723:=0
def tw15961231388456114708:=0
def tw18171582593477825023:=0
def tw13962155672808322415:=0
def tw9461824296932259027:=0
def tw3663381699625087902:=0
def tw7333085229080734549:=0
def tw1132425033393379926:=0
def tw8081471234584611661:=0
def tw10176533186258691775:=0
def tw13427234960236861594:=0
def tw16440525103192443220:=0
def tw11854472919087101128:=0
def tw3129639047723527342:=0
def tw3985672751438225729:=0
def tw7781976481277677612:=0
def tw14810025552381710630:=0
def tw1510547324955601170:=0
def tw17396628836885609820:=0
def tw15613853509271653282:=0
def tw10773251754114496159:=0
def tw2281474597475084850:=0
def tw4717401041634041245:=0
def tw17588206565698440100:=0
def tw15848595958322610913:=0
def tw7241220025513905804:=0
def tw17755063482075426401:=0
def tw2053341831691544751:=0
def tw11362756942717864065:=0
def tw17541326405726787900:=0
def tw7173032838384521424:=0
def tw4391110096585725156:=0
def tw220436688830894132:=0
def tw8250964234786381750:=0
def tw6195495236259948667:=0
def tw10345422776808295392:=0
def tw12970287051443794345:=0
def tw7529217541482193997:=0
def tw4574018762597193612:=0
def tw1918184036376826624:=0
def tw3510369053183808661:=0
def tw457311683918459650:=0
def tw14499870339484187235:=0
def tw16016421121072759424:=0
def tw13954255430208150518:=0
def tw4302007783907725819:=0
def tw9051801641609540042:=0
def tw3519827708777176869:=0
def tw10248122267226312238:=0
def tw10360311268459823529:=0
def tw9497079448670611149:=0
def tw17111877715081939670:=0
def tw10425795431523625057:=0
def tw15738118135187819270:=0
def tw13205365572316900433:=0
def tw6084156040448965356:=0
def tw11800316702208313379:=0
end PySem.W.Fast
open PySem PySem.W PyProof.Rows
set_option maxRecDepth 100000 in
set_option maxHeartbeats 0 in
theorem PySem.Challenge.cw_tallyweb_k50_least_off_small_tallies_holds : PySem.Challenge.rw_tallyweb_k50_least_off_small_tallies.Holds := by
 w_on; o_law; k_head; (case hw => w_witness2)
 k_fill
 refine Web.walk (l := PySem.Challenge.rw_tallyweb_k50_least_off_small_tallies) rfl rfl (fun w h Y => PySem.W.km_in_of Y) ?hN0 ?hR0 ?hT0 ?hR1 ?hT1 ?hE0 ?F
 case hN0 => intro w; kernel_rfl
 case hR0 => kernel_rfl
 case hT0 => intro w; kernel_rfl
 case hR1 => kernel_rfl
 case hT1 => intro w; kernel_rfl
 case hE0 => intro w; kernel_rfl
 case F =>
  intro w mg fa h KX G hmg
  refine' Web.all_mk KX G hmg ?aI ?lI ?cI ?kI ?aU ?lU ?cU ?kU ?aV ?lV ?cV ?kV ?aT ?lT ?cT ?kT ?aO ?lO ?cO ?kO ?aG ?lG ?cG ?kG ?aA ?lA ?cA ?kA ?aρ ?lρ ?cρ ?kρ ?aM ?lM ?cM ?kM ?aβ ?lβ ?cβ ?kβ ?aω ?lω ?cω ?kω ?aW ?lW ?cW ?kW ?aF ?lF ?cF ?kF ?aL ?lL ?cL ?kL ?aY ?lY ?cY ?kY ?aX ?lX ?cX ?kX ?aD ?lD ?cD ?kD ?aE ?lE ?cE ?kE ?aS ?lS ?cS ?kS ?aN ?lN ?cN ?kN ?aQ ?lQ ?cQ ?kQ ?aJ ?lJ ?cJ ?kJ ?aC ?lC ?cC ?kC ?aP ?lP ?cP ?kP ?aK ?lK ?cK ?kK ?aR ?lR ?cR ?kR ?aδ ?lδ ?cδ ?kδ ?aφ ?lφ ?cφ ?kφ ?aψ ?lψ ?cψ ?kψ ?aν ?lν ?cν ?kν ?aτ ?lτ ?cτ ?kτ ?aZ ?lZ ?cZ ?kZ ?mo ?aBadTally ?aBadNumber ?aNoWeb ?qBadTally ?xmBadTally ?qBadNumber ?xmBadNumber ?qNoWeb ?xmNoWeb ?tb ?tb2 ?z1 ?z2 ?z3 ?z4 ?z5 ?z6 ?z7 ?z8 ?z9 ?z10 ?z11 ?z12 ?z13 ?z14 ?z15 ?z16 ?z17
  (case aI => k_is); (case lI => k_is); (case cI => k_is); (case kI => k_is)
  (case aU => k_is); (case lU => k_is); (case cU => k_is); (case kU => k_is)
  (case aV => k_is); (case lV => k_is); (case cV => k_is); (case kV => k_is)
  (case aT => k_is); (case lT => k_is); (case cT => k_is); (case kT => k_is)
  (case aO => k_is); (case lO => k_is); (case cO => k_is); (case kO => k_is)
  (case aG => k_is); (case lG => k_is); (case cG => k_is); (case kG => k_is)
  (case aA => k_is); (case lA => k_is); (case cA => k_is); (case kA => k_is)
  (case aρ => k_is); (case lρ => k_is); (case cρ => k_is); (case kρ => k_is)
  (case aM => k_is); (case lM => k_is); (case cM => k_is); (case kM => k_is)
  (case aβ => k_is); (case lβ => k_is); (case cβ => k_is); (case kβ => k_is)
  (case aω => k_is); (case lω => k_is); (case cω => k_is); (case kω => k_is)
  (case aW => k_is); (case lW => k_is); (case cW => k_is); (case kW => k_is)
  (case aF => k_is); (case lF => k_is); (case cF => k_is); (case kF => k_is)
  (case aL => k_is); (case lL => k_is); (case cL => k_is); (case kL => k_is)
  (case aY => k_is); (case lY => k_is); (case cY => k_is); (case kY => k_is)
  (case aX => k_is); (case lX => k_is); (case cX => k_is); (case kX => k_is)
  (case aD => k_is); (case lD => k_is); (case cD => k_is); (case kD => k_is)
  (case aE => k_is); (case lE => k_is); (case cE => k_is); (case kE => k_is)
  (case aS => k_is); (case lS => k_is); (case cS => k_is); (case kS => k_is)
  (case aN => k_is); (case lN => k_is); (case cN => k_is); (case kN => k_is)
  (case aQ => k_is); (case lQ => k_is); (case cQ => k_is); (case kQ => k_is)
  (case aJ => k_is); (case lJ => k_is); (case cJ => k_is); (case kJ => k_is)
  (case aC => k_is); (case lC => k_is); (case cC => k_is); (case kC => k_is)
  (case aP => k_is); (case lP => k_is); (case cP => k_is); (case kP => k_is)
  (case aK => k_is); (case lK => k_is); (case cK => k_is); (case kK => k_is)
  (case aR => k_is); (case lR => k_is); (case cR => k_is); (case kR => k_is)
  (case aδ => k_is); (case lδ => k_is); (case cδ => k_is); (case kδ => k_is)
  (case aφ => k_is); (case lφ => k_is); (case cφ => k_is); (case kφ => k_is)
  (case aψ => k_is); (case lψ => k_is); (case cψ => k_is); (case kψ => k_is)
  (case aν => k_is); (case lν => k_is); (case cν => k_is); (case kν => k_is)
  (case aτ => k_is); (case lτ => k_is); (case cτ => k_is); (case kτ => k_is)
  (case aZ => k_is); (case lZ => k_is); (case cZ => k_is); (case kZ => k_is)
  (case mo => k_is); (case aBadTally => k_is); (case aBadNumber => k_is); (case aNoWeb => k_is)
  (case qBadTally => k_exc); (case xmBadTally => kts_exm); (case qBadNumber => k_exc); (case xmBadNumber => kts_exm)
  (case qNoWeb => k_exc); (case xmNoWeb => kts_exm); (case tb => kernel_rfl); (case tb2 => kernel_rfl)
  (case z1 => k_is); (case z2 => k_is); (case z3 => k_is); (case z4 => k_is)
  (case z5 => k_is); (case z6 => k_is); (case z7 => k_is); (case z8 => k_is)
  (case z9 => k_is); (case z10 => k_is); (case z11 => k_is); (case z12 => k_is)
  (case z13 => k_is); (case z14 => k_is); (case z15 => k_is); (case z16 => k_is)
  (case z17 => k_is)
#print axioms PySem.Challenge.cw_tallyweb_k50_least_off_small_tallies_holds

