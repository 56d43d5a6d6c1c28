import PyProof.Rows.All
import Wide.All
import OpenK.AllK
import Wide.FinOn
import Lean
import PyProof.EqAt
import PyProof.EqKinds
import PyProof.TupleCall
import PyProof.Rows.SortRunsK
import PyProof.Rows.SortShellK
import KE.KSortTup
import PyProof.TupleKey
import PySem.SetOps
import PyProof.Rows.SetFrom
import PyProof.EnumFor
import PyProof.EnumStmt
import PyProof.EnumMake
import PyProof.P3Eq
import PyProof.NeData
import PyProof.P3In
import KE.KTryMore
import PyProof.NsDelKeeps
import PyProof.RulesAs
import PyProof.Rows.SumAny
import PyProof.ExcBaseAll.ValueError
import PyProof.ExcArgsOwn
import KE.KIsAll
import KE.KIntText
import KE.IntTextLaws
import PyProof.StrLawsIn
import PyProof.Rows.StrNews2
import PyProof.StrLawsOcc
import PyProof.StrLawsTight
import PyProof.StrLawsFirst
import KE.KLam
import KE.KSortKey
import PyProof.ListRange
import PyProof.Rows.SortRev
import PyProof.TupleOfSeq
import PyProof.Draws
import KE.KTupSum
import PyProof.Cells
import PyProof.Rows.TupAdd
import PyProof.DictWalks
import PyProof.ConsumeWalk
import PyProof.DictKeyH
import PyProof.ListNew
import PyProof.ConsumeS
import PyProof.WalksMore
import Wide.Txt2
import PyProof.Rows.FStr
import KE.KRevIter
import PyProof.JoinWalk
import KE.RegKIsAll
import KE.RegKTryMore
import PySem.Challenge.RW_tallyweb_k61_rows_of_webs
set_option autoImplicit false
set_option linter.all false
set_option Elab.async false
set_option maxRecDepth 100000
open PySem.Heap renaming get?_push_of_some->a5,lt_size->c3,get?_push_size->j3,get?_update_other->u6,size_push->G3,get?_update_self->X7,get?_none_of_le->aa0
open Array renaming getElem?_toList->a6,length_toList->d5,size_push->l7,toList_append->m9,size_extract->u5,size_append->y6,toList_extract->C6,perm_iff_toList_perm->F4,toList_push->J9,mem_toList_iff->L3,toList_reverse->L5,getElem?_eq_some_iff->N7,size_map->aa2,append_assoc->ad3,toList_setIfInBounds->at4,getElem?_append_left->at5,size_setIfInBounds->aw9,getElem?_replicate->ax0,setIfInBounds->aM0,size_reverse->aS4,forIn_toList->aS5,getD->aV3,toList_inj->bb5
open List renaming mem_cons_of_mem->a7,getElem?_eq_some_iff->a8,mem_of_getElem?->a9,length_map->b5,mem_cons_self->b9,getElem?_eq_getElem->c5,length_append->c6,mem_append_right->c7,size_toArray->d3,length_cons->d6,mem_cons->d7,map_append->g7,mem_singleton->i7,take_of_length_le->i9,pairwise_iff_getElem->j0,mem_iff_getElem?->j7,map_cons->j8,length_take->k9,mem_append->l6,getElem?_map->l9,append_assoc->m7,mem_map->m8,pairwise_append->n8,length_drop->n9,all_eq_true->o3,take_add_one->t8,getElem?_append_right->t9,getD_eq_getElem?_getD->u4,getElem_mem->u9,mem_append_left->v9,drop_of_length_le->x9,take_append_drop->A1,range->A6,mem_of_mem_drop->B2,mem_range->B5,mem_of_mem_take->C7,filterMap_cons->D5,eq_nil_of_length_eq_zero->E4,getElem?_take->E8,pairwise_cons->E9,nodup_cons->F1,getElem?_append_left->G1,extract_eq_take_drop->G2,getElem?_take_of_lt->G4,mem_filterMap->J1,getElem?_drop->J2,nil_append->J3,pairwise_map->K3,mem_reverse->L4,drop_append->L6,take_append_of_le_length->L7,length->N4,length_nil->N5,getElem_range->O8,map_singleton->O9,drop_eq_getElem_cons->P2,drop_drop->P3,take_zero->P5,take_sublist->R4,reverse_perm->R5,ext_getElem?->R6,not_mem_nil->T8,take_length->T9,getElem?_set_self->V3,pairwise_lt_range->V4,append_nil->X6,length_singleton->X8,pairwise_reverse->X9,foldl_cons->Y0,getElem?_eq_none->Y1,getElem?_set_ne->aa1,drop_zero->ab1,length_pos_iff->ab7,length_reverse->ab8,zip_cons_cons->ag2,any_cons->ag3,take->ag4,foldl->ah2,drop_sublist->ah3,drop_append_of_le_length->an5,mem_filter->at0,of_mem_zip->at1,length_set->at3,nodup_iff_pairwise_ne->at7,mem_or_eq_of_mem_set->ax4,mem_of_mem_eraseIdx->aA9,eraseIdx_cons_succ->aF4,length_eraseIdx_le->aF5,drop_eq_nil_of_le->aF6,filter_eq_nil_iff->aF7,perm_append_comm->aL6,drop->aL7,reverse_append->aS3,flatMap_append->aS7,filter_append->aV4,flatten_cons->bb3,reverse_cons->bb7,count_append->bb8,take_append->bb9,lookup_cons->bc2,any_toArray->bc3,map_reverse->bc4
open Nat renaming le_refl->b4,ne_of_lt->f9,zero_le->j4,lt_of_lt_of_le->j6,le_trans->o7,lt_irrefl->p6,lt_succ_of_lt->v7,lt_or_eq_of_le->A9,zero_add->D6,add_sub_cancel_left->D7,add_le_add_left->G5,succ_pos->P4,le_of_succ_le->S8,le_of_lt_succ->S9,lt_trichotomy->T4,le_add_right->V5,ne_of_gt->Y2,le_succ->ad4,le_of_lt->an1,lt_or_ge->an2,sub_self->an3,add_zero->an4,isDigit_of_mem_toDigits->at6,min_le_left->at8,div_div_eq_div_mul->aL8,mul_le_mul_right->aS6,testBit_two_pow->aV2,add_sub_cancel->bb2,lt_of_le_of_lt->bb6,mod_lt->bc0
open Bool renaming false_ne_true->b6,and_eq_true->d9,false_eq_true->g9,false_and->p9,eq_iff_iff->A0,not_true->F5,true_and->M8,not_eq_true'->ah1,not_false->ax1,and_false->ax2,or_false->aF3,or_true->aL9,or_eq_false_iff->aM1,eq_false_iff->bb4,not_eq_true->bc1
open PySem.W renaming nsIn->c9,keepIn->g8,mg_of->i6,codeIn->i8,fnOf->j5,mg_none_of->j9
open Option renaming isSome_iff_exists->C5,isNone->ax3,getD_none->aV1
open Int renaming emod_lt_of_pos->J4,eq_ofNat_of_zero_le->J5,emod_nonneg->N6,toNat_natCast->S7
namespace L2
open PySem PySem.Spec PyProof.Rows
abbrev Key:=Sum Int Str
def aU6:Key->Value->Bool
 | .inl k,v=>Value.isInt k v
 | .inr x,v=>Value.isStrOf x v
def bj7 (w:World):Key->Int
 | .inl k=>hashInt k
 | .inr x=>hashStr w x
theorem C0:∀ {k:Key} {v:Value},aU6 k v=true->(∃ i t,k=Sum.inl i/\v=Value.int i t)\/(∃ x t,k=Sum.inr x/\v=Value.str x t)
 | .inl i,v,h=>by
  obtain⟨t,e⟩:=Value.isInt_shape (k:=i) (v:=v) h
  exact .inl ⟨i,t,rfl,e⟩
 | .inr x,v,h=>by
  obtain⟨t,e⟩:=Value.isStrOf_shape (x:=x) (v:=v) h
  exact .inr ⟨x,t,rfl,e⟩
theorem aZ4 (a b:Int):decide ((Sum.inl a:Key)=Sum.inl b)=(a == b):=by
 by_cases e:a=b
 ·subst e;simp
 ·have h:¬ (Sum.inl a:Key)=Sum.inl b:=fun q=>e (Sum.inl.inj q)
  rw[decide_eq_false h]
  exact(beq_eq_false_iff_ne.mpr e).symm
theorem aZ1 (a b:Str):decide ((Sum.inr a:Key)=Sum.inr b)=decide (a=b):=by
 by_cases e:a=b
 ·subst e;simp
 ·have h:¬ (Sum.inr a:Key)=Sum.inr b:=fun q=>e (Sum.inr.inj q)
  rw[decide_eq_false h,decide_eq_false e]
theorem aZ3 (a:Int)(b:Str):decide ((Sum.inl a:Key)=Sum.inr b)=false:=decide_eq_false (fun q=>nomatch q)
theorem aZ2 (a:Str)(b:Int):decide ((Sum.inr a:Key)=Sum.inl b)=false:=decide_eq_false (fun q=>nomatch q)
def az6 (prog:Program) (w:World):PySem.KeyKind prog w Key where
  is:=aU6
  hash:=bj7 w
  inj:=fun v a b ha hb=>by
    rcases C0 ha with⟨i,t,rfl,rfl⟩ | ⟨x,t,rfl,rfl⟩
    · rcases C0 hb with⟨j,u,rfl,e⟩ | ⟨y,u,rfl,e⟩
      · injection e with e1 _;rw[e1]
      · exact nomatch e
    · rcases C0 hb with⟨j,u,rfl,e⟩ | ⟨y,u,rfl,e⟩
      · exact nomatch e
      · injection e with e1 _;rw[e1]
  byValue := fun k v h => by
    rcases C0 h with⟨i,t,rfl,rfl⟩ | ⟨x,t,rfl,rfl⟩<;>rfl
  pyHash:=fun hv h=>by
    rcases C0 hv with⟨i,t,rfl,rfl⟩ | ⟨x,t,rfl,rfl⟩
    · exact wpAny_pyHash_int h
    · exact wpAny_pyHash_str h
  eqBool:=fun hu hv h=>by
    rcases C0 hu with⟨i,t,rfl,rfl⟩ | ⟨x,t,rfl,rfl⟩
    · rcases C0 hv with⟨j,u,rfl,rfl⟩ | ⟨y,u,rfl,rfl⟩
      · rw[aZ4]at h;exact wpAny_eqBool_int h
      · rw[aZ3]at h;exact SeqAt.EqAt.int_str i t y u _ _ _ _ h
    · rcases C0 hv with⟨j,u,rfl,rfl⟩ | ⟨y,u,rfl,rfl⟩
      · rw[aZ2]at h;exact SeqAt.EqAt.str_int x t j u _ _ _ _ h
      · rw[aZ1]at h;exact wpAny_eqBool_str h
  «strs»:=fun k x t v h=>by
    rcases C0 h with⟨i,u,rfl,e⟩ | ⟨y,u,rfl,e⟩
    · exact nomatch e
    · injection e with e1 _
      subst e1
      cases v<;>rfl
inductive V where
 | non | bl (b:Bool) | int (i:Int) | str (x:Str) | byt (b:Array UInt8) | flt (b:UInt64) | ref (a:Addr) | ty (n:String)
 deriving DecidableEq
def RelV:V->Value->Prop
 | .non,u=>u=Value.none
 | .bl b,u=>u=Value.bool b
 | .int i,u=>∃ t,u=Value.int i t
 | .str x,u=>∃ t,u=Value.str x t
 | .byt b,u=>∃ t,u=Value.bytes b t
 | .flt b,u=>∃ t,u=Value.float b t
 | .ref a,u=>u=Value.ref a
 | .ty n,u=>u=Value.type n
abbrev o6:List V->List Value->Prop:=Paired RelV
theorem o6.length {xs:List V}{us:List Value}(r:o6 xs us):xs.length=us.length:=Paired.length r
theorem o6.get:∀ {xs:List V} {us:List Value} {i:Nat} {x:V},o6 xs us->xs[i]?=some x->∃ u,us[i]?=some u/\RelV x u
 | _,_,_,_,.nil,e=>by simp at e
 | _,_,0,_,.cons r _,e=>by simp at e;subst e;exact⟨_,rfl,r⟩
 | _,_,i+1,x,.cons _ t,e=>by
  obtain⟨u,h1,h2⟩:=o6.get (i:=i) (x:=x) t (by simpa using e)
  exact⟨u,by simpa using h1,h2⟩
theorem o6.set {x:V}{u:Value}(r:RelV x u):∀ {xs:List V} {us:List Value} (i:Nat),o6 xs us->o6 (xs.set i x) (us.set i u)
 | _,_,_,.nil=>.nil
 | _,_,0,.cons _ t=>.cons r t
 | _,_,i+1,.cons q t=>.cons q (o6.set r i t)
theorem o6.append:∀ {xs ys:List V} {us ws:List Value},o6 xs us->o6 ys ws->o6 (xs++ys) (us++ws)
 | _,_,_,_,.nil,s=>s
 | _,_,_,_,.cons r t,s=>.cons r (o6.append t s)
theorem o6.take:∀ {xs:List V} {us:List Value} (n:Nat),o6 xs us->o6 (xs.take n) (us.take n)
 | _,_,0,_=>.nil
 | _,_,_+1,.nil=>.nil
 | _,_,n+1,.cons r t=>.cons r (o6.take n t)
theorem o6.drop:∀ {xs:List V} {us:List Value} (n:Nat),o6 xs us->o6 (xs.drop n) (us.drop n)
 | _,_,0,r=>r
 | _,_,_+1,.nil=>.nil
 | _,_,n+1,.cons _ t=>o6.drop n t
def ba8:Option V->Option Value->Prop
 | some v,some u=>RelV v u
 | none,none=>True
 | _,_=>False
def KV {κ:Type}:List (κ × V)->List (κ × Value)->Prop:=Paired fun(p:κ × V) (q:κ × Value)=>p.1=q.1/\RelV p.2 q.2
def kV:Key->V
 | .inl i=>.int i
 | .inr x=>.str x
inductive HO where
  | lst (xs:List V)
  | tup (xs:List V)
  | dK (kvs:List (Key × V)) | dT (kvs:List (List Key × V))
  | set (S:Int->Bool) (n:Nat)
  | ins (C dx:Addr) (fs:List (Str × V))
  | own (x:Addr)
  | xd (fs:List (Str × V))
  | met (f x:Addr)
  | rng (lo hi:Int)
  | frz (o:Obj) (u:HO)
  | tbl (ps:Array Value)
  | ext (φ:Heap->Prop)
abbrev Hp:=Addr->Option HO
def upd (H:Hp)(a:Addr)(o:HO):Hp:=fun b=>if b=a then some o else H b
theorem b8 {H:Hp}{a:Addr}{o:HO}:upd H a o a=some o:=by unfold upd;rw[if_pos rfl]
theorem q8 {H:Hp}{a b:Addr}{o:HO}(h:b≠a):upd H a o b=H b:=by unfold upd;rw[if_neg h]
theorem aU4 {H:Hp}{a b:Addr}{o u:HO}(h:H a=some o)(h':H b=some u)(d:o≠u):a≠b:=by
 intro e;subst e;rw[h]at h';exact d (Option.some.inj h')
theorem r6 {H:Hp}{a b:Addr}{o:HO}(h:H a=some o)(h':H b=none):a≠b:=by
 intro e;subst e;rw[h]at h';cases h'
section
variable (P:Program) (w:World)
def C8 (H:Hp)(h:Heap)(a:Addr):HO->Prop
 | .lst xs=>xs.length<=sizeLine/\∃ (its:List Value) (n:Nat),o6 xs its/\h.get? a=some { cls:=.type "list",data:=.seq its.toArray n }
 | .tup xs=>xs.length<=sizeLine/\∃ its:List Value,o6 xs its/\IsTup h a its.toArray
 | .dK kvs=>kvs.length<=sizeLine/\(a == sysModules)=false/\∃ vs,KV kvs vs/\h.DictOf (az6 P w) a vs
 | .dT kvs=>kvs.length<=sizeLine/\(a == sysModules)=false/\∃ xs:List (List Key × Addr × Value),
   Paired (fun(p:List Key × V) (q:List Key × Addr × Value)=>p.1=q.1/\H q.2.1=some (.tup (p.1.map kV))/\RelV p.2 q.2.2) kvs xs /\
   ∃ o es ep,h.get? a=some o/\o.ExactDict/\o.data=.dict es ep/\es.toList=xs.map (entryOfKey (tupleKind (az6 P w)))/\(xs.map (·.1)).Nodup
 | .set S n=>h.SetOf (intKind P w) a S n
 | .ins C dx fs=>H dx=some (.own a)/\fs.length<=1000/\dx≠a/\h.get? a=some (PySem.W.instObj C dx) /\
   ∃ mA,h.Ns1 dx mA/\(∀ f,ba8 (fs.lookup f) (mA f))/\PySem.Within mA (fs.map (·.1))
 | .own _=>∃ o,h.get? a=some o
 | .xd fs=>∃ mA,h.Ns1 a mA/\∀ f,ba8 (fs.lookup f) (mA f)
 | .rng lo hi=>∃ t u v,h.get? a=some { cls:=.type "range",data:=.fields #[.int lo t,.int hi u,.int 1 v] }
 | .frz o u=>h.get? a=some o/\C8 H h a u
 | .tbl ps=>h.get? a=some { cls:=.none,data:=.fields ps }
 | .met f x=>h.get? a=some (PySem.W.methodObj (.ref f) (.ref x))
 | .ext φ=>φ h/\(∃ o,h.get? a=some o)/\∀ h1 h2:Heap,φ h1->(∀ o,h1.get? a=some o->h2.get? a=some o)->φ h2
def HOk (H:Hp)(h:Heap):Prop:=∀ a o,H a=some o->C8 P w H h a o
end
section
variable {P:Program} {w:World} {H H':Hp} {h h':Heap} {a:Addr} {o:HO}
theorem C8.lt (x:C8 P w H h a o):a<h.objs.size:=by
 cases o with
 | lst xs=>obtain⟨_,_,_,_,e⟩:=x;exact c3 e
 | tup xs=>obtain⟨_,_,_,p⟩:=x;exact p.lt
 | dK kvs=>obtain⟨_,_,_,_,o,_,_,e,_⟩:=x;exact c3 e
 | dT kvs=>obtain⟨_,_,_,_,o,_,_,e,_⟩:=x;exact c3 e
 | set S n=>obtain⟨o,_,_,_,e,_⟩:=x;exact c3 e
 | ins C dx fs=>obtain⟨_,_,_,e,_⟩:=x;exact c3 e
 | own y=>obtain⟨_,e⟩:=x;exact c3 e
 | xd fs=>obtain⟨_,⟨_,_,_,e,_⟩,_⟩:=x;exact c3 e
 | rng lo hi=>obtain⟨_,_,_,e⟩:=x;exact c3 e
 | frz ob u=>obtain⟨e,_⟩:=x;exact c3 e
 | tbl ps=>exact c3 (show h.get? a=some _ from x)
 | met f y=>exact c3 (show h.get? a=some _ from x)
 | ext φ=>obtain⟨_,⟨_,e⟩,_⟩:=x;exact c3 e
theorem Paired.mapP {α β:Type}{F G:α->β->Prop}:∀ {l₁:List α} {l₂:List β},Paired F l₁ l₂->(∀ a b,F a b->G a b)->Paired G l₁ l₂
 | _,_,.nil,_=>.nil
 | _,_,.cons r t,f=>.cons (f _ _ r) (Paired.mapP t f)
theorem C8.stay (x:C8 P w H h a o)(k:∀ b u,(b=a\/H b=some (.own a))->h.get? b=some u->h'.get? b=some u)
  (ho:∀ b,H b=some (.own a)->H' b=some (.own a))(ht:∀ b xs,H b=some (.tup xs)->H' b=some (.tup xs)):C8 P w H' h' a o:=by
 induction o with
 | lst xs=>obtain⟨z,its,n,r,e⟩:=x;exact⟨z,its,n,r,k _ _ (.inl rfl) e⟩
 | tup xs=>obtain⟨z,its,r,ob,e,c⟩:=x;exact⟨z,its,r,ob,k _ _ (.inl rfl) e,c⟩
 | dK kvs=>obtain⟨z,y,vs,r,ob,es,ep,e,c⟩:=x;exact⟨z,y,vs,r,ob,es,ep,k _ _ (.inl rfl) e,c⟩
 | dT kvs =>
  obtain⟨z,y,xs,r,ob,es,ep,e,c⟩:=x
  exact⟨z,y,xs,Paired.mapP r fun p q z=>⟨z.1,ht _ _ z.2.1,z.2.2⟩,ob,es,ep,k _ _ (.inl rfl) e,c⟩
 | set S n=>obtain⟨ob,es,ep,t,e,c⟩:=x;exact⟨ob,es,ep,t,k _ _ (.inl rfl) e,c⟩
 | ins C dx fs =>
  obtain⟨d,z,ne,e,mA,⟨od,es,ep,e2,c⟩,r⟩:=x
  exact⟨ho _ d,z,ne,k _ _ (.inl rfl) e,mA,⟨od,es,ep,k _ _ (.inr d) e2,c⟩,r⟩
 | own y=>obtain⟨ob,e⟩:=x;exact⟨ob,k _ _ (.inl rfl) e⟩
 | xd fs=>obtain⟨mA,⟨od,es,ep,e,c⟩,r⟩:=x;exact⟨mA,⟨od,es,ep,k _ _ (.inl rfl) e,c⟩,r⟩
 | rng lo hi=>obtain⟨t,u,v,e⟩:=x;exact⟨t,u,v,k _ _ (.inl rfl) e⟩
 | frz ob u ih=>obtain⟨e,q⟩:=x;exact⟨k _ _ (.inl rfl) e,ih q⟩
 | tbl ps =>
  have e:h.get? a=some { cls:=.none,data:=.fields ps }:=x
  show h'.get? a=some { cls:=.none,data:=.fields ps }
  exact k a _ (.inl rfl) e
 | met f y =>
  have e:h.get? a=some (PySem.W.methodObj (.ref f) (.ref y)):=x
  show h'.get? a=some (PySem.W.methodObj (.ref f) (.ref y))
  exact k a _ (.inl rfl) e
 | ext φ=>obtain⟨p,⟨o,e⟩,st⟩:=x;exact⟨st _ _ p fun o q=>k _ _ (.inl rfl) q,⟨o,k _ _ (.inl rfl) e⟩,st⟩
theorem HOk.lt (x:HOk P w H h)(e:H a=some o):a<h.objs.size:=(x a o e).lt
theorem HOk.fresh (x:HOk P w H h)(e:h.objs.size<=a):H a=none:=by
 cases q:H a with
 | none=>rfl
 | some u=>exact absurd (j6 (x.lt q) e) (p6 _)
theorem HOk.kept (x:HOk P w H h)(k:∀ b u,h.get? b=some u->h'.get? b=some u):HOk P w H h':=fun a o e =>
 (x a o e).stay (fun b u _ q=>k b u q) (fun _ q=>q) fun _ _ q=>q
theorem HOk.laid (x:HOk P w H h)(k:∀ b u,h.get? b=some u->h'.get? b=some u)(hp:h.objs.size<=a)(new:C8 P w (upd H a o) h' a o):HOk P w (upd H a o) h':=fun b u e=>by
 have hn:=x.fresh hp
 by_cases hb:b=a
 ·subst hb;rw[b8]at e;cases e;exact new
 ·rw[q8 hb]at e
  exact(x b u e).stay (fun c v _ q=>k c v q) (fun c q=>by rw[q8 (r6 q hn)];exact q) fun c xs q=>by rw[q8 (r6 q hn)];exact q
end
def Rd (H:Hp)(a:Addr)(u:HO):Prop:=H a=some u\/∃ o,H a=some (.frz o u)
theorem Rd.ok {P:Program}{w:World}{H:Hp}{h:Heap}{a:Addr}{u:HO}(r:Rd H a u)(x:HOk P w H h):C8 P w H h a u:=by
 rcases r with r | ⟨o,r⟩
 ·exact x a u r
 ·obtain⟨_,q⟩:=x a _ r
  exact q
def Mut:Option HO->Prop
 | some (.lst _)=>True
 | some (.dK _)=>True
 | some (.dT _)=>True
 | some (.set _ _)=>True
 | some (.ins _ _ _)=>True
 | some (.ext _)=>True
 | _=>False
section
variable {P:Program} {w:World} {H:Hp} {h h':Heap} {x e:Addr} {o':HO}
theorem HOk.write (ok:HOk P w H h)(mu:Mut (H x))(he:e=x\/H e=some (.own x))(k:∀ b u,b≠e->h.get? b=some u->h'.get? b=some u)(heo:∃ u,h'.get? e=some u)
  (new:C8 P w (upd H x o') h' x o'):HOk P w (upd H x o') h':=fun b u q=>by
 have nown:∀ c y,H c=some (.own y)->c≠x:=fun c y r z=>by subst z;rw[r]at mu;exact mu
 have ntup:∀ c xs,H c=some (.tup xs)->c≠x:=fun c xs r z=>by subst z;rw[r]at mu;exact mu
 by_cases hb:b=x
 ·subst hb;rw[b8]at q;cases q;exact new
 ·rw[q8 hb]at q
  by_cases hbe:b=e
  ·have q':H b=some (.own x):=by
    rcases he with z | z
    ·exact absurd (hbe.trans z) hb
    ·rw[hbe];exact z
   rw[q]at q';cases q'
   obtain⟨v,hv⟩:=heo
   exact⟨v,by rw[hbe];exact hv⟩
  ·refine(ok b u q).stay (fun c v hc r=>k c v ?_ r) (fun c r=>by rw[q8 (nown c b r)];exact r) fun c xs r=>by rw[q8 (ntup c xs r)];exact r
   rcases hc with rfl | hc
   ·exact hbe
   ·rintro rfl
    rcases he with z | z
    ·exact nown c b hc z
    ·rw[hc]at z;cases z;exact hb rfl
end
structure Un (fs ex:List Addr) (H H':Hp) (h h':Heap):Prop where
 keep:∀ b o,h.get? b=some o->H b=none->b∉fs->b∉ex->h'.get? b=some o
 slot:∀ b o,h.get? b=some o->H b=none->b∈fs->b∉ex->∃ sl,h'.get? b=some { o with slots:=sl }
 free:∀ b o,h.get? b=some o->H b=none->b∉ex->H' b=none
 there:∀ b o,h.get? b=some o->b∉ex->∃ o',h'.get? b=some o'
 tups:∀ b xs,H b=some (.tup xs)->H' b=some (.tup xs)
 frzs:∀ b o u,H b=some (.frz o u)->H' b=some (.frz o u)
 tbls:∀ b ps,H b=some (.tbl ps)->∃ more,H' b=some (.tbl (ps++more))
section
variable {fs fs' ex ex':List Addr} {H H1 H2:Hp} {h h1 h2 h':Heap} {a x e:Addr} {o:HO}
theorem Un.any (u:Un fs ex H H1 h h1){b:Addr}{ob:Obj}(q:h.get? b=some ob)(n:H b=none)(hx:b∉ex):∃ sl,h1.get? b=some { ob with slots:=sl }:=by
 by_cases hb:b∈fs
 ·exact u.slot b ob q n hb hx
 ·exact⟨ob.slots,u.keep b ob q n hb hx⟩
theorem Un.kept (k:∀ b u,h.get? b=some u->h'.get? b=some u):Un fs ex H H h h':=
 ⟨fun b ob q _ _ _=>k b ob q,fun b ob q _ _ _=>⟨ob.slots,k b ob q⟩,fun _ _ _ n _=>n,fun b ob q _=>⟨ob,k b ob q⟩,fun _ _ q=>q,fun _ _ _ q=>q,fun _ ps q=>⟨#[],by rw[q];simp⟩⟩
theorem Un.refl:Un fs ex H H h h:=Un.kept fun _ _ q=>q
theorem Un.laid (k:∀ b u,h.get? b=some u->h'.get? b=some u)(hp:h.objs.size<=a)(hn:H a=none):Un fs ex H (upd H a o) h h' where
 keep:=fun b u q _ _ _=>k b u q
 slot:=fun b u q _ _ _=>⟨u.slots,k b u q⟩
 free:=fun b u q n _=>by rw[q8 (f9 (j6 (c3 q) hp))];exact n
 there:=fun b u q _=>⟨u,k b u q⟩
 tups:=fun b xs q=>by rw[q8 (r6 q hn)];exact q
 frzs:=fun b u xs q=>by rw[q8 (r6 q hn)];exact q
 tbls:=fun b ps q=>⟨#[],by rw[q8 (r6 q hn),q];simp⟩
theorem Un.write (mu:Mut (H x))(he:e=x\/H e=some (.own x))(k:∀ b u,b≠e->h.get? b=some u->h'.get? b=some u)(heo:∃ u,h'.get? e=some u):Un fs ex H (upd H x o) h h':=by
 have hx:∀ b,H b=none->b≠x:=fun b n z=>by subst z;rw[n]at mu;exact mu
 have hb:∀ b,H b=none->b≠e:=fun b n z=>by
  subst z
  rcases he with r | r
  ·exact hx b n r
  ·rw[n]at r;cases r
 have hm:∀ b u,H b=some u->¬ Mut (some u)->b≠x:=fun b u q nm z=>by subst z;rw[q]at mu;exact nm mu
 refine⟨fun b u q n _ _=>k b u (hb b n) q,fun b u q n _ _=>⟨u.slots,k b u (hb b n) q⟩,fun b u q n _=>by rw[q8 (hx b n)];exact n,fun b u q _=>?_,
  fun b xs q=>by rw[q8 (hm b _ q fun z=>z)];exact q,fun b u xs q=>by rw[q8 (hm b _ q fun z=>z)];exact q,fun b ps q=>⟨#[],by rw[q8 (hm b _ q fun z=>z),q];simp⟩⟩
 by_cases hbe:b=e
 ·subst hbe;exact heo
 ·exact⟨u,k b u hbe q⟩
end
def trk (h:Heap)(H:Hp):List Addr:=(A6 h.objs.size).filter fun a=>(H a).isSome
def am1 (h:Heap)(H:Hp):Heap:=PySem.W.hideAll h (trk h H)
theorem aD8 (h:Heap)(H:Hp):(am1 h H).objs.size=h.objs.size:=PySem.W.hideAll_size _ _
theorem aK5 {h:Heap}{H:Hp}{b:Addr}{o:Obj}(e:h.get? b=some o)(n:H b=none):(am1 h H).get? b=some o:=
 PySem.W.hideAll_get _ e fun hm=>by
  have q:(H b).isSome=true:=(at0.mp hm).2
  rw[n]at q;simp at q
theorem aP7 {h:Heap}{H:Hp}{b:Addr}{o:Obj}(e:(am1 h H).get? b=some o):h.get? b=some o/\H b=none:=by
 have e':h.get? b=some o:=PySem.W.of_hideAll (trk h H) e
 refine⟨e',?_⟩
 cases q:H b with
 | none=>rfl
 | some x =>
  have hm:b∈trk h H:=at0.mpr ⟨B5.mpr (c3 e'),by simp[q]⟩
  have z:(am1 h H).get? b=none:=PySem.W.hideAll_none (trk h H) hm
  rw[z]at e;cases e
def aR9 (g h:Heap)(L:Addr):List (Addr × Obj):=(A6 h.objs.size).filterMap fun a=>if a=L\/(g.get? a).isSome=true then none else (h.get? a).map fun o=>(a,o)
def rest (g h:Heap)(L d:Addr):List (Addr × Obj):=(aR9 g h L).filter fun p=>decide (p.1≠d)
structure Mod (K:W.Frag) (mg:Str->Option Value) (base:Heap):Prop where
 kin:K.In base
 glob:base.Ns mainGlobals mg
 blt:∃ mb,base.Ns builtinsNs mb/\∀ x:Str,x≠"__name__"->mb x=bootBuiltins x
 nolimit:base.NoLimit
structure Cx where
 prog:Program
 w:World
 K:W.Frag
 mg:Str->Option Value
 base:Heap
 A:Around
 N:List Str
 s₀:Shared
 H₀:Hp
 env:Env
 outer:List Env
 stack:List Env
 ex:List Addr
 fn:Str->Bool
 calm:Bool
 pn:List (Addr × Obj)
 xe:Value->Shared->Prop
def frs (l:List Env):List Addr:=l.filterMap (·.frame)
abbrev Cx.fs (X:Cx):List Addr:=frs X.outer
def Vis (sc:Scope)(x:Str):Prop:=sc.names.lookup x=some .local\/sc.names.lookup x=some .cell\/sc.names.lookup x=some .free
def Loc (sc:Scope)(x:Str):Prop:=sc.names.lookup x=some .local\/sc.names.lookup x=some .cell
def Look (env:Env)(h:Heap)(m:Str->Option Value)(x:Str)(u:Value):Prop:=
 (env.kindOf x=some .local/\m x=some u)\/((env.kindOf x=some .cell\/env.kindOf x=some .free)/\∃ c,env.cells.lookup x=some c/\h.IsCell c (some u))
structure Cx.Ok (X:Cx):Prop where
 mod:Mod X.K X.mg X.base
 kind:X.env.scope.kind=.function
 glob:X.env.globals=mainGlobals
 blt:X.env.builtins=builtinsNs
 above:X.s₀.heap.objs.size<=X.env.locals
 inj:∀ x y c,X.env.cells.lookup x=some c->X.env.cells.lookup y=some c->x=y
 has:∀ x,(X.env.kindOf x=some .cell\/X.env.kindOf x=some .free)->∃ c,X.env.cells.lookup x=some c
 cab:∀ x c,X.fn x=true->X.env.cells.lookup x=some c->X.s₀.heap.objs.size<=c
 hd:X.calm=true->X.A.handled=none
 frames:X.A.frames=some X.stack
 stk:X.stack=X.outer\/(X.stack=X.env::X.outer/\X.env.frame=some X.env.locals)
 exf:∀ b∈X.ex,b≠X.env.locals/\∀ x c,X.env.cells.lookup x=some c->c≠b
 bs:∀ b o,X.base.get? b=some o->X.s₀.heap.get? b=some o/\X.H₀ b=none
 bsz:X.base.objs.size<=X.s₀.heap.objs.size
 noex:∀ b o,X.base.get? b=some o->b∉X.ex
 exfs:∀ b∈X.ex,b∉X.fs
 funs:X.s₀.heap.FunFrames X.base X.outer
 frf:∀ b∈X.fs,X.H₀ b=none
structure Inv (X:Cx) (pins:List (Addr × Obj)) (σ:List (Option V)) (H:Hp) (s:Shared):Prop where
 ok:X.Ok
 os:s.os=X.s₀.os
 bare:AllBare s.gens
 base:Un X.fs X.ex X.H₀ H X.s₀.heap s.heap
 loc:∃ m,s.heap.Ns X.env.locals m/\∀ (i:Nat) (x:Str) (v:V),X.N[i]?=some x->σ[i]?=some (some v)->Vis X.env.scope x->∃ u,RelV v u/\Look X.env s.heap m x u
 cell:∀ x c,X.env.cells.lookup x=some c->∃ v,s.heap.IsCell c v
 free:H X.env.locals=none
 freeC:∀ x c,X.env.cells.lookup x=some c->H c=none
 pin:∀ p∈X.pn++pins,s.heap.get? p.1=some p.2/\H p.1=none/\p.1≠X.env.locals/\p.1∉X.fs/\∀ v,p.2.data≠.cell v
 hok:HOk X.prog X.w H s.heap
 len:σ.length=X.N.length
section
variable {X:Cx} {pins:List (Addr × Obj)} {σ:List (Option V)} {H H':Hp} {s:Shared} {h':Heap}
theorem Cx.Ok.nofr (ok:X.Ok){b:Addr}{o:Obj}(e:X.base.get? b=some o):b∉X.fs:=fun hb=>by
 have:=(ok.funs.mem hb).1
 rw[e]at this;cases this
theorem Inv.bs (I:Inv X pins σ H s):∀ b o,X.base.get? b=some o->s.heap.get? b=some o/\H b=none:=fun b o e =>
 ⟨I.base.keep b o (I.ok.bs b o e).1 (I.ok.bs b o e).2 (I.ok.nofr e) (I.ok.noex b o e),I.base.free b o (I.ok.bs b o e).1 (I.ok.bs b o e).2 (I.ok.noex b o e)⟩
theorem Inv.bk (I:Inv X pins σ H s):∀ b o,X.base.get? b=some o->s.heap.get? b=some o:=fun b o e=>(I.bs b o e).1
theorem Inv.mod (I:Inv X pins σ H s):Mod X.K X.mg X.base:=I.ok.mod
theorem Inv.kIn (I:Inv X pins σ H s):X.K.In s.heap:=I.ok.mod.kin.keeps I.bk
theorem Inv.lt (I:Inv X pins σ H s):X.env.locals<s.heap.objs.size:=let ⟨_,hn,_⟩:=I.loc;hn.lt
theorem Inv.sz (I:Inv X pins σ H s):X.s₀.heap.objs.size<=s.heap.objs.size:=o7 I.ok.above (an1 I.lt)
theorem Inv.nofs (I:Inv X pins σ H s){a:Addr}(h:s.heap.objs.size<=a):a∉X.fs:=fun hb=>by
 obtain⟨_,o,ho,_⟩:=I.ok.funs.mem hb
 exact absurd (j6 (c3 ho) (o7 I.sz h)) (p6 _)
theorem Inv.cne (I:Inv X pins σ H s):∀ x c,X.env.cells.lookup x=some c->c≠X.env.locals:=fun x c e z=>by
 obtain⟨v,o,ho,hd⟩:=I.cell x c e
 obtain⟨m,⟨o',es,ep,ho',hd',_⟩,_⟩:=I.loc
 rw[z,ho']at ho;cases ho;rw[hd']at hd;cases hd
theorem Inv.funs (I:Inv X pins σ H s):s.heap.FunFrames X.base X.outer:=by
 have all:∀ (l:List Env),(∀ b∈frs l,b∈X.fs)->X.s₀.heap.FunFrames X.base l->s.heap.FunFrames X.base l:=by
  intro l
  induction l with
  | nil=>intro _ _;trivial
  | cons env r ih =>
   intro hs hl
   obtain⟨hk,⟨L,o,hf,hn,ho,hd⟩,hr⟩:=hl
   have hL:L∈X.fs:=hs L (by unfold frs;rw[D5,hf];exact b9)
   obtain⟨sl,e⟩:=I.base.slot L o ho (I.ok.frf L hL) hL fun z=>I.ok.exfs L z hL
   exact⟨hk,⟨L,_,hf,hn,e,hd⟩,ih (fun b hb=>hs b (by unfold frs;rw[D5,hf];exact a7 _ hb)) hr⟩
 exact all X.outer (fun _ hb=>hb) I.ok.funs
theorem Inv.stack (I:Inv X pins σ H s):s.heap.FunFrames X.base X.stack:=by
 rcases I.ok.stk with e | ⟨e,hf⟩
 ·rw[e];exact I.funs
 ·rw[e]
  obtain⟨m,hn,_⟩:=I.loc
  refine .cons (by rw[I.ok.kind];decide) hf hn ?_ I.funs
  exact aa0 (o7 I.ok.bsz I.ok.above)
theorem Inv.stkSub (I:Inv X pins σ H s):∀ b∈frs X.stack,b∈X.env.locals::X.fs:=fun b hb=>by
 rcases I.ok.stk with e | ⟨e,hf⟩
 ·rw[e]at hb;exact a7 _ hb
 ·rw[e]at hb
  unfold frs at hb
  rw[D5,hf]at hb
  exact hb
theorem Inv.stkFree (I:Inv X pins σ H s):∀ b∈frs X.stack,H b=none:=fun b hb=>by
 rcases d7.mp (I.stkSub b hb) with e | hb
 ·rw[e];exact I.free
 ·obtain⟨_,o,ho,_⟩:=I.ok.funs.mem hb
  exact I.base.free b o ho (I.ok.frf b hb) fun z=>I.ok.exfs b z hb
theorem Inv.step {g':Array GenState}{t':Nat}{d':Drawn}{ch:List Addr}(I:Inv X pins σ H s)
  (hch:∀ b∈ch,(b∈X.ex\/X.s₀.heap.objs.size<=b)/\b≠X.env.locals/\(∀ x c,X.env.cells.lookup x=some c->c≠b)/\∀ p∈X.pn++pins,p.1≠b)
  (keep:∀ b o,b≠X.env.locals->b∉X.fs->b∉ch->s.heap.get? b=some o->H b=none->h'.get? b=some o)
  (slot:∀ b o,b≠X.env.locals->b∈X.fs->b∉ch->s.heap.get? b=some o->H b=none->∃ sl,h'.get? b=some { o with slots:=sl })(free:∀ b o,b∉ch->s.heap.get? b=some o->H b=none->H' b=none)
  (there:∀ b o,b∉ch->s.heap.get? b=some o->∃ o',h'.get? b=some o')
  (tups:∀ b xs,H b=some (.tup xs)->H' b=some (.tup xs))(frzs:∀ b o u,H b=some (.frz o u)->H' b=some (.frz o u))(tbls:∀ b ps,H b=some (.tbl ps)->∃ more,H' b=some (.tbl (ps++more)))
  (ns:∀ m,s.heap.Ns X.env.locals m->h'.Ns X.env.locals m)(hok:HOk X.prog X.w H' h')(hg:AllBare g') :
  Inv X pins σ H' { s with heap:=h',gens:=g',drawn:=d',toks:=t' }:=by
 have neL:∀ b o,X.s₀.heap.get? b=some o->b≠X.env.locals:=fun b o e=>f9 (j6 (c3 e) I.ok.above)
 have neC:∀ b o,X.s₀.heap.get? b=some o->b∉X.ex->b∉ch:=fun b o e hx hb=>by
  rcases(hch b hb).1 with z | z
  ·exact hx z
  ·exact absurd (j6 (c3 e) z) (p6 _)
 have cellK:∀ x c,X.env.cells.lookup x=some c->∀ v,s.heap.IsCell c v->h'.IsCell c v:=fun x c e v ⟨o,ho,hd⟩=>by
  have nch:c∉ch:=fun z=>(hch c z).2.2.1 x c e rfl
  by_cases hc:c∈X.fs
  ·obtain⟨sl,q⟩:=slot c o (I.cne x c e) hc nch ho (I.freeC x c e)
   exact⟨_,q,hd⟩
  ·exact⟨o,keep c o (I.cne x c e) hc nch ho (I.freeC x c e),hd⟩
 refine⟨I.ok,I.os,hg,⟨fun b o e n hb hx=>?_,fun b o e n hb hx=>?_,fun b o e n hx=>?_,fun b o e hx=>?_,fun b xs e=>tups b xs (I.base.tups b xs e),fun b o xs e=>frzs b o xs (I.base.frzs b o xs e),fun b ps e=>?_⟩,?_,fun x c e=>?_,?_,fun x c e=>?_,fun p hp=>?_,hok,I.len⟩
 ·exact keep b o (neL b o e) hb (neC b o e hx) (I.base.keep b o e n hb hx) (I.base.free b o e n hx)
 ·obtain⟨sl,e1⟩:=I.base.slot b o e n hb hx
  obtain⟨sl',e2⟩:=slot b _ (neL b o e) hb (neC b o e hx) e1 (I.base.free b o e n hx)
  exact⟨sl',e2⟩
 ·obtain⟨o',e1⟩:=I.base.there b o e hx
  exact free b o' (neC b o e hx) e1 (I.base.free b o e n hx)
 ·obtain⟨o',e1⟩:=I.base.there b o e hx
  exact there b o' (neC b o e hx) e1
 ·obtain⟨m1,e1⟩:=I.base.tbls b ps e
  obtain⟨m2,e2⟩:=tbls b _ e1
  exact⟨m1++m2,by rw[e2,ad3]⟩
 ·obtain⟨m,hn,hl⟩:=I.loc
  refine⟨m,ns m hn,fun i x v e1 e2 e3=>?_⟩
  obtain⟨u,r,l⟩:=hl i x v e1 e2 e3
  refine⟨u,r,?_⟩
  rcases l with l | ⟨k,c,e,z⟩
  ·exact .inl l
  ·exact .inr ⟨k,c,e,cellK x c e _ z⟩
 ·obtain⟨v,z⟩:=I.cell x c e
  exact⟨v,cellK x c e v z⟩
 ·obtain⟨m,⟨o,_,_,ho,_⟩,_⟩:=I.loc
  exact free _ o (fun z=>(hch _ z).2.1 rfl) ho I.free
 ·obtain⟨v,o,ho,hd⟩:=I.cell x c e
  exact free c o (fun z=>(hch c z).2.2.1 x c e rfl) ho (I.freeC x c e)
 ·obtain⟨e,n,ne,nf,d⟩:=I.pin p hp
  have nch:p.1∉ch:=fun z=>(hch p.1 z).2.2.2 p hp rfl
  exact⟨keep p.1 p.2 ne nf nch e n,free p.1 p.2 nch e n,ne,nf,d⟩
theorem Inv.un {t':Nat}(I:Inv X pins σ H s)(u:Un X.fs [] H H' s.heap h')(hok:HOk X.prog X.w H' h'):Inv X pins σ H' { s with heap:=h',toks:=t' }:=by
 obtain⟨m,⟨o,es,ep,ho,r⟩,_⟩:=id I.loc
 obtain⟨sl,hL⟩:=u.any ho I.free (by simp)
 exact I.step (g':=s.gens) (d':=s.drawn) (ch:=[]) (fun _ z=>nomatch z) (fun b o _ hb _ e n=>u.keep b o e n hb (by simp)) (fun b o _ hb _ e n=>u.slot b o e n hb (by simp)) (fun b o _ e n=>u.free b o e n (by simp)) (fun b o _ e=>u.there b o e (by simp)) u.tups u.frzs u.tbls (fun m' hm=>by
  obtain⟨o',es',ep',ho',r'⟩:=hm
  rw[ho]at ho';cases ho'
  exact⟨_,es',ep',hL,r'⟩) hok I.bare
theorem Inv.call {g':Array GenState}{t':Nat}{d':Drawn}{ch:List Addr}(I:Inv X pins σ H s)(u:Un (frs X.stack) ch H H' s.heap h')(hok:HOk X.prog X.w H' h')(hg:AllBare g')
  (hch:∀ b∈ch,(b∈X.ex\/X.s₀.heap.objs.size<=b)/\b≠X.env.locals/\(∀ x c,X.env.cells.lookup x=some c->c≠b)/\∀ p∈X.pn++pins,p.1≠b) :
  Inv X pins σ H' { s with heap:=h',gens:=g',drawn:=d',toks:=t' }:=by
 obtain⟨m,⟨o,es,ep,ho,r⟩,_⟩:=id I.loc
 obtain⟨sl,hL⟩:=u.any ho I.free fun z=>(hch _ z).2.1 rfl
 exact I.step (ch:=ch) hch (fun b o hL hb hc e n=>u.keep b o e n (fun z=>(d7.mp (I.stkSub b z)).elim hL hb) hc) (fun b o _ _ hc e n=>u.any e n hc) (fun b o hc e n=>u.free b o e n hc) (fun b o hc e=>u.there b o e hc) u.tups u.frzs u.tbls (fun m' hm=>by
  obtain⟨o',es',ep',ho',r'⟩:=hm
  rw[ho]at ho';cases ho'
  exact⟨_,es',ep',hL,r'⟩) hok hg
theorem Inv.turned {t':Nat}{it:Addr}(I:Inv X pins σ H s)(k:∀ b o,b≠it->s.heap.get? b=some o->h'.get? b=some o)(hn:H it=none)(hL:it≠X.env.locals)
  (h1:it∈X.ex\/X.s₀.heap.objs.size<=it)(h2:∀ x c,X.env.cells.lookup x=some c->c≠it)(h3:∀ p∈X.pn++pins,p.1≠it):Inv X pins σ H { s with heap:=h',toks:=t' }:=by
 have nit:∀ b u,H b=some u->b≠it:=fun b u e z=>by rw[z,hn]at e;cases e
 refine I.step (g':=s.gens) (d':=s.drawn) (ch:=[it]) (fun b hb=>?_) (fun b o _ _ hc e _=>k b o (fun z=>hc (by simp[z])) e) (fun b o _ _ hc e _=>⟨o.slots,k b o (fun z=>hc (by simp[z])) e⟩) (fun _ _ _ _ n=>n)
  (fun b o hc e=>⟨o,k b o (fun z=>hc (by simp[z])) e⟩) (fun _ _ e=>e) (fun _ _ _ e=>e) (fun b ps e=>⟨#[],by rw[e];simp⟩) (fun m hm=>?_) (fun b u e=>?_) I.bare
 ·have e:b=it:=by simpa using hb
  subst e
  exact⟨h1,hL,h2,h3⟩
 ·obtain⟨o,es,ep,ho,r⟩:=hm
  exact⟨o,es,ep,k _ o (Ne.symm hL) ho,r⟩
 ·refine(I.hok b u e).stay (fun c v hc q=>k c v ?_ q) (fun _ q=>q) fun _ _ q=>q
  rcases hc with z | z
  ·rw[z];exact nit b u e
  ·exact nit c _ z
theorem Inv.tok (I:Inv X pins σ H s)(t:Nat):Inv X pins σ H { s with toks:=t }:=I.un (h':=s.heap) (t':=t) Un.refl I.hok
theorem Inv.kept {t':Nat}(I:Inv X pins σ H s)(k:∀ b u,s.heap.get? b=some u->h'.get? b=some u):Inv X pins σ H { s with heap:=h',toks:=t' }:=I.un (Un.kept k) (I.hok.kept k)
theorem Inv.laid {a:Addr}{o:HO}{t':Nat}(I:Inv X pins σ H s)(k:∀ b u,s.heap.get? b=some u->h'.get? b=some u)(hp:s.heap.objs.size<=a)(new:C8 X.prog X.w (upd H a o) h' a o) :
  Inv X pins σ (upd H a o) { s with heap:=h',toks:=t' }:=I.un (Un.laid k hp (I.hok.fresh hp)) (I.hok.laid k hp new)
theorem Inv.write {x e:Addr}{o:HO}{t':Nat}(I:Inv X pins σ H s)(mu:Mut (H x))(he:e=x\/H e=some (.own x))(k:∀ b u,b≠e->s.heap.get? b=some u->h'.get? b=some u)(heo:∃ u,h'.get? e=some u)
  (new:C8 X.prog X.w (upd H x o) h' x o):Inv X pins σ (upd H x o) { s with heap:=h',toks:=t' }:=I.un (Un.write mu he k heo) (I.hok.write mu he k heo new)
theorem Inv.pins_of {pins':List (Addr × Obj)}(I:Inv X pins σ H s)(h:∀ p∈pins',s.heap.get? p.1=some p.2/\H p.1=none/\p.1≠X.env.locals/\p.1∉X.fs/\∀ v,p.2.data≠.cell v):Inv X pins' σ H s:=
 ⟨I.ok,I.os,I.bare,I.base,I.loc,I.cell,I.free,I.freeC,fun p hp=>(l6.mp hp).elim (fun z=>I.pin p (v9 _ z)) (h p),I.hok,I.len⟩
theorem af0 {N:List Str}(hN:N.Nodup){i j:Nat}{x:Str}(a:N[i]?=some x)(b:N[j]?=some x):i=j:=by
 obtain⟨h1,e1⟩:=a8.mp a
 obtain⟨h2,e2⟩:=a8.mp b
 exact(List.getElem_inj hN).mp (e1.trans e2.symm)
theorem ah8 {M:Model}{A:Around}{E:Value->Shared->Prop}{i:Nat}{x:Str}{v:V}{u:Value}{Q:Unit->Shared->Prop}(I:Inv X pins σ H s)(hN:X.N.Nodup)(hi:X.N[i]?=some x)(hx:Loc X.env.scope x)(r:RelV v u)
  (h:∀ s',Inv X pins (σ.set i (some v)) H s'->(∃ a,Heap.SameBut a s.heap s'.heap/\(a=X.env.locals\/X.env.cells.lookup x=some a))->Q () s')(hf:X.fn x=true\/X.env.scope.names.lookup x=some .local:=by first | exact .inl rfl | exact .inr rfl | assumption):wpAny M A (storeName X.env x u) Q E s:=by
 obtain⟨m,hn,hl⟩:=id I.loc
 have hcls:(X.env.scope.kind == .class || (X.env.scope.kind == .module && X.env.locals != X.env.globals))=false:=by rw[I.ok.kind];rfl
 have hiσ:i<σ.length:=by rw[I.len];exact(a8.mp hi).1
 have cne:=I.cne
 have tracked:∀ {a:Addr} {h':Heap},(∃ o,s.heap.get? a=some o/\H a=none)->Heap.SameBut a s.heap h'->HOk X.prog X.w H h':=fun {a h'} ha hs b ob e=>by
  obtain⟨_,_,hfree⟩:=ha
  refine(I.hok b ob e).stay (fun c w' hc q=>(hs.2 c ?_).trans q) (fun _ q=>q) fun _ _ q=>q
  rintro rfl
  rcases hc with rfl | hc
  ·rw[hfree]at e;cases e
  ·rw[hfree]at hc;cases hc
 rcases hx with hk | hk
 ·refine wpAny_storeName_local hk hn (fun h' hn' hs=>?_) hcls
  obtain⟨oL,_,_,hoL,_⟩:=id hn
  refine h _ ⟨I.ok,I.os,I.bare,⟨fun b o e n hb hx=>?_,fun b o e n hb hx=>?_,I.base.free,fun b o e hx=>?_,I.base.tups,I.base.frzs,I.base.tbls⟩,⟨_,hn',fun j y v' e1 e2 e3=>?_⟩,fun y c e=>?_,I.free,I.freeC,fun p hp=>?_,tracked ⟨oL,hoL,I.free⟩ hs,by simpa using I.len⟩ ⟨_,hs,.inl rfl⟩
  ·exact(hs.2 b (f9 (j6 (c3 e) I.ok.above))).trans (I.base.keep b o e n hb hx)
  ·obtain⟨sl,e1⟩:=I.base.slot b o e n hb hx
   exact⟨sl,(hs.2 b (f9 (j6 (c3 e) I.ok.above))).trans e1⟩
  ·obtain⟨o',e1⟩:=I.base.there b o e hx
   exact⟨o',(hs.2 b (f9 (j6 (c3 e) I.ok.above))).trans e1⟩
  ·by_cases hj:j=i
   ·subst hj
    rw[hi]at e1;cases e1
    rw[V3 hiσ]at e2
    cases e2
    exact⟨u,r,.inl ⟨hk,by simp⟩⟩
   ·rw[aa1 (Ne.symm hj)]at e2
    obtain⟨u',r',q⟩:=hl j y v' e1 e2 e3
    refine⟨u',r',?_⟩
    rcases q with⟨k,e⟩ | ⟨k,c,e,z⟩
    ·refine .inl ⟨k,?_⟩
     have:y≠x:=fun e=>hj (af0 hN e1 (e ▸ hi))
     simp[this,e]
    ·exact .inr ⟨k,c,e,z.sameBut hs (cne y c e)⟩
  ·obtain⟨w',z⟩:=I.cell y c e
   exact⟨w',z.sameBut hs (cne y c e)⟩
  ·obtain⟨e,n,ne,nf,d⟩:=I.pin p hp
   exact⟨(hs.2 p.1 ne).trans e,n,ne,nf,d⟩
 ·have hfn:X.fn x=true:=by
   rcases hf with z | z
   ·exact z
   ·rw[z]at hk;cases hk
  obtain⟨c,hc⟩:=I.ok.has x (.inl hk)
  obtain⟨w',z⟩:=I.cell x c hc
  refine wpAny_storeName_cell I.ok.kind hk hc z (fun h' hc' hs=>?_)
  obtain⟨oc,hoc,hocd⟩:=id z
  refine h { s with heap:=h' } ⟨I.ok,I.os,I.bare,⟨fun b o e n hb hx=>?_,fun b o e n hb hx=>?_,I.base.free,fun b o e hx=>?_,I.base.tups,I.base.frzs,I.base.tbls⟩,⟨m,hn.sameBut hs (Ne.symm (cne x c hc)),fun j y v' e1 e2 e3=>?_⟩,fun y c' e=>?_,I.free,I.freeC,fun p hp=>?_,tracked ⟨oc,hoc,I.freeC x c hc⟩ hs,by simpa using I.len⟩ ⟨c,hs,.inr hc⟩
  ·exact(hs.2 b (f9 (j6 (c3 e) (I.ok.cab x c hfn hc)))).trans (I.base.keep b o e n hb hx)
  ·obtain⟨sl,e1⟩:=I.base.slot b o e n hb hx
   exact⟨sl,(hs.2 b (f9 (j6 (c3 e) (I.ok.cab x c hfn hc)))).trans e1⟩
  ·obtain⟨o',e1⟩:=I.base.there b o e hx
   exact⟨o',(hs.2 b (f9 (j6 (c3 e) (I.ok.cab x c hfn hc)))).trans e1⟩
  ·by_cases hj:j=i
   ·subst hj
    rw[hi]at e1;cases e1
    rw[V3 hiσ]at e2
    cases e2
    exact⟨u,r,.inr ⟨.inl hk,c,hc,hc'⟩⟩
   ·rw[aa1 (Ne.symm hj)]at e2
    obtain⟨u',r',q⟩:=hl j y v' e1 e2 e3
    refine⟨u',r',?_⟩
    rcases q with q | ⟨k,c',e,z'⟩
    ·exact .inl q
    ·refine .inr ⟨k,c',e,z'.sameBut hs ?_⟩
     rintro rfl
     exact hj (af0 hN e1 (I.ok.inj _ _ _ e hc ▸ hi))
  ·by_cases hcc:c'=c
   ·subst hcc;exact⟨_,hc'⟩
   ·obtain⟨w2,z2⟩:=I.cell y c' e
    exact⟨w2,z2.sameBut hs hcc⟩
  ·obtain⟨e,n,ne,nf,d⟩:=I.pin p hp
   refine⟨(hs.2 p.1 ?_).trans e,n,ne,nf,d⟩
   intro q
   rw[q,hoc]at e
   have q':oc=p.2:=Option.some.inj e
   exact d w' (by rw[<- q'];exact hocd)
theorem ad8 {M:Model}{A:Around}{E:Value->Shared->Prop}{i:Nat}{x:Str}{v:V}{u:Value}{Q:Unit->Shared->Prop}(I:Inv X pins σ H s)(hN:X.N.Nodup)(hi:X.N[i]?=some x)(hx:Loc X.env.scope x)(r:RelV v u)
  (h:∀ s',Inv X pins (σ.set i (some v)) H s'->Q () s')(hf:X.fn x=true\/X.env.scope.names.lookup x=some .local:=by first | exact .inl rfl | exact .inr rfl | assumption):wpAny M A (storeName X.env x u) Q E s:=
 ah8 I hN hi hx r (fun s' I' _=>h s' I') hf
theorem Inv.call' {s':Shared}{ch:List Addr}(I:Inv X pins σ H s)(ho:s'.os=s.os)(u:Un (frs X.stack) ch H H' s.heap s'.heap)(hok:HOk X.prog X.w H' s'.heap)(hg:AllBare s'.gens)
  (hch:∀ b∈ch,(b∈X.ex\/X.s₀.heap.objs.size<=b)/\b≠X.env.locals/\(∀ x c,X.env.cells.lookup x=some c->c≠b)/\∀ p∈X.pn++pins,p.1≠b):Inv X pins σ H' s':=by
 obtain⟨h',g',d',t',o'⟩:=s'
 have e:o'=s.os:=ho
 subst e
 exact I.call (g':=g') (t':=t') (d':=d') u hok hg hch
end
abbrev XK:=Value->Option Addr->Hp->Prop
abbrev St:=List (Option V)
abbrev VK:=V->Hp->Prop
abbrev TE:=St->Hp->VK->Prop
abbrev TT:=St->Hp->(Bool->Hp->Prop)->Prop
abbrev TA:=St->Hp->(List V->Hp->Prop)->Prop
structure Ends where
 nx:St->Hp->Prop
 rt:VK
 bk:St->Hp->Prop:=fun _ _=>False
 ct:St->Hp->Prop:=fun _ _=>False
abbrev TS:=Ends->St->Hp->Prop
def EP (X:Cx)(pins:List (Addr × Obj))(σ:St)(Q:VK)(u:Value)(s':Shared):Prop:=∃ v H',Inv X pins σ H' s'/\RelV v u/\Q v H'
def TP (X:Cx)(pins:List (Addr × Obj))(σ:St)(Q:Bool->Hp->Prop)(b:Bool)(s':Shared):Prop:=∃ H',Inv X pins σ H' s'/\Q b H'
def AP (X:Cx)(pins:List (Addr × Obj))(σ:St)(Q:List V->Hp->Prop)(us:List Value)(s':Shared):Prop:=∃ vs H',Inv X pins σ H' s'/\o6 vs us/\Q vs H'
def SP (X:Cx)(pins:List (Addr × Obj))(D:Ends)(f:Flow)(s':Shared):Prop:=
 match f with
 | .next=>∃ σ' H',Inv X pins σ' H' s'/\D.nx σ' H'
 | .brk=>∃ σ' H',Inv X pins σ' H' s'/\D.bk σ' H'
 | .cont=>∃ σ' H',Inv X pins σ' H' s'/\D.ct σ' H'
 | .ret u=>∃ v σ' H',Inv X pins σ' H' s'/\RelV v u/\D.rt v H'
def PE (X:Cx)(e:Expr)(t:TE):Prop:=
 ∀ (pins:List (Addr × Obj)) (s:Shared) (σ:St) (H:Hp) (Q:VK),Inv X pins σ H s->t σ H Q->wpAny (model X.prog X.w) X.A (eval e X.env) (EP X pins σ Q) X.xe s
def PT (X:Cx)(e:Expr)(t:TT):Prop:=
 ∀ (pins:List (Addr × Obj)) (s:Shared) (σ:St) (H:Hp) (Q:Bool->Hp->Prop),Inv X pins σ H s->t σ H Q->wpAny (model X.prog X.w) X.A (isTrue e X.env (eval e X.env)) (TP X pins σ Q) X.xe s
def PW (X:Cx)(e:Expr)(t:TT):Prop:=
 ∀ (whole:Sem Value) (pins:List (Addr × Obj)) (s:Shared) (σ:St) (H:Hp) (Q:Bool->Hp->Prop),Inv X pins σ H s->t σ H Q->wpAny (model X.prog X.w) X.A (isTrue e X.env whole) (TP X pins σ Q) X.xe s
theorem PW.pt {X:Cx}{e:Expr}{t:TT}(h:PW X e t):PT X e t:=h _
def PA (X:Cx)(es:List Expr)(t:TA):Prop:=
 ∀ (pos:Pos) (pins:List (Addr × Obj)) (s:Shared) (σ:St) (H:Hp) (Q:List V->Hp->Prop),Inv X pins σ H s->t σ H Q->wpAny (model X.prog X.w) X.A (spliced (backTo pos (starEach es X.env))) (AP X pins σ Q) X.xe s
def PS (X:Cx)(st:Stmt)(t:TS):Prop:=
 ∀ (pins:List (Addr × Obj)) (s:Shared) (σ:St) (H:Hp) (D:Ends),Inv X pins σ H s->t D σ H->wpAny (model X.prog X.w) X.A (exec st X.env) (SP X pins D) X.xe s
def PSs (X:Cx)(st:List Stmt)(t:TS):Prop:=
 ∀ (pins:List (Addr × Obj)) (s:Shared) (σ:St) (H:Hp) (D:Ends),Inv X pins σ H s->t D σ H->wpAny (model X.prog X.w) X.A (execs st X.env) (SP X pins D) X.xe s
theorem thn {α:Type}{t:Sem α}{Q Q':α->Shared->Prop}{M:Model}{A:Around}{E:Value->Shared->Prop}{s:Shared}(h:wpAny M A t Q E s)(hQ:∀ a s,Q a s->Q' a s):wpAny M A t Q' E s:=wpAny_mono h hQ fun _ _ x=>x
section
variable {X:Cx}
def bc6 (i:Nat):TE:=fun σ H Q=>∃ v,σ[i]?=some (some v)/\Q v H
def tC (v:V):TE:=fun _ H Q=>Q v H
theorem aX3 {i:Nat}{x:Str}{pos:Pos}(hN:X.N[i]?=some x)(hv:Vis X.env.scope x)(hd:(x == ("__debug__":Str))=false:=by decide)(hcd:(x == ("__classdict__":Str))=false:=by decide):PE X (.Name x pos) (bc6 i):=by
 intro pins s σ H Q I h
 obtain⟨v,e,h⟩:=h
 obtain⟨m,hn,hl⟩:=I.loc
 obtain⟨u,r,l⟩:=hl i x v hN e hv
 have fin:EP X pins σ Q u s:=⟨v,H,I,r,h⟩
 rcases l with⟨hk,hm⟩ | ⟨hk,c,hc,hcell⟩
 ·exact wpAny_Name (wpAny_loadName_local I.ok.kind hk hn hm fin) hd
 ·rcases hk with hk | hk
  ·exact wpAny_Name (wpAny_loadName_cell I.ok.kind hk hc hcell fin) hd
  ·exact wpAny_Name (wpAny_loadName_free I.ok.kind hk hc hcell fin hcd) hd
theorem c4 {i j pos}:PE X (.Constant (.int i) j pos) (tC (.int i)):=fun _ _ _ H _ I h=>wpAny_Constant_int ⟨.int i,H,I.tok _,⟨_,rfl⟩,h⟩
theorem ae6 {b j pos}:PE X (.Constant (.bool b) j pos) (tC (.bl b)):=fun _ _ _ H _ I h=>Constant_bool ⟨.bl b,H,I,rfl,h⟩
theorem J6 {j pos}:PE X (.Constant .none j pos) (tC .non):=fun _ _ _ H _ I h=>Constant_none ⟨.non,H,I,rfl,h⟩
theorem y9 {x j pos}:PE X (.Constant (.str x) j pos) (tC (.str x)):=fun _ _ _ H _ I h=>Calls.Constant_str ⟨.str x,H,I.tok _,⟨_,rfl⟩,h⟩
def Gl (X:Cx)(x:Str):Prop:=X.env.kindOf x=some .globalImplicit
theorem S5 {E:Value->Shared->Prop}{pins:List (Addr × Obj)}{s:Shared}{σ:St}{H:Hp}{x:Str}{u:Value}{pos:Pos}{Q:Value->Shared->Prop}(I:Inv X pins σ H s)(hg:Gl X x)(hm:X.mg x=some u)(h:Q u s)
  (hd:(x == ("__debug__":Str))=false:=by decide):wpAny (model X.prog X.w) X.A (eval (.Name x pos) X.env) Q E s :=
 Calls.Name_function_global I.ok.kind hg (Calls.loadGlobal_global (by rw[I.ok.glob];exact I.mod.glob.keeps I.bk) hm h) hd
theorem Z0 {E:Value->Shared->Prop}{pins:List (Addr × Obj)}{s:Shared}{σ:St}{H:Hp}{x:Str}{u:Value}{pos:Pos}{Q:Value->Shared->Prop}(I:Inv X pins σ H s)(hg:Gl X x)(hm:X.mg x=none)(hv:bootBuiltins x=some u)(h:Q u s)
  (hn:x≠"__name__":=by decide)(hd:(x == ("__debug__":Str))=false:=by decide):wpAny (model X.prog X.w) X.A (eval (.Name x pos) X.env) Q E s:=by
 obtain⟨mb,h1,h2⟩:=I.mod.blt
 exact Calls.Name_function_global I.ok.kind hg (Calls.loadGlobal_builtin (by rw[I.ok.glob];exact I.mod.glob.keeps I.bk) hm (by rw[I.ok.blt];exact h1.keeps I.bk) ((h2 x hn).trans hv) h) hd
theorem O1 {x:Str}{v:V}{u:Value}{pos:Pos}(hg:Gl X x)(hm:X.mg x=some u)(r:RelV v u)(hd:(x == ("__debug__":Str))=false:=by decide):PE X (.Name x pos) (tC v) :=
 fun _ _ _ H _ I h=>S5 I hg hm ⟨v,H,I,r,h⟩ hd
theorem F2 {x:Str}{v:V}{u:Value}{pos:Pos}(hg:Gl X x)(hm:X.mg x=none)(hv:bootBuiltins x=some u)(r:RelV v u)(hn:x≠"__name__":=by decide)(hd:(x == ("__debug__":Str))=false:=by decide):PE X (.Name x pos) (tC v) :=
 fun _ _ _ H _ I h=>Z0 I hg hm hv ⟨v,H,I,r,h⟩ hn hd
variable {a b:Expr} {ta tb:TE} {pos:Pos}
def tB (t:TE):TT:=fun σ H Q=>t σ H fun x H1=>∃ c,x=.bl c/\Q c H1
theorem D9 {e:Expr}{t:TE}(h:PE X e t)(he:∀ whole,isTrue e X.env whole=(do let v <- whole;standAt e.pos;holding [v] (truthy v)):=by intro _;rfl):PT X e (tB t):=by
 intro pins s σ H Q I hw
 refine isTrue_plain (thn (h pins s σ H _ I hw) fun v s1 ⟨x,H1,I1,r1,q1⟩=>?_) (he _)
 obtain⟨d,rfl,q⟩:=q1
 cases r1
 exact wpAny_truthy_bool ⟨H1,I1,q⟩
variable {tA tB':TT} {rest:List Expr}
def bi7 (t u:TT):TT:=fun σ H Q=>t σ H fun c H1=>if c=true then u σ H1 Q else Q false H1
def tOr (t u:TT):TT:=fun σ H Q=>t σ H fun c H1=>if c=true then Q true H1 else u σ H1 Q
def bi0 (t:TT):TT:=fun σ H Q=>t σ H fun c H1=>Q (!c) H1
theorem ay7 (ha:PT X a tA):PW X (.BoolOp .And [a] pos) tA:=by
 intro wh pins s σ H Q I h
 refine isTrue_and (thn (ha pins s σ H Q I h) fun c s1 e=>?_)
 cases c with
 | true=>exact isTrue_and_nil e
 | false=>exact e
theorem O0 (ha:PT X a tA):PW X (.BoolOp .Or [a] pos) tA:=by
 intro wh pins s σ H Q I h
 refine isTrue_or (thn (ha pins s σ H Q I h) fun c s1 e=>?_)
 cases c with
 | false=>exact isTrue_or_nil e
 | true=>exact e
theorem aI0 (ha:PT X a tA)(hb:PW X (.BoolOp .And (b::rest) pos) tB'):PW X (.BoolOp .And (a::b::rest) pos) (bi7 tA tB'):=by
 intro wh pins s σ H Q I h
 refine isTrue_and (thn (ha pins s σ H _ I h) fun c s1 ⟨H1,I1,q1⟩=>?_)
 cases c with
 | true=>exact hb wh pins s1 σ H1 Q I1 q1
 | false=>exact⟨H1,I1,q1⟩
theorem W2 (ha:PT X a tA)(hb:PW X (.BoolOp .Or (b::rest) pos) tB'):PW X (.BoolOp .Or (a::b::rest) pos) (tOr tA tB'):=by
 intro wh pins s σ H Q I h
 refine isTrue_or (thn (ha pins s σ H _ I h) fun c s1 ⟨H1,I1,q1⟩=>?_)
 cases c with
 | true=>exact⟨H1,I1,q1⟩
 | false=>exact hb wh pins s1 σ H1 Q I1 q1
theorem F0 (ha:PT X a tA):PT X (.UnaryOp .Not a pos) (bi0 tA):=by
 intro pins s σ H Q I h
 exact isTrue_not (ha pins s σ H (fun c H1=>Q (!c) H1) I h)
def bd7 (ta tb:TE):TE:=fun σ H Q=>ta σ H fun x H1=>∃ c,x=.bl c/\if c=true then tb σ H1 Q else Q (.bl false) H1
def bh9 (ta tb:TE):TE:=fun σ H Q=>ta σ H fun x H1=>∃ c,x=.bl c/\if c=true then Q (.bl true) H1 else tb σ H1 Q
def bd0 (ta:TE):TE:=fun σ H Q=>ta σ H fun x H1=>∃ c,x=.bl c/\Q (.bl (!c)) H1
theorem Y8 {op}{t:TE}(h:PE X a t):PE X (.BoolOp op [a] pos) t:=fun pins s σ H Q I hw=>BoolOp_one (h pins s σ H Q I hw)
theorem ae7 (ha:PE X a ta)(hb:PE X (.BoolOp .And (b::rest) pos) tb):PE X (.BoolOp .And (a::b::rest) pos) (bd7 ta tb):=by
 intro pins s σ H Q I h
 refine BoolOp_and (thn (ha pins s σ H _ I h) fun v s1 ⟨x,H1,I1,r1,q1⟩=>?_)
 obtain⟨c,rfl,q1⟩:=q1
 cases r1
 refine wpAny_truthy_bool ?_
 cases c with
 | true=>exact hb pins s1 σ H1 Q I1 q1
 | false=>exact⟨.bl false,H1,I1,rfl,q1⟩
theorem bf2 (ha:PE X a ta)(hb:PE X (.BoolOp .Or (b::rest) pos) tb):PE X (.BoolOp .Or (a::b::rest) pos) (bh9 ta tb):=by
 intro pins s σ H Q I h
 refine BoolOp_or (thn (ha pins s σ H _ I h) fun v s1 ⟨x,H1,I1,r1,q1⟩=>?_)
 obtain⟨c,rfl,q1⟩:=q1
 cases r1
 refine wpAny_truthy_bool ?_
 cases c with
 | false=>exact hb pins s1 σ H1 Q I1 q1
 | true=>exact⟨.bl true,H1,I1,rfl,q1⟩
theorem aI6 (ha:PE X a ta):PE X (.UnaryOp .Not a pos) (bd0 ta):=by
 intro pins s σ H Q I h
 refine UnaryOp_ (thn (ha pins s σ H _ I h) fun v s1 ⟨x,H1,I1,r1,q1⟩=>?_)
 obtain⟨c,rfl,q1⟩:=q1
 cases r1
 exact not_of (wpAny_truthy_bool ⟨.bl (!c),H1,I1,rfl,q1⟩)
def tIf (t:TT)(ta tb:TE):TE:=fun σ H Q=>t σ H fun c H1=>if c=true then ta σ H1 Q else tb σ H1 Q
theorem aI7 {c:Expr}(hc:PT X c tA)(ha:PE X a ta)(hb:PE X b tb):PE X (.IfExp c a b pos) (tIf tA ta tb):=by
 intro pins s σ H Q I h
 refine wpAny_IfExp (thn (hc pins s σ H _ I h) fun d s1 ⟨H1,I1,q1⟩=>?_)
 cases d with
 | true=>exact ha pins s1 σ H1 Q I1 q1
 | false=>exact hb pins s1 σ H1 Q I1 q1
end
def SqL (K:W.Frag)(H:Hp)(a:Addr)(xs:List V):Prop:=
 Rd H a (.lst xs) \/
  ∃ (o:Obj) (its:Array Value) (n:Nat),K.lookup a=some o/\o.cls=.type "list"/\o.dict=none/\o.data=.seq its n/\its.size<=sizeLine/\o6 xs its.toList
def SqT (K:W.Frag)(H:Hp)(a:Addr)(xs:List V):Prop:=
 Rd H a (.tup xs) \/
  ∃ (o:Obj) (its:Array Value) (n:Nat),K.lookup a=some o/\o.cls=.type "tuple"/\o.data=.seq its n/\its.size<=sizeLine/\o6 xs its.toList
def bk5:Value->Option V
 | .none=>some .non
 | .bool b=>some (.bl b)
 | .int i _=>some (.int i)
 | .str x _=>some (.str x)
 | .bytes b _=>some (.byt b)
 | .float b _=>some (.flt b)
 | .ref a=>some (.ref a)
 | .type n=>some (.ty n)
 | _=>none
theorem RelV.abs {x:V}{u:Value}(r:RelV x u):bk5 u=some x:=by
 cases x with
 | non=>cases r;rfl
 | bl _=>cases r;rfl
 | int _=>obtain⟨t,rfl⟩:=r;rfl
 | str _=>obtain⟨t,rfl⟩:=r;rfl
 | byt _=>obtain⟨t,rfl⟩:=r;rfl
 | flt _=>obtain⟨t,rfl⟩:=r;rfl
 | ref _=>cases r;rfl
 | ty _=>cases r;rfl
theorem RelV.inj {x y:V}{u:Value}(r:RelV x u)(q:RelV y u):x=y:=Option.some.inj (r.abs.symm.trans q.abs)
theorem o6.inj:∀ {xs ys:List V} {us:List Value},o6 xs us->o6 ys us->xs=ys
 | _,_,_,.nil,.nil=>rfl
 | _,_,_,.cons r t,.cons r' t'=>by rw[r.inj r',o6.inj t t']
section
variable {X:Cx} {pins:List (Addr × Obj)} {σ:St} {H:Hp} {s:Shared} {a:Addr} {xs ys:List V}
theorem SqL.of {K:W.Frag}(h:H a=some (.lst xs)):SqL K H a xs:=.inl (.inl h)
theorem SqT.of {K:W.Frag}(h:H a=some (.tup xs)):SqT K H a xs:=.inl (.inl h)
theorem Inv.list (I:Inv X pins σ H s)(h:SqL X.K H a xs):∃ its:List Value,o6 xs its/\PlainL s.heap a its.toArray/\xs.length<=sizeLine:=by
 rcases h with h | ⟨o,its,n,hk,hc,hd,hs,hz,r⟩
 ·obtain⟨z,its,n,r,e⟩:=h.ok I.hok
  exact⟨its,r,⟨_,n,e,rfl,rfl,rfl⟩,z⟩
 ·refine⟨its.toList,r,⟨o,n,I.kIn a o hk,hc,hd,by simpa using hs⟩,?_⟩
  have e:=r.length
  simp only[d5]at e
  omega
theorem Inv.tuple (I:Inv X pins σ H s)(h:SqT X.K H a xs):∃ its:List Value,o6 xs its/\IsTup s.heap a its.toArray/\xs.length<=sizeLine:=by
 rcases h with h | ⟨o,its,n,hk,hc,hs,hz,r⟩
 ·obtain⟨z,its,r,p⟩:=h.ok I.hok
  exact⟨its,r,p,z⟩
 ·refine⟨its.toList,r,⟨o,I.kIn a o hk,hc,n,by simpa using hs⟩,?_⟩
  have e:=r.length
  simp only[d5]at e
  omega
theorem Inv.list_inj (I:Inv X pins σ H s)(h:SqL X.K H a xs)(h':SqL X.K H a ys):xs=ys:=by
 obtain⟨its,r,⟨o,n,e,_,_,d⟩,_⟩:=I.list h
 obtain⟨its',r',⟨o',n',e',_,_,d'⟩,_⟩:=I.list h'
 rw[e]at e';cases e'
 rw[d]at d'
 injection d' with d1 _
 have:its=its':=by simpa using congrArg Array.toList d1
 subst this
 exact r.inj r'
theorem Inv.tuple_inj (I:Inv X pins σ H s)(h:SqT X.K H a xs)(h':SqT X.K H a ys):xs=ys:=by
 obtain⟨its,r,⟨o,e,_,n,d⟩,_⟩:=I.tuple h
 obtain⟨its',r',⟨o',e',_,n',d'⟩,_⟩:=I.tuple h'
 rw[e]at e';cases e'
 rw[d]at d'
 injection d' with d1 _
 have:its=its':=by simpa using congrArg Array.toList d1
 subst this
 exact r.inj r'
end
abbrev Cx.wish (X:Cx)(E:Value->Shared->Prop):Cx:={ X with xe:=E }
abbrev Cx.nox (X:Cx):Cx:=X.wish fun _ _=>False
theorem Cx.Ok.wish {X:Cx}(ok:X.Ok)(E:Value->Shared->Prop):(X.wish E).Ok:=
 ⟨ok.mod,ok.kind,ok.glob,ok.blt,ok.above,ok.inj,ok.has,ok.cab,ok.hd,ok.frames,ok.stk,ok.exf,ok.bs,ok.bsz,ok.noex,ok.exfs,ok.funs,ok.frf⟩
theorem Cx.Ok.unwish {X:Cx}{E:Value->Shared->Prop}(ok:(X.wish E).Ok):X.Ok:=
 ⟨ok.mod,ok.kind,ok.glob,ok.blt,ok.above,ok.inj,ok.has,ok.cab,ok.hd,ok.frames,ok.stk,ok.exf,ok.bs,ok.bsz,ok.noex,ok.exfs,ok.funs,ok.frf⟩
section
variable {X:Cx} {pins:List (Addr × Obj)} {σ:St} {H:Hp} {s:Shared} {E:Value->Shared->Prop}
theorem Inv.wish (I:Inv X pins σ H s)(E:Value->Shared->Prop):Inv (X.wish E) pins σ H s:=⟨I.ok.wish E,I.os,I.bare,I.base,I.loc,I.cell,I.free,I.freeC,I.pin,I.hok,I.len⟩
theorem Inv.unwish (I:Inv (X.wish E) pins σ H s):Inv X pins σ H s:=⟨I.ok.unwish,I.os,I.bare,I.base,I.loc,I.cell,I.free,I.freeC,I.pin,I.hok,I.len⟩
theorem SP.unwish {D:Ends}{f:Flow}{s':Shared}(h:SP (X.wish E) pins D f s'):SP X pins D f s':=by
 cases f with
 | next=>obtain⟨σ',H',I,q⟩:=h;exact⟨σ',H',I.unwish,q⟩
 | brk=>obtain⟨σ',H',I,q⟩:=h;exact⟨σ',H',I.unwish,q⟩
 | cont=>obtain⟨σ',H',I,q⟩:=h;exact⟨σ',H',I.unwish,q⟩
 | ret u=>obtain⟨v,σ',H',I,r,q⟩:=h;exact⟨v,σ',H',I.unwish,r,q⟩
theorem PSs.nox {st:List Stmt}{t:TS}(h:PSs X.nox st t):PSs X st t:=fun pins s σ H D I hw =>
 wpAny_mono (h pins s σ H D (I.wish _) hw) (fun _ _ q=>q.unwish) fun _ _ z=>False.elim z
end
section
variable {X:Cx} {st:Stmt} {rest:List Stmt} {t u:TS} {e:Expr} {te:TE} {pos:Pos}
def bd1:TS:=fun D σ H=>D.nx σ H
def bh7 (t u:TS):TS:=fun D σ H=>t { D with nx:=u D } σ H
theorem l8:PSs X [] bd1:=fun _ _ σ H _ I h=>wpAny_execs_nil ⟨σ,H,I,h⟩
theorem c8 (h1:PS X st t)(h2:PSs X rest u):PSs X (st::rest) (bh7 t u):=by
 intro pins s σ H D I h
 refine wpAny_execs_cons (thn (h1 pins s σ H { D with nx:=u D } I h) fun f s1 q=>?_)
 cases f with
 | next =>
  obtain⟨σ',H',I',q⟩:=q
  exact h2 pins s1 σ' H' D I' q
 | ret v=>exact q
 | brk=>exact q
 | cont=>exact q
theorem d4 (h1:PS X st t):PSs X [st] t:=by
 intro pins s σ H D I h
 refine wpAny_execs_cons (thn (h1 pins s σ H D I h) fun f s1 q=>?_)
 cases f with
 | next=>exact wpAny_execs_nil q
 | ret v=>exact q
 | brk=>exact q
 | cont=>exact q
theorem Inv.quiet {pins:List (Addr × Obj)}{σ:St}{H:Hp}{s:Shared}(I:Inv X pins σ H s):interactive X.env=false:=by simp[interactive,I.ok.kind]
def bd3 (te:TE):TS:=fun D σ H=>te σ H fun _ H1=>D.nx σ H1
theorem S1 (he:PE X e te)(hs:swapsWith e none pos.line X.env=pure false:=by rfl):PS X (.Expr e pos) (bd3 te):=by
 intro pins s σ H D I h
 exact wpAny_Expr_any (thn (he pins s σ H _ I h) fun v s1 ⟨x,H1,I1,r1,q1⟩=>⟨σ,H1,I1,q1⟩) I.quiet hs
def bh8 (te:TE):TS:=fun D σ H=>te σ H D.rt
theorem o4 (he:PE X e te):PS X (.Return (some e) pos) (bh8 te):=by
 intro pins s σ H D I h
 exact wpAny_Return_some (thn (he pins s σ H _ I h) fun v s1 ⟨x,H1,I1,r1,q1⟩=>⟨x,σ,H1,I1,r1,q1⟩)
def bi3 (c:TT)(t u:TS):TS:=fun D σ H=>c σ H fun b H1=>if b=true then t D σ H1 else u D σ H1
theorem u7 {c:Expr}{a b:List Stmt}{tc:TT}(hc:PT X c tc)(ha:PSs X a t)(hb:PSs X b u):PS X (.If c a b pos) (bi3 tc t u):=by
 intro pins s σ H D I h
 refine wpAny_If (thn (hc pins s σ H _ I h) fun d s1 ⟨H1,I1,q1⟩=>?_)
 cases d with
 | true=>exact ha pins s1 σ H1 D I1 q1
 | false=>exact hb pins s1 σ H1 D I1 q1
def aV8:TS:=fun _ _ _=>False
theorem E5 {sts:List Stmt}:PSs X sts aV8:=fun _ _ _ _ _ _ h=>h.elim
end
abbrev TG:=V->St->Hp->(St->Hp->Prop)->Prop
abbrev TGs:=List V->St->Hp->(St->Hp->Prop)->Prop
def PG (X:Cx)(target:Expr)(t:TG):Prop:=
 ∀ (pins:List (Addr × Obj)) (s:Shared) (σ:St) (H:Hp) (v:V) (u:Value) (Q:St->Hp->Prop),Inv X pins σ H s->RelV v u->t v σ H Q ->
  wpAny (model X.prog X.w) X.A (assign target X.env u) (fun _ s'=>∃ σ' H',Inv X pins σ' H' s'/\Q σ' H') X.xe s
def PGs (X:Cx)(ts:List Expr)(t:TGs):Prop:=
 ∀ (pins:List (Addr × Obj)) (s:Shared) (σ:St) (H:Hp) (vs:List V) (us:List Value) (Q:St->Hp->Prop),Inv X pins σ H s->o6 vs us->t vs σ H Q ->
  wpAny (model X.prog X.w) X.A (assignInOrder ((assignEach ts X.env).map (·.2)) us) (fun _ s'=>∃ σ' H',Inv X pins σ' H' s'/\Q σ' H') X.xe s
abbrev ba7:=V->V->V->Hp->(Hp->Prop)->Prop
def bh2 (X:Cx)(t:ba7):Prop:=
 ∀ (pins:List (Addr × Obj)) (s:Shared) (σ:St) (H:Hp) (o i v:V) (ov iv u:Value) (Q:Hp->Prop),Inv X pins σ H s->RelV o ov->RelV i iv->RelV v u->t o i v H Q ->
  wpAny (model X.prog X.w) X.A (setItem ov iv u) (fun _ s'=>∃ H',Inv X pins σ H' s'/\Q H') X.xe s
section
variable {X:Cx} {pos:Pos}
def ar5 (i:Nat):TG:=fun v σ H Q=>Q (σ.set i (some v)) H
theorem A3 {i:Nat}{x:Str}(hN:X.N.Nodup)(hi:X.N[i]?=some x)(hx:Loc X.env.scope x)(hf:X.fn x=true\/X.env.scope.names.lookup x=some .local:=by first | exact .inl rfl | exact .inr rfl | assumption):PG X (.Name x pos) (ar5 i):=by
 intro pins s σ H v u Q I r h
 exact wpAny_assign_Name (ad8 I hN hi hx r (fun s' I'=>⟨_,H,I',h⟩) hf)
def bk1:TGs:=fun vs σ H Q=>vs=[]/\Q σ H
def bg7 (t:TG)(u:TGs):TGs:=fun vs σ H Q=>∃ v r,vs=v::r/\t v σ H fun σ' H'=>u r σ' H' Q
theorem ay9:PGs X [] bk1:=by
 intro pins s σ H vs us Q I r h
 obtain⟨e,h⟩:=h
 subst e
 cases r
 exact assignInOrder_nil ⟨σ,H,I,h⟩
theorem W4 {e:Expr}{es:List Expr}{t:TG}{u:TGs}(h1:PG X e t)(h2:PGs X es u)
  (hs:(assignEach (e::es) X.env).map (·.2)=assign e X.env::(assignEach es X.env).map (·.2):=by rfl):PGs X (e::es) (bg7 t u):=by
 intro pins s σ H vs us Q I r h
 obtain⟨v,vr,e1,h⟩:=h
 subst e1
 cases r with
 | cons r rr =>
  rw[hs]
  refine assignInOrder_cons (thn (h1 pins s σ H _ _ _ I r h) fun _ s1 ⟨σ1,H1,I1,q1⟩=>?_)
  exact h2 pins s1 σ1 H1 _ _ Q I1 rr q1
def bg6 (K:W.Frag)(n:Nat)(t:TGs):TG:=fun v σ H Q=>∃ a xs,v=.ref a/\SqT K H a xs/\xs.length=n/\t xs σ H Q
theorem aI4 {es:List Expr}{k:Nat}{t:TGs}{n:Nat}(hc:X.calm=true)(h:PGs X es t)
  (hn:(assignEach es X.env).length=n:=by rfl)(hst:(assignEach es X.env).findIdx? (·.1)=none:=by rfl):PG X (.Tuple es k pos) (bg6 X.K n t):=by
 intro pins s σ H v u Q I r hw
 obtain⟨a,xs,e1,hq,hl,hw⟩:=hw
 subst e1
 cases r
 obtain⟨its,rv,ht,hz⟩:=I.tuple hq
 refine assign_Tuple_tuple (I.ok.hd hc) ht (by simp[hn,<- hl,rv.length]) hst fun h' hx=>?_
 have I1:Inv X pins σ H { s with heap:=h' }:=I.kept (t':=s.toks) fun b o e=>hx b o (f9 (c3 e)) e
 exact h pins _ σ H xs _ Q I1 (by simpa using rv) hw
def bk0 (to ti:TE)(t:ba7):TG:=fun v σ H Q=>to σ H fun o H1=>ti σ H1 fun i H2=>t o i v H2 fun H3=>Q σ H3
theorem aI5 {o i:Expr} {to ti:TE} {t:ba7} (ho:PE X o to) (hi:PE X i ti) (hs:bh2 X t)
  (ha : ∀ v, assign (.Subscript o i pos) X.env v = (do
   let ov <- holding [v] (eval o X.env)
   let iv <- holding [v,ov] (eval i X.env)
   standAt pos
   holding [v,ov,iv] (setItem ov iv v)
   release [v,ov,iv] []):=by intro _;rfl):PG X (.Subscript o i pos) (bk0 to ti t):=by
 intro pins s σ H v u Q I r h
 rw[ha]
 refine wpAny_bind (wpAny_holding (thn (ho pins s σ H _ I h) fun ov s1 ⟨x,H1,I1,r1,q1⟩=>?_))
 refine wpAny_bind (wpAny_holding (thn (hi pins s1 σ H1 _ I1 q1) fun iv s2 ⟨y,H2,I2,r2,q2⟩=>?_))
 refine wpAny_bind (wpAny_standAt (wpAny_bind (wpAny_holding (thn (hs pins s2 σ H2 x y v ov iv u _ I2 r1 r2 r q2) fun _ s3 ⟨H3,I3,q3⟩=>?_))))
 exact wpAny_release ⟨σ,H3,I3,q3⟩
def bd6 (te:TE)(g:TG):TS:=fun D σ H=>te σ H fun x H1=>g x σ H1 D.nx
theorem aI2 {tg e:Expr}{te:TE}{g:TG}(he:PE X e te)(hg:PG X tg g)(hs:swapsWithSole [tg] e pos.line X.env=pure false:=by rfl)(hw:swappedStores [tg] e X.env=pure none:=by rfl)
  (h1:(assignEach [tg] X.env).map (·.2)=[assign tg X.env]:=by rfl):PS X (.Assign [tg] e pos) (bd6 te g):=by
 intro pins s σ H D I h
 refine wpAny_Assign_stores (thn (he pins s σ H _ I h) fun v s1 ⟨x,H1,I1,r1,q1⟩=>?_) hs hw
 rw[h1]
 exact thn (hg pins s1 σ H1 x v _ I1 r1 q1) fun _ s2 q=>q
theorem m6 {i:Nat}{x:Str}{e:Expr}{te:TE}{pos':Pos}(hN:X.N.Nodup)(hi:X.N[i]?=some x)(hx:Loc X.env.scope x)(he:PE X e te)(hs:swapsWith e (some (.Name x pos')) pos.line X.env=pure false:=by rfl)(hf:X.fn x=true\/X.env.scope.names.lookup x=some .local:=by first | exact .inl rfl | exact .inr rfl | assumption) :
  PS X (.Assign [.Name x pos'] e pos) (bd6 te (ar5 i)):=by
 intro pins s σ H D I h
 refine wpAny_Assign_Name (thn (he pins s σ H _ I h) fun v s1 ⟨y,H1,I1,r1,q1⟩=>?_) hs
 exact ad8 I1 hN hi hx r1 (fun s2 I2=>⟨_,H1,I2,q1⟩) hf
end
section
variable {X:Cx} {pos:Pos}
end
structure It where
 go:Nat->Hp->Prop
 yld:Nat->Hp->V->Hp->Prop
 stop:Nat->Hp->Prop
def P1 (X:Cx)(pins:List (Addr × Obj))(H:Hp)(b:Addr):Prop:=
 H b=none/\b≠X.env.locals/\b∉X.fs/\(b∈X.ex\/X.s₀.heap.objs.size<=b)/\(∀ x c,X.env.cells.lookup x=some c->c≠b)/\∀ p∈X.pn++pins,p.1≠b
theorem Inv.fpOk {X:Cx}{pins:List (Addr × Obj)}{σ:St}{H H':Hp}{s:Shared}{b:Addr}(I:Inv X pins σ H s)(hb:s.heap.objs.size<=b)(hn:H' b=none):P1 X pins H' b:=by
 refine⟨hn,Y2 (j6 I.lt hb),I.nofs hb,.inr (o7 I.sz hb),fun x c e z=>?_,fun p hp z=>?_⟩
 ·obtain⟨v,q⟩:=I.cell x c e
  exact absurd (j6 q.lt (by rw[z];exact hb)) (p6 _)
 ·exact absurd (j6 (c3 (I.pin p hp).1) (by rw[z];exact hb)) (p6 _)
structure Turn (P:Program) (w:World) (K:W.Frag) (tg:Expr) (J:It) (fp:List Addr) (it:Addr) (tn:Nat->Heap->Prop):Prop where
 mem:it∈fp
 obj:∀ i h,tn i h->∀ b∈fp,∃ o,h.get? b=some o/\∀ v,o.data≠.cell v
 keep:∀ i h h',tn i h->(∀ b∈fp,∀ o,h.get? b=some o->h'.get? b=some o)->tn i h'
 item:∀ (X:Cx),X.prog=P->X.w=w->X.K=K->X.calm=true->∀ (i:Nat) (pins:List (Addr × Obj)) (s:Shared) (σ:St) (H:Hp) (E:Value->Shared->Prop),Inv X pins σ H s->(∀ b∈fp,P1 X pins H b)->tn i s.heap->J.go i H ->
  wpAny (model P w) X.A (pyNext (.ref it)) (fun r s1=>∃ u,r=some u /\
   wpAny (model P w) X.A (letOwnedTupleGo tg (.ref it) u) (fun _ s2=>∃ x H',Inv X pins σ H' s2/\RelV x u/\J.yld i H x H'/\tn (i+1) s2.heap/\∀ b∈fp,H' b=none) E s1) E s
 done:∀ (X:Cx),X.prog=P->X.w=w->X.K=K->X.calm=true->∀ (i:Nat) (pins:List (Addr × Obj)) (s:Shared) (σ:St) (H:Hp) (E:Value->Shared->Prop),Inv X pins σ H s->(∀ b∈fp,P1 X pins H b)->tn i s.heap->J.stop i H ->
  wpAny (model P w) X.A (pyNext (.ref it)) (fun r s1=>r=none/\Inv X pins σ H s1) E s
 self:∀ (A:Around) (i:Nat) (s:Shared) (Q:Value->Shared->Prop) (E:Value->Shared->Prop),tn i s.heap->Q (.ref it) s->wpAny (model P w) A (pyIter (.ref it)) Q E s
abbrev TI:=St->Hp->(It->Hp->Prop)->Prop
def PIE (X:Cx)(pins:List (Addr × Obj))(σ:St)(tg:Expr)(R:It->Hp->Prop)(itv:Value)(s2:Shared):Prop:=
 ∃ (it:Addr) (fp:List Addr) (tn:Nat->Heap->Prop) (J:It) (H':Hp),itv=.ref it/\Inv X pins σ H' s2/\Turn X.prog X.w X.K tg J fp it tn/\tn 0 s2.heap/\(∀ b∈fp,P1 X pins H' b)/\R J H'
def PI (X:Cx)(tg iter:Expr)(wi:TI):Prop:=
 ∀ (pins:List (Addr × Obj)) (s:Shared) (σ:St) (H:Hp) (R:It->Hp->Prop),Inv X pins σ H s->wi σ H R ->
  wpAny (model X.prog X.w) X.A (eval iter X.env) (fun v s1=>wpAny (model X.prog X.w) X.A (pyIter v) (PIE X pins σ tg R) X.xe s1) X.xe s
theorem ar3 {M:Model} {A:Around} {E:Value->Shared->Prop} {s:Shared} {tg:Expr} {it:Addr} {u:Value} {o:Obj} {n:String} {vs:Array Value} {Q:Unit->Shared->Prop} (ho:s.heap.get? it=some o) (hc:o.cls=.type n) (hd:o.data=.fields vs)
    (hn:["enumerate","zip","dict_itemiterator","dict_reverseitemiterator","odict_iterator","itertools.zip_longest","itertools.pairwise"].contains n=false) (hQ:Q () s):wpAny M A (letOwnedTupleGo tg (.ref it) u) Q E s:=by
  unfold letOwnedTupleGo
  cases tg<;>first
    | exact wpAny_pure hQ
    | (cases u<;>first
        | exact wpAny_pure hQ
        | (refine wpAny_bind (wpAny_load ho ?_)
           rw[hc,hd]
           show wpAny M A (if (["enumerate","zip","dict_itemiterator","dict_reverseitemiterator","odict_iterator","itertools.zip_longest","itertools.pairwise"].contains n && vs[0]? == some (rawInt _))=true then _ else _) Q E s
           rw[if_neg (by intro h;rw[hn,p9]at h;cases h)]
           exact wpAny_pure hQ))
def Itl (K:W.Frag)(a:Addr):It:=
 ⟨fun i H=>∃ xs x,SqL K H a xs/\xs[i]?=some x,fun i H x H'=>H'=H/\∀ xs,SqL K H a xs->xs[i]?=some x,fun i H=>∃ xs,SqL K H a xs/\xs.length<=i⟩
def Itt (K:W.Frag)(a:Addr):It:=
 ⟨fun i H=>∃ xs x,SqT K H a xs/\xs[i]?=some x,fun i H x H'=>H'=H/\∀ xs,SqT K H a xs->xs[i]?=some x,fun i H=>∃ xs,SqT K H a xs/\xs.length<=i⟩
def Itr (lo:Int)(n:Nat):It:=⟨fun i _=>i<n,fun i H x H'=>H'=H/\x=.int (lo+i),fun i _=>n<=i⟩
theorem aB4 {P:Program}{w:World}{K:W.Frag}{tg:Expr}(a it:Addr):Turn P w K tg (Itl K a) [it] it (fun i h=>h.IsListIter it a i) where
 mem:=by simp
 obj:=fun i h st b hb=>by
  have e:b=it:=by simpa using hb
  subst e
  obtain⟨o,e,c,d⟩:=st
  exact⟨o,e,fun v z=>by rw[d]at z;cases z⟩
 keep:=fun i h h' st k=>st.at fun o e=>k it (by simp) o e
 item:=by
  intro X hP hw hK hc i pins s σ H E I hf st hg
  subst hP hw hK
  obtain⟨xs,x,hq,hx⟩:=hg
  obtain⟨its,rv,p,hz⟩:=I.list hq
  obtain⟨u,hu,ru⟩:=rv.get hx
  obtain⟨f0,f1,f2,f3,f4,f5⟩:=hf it (by simp)
  refine wpAny_pyNext_list_item st p.isList (x:=u) (by simpa using hu) fun h' st' sb=>?_
  have I1:Inv X pins σ H { s with heap:=h' }:=I.turned (t':=s.toks) (fun b o hb e=>(sb.2 b hb).trans e) f0 f1 f3 f4 f5
  obtain⟨o,e,c,d⟩:=id st'
  exact⟨u,rfl,ar3 (s:={ s with heap:=h' }) e c d (by decide) ⟨x,H,I1,ru,⟨rfl,fun ys hy=>by rw[I.list_inj hy hq];exact hx⟩,st',fun b hb=>(hf b hb).1⟩⟩
 done:=by
  intro X hP hw hK hc i pins s σ H E I hf st hg
  subst hP hw hK
  obtain⟨xs,hq,hx⟩:=hg
  obtain⟨its,rv,p,hz⟩:=I.list hq
  obtain⟨f0,f1,f2,f3,f4,f5⟩:=hf it (by simp)
  have hl:=rv.length
  exact wpAny_pyNext_list_end (I.ok.hd hc) st p.isList (by simp;omega) fun h' eb=>⟨rfl,I.turned (t':=s.toks) (fun b o hb e=>eb b o hb e) f0 f1 f3 f4 f5⟩
 self:=fun _ _ _ _ _ st h=>wpAny_pyIter_listiter st h
theorem au0 {P:Program}{w:World}{K:W.Frag}{tg:Expr}(a it:Addr):Turn P w K tg (Itt K a) [it] it (fun i h=>h.IsTupleIter it a i) where
 mem:=by simp
 obj:=fun i h st b hb=>by
  have e:b=it:=by simpa using hb
  subst e
  obtain⟨o,e,c,d⟩:=st
  exact⟨o,e,fun v z=>by rw[d]at z;cases z⟩
 keep:=fun i h h' st k=>st.at fun o e=>k it (by simp) o e
 item:=by
  intro X hP hw hK hc i pins s σ H E I hf st hg
  subst hP hw hK
  obtain⟨xs,x,hq,hx⟩:=hg
  obtain⟨its,rv,p,hz⟩:=I.tuple hq
  obtain⟨u,hu,ru⟩:=rv.get hx
  obtain⟨f0,f1,f2,f3,f4,f5⟩:=hf it (by simp)
  refine wpAny_pyNext_tuple_item st (show s.heap.IsTuple a its.toArray from p) (x:=u) (by simpa using hu) fun h' st' sb=>?_
  have I1:Inv X pins σ H { s with heap:=h' }:=I.turned (t':=s.toks) (fun b o hb e=>(sb.2 b hb).trans e) f0 f1 f3 f4 f5
  obtain⟨o,e,c,d⟩:=id st'
  exact⟨u,rfl,ar3 (s:={ s with heap:=h' }) e c d (by decide) ⟨x,H,I1,ru,⟨rfl,fun ys hy=>by rw[I.tuple_inj hy hq];exact hx⟩,st',fun b hb=>(hf b hb).1⟩⟩
 done:=by
  intro X hP hw hK hc i pins s σ H E I hf st hg
  subst hP hw hK
  obtain⟨xs,hq,hx⟩:=hg
  obtain⟨its,rv,p,hz⟩:=I.tuple hq
  obtain⟨f0,f1,f2,f3,f4,f5⟩:=hf it (by simp)
  have hl:=rv.length
  exact wpAny_pyNext_tuple_end (I.ok.hd hc) st (show s.heap.IsTuple a its.toArray from p) (by simp;omega) fun h' eb=>⟨rfl,I.turned (t':=s.toks) (fun b o hb e=>eb b o hb e) f0 f1 f3 f4 f5⟩
 self:=fun _ _ _ _ _ st h=>wpAny_pyIter_tupleiter st h
theorem au1 {P:Program}{w:World}{K:W.Frag}{tg:Expr}(it:Addr)(lo:Int)(n:Nat):Turn P w K tg (Itr lo n) [it] it (fun i h=>IsRangeIter h it (lo+(i:Nat)*1) ((n:Int) - (i:Nat)) 1) where
 mem:=by simp
 obj:=fun i h st b hb=>by
  have e:b=it:=by simpa using hb
  subst e
  exact⟨_,st,fun v z=>by
   have z':Data.fields _=Data.cell v:=z
   cases z'⟩
 keep:=fun i h h' st k=>k it (by simp) _ st
 item:=by
  intro X hP hw hK hc i pins s σ H E I hf st hg
  subst hP hw hK
  obtain⟨f0,f1,f2,f3,f4,f5⟩:=hf it (by simp)
  have W:=Walks.range (prog:=X.prog) (w:=X.w) (I.ok.hd hc) it lo 1 n
  refine W.item i s _ _ hg st fun v h' tk hv st' kk=>?_
  obtain⟨t,rfl⟩:=hv
  have I1:Inv X pins σ H { s with heap:=h',toks:=tk }:=I.turned (fun b o hb e=>kk b o (by simpa using hb) e) f0 f1 f3 f4 f5
  refine⟨_,rfl,ar3 (s:={ s with heap:=h',toks:=tk }) (n:="range_iterator") st' rfl rfl (by decide) ⟨.int (lo+i),H,I1,⟨t,?_⟩,⟨rfl,rfl⟩,st',fun b hb=>(hf b hb).1⟩⟩
  rw[Int.mul_one]
 done:=by
  intro X hP hw hK hc i pins s σ H E I hf st hg
  subst hP hw hK
  obtain⟨f0,f1,f2,f3,f4,f5⟩:=hf it (by simp)
  exact wpAny_pyNext_range_end (I.ok.hd hc) st (by have:n<=i:=hg;omega) fun h' eb=>⟨rfl,I.turned (t':=s.toks) (fun b o hb e=>eb b o hb e) f0 f1 f3 f4 f5⟩
 self:=fun _ _ _ _ _ st h=>wpAny_pyIter_rangeiter st h
section
variable {X:Cx} {tg:Expr}
def bg5 (K:W.Frag)(tl:TE):TI:=fun σ H R=>tl σ H fun x H1=>∃ a,x=.ref a/\(∃ xs,SqL K H1 a xs)/\R (Itl K a) H1
def bj8 (K:W.Frag)(tl:TE):TI:=fun σ H R=>tl σ H fun x H1=>∃ a,x=.ref a/\(∃ xs,SqT K H1 a xs)/\R (Itt K a) H1
theorem S2 {l:Expr}{tl:TE}(hl:PE X l tl):PI X tg l (bg5 X.K tl):=by
 intro pins s σ H R I h
 refine thn (hl pins s σ H _ I h) fun v s1 ⟨x,H1,I1,r1,q1⟩=>?_
 obtain⟨a,e,⟨xs,hq⟩,q⟩:=q1
 subst e
 cases r1
 obtain⟨its,rv,p,hz⟩:=I1.list hq
 refine wpAny_pyIter_list p.isList ?_
 refine⟨s1.heap.objs.size,[s1.heap.objs.size],_,_,H1,rfl,I1.kept (t':=s1.toks) fun b o e=>a5 _ e,aB4 a _,⟨_,j3 _ rfl,rfl,rfl⟩,fun b hb=>?_,q⟩
 have e:b=s1.heap.objs.size:=by simpa using hb
 subst e
 exact I1.fpOk (b4 _) (I1.hok.fresh (b4 _))
theorem av0 {l:Expr}{tl:TE}(hl:PE X l tl):PI X tg l (bj8 X.K tl):=by
 intro pins s σ H R I h
 refine thn (hl pins s σ H _ I h) fun v s1 ⟨x,H1,I1,r1,q1⟩=>?_
 obtain⟨a,e,⟨xs,hq⟩,q⟩:=q1
 subst e
 cases r1
 obtain⟨its,rv,p,hz⟩:=I1.tuple hq
 refine wpAny_pyIter_tuple (show s1.heap.IsTuple a its.toArray from p) ?_
 refine⟨s1.heap.objs.size,[s1.heap.objs.size],_,_,H1,rfl,I1.kept (t':=s1.toks) fun b o e=>a5 _ e,au0 a _,⟨_,j3 _ rfl,rfl,rfl⟩,fun b hb=>?_,q⟩
 have e:b=s1.heap.objs.size:=by simpa using hb
 subst e
 exact I1.fpOk (b4 _) (I1.hok.fresh (b4 _))
theorem ap8 {pins:List (Addr × Obj)}{σ:St}{H:Hp}{s:Shared}{R:It->Hp->Prop}{E:Value->Shared->Prop}{lo hi:Int}{t u v:Tok}{tk:Nat}(I:Inv X pins σ H s)(h1:-(2 ^ 62)<=lo)(h2:lo<2 ^ 62)(h3:-(2 ^ 62)<=hi)(h4:hi<2 ^ 62)
  (q:R (Itr lo (hi - lo).toNat) H):wpAny (model X.prog X.w) X.A (pyIter (.ref s.heap.objs.size)) (PIE X pins σ tg R) E { s with heap:=s.heap.push { cls:=.type "range",data:=.fields #[.int lo t,.int hi u,.int 1 v] },toks:=tk }:=by
 refine wpAny_pyIter_range (IsRange.new ..) (small_one h1 h2 h3 h4) ?_
 have I1:Inv X pins σ H { s with heap:=s.heap.push { cls:=.type "range",data:=.fields #[.int lo t,.int hi u,.int 1 v] },toks:=tk }:=I.kept fun b o e=>a5 _ e
 refine⟨(s.heap.push { cls:=.type "range",data:=.fields #[.int lo t,.int hi u,.int 1 v] }).objs.size,[(s.heap.push { cls:=.type "range",data:=.fields #[.int lo t,.int hi u,.int 1 v] }).objs.size],_,_,H,rfl,
  I1.kept (t':=tk) fun b o e=>a5 _ e,au1 _ lo (hi - lo).toNat,?_,fun b hb=>?_,q⟩
 ·have e1:lo+((0:Nat):Int)*1=lo:=by simp
  have e2:(((hi - lo).toNat:Nat):Int) - ((0:Nat):Int)=Builtin.Range.rangeSize lo hi 1:=by rw[rangeSize_one];split<;>omega
  show IsRangeIter _ _ (lo+((0:Nat):Int)*1) ((((hi - lo).toNat:Nat):Int) - ((0:Nat):Int)) 1
  rw[e1,e2]
  exact j3 _ rfl
 ·have e:b=(s.heap.push { cls:=.type "range",data:=.fields #[.int lo t,.int hi u,.int 1 v] }).objs.size:=by simpa using hb
  subst e
  exact I1.fpOk (b4 _) (I1.hok.fresh (b4 _))
def bg4 (ta:TA):TI:=fun σ H R=>ta σ H fun vs H1=>∃ j:Int,vs=[.int j] /\ -(2 ^ 62)<=j/\j<2 ^ 62/\R (Itr 0 j.toNat) H1
def bg3 (ta:TA):TI:=fun σ H R=>ta σ H fun vs H1=>∃ i j:Int,vs=[.int i,.int j]/\(-(2 ^ 62)<=i/\i<2 ^ 62 /\ -(2 ^ 62)<=j/\j<2 ^ 62)/\R (Itr i (j - i).toNat) H1
theorem K5 {a:Expr}{ta:TA}{p pos:Pos}(hg:Gl X "range")(hm:X.mg "range"=none)(ha:PA X [a] ta)(hs:starEach [a] X.env=[(false,eval a X.env)]:=by rfl):PI X tg (.Call (.Name "range" p) [a] [] pos) (bg4 ta):=by
 intro pins s σ H R I h
 refine Call_ (Z0 I hg hm boot_range (PyProof.Rows.callWith_type1 (thn (ha pos pins s σ H _ I h) fun us s1 ⟨vs,H1,I1,r1,q1⟩=>?_) hs rfl))
 obtain⟨j,e,q1,q2,q⟩:=q1
 subst e
 cases r1 with
 | cons r rr =>
  cases rr
  obtain⟨t,rfl⟩:=r
  exact call_range_1 (ap8 I1 (by omega) (by omega) q1 q2 (by simpa using q))
theorem aC3 {a b:Expr}{ta:TA}{p pos:Pos}(hg:Gl X "range")(hm:X.mg "range"=none)(ha:PA X [a,b] ta)(hs:starEach [a,b] X.env=[(false,eval a X.env),(false,eval b X.env)]:=by rfl)(hs2:starEach [b] X.env=[(false,eval b X.env)]:=by rfl) :
  PI X tg (.Call (.Name "range" p) [a,b] [] pos) (bg3 ta):=by
 intro pins s σ H R I h
 refine Call_ (Z0 I hg hm boot_range (PyProof.Rows.callWith_type1 (thn (ha pos pins s σ H _ I h) fun us s1 ⟨vs,H1,I1,r1,q1⟩=>?_) (by rw[hs,hs2]) (by rw[hs2];rfl)))
 obtain⟨i,j,e,⟨q1,q2,q3,q4⟩,q⟩:=q1
 subst e
 cases r1 with
 | cons r rr =>
  cases rr with
  | cons r' rr =>
   cases rr
   obtain⟨t,rfl⟩:=r
   obtain⟨t',rfl⟩:=r'
   exact call_range_2 (ap8 I1 q1 q2 q3 q4 q)
def bi4 (wi:TI)(g:TG)(tb:TS):TS:=fun D σ H=>wi σ H fun J H1=>∃ W:Nat->Nat->St->Hp->Prop,(∃ m,W 0 m σ H1)/\∀ i m σ H,W i m σ H ->
 (J.stop i H/\D.nx σ H)\/(J.go i H/\∃ N:St->Hp->Prop,(∀ σ' H',N σ' H'->∃ m',m'<m/\W (i+1) m' σ' H')/\∀ x H',J.yld i H x H'->g x σ H' fun σ2 H2=>tb { D with nx:=N,ct:=N,bk:=D.nx } σ2 H2)
def U7 (fp:List Addr)(h:Heap):List (Addr × Obj):=fp.filterMap fun b=>(h.get? b).map fun o=>(b,o)
theorem E2 {fp:List Addr}{h:Heap}{b:Addr}{o:Obj}(hb:b∈fp)(e:h.get? b=some o):(b,o)∈U7 fp h:=J1.mpr ⟨b,hb,by rw[e];rfl⟩
theorem aC8 {fp:List Addr}{h:Heap}{p:Addr × Obj}(hp:p∈U7 fp h):p.1∈fp/\h.get? p.1=some p.2:=by
 obtain⟨b,hb,e⟩:=J1.mp hp
 cases q:h.get? b with
 | none=>rw[q]at e;cases e
 | some o =>
  rw[q]at e
  have e':(b,o)=p:=Option.some.inj e
  subst e'
  exact⟨hb,q⟩
theorem Inv.pinned {pins:List (Addr × Obj)}{σ:St}{H:Hp}{s:Shared}{fp:List Addr}(I:Inv X pins σ H s)(hf:∀ b∈fp,P1 X pins H b)(ho:∀ b∈fp,∃ o,s.heap.get? b=some o/\∀ v,o.data≠.cell v):Inv X (pins++U7 fp s.heap) σ H s:=
 I.pins_of fun p hp=>(l6.mp hp).elim (fun z=>I.pin p (c7 _ z)) fun z=>by
  obtain⟨hb,e⟩:=aC8 z
  obtain⟨f0,f1,f2,_⟩:=hf p.1 hb
  obtain⟨o,e',d⟩:=ho p.1 hb
  rw[e]at e';cases e'
  exact⟨e,f0,f1,f2,d⟩
theorem Inv.unpinned {pins pl:List (Addr × Obj)}{σ:St}{H:Hp}{s:Shared}(I:Inv X (pins++pl) σ H s):Inv X pins σ H s:=I.pins_of fun p hp=>I.pin p (c7 _ (v9 _ hp))
theorem M4 {iter:Expr}{body:List Stmt}{wi:TI}{g:TG}{tb:TS}{pos:Pos}(hp:PassesOwn (model X.prog X.w) X.A X.env X.xe)(hc:X.calm=true)(hi:PI X tg iter wi)(hg:PG X tg g)(hb:PSs X body tb)
  (hs:∀ x,foldedSetIterable iter X.env x=pure x:=by intro _;rfl):PS X (.For tg iter body [] pos) (bi4 wi g tb):=by
 intro pins s σ H D I h
 refine wpAny_For (thn (hi pins s σ H _ I h) fun v s1 h1=>thn h1 fun itv s2 h2=>?_) hs
 obtain⟨it,fp,tn,J,H2,e,I2,T,st2,f2,W,⟨m0,w0⟩,turn⟩:=h2
 subst e
 have stat:∀ {H':Hp},(∀ b∈fp,H' b=none)->∀ b∈fp,P1 X pins H' b:=fun hn b hb=>⟨hn b hb,(f2 b hb).2⟩
 refine codeAny_forLoop_any (fun n s'=>∃ i σ' H',Inv X pins σ' H' s'/\tn i s'.heap/\(∀ b∈fp,H' b=none)/\W i n σ' H') ?_ m0 ⟨0,σ,H2,I2,st2,fun b hb=>(f2 b hb).1,w0⟩
 rintro n s3 ⟨i,σ3,H3,I3,st3,fr3,w3⟩
 rcases turn i n σ3 H3 w3 with⟨stop,qn⟩ | ⟨go,N,hN,step⟩
 ·refine wpAny_passesOwn hp (thn (T.done X rfl rfl rfl hc i pins s3 σ3 H3 X.xe I3 (stat fr3) st3 stop) fun r s4 ⟨hr,I4⟩=>?_)
  subst hr
  exact wpAny_execs_nil ⟨σ3,H3,I4,qn⟩
 ·refine wpAny_passesOwn hp (thn (T.item X rfl rfl rfl hc i pins s3 σ3 H3 X.xe I3 (stat fr3) st3 go) fun r s4 ⟨u,hr,h4⟩=>?_)
  subst hr
  refine wpAny_passesOwn hp (thn h4 fun _ s5 ⟨x,H5,I5,r5,y5,st5,fr5⟩=>?_)
  have I5':=I5.pinned (stat fr5) (T.obj _ _ st5)
  refine wpAny_passesOwn hp (thn (hg _ s5 σ3 H5 x u _ I5' r5 (step x H5 y5)) fun _ s6 ⟨σ6,H6,I6,q6⟩=>?_)
  refine wpAny_passesOwn hp (thn (hb _ s6 σ6 H6 _ I6 q6) fun f s7 q7=>?_)
  have again:∀ {σ7:St} {H7:Hp},Inv X (pins++U7 fp s5.heap) σ7 H7 s7->N σ7 H7->∃ m,m<n/\∃ i σ' H',Inv X pins σ' H' s7/\tn i s7.heap/\(∀ b∈fp,H' b=none)/\W i m σ' H':=fun {σ7 H7} I7 n7=>by
   obtain⟨m',hm,w7⟩:=hN σ7 H7 n7
   refine⟨m',hm,i+1,σ7,H7,I7.unpinned,T.keep _ _ _ st5 fun b hb o e=>(I7.pin (b,o) (c7 _ (c7 _ (E2 hb e)))).1,fun b hb=>?_,w7⟩
   obtain⟨o,e,d⟩:=T.obj _ _ st5 b hb
   exact(I7.pin (b,o) (c7 _ (c7 _ (E2 hb e)))).2.1
  cases f with
  | next=>obtain⟨σ7,H7,I7,n7⟩:=q7;exact again I7 n7
  | cont=>obtain⟨σ7,H7,I7,n7⟩:=q7;exact again I7 n7
  | brk=>obtain⟨σ7,H7,I7,q7⟩:=q7;exact⟨σ7,H7,I7.unpinned,q7⟩
  | ret v=>obtain⟨x7,σ7,H7,I7,r7,q7⟩:=q7;exact⟨x7,σ7,H7,I7.unpinned,r7,q7⟩
end
theorem af9 {K:W.Frag}{a:Addr}{xs:List V}{g:TG}{tb:TS}{D:Ends}{σ:St}{H:Hp}(Pv:Nat->St->Hp->Prop)(h0:Pv 0 σ H)(hl:∀ i σ H,i<=xs.length->Pv i σ H->SqL K H a xs)
  (hs:∀ i x σ H,xs[i]?=some x->Pv i σ H->g x σ H fun σ2 H2=>tb { D with nx:=Pv (i+1),ct:=Pv (i+1),bk:=D.nx } σ2 H2)(hd:∀ σ H,Pv xs.length σ H->D.nx σ H) :
  ∃ W:Nat->Nat->St->Hp->Prop,(∃ m,W 0 m σ H)/\∀ i m σ H,W i m σ H ->
   ((Itl K a).stop i H/\D.nx σ H)\/((Itl K a).go i H/\∃ N:St->Hp->Prop,(∀ σ' H',N σ' H'->∃ m',m'<m/\W (i+1) m' σ' H')/\∀ x H',(Itl K a).yld i H x H'->g x σ H' fun σ2 H2=>tb { D with nx:=N,ct:=N,bk:=D.nx } σ2 H2):=by
 refine⟨fun i m σ H=>m=xs.length - i/\i<=xs.length/\Pv i σ H,⟨xs.length,by simp,j4 _,h0⟩,?_⟩
 rintro i m σ H ⟨rfl,hi,p⟩
 have q:=hl i σ H hi p
 by_cases hlt:i<xs.length
 ·refine .inr ⟨⟨xs,xs[i],q,by simp[hlt]⟩,Pv (i+1),fun σ' H' p'=>⟨xs.length - (i+1),by omega,rfl,hlt,p'⟩,fun x H' y=>?_⟩
  obtain⟨e,y⟩:=y
  subst e
  exact hs i x σ _ (y xs q) p
 ·have e:i=xs.length:=by omega
  subst e
  exact .inl ⟨⟨xs,q,b4 _⟩,hd σ H p⟩
theorem aR0 {K:W.Frag}{a:Addr}{xs:List V}{g:TG}{tb:TS}{D:Ends}{σ:St}{H:Hp}(Pv:Nat->St->Hp->Prop)(h0:Pv 0 σ H)(hl:∀ i σ H,i<=xs.length->Pv i σ H->SqT K H a xs)
  (hs:∀ i x σ H,xs[i]?=some x->Pv i σ H->g x σ H fun σ2 H2=>tb { D with nx:=Pv (i+1),ct:=Pv (i+1),bk:=D.nx } σ2 H2)(hd:∀ σ H,Pv xs.length σ H->D.nx σ H) :
  ∃ W:Nat->Nat->St->Hp->Prop,(∃ m,W 0 m σ H)/\∀ i m σ H,W i m σ H ->
   ((Itt K a).stop i H/\D.nx σ H)\/((Itt K a).go i H/\∃ N:St->Hp->Prop,(∀ σ' H',N σ' H'->∃ m',m'<m/\W (i+1) m' σ' H')/\∀ x H',(Itt K a).yld i H x H'->g x σ H' fun σ2 H2=>tb { D with nx:=N,ct:=N,bk:=D.nx } σ2 H2):=by
 refine⟨fun i m σ H=>m=xs.length - i/\i<=xs.length/\Pv i σ H,⟨xs.length,by simp,j4 _,h0⟩,?_⟩
 rintro i m σ H ⟨rfl,hi,p⟩
 have q:=hl i σ H hi p
 by_cases hlt:i<xs.length
 ·refine .inr ⟨⟨xs,xs[i],q,by simp[hlt]⟩,Pv (i+1),fun σ' H' p'=>⟨xs.length - (i+1),by omega,rfl,hlt,p'⟩,fun x H' y=>?_⟩
  obtain⟨e,y⟩:=y
  subst e
  exact hs i x σ _ (y xs q) p
 ·have e:i=xs.length:=by omega
  subst e
  exact .inl ⟨⟨xs,q,b4 _⟩,hd σ H p⟩
theorem K6 {lo:Int}{n:Nat}{g:TG}{tb:TS}{D:Ends}{σ:St}{H:Hp}(Pv:Nat->St->Hp->Prop)(h0:Pv 0 σ H)
  (hs:∀ i σ H,i<n->Pv i σ H->g (.int (lo+i)) σ H fun σ2 H2=>tb { D with nx:=Pv (i+1),ct:=Pv (i+1),bk:=D.nx } σ2 H2)(hd:∀ σ H,Pv n σ H->D.nx σ H) :
  ∃ W:Nat->Nat->St->Hp->Prop,(∃ m,W 0 m σ H)/\∀ i m σ H,W i m σ H ->
   ((Itr lo n).stop i H/\D.nx σ H)\/((Itr lo n).go i H/\∃ N:St->Hp->Prop,(∀ σ' H',N σ' H'->∃ m',m'<m/\W (i+1) m' σ' H')/\∀ x H',(Itr lo n).yld i H x H'->g x σ H' fun σ2 H2=>tb { D with nx:=N,ct:=N,bk:=D.nx } σ2 H2):=by
 refine⟨fun i m σ H=>m=n - i/\i<=n/\Pv i σ H,⟨n,by simp,j4 _,h0⟩,?_⟩
 rintro i m σ H ⟨rfl,hi,p⟩
 by_cases hlt:i<n
 ·refine .inr ⟨hlt,Pv (i+1),fun σ' H' p'=>⟨n - (i+1),by omega,rfl,hlt,p'⟩,fun x H' y=>?_⟩
  obtain⟨e,y⟩:=y
  subst e y
  exact hs i σ _ hlt p
 ·have e:i=n:=by omega
  subst e
  exact .inl ⟨b4 _,hd σ H p⟩
abbrev R2:=V->V->Hp->VK->Prop
def OpR (X:Cx)(f:Value->Value->Sem Value)(r:R2):Prop:=
 ∀ (pins:List (Addr × Obj)) (s:Shared) (σ:St) (H:Hp) (x y:V) (v u:Value) (Q:VK),Inv X pins σ H s->RelV x v->RelV y u->r x y H Q ->
  wpAny (model X.prog X.w) X.A (f v u) (EP X pins σ Q) X.xe s
def UnR (X:Cx)(f:Value->Sem Value)(r:V->Hp->VK->Prop):Prop:=
 ∀ (pins:List (Addr × Obj)) (s:Shared) (σ:St) (H:Hp) (x:V) (v:Value) (Q:VK),Inv X pins σ H s->RelV x v->r x H Q ->
  wpAny (model X.prog X.w) X.A (f v) (EP X pins σ Q) X.xe s
def G0 (X:Cx)(f:Value)(r:List V->Hp->VK->Prop):Prop:=
 ∀ (pins:List (Addr × Obj)) (s:Shared) (σ:St) (H:Hp) (xs:List V) (us:List Value) (Q:VK),Inv X pins σ H s->o6 xs us->r xs H Q ->
  wpAny (model X.prog X.w) X.A (call f us) (EP X pins σ Q) X.xe s
def tOp (r:R2)(ta tb:TE):TE:=fun σ H Q=>ta σ H fun x H1=>tb σ H1 fun y H2=>r x y H2 Q
def tUn (r:V->Hp->VK->Prop)(ta:TE):TE:=fun σ H Q=>ta σ H fun x H1=>r x H1 Q
def rI (C:Int->Int->Prop)(g:Int->Int->V):R2:=fun x y H Q=>∃ i j,x=.int i/\y=.int j/\C i j/\Q (g i j) H
def rI0 (g:Int->Int->V):R2:=fun x y H Q=>∃ i j,x=.int i/\y=.int j/\Q (g i j) H
def rU (g:Int->V):V->Hp->VK->Prop:=fun x H Q=>∃ i,x=.int i/\Q (g i) H
section
variable {X:Cx} {a b c:Expr} {ta tb tc:TE} {pos:Pos}
theorem aR5 (ha:PE X a ta)(hb:PE X b tb){pins:List (Addr × Obj)}{s:Shared}{σ:St}{H:Hp}{R:V->V->Hp->Prop}(I:Inv X pins σ H s)
  (h:ta σ H fun x H1=>tb σ H1 fun y H2=>R x y H2){Q:Value->Shared->Prop}{f:Value->Value->Sem Value}
  (hf:∀ v u s2 x y H2,Inv X pins σ H2 s2->RelV x v->RelV y u->R x y H2->wpAny (model X.prog X.w) X.A (f v u) Q X.xe s2) :
  wpAny (model X.prog X.w) X.A (eval a X.env) (fun v s₁=>wpAny (model X.prog X.w) X.A (eval b X.env) (fun u s₂=>wpAny (model X.prog X.w) X.A (f v u) Q X.xe s₂) X.xe s₁) X.xe s:=by
 refine thn (ha pins s σ H _ I h) fun v s1 ⟨x,H1,I1,r1,q1⟩=>?_
 refine thn (hb pins s1 σ H1 _ I1 q1) fun u s2 ⟨y,H2,I2,r2,q2⟩=>?_
 exact hf v u s2 x y H2 I2 r1 r2 q2
theorem k7 {op:Operator}{r:R2}(ho:OpR X (binaryOp op) r)(ha:PE X a ta)(hb:PE X b tb):PE X (.BinOp a op b pos) (tOp r ta tb):=by
 intro pins s σ H Q I h
 exact wpAny_BinOp (aR5 ha hb I h fun v u s2 x y H2 I2 rx ry q=>ho pins s2 σ H2 x y v u Q I2 rx ry q)
theorem aU0 {op:UnaryOp}{r:V->Hp->VK->Prop}(ho:UnR X (unaryOp op) r)(ha:PE X a ta):PE X (.UnaryOp op a pos) (tUn r ta):=by
 intro pins s σ H Q I h
 exact UnaryOp_ (thn (ha pins s σ H _ I h) fun v s1 ⟨x,H1,I1,r1,q1⟩=>ho pins s1 σ H1 x v Q I1 r1 q1)
theorem opI {f:Value->Value->Sem Value}{C:Int->Int->Prop}{g:Int->Int->Int}
  (rule:∀ (i j:Int) (t u:Tok) (s:Shared) (Q:Value->Shared->Prop) (E:Value->Shared->Prop),C i j->Q (.int (g i j) s.toks) { s with toks:=s.toks+1 }->wpAny (model X.prog X.w) X.A (f (.int i t) (.int j u)) Q E s) :
  OpR X f (rI C fun i j=>.int (g i j)):=by
 intro pins s σ H x y v u Q I rx ry h
 obtain⟨i,j,rfl,rfl,hc,q⟩:=h
 obtain⟨t,rfl⟩:=rx
 obtain⟨t',rfl⟩:=ry
 exact rule i j t t' s _ _ hc ⟨.int (g i j),H,I.tok _,⟨_,rfl⟩,q⟩
theorem bf5 {f:Value->Value->Sem Value}{g:Int->Int->Int}
  (rule:∀ (i j:Int) (t u:Tok) (s:Shared) (Q:Value->Shared->Prop) (E:Value->Shared->Prop),Q (.int (g i j) s.toks) { s with toks:=s.toks+1 }->wpAny (model X.prog X.w) X.A (f (.int i t) (.int j u)) Q E s) :
  OpR X f (rI0 fun i j=>.int (g i j)):=by
 intro pins s σ H x y v u Q I rx ry h
 obtain⟨i,j,rfl,rfl,q⟩:=h
 obtain⟨t,rfl⟩:=rx
 obtain⟨t',rfl⟩:=ry
 exact rule i j t t' s _ _ ⟨.int (g i j),H,I.tok _,⟨_,rfl⟩,q⟩
theorem aP1 {f:Value->Value->Sem Value}{g:Int->Int->Bool}
  (rule:∀ (i j:Int) (t u:Tok) (s:Shared) (Q:Value->Shared->Prop) (E:Value->Shared->Prop),Q (.bool (g i j)) s->wpAny (model X.prog X.w) X.A (f (.int i t) (.int j u)) Q E s) :
  OpR X f (rI0 fun i j=>.bl (g i j)):=by
 intro pins s σ H x y v u Q I rx ry h
 obtain⟨i,j,rfl,rfl,q⟩:=h
 obtain⟨t,rfl⟩:=rx
 obtain⟨t',rfl⟩:=ry
 exact rule i j t t' s _ _ ⟨.bl (g i j),H,I,rfl,q⟩
def bl0 (i j:Int):Prop:=0<j/\j<1073741824
def bk9 (i j:Int):Prop:=0<=j/\j<=1000000/\i.natAbs<2 ^ 64
def bb1 (i j:Int):Prop:=(-(2 ^ 64)<i/\i<2 ^ 64)\/(-(2 ^ 64)<j/\j<2 ^ 64)
theorem bb1.ok {i j:Int}(h:bb1 i j):IntMulOk i j:=by
 rcases h with⟨h1,h2⟩ | ⟨h1,h2⟩
 ·exact .of_left (intBits_le_64 h1 h2)
 ·exact .of_right (intBits_le_64 h1 h2)
theorem M6:OpR X (binaryOp .Add) (rI0 fun i j=>.int (i+j)):=bf5 fun _ _ _ _ _ _ _ q=>add_int q
theorem aJ0:OpR X (binaryOp .Sub) (rI0 fun i j=>.int (i - j)):=bf5 fun _ _ _ _ _ _ _ q=>sub_int q
theorem av2:OpR X (binaryOp .Mult) (rI bb1 fun i j=>.int (i*j)):=opI fun _ _ _ _ _ _ _ hc q=>mul_int q hc.ok
theorem C3:OpR X (binaryOp .FloorDiv) (rI bl0 fun i j=>.int (i / j)):=opI fun i j _ _ _ _ _ hc q=>by
 have h1:(0:Int)<j:=hc.1
 have h2:j<1073741824:=hc.2
 exact floordiv_int (by omega) (by rw[Int.fdiv_eq_ediv_of_nonneg i (by omega)];exact q) (.inl (PyProof.noPylong_small (by omega)))
theorem B1:OpR X (binaryOp .Mod) (rI (fun _ j=>0<j) fun i j=>.int (i % j)):=opI fun i j _ _ _ _ _ hc q=>by
 have h1:(0:Int)<j:=hc
 exact mod_int' (by omega) (by rw[Int.fmod_eq_emod_of_nonneg i (by omega)];exact q)
theorem al5:OpR X (binaryOp .Pow) (rI bk9 fun i j=>.int (i ^ j.toNat)):=opI fun _ _ _ _ _ _ _ hc q=>pow_int_small hc.1 hc.2.1 hc.2.2 q
theorem unI {f:Value->Sem Value}{g:Int->Int}
  (rule:∀ (i:Int) (t:Tok) (s:Shared) (Q:Value->Shared->Prop) (E:Value->Shared->Prop),Q (.int (g i) s.toks) { s with toks:=s.toks+1 }->wpAny (model X.prog X.w) X.A (f (.int i t)) Q E s) :
  UnR X f (rU fun i=>.int (g i)):=by
 intro pins s σ H x v Q I rx h
 obtain⟨i,rfl,q⟩:=h
 obtain⟨t,rfl⟩:=rx
 exact rule i t s _ _ ⟨.int (g i),H,I.tok _,⟨_,rfl⟩,q⟩
theorem aG0:UnR X (unaryOp .USub) (rU fun i=>.int (-i)):=unI fun _ _ _ _ _ q=>neg_int q
end
def be2:V->V->Bool
 | .non,.non=>true | .non,.int _=>true | .int _,.non=>true | .non,.bl _=>true | .bl _,.non=>true | .non,.str _=>true | .str _,.non=>true
 | .int _,.int _=>true | .bl _,.bl _=>true | .str _,.str _=>true | .byt _,.byt _=>true
 | .int _,.str _=>true | .str _,.int _=>true | .bl _,.str _=>true | .str _,.bl _=>true
 | _,_=>false
def rEq:R2:=fun x y H Q=>be2 x y=true/\Q (.bl (decide (x=y))) H
def rNe:R2:=fun x y H Q=>be2 x y=true/\Q (.bl (!decide (x=y))) H
theorem aA2 {i j:Int}:decide (V.int i=V.int j)=(i == j):=by
 rw[A0]
 simp
theorem aL0 {i j:Bool}:decide (V.bl i=V.bl j)=(i == j):=by
 rw[A0]
 simp
theorem aA1 {i j:Str}:decide (V.str i=V.str j)=(i == j):=by
 rw[A0]
 simp
theorem aA3 {i j:Array UInt8}:decide (V.byt i=V.byt j)=(i.toList == j.toList):=by
 rw[A0]
 cases i
 cases j
 simp
section
variable {X:Cx} {a b c:Expr} {ta tb tc:TE} {pos:Pos}
theorem r9 {pins:List (Addr × Obj)}{σ:St}{H:Hp}{s:Shared}{Q:VK}{k k':Bool}(I:Inv X pins σ H s)(q:Q (.bl k) H)(e:k=k'):EP X pins σ Q (.bool k') s:=by
 subst e
 exact⟨.bl k,H,I,rfl,q⟩
theorem F6:OpR X (compareOp .Eq) rEq:=by
 intro pins s σ H x y v u Q I rx ry h
 obtain⟨hs,q⟩:=h
 cases x with
 | non =>
  cases rx
  cases y with
  | non=>cases ry;exact PySem.EqNone.eq_none_none (r9 I q (by simp))
  | bl j=>cases ry;exact PySem.EqNone.eq_none_bool (r9 I q (by simp))
  | int j=>obtain⟨t',rfl⟩:=ry;exact PySem.EqNone.eq_none_int (r9 I q (by simp))
  | str j=>obtain⟨t',rfl⟩:=ry;exact PySem.EqNone.eq_none_str (r9 I q (by simp))
  | _=>exact absurd (show false=true from hs) b6
 | bl i =>
  cases rx
  cases y with
  | non=>cases ry;exact PySem.EqNone.eq_bool_none (r9 I q (by simp))
  | bl j=>cases ry;exact eq_bool (r9 I q aL0)
  | str j=>obtain⟨t',rfl⟩:=ry;exact PySem.EqMixed.eq_bool_str (r9 I q (by simp))
  | _=>exact absurd (show false=true from hs) b6
 | int i =>
  obtain⟨t,rfl⟩:=rx
  cases y with
  | non=>cases ry;exact PySem.EqNone.eq_int_none (r9 I q (by simp))
  | int j=>obtain⟨t',rfl⟩:=ry;exact eq_int (r9 I q aA2)
  | str j=>obtain⟨t',rfl⟩:=ry;exact PySem.EqMixed.eq_int_str (r9 I q (by simp))
  | _=>exact absurd (show false=true from hs) b6
 | str i =>
  obtain⟨t,rfl⟩:=rx
  cases y with
  | non=>cases ry;exact PySem.EqNone.eq_str_none (r9 I q (by simp))
  | bl j=>cases ry;exact PySem.EqMixed.eq_str_bool (r9 I q (by simp))
  | int j=>obtain⟨t',rfl⟩:=ry;exact PySem.EqMixed.eq_str_int (r9 I q (by simp))
  | str j=>obtain⟨t',rfl⟩:=ry;exact eq_str (r9 I q aA1)
  | _=>exact absurd (show false=true from hs) b6
 | byt i =>
  obtain⟨t,rfl⟩:=rx
  cases y with
  | byt j=>obtain⟨t',rfl⟩:=ry;exact PySem.W.eq_bytes (r9 I q aA3)
  | _=>exact absurd (show false=true from hs) b6
 | _=>cases y<;>exact absurd (show false=true from hs) b6
theorem ai1:OpR X (compareOp .NotEq) rNe:=by
 intro pins s σ H x y v u Q I rx ry h
 obtain⟨hs,q⟩:=h
 cases x with
 | non =>
  cases rx
  cases y with
  | non=>cases ry;exact PySem.EqNone.ne_none_none (r9 I q (by simp))
  | bl j=>cases ry;exact PySem.EqNone.ne_none_bool (r9 I q (by simp))
  | int j=>obtain⟨t',rfl⟩:=ry;exact PySem.EqNone.ne_none_int (r9 I q (by simp))
  | str j=>obtain⟨t',rfl⟩:=ry;exact PySem.EqNone.ne_none_str (r9 I q (by simp))
  | _=>exact absurd (show false=true from hs) b6
 | bl i =>
  cases rx
  cases y with
  | non=>cases ry;exact PySem.EqNone.ne_bool_none (r9 I q (by simp))
  | bl j=>cases ry;exact ne_bool (r9 I q (congrArg not aL0))
  | str j=>obtain⟨t',rfl⟩:=ry;exact PySem.EqMixed.ne_bool_str (r9 I q (by simp))
  | _=>exact absurd (show false=true from hs) b6
 | int i =>
  obtain⟨t,rfl⟩:=rx
  cases y with
  | non=>cases ry;exact PySem.EqNone.ne_int_none (r9 I q (by simp))
  | int j=>obtain⟨t',rfl⟩:=ry;exact ne_int (r9 I q (congrArg not aA2))
  | str j=>obtain⟨t',rfl⟩:=ry;exact PySem.EqMixed.ne_int_str (r9 I q (by simp))
  | _=>exact absurd (show false=true from hs) b6
 | str i =>
  obtain⟨t,rfl⟩:=rx
  cases y with
  | non=>cases ry;exact PySem.EqNone.ne_str_none (r9 I q (by simp))
  | bl j=>cases ry;exact PySem.EqMixed.ne_str_bool (r9 I q (by simp))
  | int j=>obtain⟨t',rfl⟩:=ry;exact PySem.EqMixed.ne_str_int (r9 I q (by simp))
  | str j=>obtain⟨t',rfl⟩:=ry;exact ne_str (r9 I q (congrArg not aA1))
  | _=>exact absurd (show false=true from hs) b6
 | byt i =>
  obtain⟨t,rfl⟩:=rx
  cases y with
  | byt j=>obtain⟨t',rfl⟩:=ry;exact PySem.W.ne_bytes (r9 I q (congrArg not aA3))
  | _=>exact absurd (show false=true from hs) b6
 | _=>cases y<;>exact absurd (show false=true from hs) b6
theorem az1:OpR X (compareOp .Lt) (rI0 fun i j=>.bl (decide (i<j))):=aP1 fun _ _ _ _ _ _ _ q=>lt_int q
theorem ae9:OpR X (compareOp .LtE) (rI0 fun i j=>.bl (decide (i<=j))):=aP1 fun _ _ _ _ _ _ _ q=>le_int q
theorem aJ1:OpR X (compareOp .Gt) (rI0 fun i j=>.bl (decide (j<i))):=aP1 fun _ _ _ _ _ _ _ q=>gt_int q
theorem aU3:OpR X (compareOp .GtE) (rI0 fun i j=>.bl (decide (j<=i))):=aP1 fun _ _ _ _ _ _ _ q=>ge_int q
theorem aC5:OpR X (compareOp .In) (fun x y H Q=>∃ i j,x=.str i/\y=.str j/\Q (.bl (!(Builtin.Str.occurrences j i 0 j.length 1).isEmpty)) H):=by
 intro pins s σ H x y v u Q I rx ry h
 obtain⟨i,j,rfl,rfl,q⟩:=h
 obtain⟨t,rfl⟩:=rx
 obtain⟨t',rfl⟩:=ry
 exact in_str (r9 I q rfl)
theorem av3:OpR X (compareOp .Is) (fun x y H Q=>y=.non/\Q (.bl (decide (x=.non))) H):=by
 intro pins s σ H x y v u Q I rx ry h
 obtain⟨rfl,q⟩:=h
 cases ry
 refine is_none_gen (r9 I q ?_)
 cases x<;>first
  | (cases rx;rfl)
  | (obtain⟨t,rfl⟩:=rx;rfl)
theorem al6:OpR X (compareOp .NotIn) (fun x y H Q=>∃ i j,x=.str i/\y=.str j/\Q (.bl (!(!(Builtin.Str.occurrences j i 0 j.length 1).isEmpty))) H):=by
 intro pins s σ H x y v u Q I rx ry h
 obtain⟨i,j,rfl,rfl,q⟩:=h
 obtain⟨t,rfl⟩:=rx
 obtain⟨t',rfl⟩:=ry
 exact notIn_str (r9 I q rfl)
theorem n6 (b:Expr){op:CmpOp}(h:op≠.In:=by decide)(h2:op≠.NotIn:=by decide):behindInMarks op b=false:=by
 have e1:(op == CmpOp.In)=false:=by cases op<;>first | rfl | exact absurd rfl h
 have e2:(op == CmpOp.NotIn)=false:=by cases op<;>first | rfl | exact absurd rfl h2
 cases b<;>simp[behindInMarks,e1,e2]
theorem K0 {op:CmpOp}{r:R2}(ho:OpR X (compareOp op) r)(ha:PE X a ta)(hb:PE X b tb)(hm:behindInMarks op b=false):PE X (.Compare a [op] [b] pos) (tOp r ta tb):=by
 intro pins s σ H Q I h
 exact wpAny_Compare1 (aR5 ha hb I h fun v u s2 x y H2 I2 rx ry q=>ho pins s2 σ H2 x y v u Q I2 rx ry q) hm
def aS9 (t:TE):TT:=fun σ H Q=>t σ H fun x H'=>∃ k,x=.bl k/\Q k H'
theorem m5 {op:CmpOp}{r:R2}(ho:OpR X (compareOp op) r)(ha:PE X a ta)(hb:PE X b tb)(hm:behindInMarks op b=false):PT X (.Compare a [op] [b] pos) (aS9 (tOp r ta tb)):=by
 intro pins s σ H Q I h
 refine wpAny_isTrue_Compare1 (thn (ha pins s σ H _ I h) fun v s1 ⟨x,H1,I1,r1,q1⟩=>thn (hb pins s1 σ H1 _ I1 q1) fun u s2 ⟨y,H2,I2,r2,q2⟩ =>
  thn (ho pins s2 σ H2 x y v u _ I2 r1 r2 q2) fun c s3 ⟨z,H3,I3,r3,k,e,q3⟩=>?_) hm
 subst e
 cases r3
 exact wpAny_truthy_bool ⟨H3,I3,q3⟩
def aG7 (r r':R2)(ta tb tc:TE):TE:=fun σ H Q=>ta σ H fun x H1=>tb σ H1 fun y H2=>r x y H2 fun z H3=>∃ k,z=.bl k /\
 (if k=true then tc σ H3 fun w' H4=>r' y w' H4 Q else Q (.bl false) H3)
theorem aI8 {op op':CmpOp}{r r':R2}(ho:OpR X (compareOp op) r)(ho':OpR X (compareOp op') r')(ha:PE X a ta)(hb:PE X b tb)(hc:PE X c tc)
  (hm:lastMarks [op,op'] [b,c]=false:=by with_unfolding_all rfl):PE X (.Compare a [op,op'] [b,c] pos) (aG7 r r' ta tb tc):=by
 intro pins s σ H Q I h
 refine Compare_chain (thn (ha pins s σ H _ I h) fun v s1 ⟨x,H1,I1,r1,q1⟩=>chain_link (thn (hb pins s1 σ H1 _ I1 q1) fun u s2 ⟨y,H2,I2,r2,q2⟩ =>
  thn (ho pins s2 σ H2 x y v u _ I2 r1 r2 q2) fun d s3 ⟨z,H3,I3,r3,k,e,q3⟩=>?_)) hm
 subst e
 cases r3
 refine wpAny_truthy_bool ?_
 cases k with
 | false=>exact ite_ff ⟨.bl false,H3,I3,rfl,q3⟩
 | true=>exact ite_tt (chain_last (thn (hc pins s3 σ H3 _ I3 q3) fun w' s4 ⟨z',H4,I4,r4,q4⟩=>ho' pins s4 σ H4 y z' u w' Q I4 r2 r4 q4))
theorem ae4 {op op':CmpOp}{r r':R2}(ho:OpR X (compareOp op) r)(ho':OpR X (compareOp op') r')(ha:PE X a ta)(hb:PE X b tb)(hc:PE X c tc)
  (hm:lastMarks [op,op'] [b,c]=false:=by with_unfolding_all rfl):PT X (.Compare a [op,op'] [b,c] pos) (aS9 (aG7 r r' ta tb tc)):=by
 intro pins s σ H Q I h
 refine isTrue_chain (thn (ha pins s σ H _ I h) fun v s1 ⟨x,H1,I1,r1,q1⟩=>test_link (thn (hb pins s1 σ H1 _ I1 q1) fun u s2 ⟨y,H2,I2,r2,q2⟩ =>
  thn (ho pins s2 σ H2 x y v u _ I2 r1 r2 q2) fun d s3 ⟨z,H3,I3,r3,k,e,q3⟩=>?_)) hm
 subst e
 cases r3
 refine wpAny_truthy_bool ?_
 cases k with
 | false =>
  obtain⟨k',e',q'⟩:=q3
  cases e'
  exact ite_ff ⟨H3,I3,q'⟩
 | true =>
  refine ite_tt (test_last (thn (hc pins s3 σ H3 _ I3 q3) fun w' s4 ⟨z',H4,I4,r4,q4⟩=>thn (ho' pins s4 σ H4 y z' u w' _ I4 r2 r4 q4) fun d' s5 ⟨z2,H5,I5,r5,k2,e2,q5⟩=>?_))
  subst e2
  cases r5
  exact wpAny_truthy_bool ⟨H5,I5,q5⟩
theorem Y9:(sizeLine:Nat)<2 ^ 63:=by rw[sizeLine_eq];decide
theorem v5:OpR X (binaryOp .Add) (fun x y H Q=>∃ i j,x=.str i/\y=.str j/\i.length+j.length<=sizeLine/\Q (.str (i++j)) H):=by
 intro pins s σ H x y v u Q I rx ry h
 obtain⟨i,j,rfl,rfl,hz,q⟩:=h
 obtain⟨t,rfl⟩:=rx
 obtain⟨t',rfl⟩:=ry
 exact add_str (fun t' tk=>⟨.str (i++j),H,I.tok _,⟨_,rfl⟩,q⟩) hz
def aL5 (b:Expr):Prop:=∀ o i,subscripted b false o i=operate [o,i] (getItem o i)
theorem Q6 (ha:PE X a ta)(hb:PE X b tb)(hs:aL5 b) :
  PE X (.Subscript a b pos) (tOp (fun x y H Q=>∃ z i c,x=.str z/\y=.int i/\0<=i/\i<2 ^ 63/\i<z.length/\z.cps[i.toNat]?=some c/\Q (.str ⟨#[c]⟩) H) ta tb):=by
 intro pins s σ H Q I h
 refine Subscript_ (aR5 ha hb I h fun v u s2 x y H2 I2 rx ry q=>?_)
 obtain⟨z,i,c,rfl,rfl,h0,h63,h1,hc,q⟩:=q
 obtain⟨t,rfl⟩:=rx
 obtain⟨t',rfl⟩:=ry
 have e:seqIndex? i z.length=some i.toNat:=PySem.StrLaws.seqIndex_nonneg h0 h1
 exact tail_any (typeIs_str s2 z t) slot_str_getitem.lookup (getItem_str (c:=c) (by
  have e1:decide (i < -(2 ^ 63:Int))=false:=decide_eq_false (by omega)
  have e2:decide (i≥2 ^ 63)=false:=decide_eq_false (by omega)
  rw[e1,e2]<;>rfl) (by rw[e];exact hc) ⟨.str ⟨#[c]⟩,H2,I2.tok _,⟨_,rfl⟩,q⟩) (hs _ _)
theorem vals1 {x:V}{us:List Value}(r:o6 [x] us):∃ u,us=[u]/\RelV x u:=by
 cases r with
 | cons r1 r2=>cases r2;exact⟨_,rfl,r1⟩
theorem vals2 {x y:V}{us:List Value}(r:o6 [x,y] us):∃ u w',us=[u,w']/\RelV x u/\RelV y w':=by
 cases r with
 | cons r1 r2 =>
  cases r2 with
  | cons r3 r4=>cases r4;exact⟨_,_,rfl,r1,r3⟩
theorem aj3 (hc:X.calm=true):G0 X (.builtin "max") (fun xs H Q=>∃ i j,xs=[.int i,.int j]/\Q (.int (if j > i then j else i)) H):=by
 intro pins s σ H xs us Q I r h
 obtain⟨i,j,rfl,q⟩:=h
 obtain⟨u,w',rfl,⟨t,rfl⟩,⟨t',rfl⟩⟩:=vals2 r
 refine max_two_ints (I.ok.hd hc) fun h' tk k=>⟨_,H,I.kept k,?_,q⟩
 by_cases hj:j > i
 ·rw[if_pos hj,if_pos hj];exact⟨_,rfl⟩
 ·rw[if_neg hj,if_neg hj];exact⟨_,rfl⟩
theorem aj2 (hc:X.calm=true):G0 X (.builtin "min") (fun xs H Q=>∃ i j,xs=[.int i,.int j]/\Q (.int (if j<i then j else i)) H):=by
 intro pins s σ H xs us Q I r h
 obtain⟨i,j,rfl,q⟩:=h
 obtain⟨u,w',rfl,⟨t,rfl⟩,⟨t',rfl⟩⟩:=vals2 r
 refine min_two_ints (I.ok.hd hc) fun h' tk k=>⟨_,H,I.kept k,?_,q⟩
 by_cases hj:j<i
 ·rw[if_pos hj,if_pos hj];exact⟨_,rfl⟩
 ·rw[if_neg hj,if_neg hj];exact⟨_,rfl⟩
theorem E7:G0 X (.type "str") (fun xs H Q=>∃ i,xs=[.int i]/\i.natAbs.log2<1920/\Q (.str (toString i)) H):=by
 intro pins s σ H xs us Q I r h
 obtain⟨i,rfl,hz,q⟩:=h
 obtain⟨u,rfl,t,rfl⟩:=vals1 r
 exact PySem.P.str_of_int hz ⟨.str _,H,I.tok _,⟨_,rfl⟩,q⟩
def bk7 (K:W.Frag)(x:V)(H:Hp)(n:Nat):Prop:=
 match x with
 | .str y=>y.length<=sizeLine/\n=y.length
 | .byt y=>y.size<=sizeLine/\n=y.size
 | .ref p=>(∃ xs,SqL K H p xs/\n=xs.length)\/∃ xs,SqT K H p xs/\n=xs.length
 | _=>False
theorem X2:G0 X (.builtin "len") (fun xs H Q=>∃ x n,xs=[x]/\bk7 X.K x H n/\Q (.int n) H):=by
 intro pins s σ H xs us Q I r h
 obtain⟨x,n,rfl,e,q⟩:=h
 obtain⟨u,rfl,rx⟩:=vals1 r
 have hl:=Y9
 have hs:sizeLine=16777216:=sizeLine_eq
 cases x with
 | str y =>
  obtain⟨t,rfl⟩:=rx
  obtain⟨hy,e'⟩:y.length<=sizeLine/\n=y.length:=e
  subst e'
  exact len_str (by omega) ⟨.int _,H,I.tok _,⟨_,rfl⟩,q⟩
 | byt y =>
  obtain⟨t,rfl⟩:=rx
  obtain⟨hy,e'⟩:y.size<=sizeLine/\n=y.size:=e
  subst e'
  exact PySem.W.len_bytes (by omega) ⟨.int _,H,I.tok _,⟨_,rfl⟩,q⟩
 | ref p =>
  cases rx
  have e':(∃ xs,SqL X.K H p xs/\n=xs.length)\/∃ xs,SqT X.K H p xs/\n=xs.length:=e
  rcases e' with⟨xs,hx,e'⟩ | ⟨xs,hx,e'⟩
  ·subst e'
   obtain⟨its,r',pl,hz⟩:=I.list hx
   have hlen:=r'.length
   exact Calls.call_len_list pl.isList (by simp only[d3];omega) ⟨.int xs.length,H,I.tok _,⟨_,by simp only[d3];rw[hlen]⟩,q⟩
  ·subst e'
   obtain⟨its,r',pl,hz⟩:=I.tuple hx
   have hlen:=r'.length
   exact len_tuple pl (by simp only[d3];omega) ⟨.int xs.length,H,I.tok _,⟨_,by simp only[d3];rw[hlen]⟩,q⟩
 | _=>exact(show False from e).elim
end
structure bb0 (h:Heap) (x dx C:Addr) (mA:Str->Option Value):Prop where
 obj:h.get? x=some (PySem.W.instObj C dx)
 ns:h.Ns1 dx mA
 ne:dx≠x
theorem aD3 {h:Heap}{dx:Addr}{mA:Str->Option Value}(n:h.Ns1 dx mA):∃ od,h.get? dx=some od/\∀ name,PySem.W.lookIn name od=some (mA name):=by
 obtain⟨o,es,ep,ho,hd,hk,_,hm⟩:=n
 refine⟨o,ho,fun name=>?_⟩
 have e:=hm name
 unfold nsFind findBy at e
 rw[<- Array.find?_toList]at e
 unfold PySem.W.lookIn
 rw[hd]
 dsimp only
 split
 ·rename_i y q
  rw[q]at e
  exact congrArg some e
 ·rename_i q
  rw[q]at e
  have a:es.toList.any (·.refKey)=false:=by
   rw[List.any_eq_false]
   intro y hy
   obtain⟨z,t,hkey⟩:=hk y (L3.mp hy)
   simp[DictEntry.refKey,hkey]
  have a':¬ es.toList.any (·.refKey)=true:=by rw[a];exact b6
  rw[if_neg a']
  exact congrArg some e
theorem bb0.look {h:Heap}{x dx C:Addr}{mA:Str->Option Value}(I:bb0 h x dx C mA):∃ od,PySem.W.InstAt h x (PySem.W.instObj C dx) C (some od)/\∀ name,PySem.W.lookIn name od=some (mA name):=
 let ⟨od,ho,hl⟩:=aD3 I.ns
 ⟨od,⟨I.obj,rfl,rfl,ho⟩,hl⟩
section
variable {prog:Program} {w:World} {A:Around} {E:Value->Shared->Prop} {s:Shared} {K:W.Frag} {x dx C f:Addr} {mA:Str->Option Value} {name:Str} {v:Value}
end
section
variable {P:Program} {w:World} {H H':Hp} {h h':Heap} {a C dx:Addr} {fs fs':List (Str × V)}
theorem aQ8 (hok:HOk P w H h)(e:H a=some (.ins C dx fs)):∃ mA,bb0 h a dx C mA/\(∀ f,ba8 (fs.lookup f) (mA f))/\PySem.Within mA (fs.map (·.1))/\fs.length<=1000/\H dx=some (.own a):=by
 obtain⟨d,z,ne,ob,mA,n,r,q⟩:=(show C8 P w H h a (.ins C dx fs) from hok a _ e)
 exact⟨mA,⟨ob,n,ne⟩,r,q,z,d⟩
end
structure Cls (K:W.Frag) (C:Addr):Prop where
 pg:PySem.W.plainGet K C Str.empty=true
 hd:PySem.W.hasDictIn K C=true
 po:PySem.W.plainOver K C=true
 sa:PySem.W.findIn K (.ref C) "__setattr__"=some (some (.builtin "object.__setattr__"))
theorem Cls.get {K:W.Frag}{C:Addr}(c:Cls K C)(f:Str):PySem.W.plainGet K C f=true:=c.pg
structure Con (K:W.Frag) (C:Addr) (f:Str) (v:V) (u:Value):Prop where
 at_:PySem.W.findIn K (.ref C) f=some (some u)
 rel:RelV v u
 get:PySem.W.specialIn K u "__get__"=some none
 cp:PySem.W.copiedNames.contains f=false
structure bl1 (K:W.Frag) (C:Addr) (m:Str) (f:Addr):Prop where
 at_:PySem.W.findIn K (.ref C) m=some (some (.ref f))
 fn:PySem.W.isFn K (.ref f)=true
 kp:g8 K (.ref f)=true
section
variable {X:Cx} {pins:List (Addr × Obj)} {σ:St} {H:Hp} {s:Shared} {a C dx:Addr} {fs:List (Str × V)} {f:Str} {v:V} {A:Around} {E:Value->Shared->Prop}
end
section
variable {X:Cx} {o e value:Expr} {f:Str} {pos pos' tpos:Pos} {ta tv:TE}
end
section
variable {X:Cx} {pins:List (Addr × Obj)} {σ:St} {H:Hp} {s:Shared} {A:Around} {E:Value->Shared->Prop} {Q:Value->Shared->Prop} {c:Value} {b:Bool}
inductive V2 (K:W.Frag) (H:Hp):V->Value->Prop where
 | non:V2 K H .non (.type "NoneType")
 | bl (x:Bool):V2 K H (.bl x) (.type "bool")
 | int (i:Int):V2 K H (.int i) (.type "int")
 | str (x:Str):V2 K H (.str x) (.type "str")
 | flt (x:UInt64):V2 K H (.flt x) (.type "float")
 | lst {a:Addr} {xs:List V} (e:H a=some (.lst xs)):V2 K H (.ref a) (.type "list")
 | frz {a:Addr} {o:Obj} {xs:List V} (e:H a=some (.frz o (.lst xs))):V2 K H (.ref a) (.type "list")
 | tup {a:Addr} {xs:List V} (e:H a=some (.tup xs)):V2 K H (.ref a) (.type "tuple")
 | dK {a:Addr} {kvs:List (Key × V)} (e:H a=some (.dK kvs)):V2 K H (.ref a) (.type "dict")
 | dT {a:Addr} {kvs:List (List Key × V)} (e:H a=some (.dT kvs)):V2 K H (.ref a) (.type "dict")
 | ins {a C dx:Addr} {fs:List (Str × V)} (e:H a=some (.ins C dx fs)) (cl:Cls K C) (ha:PySem.W.findIn K (.ref C) "__class__"=some (some (.builtin "object.__class__")))
   (hn:PySem.W.specialIn K (.builtin "object.__class__") "__get__"=some (some (.builtin "getset_descriptor.__get__"))) (htk:PySem.W.takesIn K (.builtin "object.__class__")=some true)
   (hm:PySem.W.mroIn K C (.type "object")=some true):V2 K H (.ref a) (.ref C)
theorem aD6 {x:V}{u t:Value}(I:Inv X pins σ H s)(rx:RelV x u)(ty:V2 X.K H x t)(e:PySem.W.kitOne X.K t c=some b)(h:∀ tk,Q (.bool b) { s with toks:=tk }) :
  wpAny (model X.prog X.w) A (call (.builtin "isinstance") [u,c]) Q E s:=by
 cases ty with
 | non=>cases (show u=Value.none from rx);exact PySem.W.kia_one PySem.W.kitx_none I.kIn True.intro e (fun z=>nomatch z) h
 | bl y=>cases (show u=Value.bool y from rx);exact PySem.W.kia_one PySem.W.kitx_bool I.kIn True.intro e (fun z=>nomatch z) h
 | int i=>obtain⟨t,q⟩:=(show ∃ t,u=Value.int i t from rx);cases q;exact PySem.W.kia_one PySem.W.kitx_int I.kIn True.intro e (fun z=>nomatch z) h
 | str y=>obtain⟨t,q⟩:=(show ∃ t,u=Value.str y t from rx);cases q;exact PySem.W.kia_one PySem.W.kitx_str I.kIn True.intro e (fun z=>nomatch z) h
 | flt y=>obtain⟨t,q⟩:=(show ∃ t,u=Value.float y t from rx);cases q;exact PySem.W.kia_one PySem.W.kitx_float I.kIn True.intro e (fun z=>nomatch z) h
 | @lst a xs ea =>
  cases (show u=Value.ref a from rx)
  obtain⟨_,_,n,_,h1⟩:=(show C8 X.prog X.w H s.heap a (.lst xs) from I.hok a _ ea)
  exact PySem.W.kia_one PySem.W.kitx_list I.kIn ⟨_,h1,rfl⟩ e (fun z=>nomatch z) h
 | @frz a ob xs ea =>
  cases (show u=Value.ref a from rx)
  obtain⟨_,_,_,n,_,h1⟩:=(show C8 X.prog X.w H s.heap a (.frz ob (.lst xs)) from I.hok a _ ea)
  exact PySem.W.kia_one PySem.W.kitx_list I.kIn ⟨_,h1,rfl⟩ e (fun z=>nomatch z) h
 | @tup a xs ea =>
  cases (show u=Value.ref a from rx)
  obtain⟨_,_,_,p⟩:=(show C8 X.prog X.w H s.heap a (.tup xs) from I.hok a _ ea)
  obtain⟨o,h1,h2,_⟩:=p
  exact PySem.W.kia_one PySem.W.kitx_tuple I.kIn ⟨o,h1,h2⟩ e (fun z=>nomatch z) h
 | @dK a kvs ea =>
  cases (show u=Value.ref a from rx)
  obtain⟨_,_,vs,_,p⟩:=(show C8 X.prog X.w H s.heap a (.dK kvs) from I.hok a _ ea)
  obtain⟨o,es,ep,h1,h2,_⟩:=p
  exact PySem.W.kia_one PySem.W.kitx_dict I.kIn ⟨o,h1,h2.1⟩ e (fun z=>nomatch z) h
 | @dT a kvs ea =>
  cases (show u=Value.ref a from rx)
  obtain⟨_,_,xs,_,o,es,ep,h1,h2,_⟩:=(show C8 X.prog X.w H s.heap a (.dT kvs) from I.hok a _ ea)
  exact PySem.W.kia_one PySem.W.kitx_dict I.kIn ⟨o,h1,h2.1⟩ e (fun z=>nomatch z) h
 | @ins a C dx fs ea cl ha hn htk hm =>
  cases (show u=Value.ref a from rx)
  obtain⟨mA,O,_⟩:=aQ8 I.hok ea
  obtain⟨od,J,_⟩:=O.look
  exact PySem.W.kia_one (PySem.W.kitx_own (cl.get _) cl.hd ha hn htk hm) I.kIn J e (fun z=>nomatch z) h
end
structure M7 (k:Nat) (A:Around):Prop where
 hd:A.handled=none
 dp:A.depth+3*k+5<recursionLimit
 un:A.units+16*k+200<cLine
theorem M7.mono {j k:Nat}{A:Around}(r:M7 k A)(h:j<=k):M7 j A:=⟨r.hd,by have:=r.dp;omega,by have:=r.un;omega⟩
theorem M7.deeper {k:Nat}{A:Around}(r:M7 (k+1) A)(env:Env):M7 k (A.deeper env):=
 ⟨r.hd,by have:=r.dp;show A.depth+1+3*k+5<_;omega,by have:=r.un;show A.units+3+16*k+200<_;omega⟩
theorem M7.depth {k:Nat}{A:Around}(r:M7 k A):A.depth<recursionLimit:=by have:=r.dp;omega
theorem M7.units {k:Nat}{A:Around}(r:M7 k A):A.units+64<cLine:=by have:=r.un;omega
def bi1:TA:=fun _ H Q=>Q [] H
def bd4 (ta:TE)(tr:TA):TA:=fun σ H Q=>ta σ H fun x H1=>tr σ H1 fun xs H2=>Q (x::xs) H2
section
variable {X:Cx} {e:Expr} {es:List Expr} {te:TE} {t:TA} {pos:Pos}
theorem b7:PA X [] bi1:=fun _ _ _ _ H Q I h=>Calls.spliced_nil ⟨[],H,I,.nil,h⟩
theorem a4 (ha:PE X e te)(hr:PA X es t)(hs:starEach (e::es) X.env=(false,eval e X.env)::starEach es X.env:=by rfl):PA X (e::es) (bd4 te t):=by
 intro pos pins s σ H Q I h
 rw[hs]
 show wpAny _ _ (spliced ((false,eval e X.env)::backTo pos (starEach es X.env))) _ _ s
 refine Calls.spliced_cons (thn (ha pins s σ H _ I h) fun u s1 ⟨x,H1,I1,r1,q1⟩=>?_)
 exact thn (hr pos pins s1 σ H1 _ I1 q1) fun us s2 ⟨xs,H2,I2,r2,q2⟩=>⟨x::xs,H2,I2,.cons r1 r2,q2⟩
def bh5 (t:TA):TE:=fun σ H Q=>t σ H fun xs H1=>xs.length<=sizeLine/\∀ p,H1 p=none->Q (.ref p) (upd H1 p (.tup xs))
def bi2 (t:TA):TE:=fun σ H Q=>t σ H fun xs H1=>xs.length<=sizeLine/\∀ p,H1 p=none->Q (.ref p) (upd H1 p (.lst xs))
theorem Q5 {x1}(h:PA X es t):PE X (.Tuple es x1 pos) (bh5 t):=by
 intro pins s σ H Q I hq
 refine wpAny_Tuple_spliced (thn (h pos pins s σ H _ I hq) fun us s1 ⟨xs,H1,I1,r,z,q⟩=>⟨by rw[<- r.length];exact z,?_⟩)
 have hf:H1 s1.heap.objs.size=none:=I1.hok.fresh (b4 _)
 refine⟨.ref s1.heap.objs.size,upd H1 s1.heap.objs.size (.tup xs),I1.laid (t':=s1.toks) (fun b u e=>a5 _ e) (b4 _) ?_,rfl,q _ hf⟩
 exact⟨z,us,r,⟨_,j3 _ rfl,rfl,_,rfl⟩⟩
theorem M5 (h:PA X es t):PE X (.List es pos) (bi2 t):=by
 intro pins s σ H Q I hq
 refine wpAny_List_spliced (thn (h pos pins s σ H _ I hq) fun us s1 ⟨xs,H1,I1,r,z,q⟩=>⟨by rw[<- r.length];exact z,?_⟩)
 have hf:H1 s1.heap.objs.size=none:=I1.hok.fresh (b4 _)
 refine⟨.ref s1.heap.objs.size,upd H1 s1.heap.objs.size (.lst xs),I1.laid (t':=s1.toks) (fun b u e=>a5 _ e) (b4 _) ?_,rfl,q _ hf⟩
 exact⟨z,us,0,r,j3 _ rfl⟩
end
abbrev Sp:=List V->Hp->VK->XK->Prop
abbrev CXT:=List Env->Hp->Shared->XK->Value->Shared->Prop
structure aS1 (P:Program) (w:World) (K:W.Frag) (mg:Str->Option Value) (base:Heap) (A:Around) (outer:List Env) (s:Shared) (H:Hp):Prop where
 frames:A.frames=some outer
 mod:Mod K mg base
 bs:∀ b o,base.get? b=some o->s.heap.get? b=some o/\H b=none
 bsz:base.objs.size<=s.heap.objs.size
 funs:s.heap.FunFrames base outer
 frf:∀ b∈frs outer,H b=none
 hok:HOk P w H s.heap
 bare:AllBare s.gens
def CE (outer:List Env)(P:Program)(w:World)(H:Hp)(s:Shared)(Q:VK)(u:Value)(s':Shared):Prop:=
 ∃ v H',s'.os=s.os/\AllBare s'.gens/\Un (frs outer) [] H H' s.heap s'.heap/\HOk P w H' s'.heap/\RelV v u/\Q v H'
def CR (CX:CXT)(outer:List Env)(P:Program)(w:World)(H:Hp)(s:Shared)(Q:VK)(E:XK)(r:Result)(s':Shared):Prop:=
 match r with
 | .ok (.ret u)=>CE outer P w H s Q u s'
 | .ok _=>False
 | .error e=>CX outer H s E e s'
structure p8 (P:Program) (w:World) (K:W.Frag) (mg:Str->Option Value) (base:Heap) (CX:CXT) (k:Nat) (f:Addr) (fd:FuncData) (ps:List Str) (sp:Sp):Prop where
 len:∀ vs H Q E,sp vs H Q E->vs.length=ps.length
 run:∀ (A:Around) (outer:List Env) (s:Shared) (H:Hp) (args:Args) (us:List Value) (vs:List V) (Q:VK) (E:XK),M7 k A->aS1 P w K mg base A outer s H->BindsTo s fd args (ps.zip us)->o6 vs us->sp vs H Q E ->
  codeAny (model P w) A (.call (.ref f) args) (CR CX outer P w H s Q E) s
theorem p8.mono {P:Program}{w:World}{K:W.Frag}{mg:Str->Option Value}{base:Heap}{CX:CXT}{j k:Nat}{f:Addr}{fd:FuncData}{ps:List Str}{sp:Sp}(F:p8 P w K mg base CX j f fd ps sp)(h:j<=k) :
  p8 P w K mg base CX k f fd ps sp:=⟨F.len,fun A outer s H args us vs Q E hr=>F.run A outer s H args us vs Q E (hr.mono h)⟩
section
variable {X:Cx} {pins:List (Addr × Obj)} {σ:St} {H:Hp} {s s':Shared}
theorem Inv.env0 (I:Inv X pins σ H s):aS1 X.prog X.w X.K X.mg X.base X.A X.stack s H:=
 ⟨I.ok.frames,I.ok.mod,I.bs,o7 I.ok.bsz I.sz,I.stack,I.stkFree,I.hok,I.bare⟩
theorem Inv.after {Q:VK}{u:Value}(I:Inv X pins σ H s)(h:CE X.stack X.prog X.w H s Q u s'):EP X pins σ Q u s':=by
 obtain⟨v,H',os,bare,un,hok,r,q⟩:=h
 obtain⟨hh,g,d,t,os'⟩:=s'
 obtain rfl:os'=s.os:=os
 exact⟨v,H',I.call (h':=hh) (g':=g) (d':=d) (t':=t) (ch:=[]) un hok bare (fun b z=>absurd z (by simp)),r,q⟩
end
def bd5 (sp:Sp)(dvs:List V)(E:XK)(t:TA):TE:=fun σ H Q=>t σ H fun vs H1=>sp (vs++dvs) H1 Q E
def Binds (K:W.Frag)(fd:FuncData)(ps:List Str)(ds:List Value):Prop:=
 ∀ (s:Shared) (us:List Value),K.In s.heap->(us++ds).length=ps.length->BindsTo s fd ⟨us,[]⟩ (ps.zip (us++ds))
theorem Binds.all {K:W.Frag}{fd:FuncData}{ps:List Str}(h:∀ us:List Value,us.length=ps.length->bindArgs fd ⟨us,[]⟩=pure (ps.zip us)):Binds K fd ps []:=fun s us _ hl=>by
 rw[X6]at hl ⊢
 exact .of_eq (h us hl)
def Z8 (CX:CXT)(X:Cx)(E:XK):Prop:=∀ (pins:List (Addr × Obj)) (σ:St) (H:Hp) (s:Shared) (e:Value) (s':Shared),Inv X pins σ H s->CX X.stack H s E e s'->X.xe e s'
section
variable {X:Cx} {CX:CXT} {k:Nat} {f C:Addr} {fd:FuncData} {ps:List Str} {sp:Sp} {dvs:List V} {ds:List Value} {E:XK} {x m:Str} {p pos apos:Pos} {e o:Expr} {es:List Expr} {ta:TE} {t:TA}
theorem aW8 {pins:List (Addr × Obj)}{σ:St}{H:Hp}{s:Shared}{Q:VK}{us:List Value}{vs:List V}(F:p8 X.prog X.w X.K X.mg X.base CX k f fd ps sp)(hr:M7 k X.A)(hb:Binds X.K fd ps ds)(hd:o6 dvs ds)(hx:Z8 CX X E)
  (I:Inv X pins σ H s)(r:o6 vs us)(h:sp (vs++dvs) H Q E):wpAny (model X.prog X.w) X.A (call (.ref f) us) (EP X pins σ Q) X.xe s:=by
 have r2:o6 (vs++dvs) (us++ds):=r.append hd
 have hl:(us++ds).length=ps.length:=by rw[<- r2.length];exact F.len _ _ _ _ h
 refine wpAny_call (codeAny_mono (F.run X.A X.stack s H ⟨us,[]⟩ (us++ds) (vs++dvs) Q E hr I.env0 (hb s us I.kIn hl) r2 h) fun r s' hq=>?_)
 cases r with
 | error e=>exact hx pins σ H s e s' I hq
 | ok fl =>
  cases fl with
  | ret u=>exact I.after hq
  | next=>exact False.elim hq
  | brk=>exact False.elim hq
  | cont=>exact False.elim hq
theorem p0 (F:p8 X.prog X.w X.K X.mg X.base CX k f fd ps sp)(hr:M7 k X.A)(hg:Gl X x)(hm:X.mg x=some (.ref f))(hk:g8 X.K (.ref f)=true)(hb:Binds X.K fd ps ds)(hd:o6 dvs ds)(hx:Z8 CX X E)
  (ha:PA X (e::es) t)(hdb:(x == ("__debug__":Str))=false:=by decide)(he:starEach (e::es) X.env=(false,eval e X.env)::starEach es X.env:=by rfl)(hpl:(backTo pos (starEach es X.env)).any (·.1)=false:=by rfl) :
  PE X (.Call (.Name x p) (e::es) [] pos) (bd5 sp dvs E t):=by
 intro pins s σ H Q I h
 refine wpAny_Call_Name_kw (S5 I hg hm ?_ hdb)
 refine PySem.W.callWith_K (h₀:=X.base) I.ok.mod.kin hk (thn (ha pos pins s σ H _ I h) fun us s1 ⟨vs,H1,I1,r,q⟩=>⟨I1.kIn,?_⟩) he hpl
 exact aW8 F hr hb hd hx I1 r q
structure Mk (K:W.Frag) (C f:Addr):Prop where
 makes:PySem.W.makesIn K C=true
 init:PySem.W.findIn K (.ref C) "__init__"=some (some (.ref f))
 fn:PySem.W.isFn K (.ref f)=true
 kp:g8 K (.ref C)=true
end
section
variable {X:Cx} {CX:CXT} {k:Nat} {f C:Addr} {fd:FuncData} {ps ks:List Str} {sp:Sp} {E:XK} {x m:Str} {p pos apos kpos:Pos} {e o:Expr} {es:List Expr} {kws:List Keyword} {te ta:TE} {t tk:TA} {nm:Option Str}
structure bk8 (K:W.Frag) (fd:FuncData) (ps ks:List Str) (g:List Value->List Value->List Value) (gV:List V->List V->List V):Prop where
 to:∀ (s:Shared) (us ws:List Value),K.In s.heap->(g us ws).length=ps.length->BindsTo s fd ⟨us,ks.zip ws⟩ (ps.zip (g us ws))
 rel:∀ {vs:List V} {us:List Value} {zs:List V} {ws:List Value},o6 vs us->o6 zs ws->o6 (gV vs zs) (g us ws)
variable {g:List Value->List Value->List Value} {gV:List V->List V->List V}
end
structure t7 (N P:List Str) (sc:Scope):Prop where
 kind:sc.kind=.function
 co:sc.isCoroutine=false
 gen:sc.isGenerator=false
 nd:N.Nodup
 pre:N.take P.length=P
 par:∀ x∈P,sc.names.lookup x=some .local\/sc.names.lookup x=some .cell
 nofree:∀ y∈sc.names,y.2≠.free
theorem aj4 {kindOf:Str->Option NameKind}{x:Str}:∀ {binds:List (Str × Value)} {m:Str->Option Value},(∀ v,(x,v)∉binds)->bindL kindOf binds m x=m x
 | [],_,_=>rfl
 | (n,v)::r,m,h=>by
  unfold bindL
  rw[aj4 fun w hw=>h w (a7 _ hw)]
  split
  ·have:x≠n:=by rintro rfl;exact h v b9
   simp[this]
  ·rfl
theorem aj6 {kindOf:Str->Option NameKind}{x:Str}:∀ {binds:List (Str × Value)} {m:Str->Option Value},(∀ v,(x,v)∉binds)->bindC kindOf binds m x=m x
 | [],_,_=>rfl
 | (n,v)::r,m,h=>by
  unfold bindC
  rw[aj6 fun w hw=>h w (a7 _ hw)]
  split
  ·rfl
  ·have:x≠n:=by rintro rfl;exact h v b9
   simp[this]
theorem aj5 {kindOf:Str->Option NameKind}{x:Str}{v:Value}:∀ {P:List Str} {vs:List Value} {i:Nat} {m:Str->Option Value},P.Nodup->P[i]?=some x->vs[i]?=some v->kindOf x=some .local ->
  bindL kindOf (P.zip vs) m x=some v
 | [],_,_,_,_,h,_,_=>by simp at h
 | _::_,[],_,_,_,_,h,_=>by simp at h
 | p::P,w::vs,0,m,nd,h1,h2,hk=>by
  simp at h1 h2;subst h1;subst h2
  show bindL kindOf ((p,w)::P.zip vs) m p=_
  unfold bindL
  rw[aj4 fun v hv=>(F1.mp nd).1 (at1 hv).1,if_pos hk]
  simp
 | p::P,w::vs,i+1,m,nd,h1,h2,hk=>by
  show bindL kindOf ((p,w)::P.zip vs) m x=_
  unfold bindL
  exact aj5 (i:=i) (F1.mp nd).2 (by simpa using h1) (by simpa using h2) hk
theorem aj7 {kindOf:Str->Option NameKind}{x:Str}{v:Value}:∀ {P:List Str} {vs:List Value} {i:Nat} {m:Str->Option Value},P.Nodup->P[i]?=some x->vs[i]?=some v->kindOf x≠some .local ->
  bindC kindOf (P.zip vs) m x=some v
 | [],_,_,_,_,h,_,_=>by simp at h
 | _::_,[],_,_,_,_,h,_=>by simp at h
 | p::P,w::vs,0,m,nd,h1,h2,hk=>by
  simp at h1 h2;subst h1;subst h2
  show bindC kindOf ((p,w)::P.zip vs) m p=_
  unfold bindC
  rw[aj6 fun v hv=>(F1.mp nd).1 (at1 hv).1,if_neg hk]
  simp
 | p::P,w::vs,i+1,m,nd,h1,h2,hk=>by
  show bindC kindOf ((p,w)::P.zip vs) m x=_
  unfold bindC
  exact aj7 (i:=i) (F1.mp nd).2 (by simpa using h1) (by simpa using h2) hk
def start (N:List Str)(vs:List V):St:=vs.map some++List.replicate (N.length - vs.length) none
def O3 (CX:CXT)(P:Program)(w:World)(K:W.Frag)(mg:Str->Option Value)(base:Heap)(N:List Str)(qual:Str)(scope:Scope)(f:Addr)(cd:Value)(A:Around)(outer:List Env)(s:Shared)(H:Hp)(E:XK):Cx where
 prog:=P
 w:=w
 K:=K
 mg:=mg
 base:=base
 A:=A.deeper (envOfC qual scope s.heap.objs.size f cd)
 N:=N
 s₀:=s
 H₀:=H
 env:=envOfC qual scope s.heap.objs.size f cd
 outer:=outer
 stack:=envOfC qual scope s.heap.objs.size f cd::outer
 ex:=[]
 calm:=true
 fn:=fun _=>true
 pn:=[]
 xe:=fun e s'=>wpAny (model P w) (A.deeper (envOfC qual scope s.heap.objs.size f cd)) (leaving (envOfC qual scope s.heap.objs.size f cd) e) (fun _ s''=>CX outer H s E e s'') (fun e' s''=>CX outer H s E e' s'') s'
theorem as5 {sc:Scope}{n:Nat}{x:Str}(h:sc.names.lookup x=some .cell):∃ c,(cellsFrom n sc.names []).lookup x=some c:=by
 have q:=PySem.W.cellsFrom_some sc.names n [] (.inl h)
 exact C5.mp q
theorem aD7 {CX:CXT}{P:Program}{w:World}{K:W.Frag}{mg:Str->Option Value}{base:Heap}{N ps:List Str}{qual:Str}{scope:Scope}{f:Addr}{cd:Value}{A:Around}{outer:List Env}{s s1:Shared}{H:Hp}{E:XK}{us:List Value}{vs:List V}
  (S:t7 N ps scope)(hd:A.handled=none)(e0:aS1 P w K mg base A outer s H)(hl:vs.length=ps.length)(r:o6 vs us)
  (x:InCallC s s.heap.objs.size (bindL (envOfC qual scope s.heap.objs.size f cd).kindOf (ps.zip us) fun _=>none) (cellsFrom (s.heap.objs.size+1) scope.names []) (bindC (envOfC qual scope s.heap.objs.size f cd).kindOf (ps.zip us) fun _=>none) s1) :
  Inv (O3 CX P w K mg base N qual scope f cd A outer s H E) [] (start N vs) H s1:=by
 have hpl:ps.length<=N.length:=by have:=congrArg N4 S.pre;rw[k9]at this;omega
 obtain⟨h1,tk,rfl,hk⟩:=x.done
 have noA:∀ b:Addr,b∉(O3 CX P w K mg base N qual scope f cd A outer s H E).ex:=fun b z=>absurd (show b∈([]:List Addr) from z) (by simp)
 refine⟨⟨e0.mod,S.kind,rfl,rfl,b4 _,fun y z c h1 h2=>?_,fun y hy=>?_,fun y c _ h=>?_,fun _=>hd,Around.frames_deeper e0.frames,.inr ⟨rfl,rfl⟩,fun b z=>absurd z (noA b),e0.bs,e0.bsz,fun b _ _=>noA b,fun b z=>absurd z (noA b),e0.funs,e0.frf⟩,
  rfl,e0.bare,Un.kept hk,⟨_,x.toInCall.ns,fun i y v h1 h2 h3=>?_⟩,fun y c h=>⟨_,x.cell y c h⟩,e0.hok.fresh (b4 _),fun y c h=>?_,fun p hp=>absurd (show p∈([]:List (Addr × Obj)) from hp) (by simp),e0.hok.kept hk,?_⟩
 ·exact name_of_addr x.apart (PySem.mem_of_lookup h1) (PySem.mem_of_lookup h2)
 ·have hy:scope.names.lookup y=some .cell\/scope.names.lookup y=some .free:=hy
  rcases hy with hy | hy
  ·exact as5 hy
  ·exact absurd rfl (S.nofree _ (PySem.mem_of_lookup hy))
 ·exact an1 (x.above y c (PySem.mem_of_lookup h))
 ·have hi:i<vs.length:=by
   unfold start at h2
   by_cases hi:i<vs.length
   ·exact hi
   ·rw[t9 (by simpa using hi)]at h2
    rw[List.getElem?_replicate]at h2
    split at h2<;>cases h2
  have ha:vs[i]?=some v:=by
   unfold start at h2
   rw[G1 (by simpa using hi),l9]at h2
   cases e:vs[i]? with
   | none=>rw[e]at h2;cases h2
   | some a=>rw[e]at h2;cases h2;rfl
  obtain⟨u,hu,rv⟩:=r.get ha
  have hp:ps[i]?=some y:=by
   rw[<- S.pre,G4 (by omega)];exact h1
  have ndP:ps.Nodup:=by rw[<- S.pre];exact S.nd.sublist (R4 _ _)
  refine⟨u,rv,?_⟩
  rcases S.par y (a9 hp) with k | k
  ·exact .inl ⟨k,aj5 ndP hp hu k⟩
  ·obtain⟨c,e⟩:=as5 (n:=s.heap.objs.size+1) k
   refine .inr ⟨.inl k,c,e,?_⟩
   have q:=x.cell y c e
   rw[aj7 ndP hp hu (by show scope.names.lookup y≠_;rw[k];decide)]at q
   exact q
 ·exact e0.hok.fresh (an1 (x.above y c (PySem.mem_of_lookup h)))
 ·unfold start
  show _=N.length
  rw[c6,b5,List.length_replicate]
  omega
theorem aV0 {CX:CXT} {P:Program} {w:World} {K:W.Frag} {mg:Str->Option Value} {base:Heap} {k:Nat} {f:Addr} {name qual:Str} {params:Arguments} {body:List Stmt} {scope:Scope} {dV kV doc pm cdv ct oc:Value} {an od:Option Addr}
  {osl:Array (Option Value)} {N ps:List Str} {sp:Sp} (lk:K.lookup f=some ⟨oc,od,.func (j5 name qual params body scope dV kV doc pm an cdv ct),osl⟩) (hcd:i8 K cdv qual=true) (S:t7 N ps scope)
  (len:∀ vs H Q E,sp vs H Q E->vs.length=ps.length)
  (hbody : ∀ (A : Around) (outer : List Env) (s : Shared) (H : Hp) (vs : List V) (Q : VK) (E : XK), M7 k (A.deeper (envOfC qual scope s.heap.objs.size f cdv)) -> sp vs H Q E ->
   ∃ t,PSs (O3 CX P w K mg base N qual scope f cdv A outer s H E) body t/\t { nx:=fun _ H'=>Q .non H',rt:=Q } (start N vs) H) :
  p8 P w K mg base CX (k+1) f (j5 name qual params body scope dV kV doc pm an cdv ct) ps sp:=by
 refine⟨len,fun A outer s H args us vs Q E hr e0 hb r hsp=>?_⟩
 have hl:=len _ _ _ _ hsp
 have KX:K.In s.heap:=e0.mod.kin.keeps fun b o e=>(e0.bs b o e).1
 have lim:s.heap.NoLimit:=e0.mod.nolimit.keeps fun b o e=>(e0.bs b o e).1
 have hkind:∀ y∈ps.zip us,scope.names.lookup y.1=some .local\/(scope.names.lookup y.1=some .cell/\((cellsFrom (s.heap.objs.size+1) scope.names []).lookup y.1).isSome=true):=fun⟨n,v⟩ hy=>by
  rcases S.par n (at1 hy).1 with q | q
  ·exact .inl q
  ·exact .inr ⟨q,PySem.W.cellsFrom_some _ _ _ (.inl q)⟩
 refine codeAny_call_function hr.depth (KX _ _ lk) rfl S.co S.gen rfl (PySem.W.codeRec_of KX hcd) (hb _ _ _ _ ?_)
 refine wpAny_newFunctionEnv_cells S.kind hkind fun env he s1 x=>?_
 subst he
 refine⟨lim.keeps x.toInCall.keep,codeAny_func ?_⟩
 obtain⟨t,ht,hq⟩:=hbody A outer s H vs Q E (hr.deeper _) hsp
 have I:Inv (O3 CX P w K mg base N qual scope f cdv A outer s H E) [] (start N vs) H s1:=aD7 S hr.hd e0 hl r x
 refine wpAny_mono (ht [] s1 (start N vs) H _ I hq) (fun fl s' hs=>?_) fun e s' hs=>hs
 have fin:∀ {σ':St} {H':Hp} {v:V} {u:Value},Inv (O3 CX P w K mg base N qual scope f cdv A outer s H E) [] σ' H' s'->RelV v u->Q v H'->CE outer P w H s Q u s':=
  fun {σ' H' v u} J rv q=>⟨v,H',J.os,J.bare,J.base,J.hok,rv,q⟩
 cases fl with
 | ret u =>
  obtain⟨v,σ',H',J,rv,q⟩:=hs
  exact fin J rv q
 | next =>
  obtain⟨σ',H',J,q⟩:=hs
  exact fin (v:=V.non) (u:=Value.none) J rfl q
 | brk =>
  obtain⟨_,_,_,q⟩:=hs
  exact False.elim q
 | cont =>
  obtain⟨_,_,_,q⟩:=hs
  exact False.elim q
section
variable {X:Cx} {x:Str} {p pos:Pos} {e:Expr} {es:List Expr} {t:TA} {id T:String} {r:List V->Hp->VK->Prop}
def tCB (r:List V->Hp->VK->Prop)(t:TA):TE:=fun σ H Q=>t σ H fun vs H1=>r vs H1 Q
theorem k8 (hc:G0 X (.builtin id) r)(hg:Gl X x)(hm:X.mg x=none)(hv:bootBuiltins x=some (.builtin id))(ha:PA X (e::es) t)(hn:x≠"__name__":=by decide)(hdb:(x == ("__debug__":Str))=false:=by decide)
  (he:starEach (e::es) X.env=(false,eval e X.env)::starEach es X.env:=by rfl)(hpl:(backTo pos (starEach es X.env)).any (·.1)=false:=by rfl):PE X (.Call (.Name x p) (e::es) [] pos) (tCB r t):=by
 intro pins s σ H Q I h
 refine wpAny_Call_Name_kw (Z0 I hg hm hv ?_ hn hdb)
 exact PyProof.Rows.callWith_builtin1 (thn (ha pos pins s σ H _ I h) fun us s1 ⟨vs,H1,I1,r1,q1⟩=>hc pins s1 σ H1 vs us Q I1 r1 q1) he hpl
theorem A7 (hc:G0 X (.type T) r)(hg:Gl X x)(hm:X.mg x=none)(hv:bootBuiltins x=some (.type T))(ha:PA X (e::es) t)(hn:x≠"__name__":=by decide)(hdb:(x == ("__debug__":Str))=false:=by decide)
  (he:starEach (e::es) X.env=(false,eval e X.env)::starEach es X.env:=by rfl)(hpl:(backTo pos (starEach es X.env)).any (·.1)=false:=by rfl):PE X (.Call (.Name x p) (e::es) [] pos) (tCB r t):=by
 intro pins s σ H Q I h
 refine wpAny_Call_Name_kw (Z0 I hg hm hv ?_ hn hdb)
 exact PyProof.Rows.callWith_type1 (thn (ha pos pins s σ H _ I h) fun us s1 ⟨vs,H1,I1,r1,q1⟩=>hc pins s1 σ H1 vs us Q I1 r1 q1) he hpl
end
end L2
namespace HT
open PySem PyProof.Rows
def lexLt:List Int->List Int->Bool
 | [],[]=>false
 | [],_::_=>true
 | _::_,[]=>false
 | x::xs,y::ys=>if x=y then lexLt xs ys else decide (x<y)
theorem O2 (x y:Int)(xs ys:List Int):lexLt (x::xs) (y::ys)=if x=y then lexLt xs ys else decide (x<y):=rfl
theorem ag9:lexLt [] []=false:=rfl
theorem af4 (y:Int)(ys:List Int):lexLt [] (y::ys)=true:=rfl
theorem af5 (x:Int)(xs:List Int):lexLt (x::xs) []=false:=rfl
theorem aK9 (A:Around)(s:Shared)(a:Int)(t:Tok)(c:Int)(u:Tok):∃ e,SeqAt.EqAt A s (.int a t) (.int c u) e/\(e=true↔a=c):=
 ⟨(a == c),SeqAt.EqAt.int_int a t c u,by simp⟩
theorem aH9 (A:Around)(s:Shared)(a:Int)(t:Tok)(c:Int)(u:Tok)(prog:Program)(w:World)(E:Value->Shared->Prop)(Q:Value->Shared->Prop)(h:Q (.bool (decide (a<c))) s) :
  wpAny (model prog w) A (richCompare .Lt (.int a t) (.int c u)) Q E s:=
 (PyProof.Rows.lt_int h:wpAny (model prog w) A (compareOp .Lt (.int a t) (.int c u)) Q E s)
section
open PySem.SeqAt
open PySem.AutoSeq1 (wpAny_loadPart')
open PySem.MeetsSeq PySem.MeetsSeq2 PySem.MeetsSeq3
theorem ag5 (l b:Addr) (items items2:Array Value) (n n2:Nat) (dd dd2:Option Addr) (sl sl2:Array (Option Value)) (ns ms:List Int) (hi:IntsAre items.toList ns) (hj:IntsAre items2.toList ms) :
  Meets (Builtin.«tuple.__lt__» ⟨[.ref l,.ref b],[]⟩)
   (fun _ R s => s.heap.get? l = some { cls := .type "tuple", dict := dd, data := .seq items n, slots := sl } /\ s.heap.get? b = some { cls := .type "tuple", dict := dd2, data := .seq items2 n2, slots := sl2 } /\
    R (.ok (.ret (.bool (lexLt ns ms)))) s):=
 .of_wp fun prog w A R s h=>by
  obtain⟨hp,g,d,tk,os⟩:=s;obtain⟨hl,hb,h⟩:=h
  have f2:=AutoSeq1.sub_tuple_tuple
  have z1:items.size=ns.length:=by rw[<- hi.length];simp
  have z2:items2.size=ms.length:=by rw[<- hj.length];simp
  wp_walk using wpAny_loadPart' hl,wpAny_loadPart' hb,wpAny_forIn_list _ (fun rest b s'=>b.1=none/\s'=⟨hp,g,d,tk,os⟩/\∃ (vs ws:List Value) (ns' ms':List Int),rest=vs.zip ws /\
   IntsAre vs ns'/\IntsAre ws ms'/\ns'.length+items2.size=ms'.length+items.size/\R (.ok (.ret (.bool (lexLt ns' ms')))) ⟨hp,g,d,tk,os⟩) _
  case turn =>
   rintro⟨y,x⟩ rest b s' ⟨hb',rfl,vs,ws,ns',ms',hz,hvi,hwi,hlen,hR⟩
   cases hvi with
   | nil=>rw[List.zip_nil_left]at hz;cases hz
   | cons a t hvi' =>
    cases hwi with
    | nil=>rw[List.zip_nil_right]at hz;cases hz
    | cons c u hwi' =>
     rw[ag2]at hz
     injection hz with hyx hrest
     injection hyx with hy hx
     subst hy hx
     rw[O2]at hR
     simp only[d6]at hlen
     obtain⟨e,he,hiff⟩:=aK9 A.in1 ⟨hp,g,d,tk,os⟩ a t c u
     refine wpAny_bind (he prog w _ _ ?_)
     cases e with
     | true =>
      rw[if_pos (hiff.mp rfl)]at hR
      wp_walk
      exact⟨rfl,rfl,_,_,_,_,hrest,hvi',hwi',by omega,hR⟩
     | false =>
      rw[if_neg (fun q=>absurd (hiff.mpr q) b6)]at hR
      have hri:=aH9 A.in1 ⟨hp,g,d,tk,os⟩ a t c u prog w
      wp_walk using hri
      exact⟨_,rfl,by simpa using hR⟩
  case fin =>
   rintro⟨b1,b2⟩ s' ⟨hb',rfl,vs,ws,ns',ms',hz,hvi,hwi,hlen,hR⟩
   simp only at hb'
   subst hb'
   have hv:lexLt ns' ms'=decide (items.size<items2.size):=by
    cases hvi with
    | nil =>
     cases hwi with
     | nil =>
      simp only[N5]at hlen
      rw[ag9]
      exact(decide_eq_false (by omega)).symm
     | cons c u hw =>
      simp only[N5,d6]at hlen
      rw[af4]
      exact(decide_eq_true (by omega)).symm
    | cons a t hv =>
     cases hwi with
     | nil =>
      simp only[N5,d6]at hlen
      rw[af5]
      exact(decide_eq_false (by omega)).symm
     | cons c u hw =>
      rw[ag2]at hz
      cases hz
   rw[hv]at hR
   wp_walk
   exact⟨_,rfl,by simpa [Builtin.Tuple.tupleCompareSizes] using hR⟩
  case h =>
   exact⟨rfl,rfl,items.toList,items2.toList,ns,ms,rfl,hi,hj,by omega,h⟩
end
section
variable {prog:Program} {w:World} {A:Around} {E:Value->Shared->Prop} {s:Shared}
theorem av7 {l b:Addr}{items items2:Array Value}{ns ms:List Int}{Q:Value->Shared->Prop}(hl:IsTup s.heap l items)(hb:IsTup s.heap b items2)(hi:IntsAre items.toList ns)(hj:IntsAre items2.toList ms)
  (hu:A.units<cLine)(h:Q (.bool (lexLt ns ms)) s):wpAny (model prog w) A (compareOp .Lt (.ref l) (.ref b)) Q E s:=by
 obtain⟨⟨cls,dd,data,sl⟩,ho,hc,n,hd⟩:=id hl
 obtain⟨⟨cls2,dd2,data2,sl2⟩,ho2,hc2,n2,hd2⟩:=id hb
 simp only at hc hd hc2 hd2
 subst hc hd hc2 hd2
 exact richCompare_meets_room (op:=.Lt) ⟨_,ho,rfl⟩ ⟨_,ho2,rfl⟩ PySem.F.slot_tuple_lt PySem.F.entry_tuple_lt (PySem.F.args_tuple_lt_2 _ _) (ag5 l b items items2 n n2 dd dd2 sl sl2 ns ms hi hj)
  ⟨ho,ho2,show Value.bool (lexLt ns ms)≠Value.notImplemented/\Q (.bool (lexLt ns ms)) s from ⟨(fun x=>nomatch x),h⟩⟩ hu
def sIx (n d:Nat):Option Int->Nat
 | none=>d
 | some v=>if v<0 then (v+(n:Int)).toNat else min v.toNat n
theorem aH6 (n d:Nat):sIx n d none=d:=rfl
theorem aN7 (n d k:Nat):sIx n d (some (k:Int))=min k n:=by
 show (if (k:Int)<0 then ((k:Int)+(n:Int)).toNat else min (k:Int).toNat n)=min k n
 rw[if_neg (by omega),S7]
end
end HT
namespace L2
open PySem PySem.Spec PyProof.Rows
abbrev TO:=St->Hp->(Option Int->Hp->Prop)->Prop
def PO (X:Cx)(e:Option Expr)(t:TO):Prop:=
 ∀ (pins:List (Addr × Obj)) (s:Shared) (σ:St) (H:Hp) (Q:Option Int->Hp->Prop),Inv X pins σ H s->t σ H Q ->
  wpAny (model X.prog X.w) X.A (evalPart e X.env) (fun u s'=>∃ o H',Inv X pins σ H' s'/\IsPart u o/\Q o H') X.xe s
def aN1:TO:=fun _ H Q=>Q none H
def bc9 (t:TE):TO:=fun σ H Q=>t σ H fun x H1=>∃ i,x=.int i/\Q (some i) H1
theorem intsAre_of {ns:List Int}:∀ {us:List Value},o6 (ns.map V.int) us->IntsAre us ns:=by
 induction ns with
 | nil=>intro us r;rw[List.map_nil]at r;cases r;exact .nil
 | cons n ns ih =>
  intro us r
  rw[j8]at r
  cases r with
  | cons r1 r2 =>
   obtain⟨t,e⟩:=r1
   subst e
   exact .cons n t (ih r2)
section
variable {X:Cx} {e:Expr} {te:TE} {lo hi:Option Expr} {tl th:TO} {pos p2:Pos}
theorem E6:PO X none aN1:=by
 intro pins s σ H Q I h
 rw[evalPart_none]
 exact wpAny_pure ⟨none,H,I,.none,h⟩
theorem C2 (h:PE X e te):PO X (some e) (bc9 te):=by
 intro pins s σ H Q I hw
 rw[evalPart_some]
 refine thn (h pins s σ H _ I hw) fun u s1 ⟨x,H1,I1,r1,q1⟩=>?_
 obtain⟨i,rfl,q⟩:=q1
 obtain⟨t,rfl⟩:=r1
 exact⟨some i,H1,I1,.int i t,q⟩
def SlR (X:Cx)(r:V->Option Int->Option Int->Hp->VK->Prop):Prop:=
 ∀ (pins:List (Addr × Obj)) (s:Shared) (σ:St) (H:Hp) (x:V) (v vl vu:Value) (lo hi:Option Int) (sl:Addr) (Q:VK),Inv X pins σ H s->RelV x v->s.heap.IsSliceOf sl vl vu .none->IsPart vl lo->IsPart vu hi->r x lo hi H Q ->
  ∃ T id,typeLookup (.type T) "__getitem__"=pure (some (.builtin id))/\s.TypeIs v T/\wpAny (model X.prog X.w) X.A (getItem v (.ref sl)) (EP X pins σ Q) X.xe s
def tSl (r:V->Option Int->Option Int->Hp->VK->Prop)(te:TE)(tl th:TO):TE:=fun σ H Q=>te σ H fun x H1=>tl σ H1 fun l H2=>th σ H2 fun u H3=>r x l u H3 Q
theorem B9 {r:V->Option Int->Option Int->Hp->VK->Prop}(hr:SlR X r)(he:PE X e te)(hl:PO X lo tl)(hu:PO X hi th):PE X (.Subscript e (.Slice lo hi none p2) pos) (tSl r te tl th):=by
 intro pins s σ H Q I h
 refine Subscript_ (thn (he pins s σ H _ I h) fun v s1 ⟨x,H1,I1,r1,q1⟩=>?_)
 refine wpAny_Slice (thn (hl pins s1 σ H1 _ I1 q1) fun vl s2 ⟨l,H2,I2,pl,q2⟩=>thn (hu pins s2 σ H2 _ I2 q2) fun vu s3 ⟨u,H3,I3,pu,q3⟩=>?_)
 rw[evalPart_none]
 refine wpAny_pure ?_
 have I4:Inv X pins σ H3 { s3 with heap:=s3.heap.push { cls:=.type "slice",data:=.fields #[vl,vu,.none] } }:=I3.kept (t':=s3.toks) fun b ob q=>a5 _ q
 obtain⟨T,id,hT,ht,hg⟩:=hr pins { s3 with heap:=s3.heap.push { cls:=.type "slice",data:=.fields #[vl,vu,.none] } } σ H3 x v vl vu l u s3.heap.objs.size Q I4 r1 (Heap.IsSliceOf.new ..) pl pu q3
 show wpAny (model X.prog X.w) X.A (subscriptTail e (.Slice lo hi none p2) v (.ref s3.heap.objs.size)) (EP X pins σ Q) X.xe { s3 with heap:=s3.heap.push { cls:=.type "slice",data:=.fields #[vl,vu,.none] } }
 exact tail_any (ops:=[.ref s3.heap.objs.size,v]) ht hT hg (by with_unfolding_all rfl)
def am3 (xs:List V)(lo hi:Option Int):List V:=(xs.drop (HT.sIx xs.length 0 lo)).take (HT.sIx xs.length xs.length hi - HT.sIx xs.length 0 lo)
theorem as1 (xs:List V)(lo hi:Option Int):(am3 xs lo hi).length<=xs.length:=by
 unfold am3
 rw[k9,n9]
 omega
def bj4 (K:W.Frag):R2:=fun x y H Q=>∃ a b ns ms,x=.ref a/\y=.ref b/\SqT K H a (ns.map V.int)/\SqT K H b (ms.map V.int)/\Q (.bl (HT.lexLt ns ms)) H
theorem aX5 (hu:X.A.units<cLine):OpR X (compareOp .Lt) (bj4 X.K):=by
 intro pins s σ H x y v u Q I rx ry h
 obtain⟨a,b,ns,ms,rfl,rfl,ha,hb,q⟩:=h
 cases rx
 cases ry
 obtain⟨its,r1,p1,_⟩:=I.tuple ha
 obtain⟨its2,r2,p2,_⟩:=I.tuple hb
 have i1:IntsAre its.toArray.toList ns:=intsAre_of r1
 have i2:IntsAre its2.toArray.toList ms:=intsAre_of r2
 exact HT.av7 p1 p2 i1 i2 hu ⟨.bl (HT.lexLt ns ms),H,I,rfl,q⟩
end
def ixN (n:Nat)(i:Int):Option Nat:=if 0<=i then (if i<n then some i.toNat else none) else if -(n:Int)<=i then some (i+n).toNat else none
def atI {α:Type}(xs:List α)(i:Int):Option α:=(ixN xs.length i).bind fun j=>xs[j]?
theorem ac4 {n:Nat}{i:Int}{j:Nat}(h:ixN n i=some j):seqIndex? i n=some j/\j<n /\ -(n:Int)<=i/\i<n:=by
 unfold ixN at h
 by_cases h0:0<=i
 ·rw[if_pos h0]at h
  by_cases h1:i<n
  ·rw[if_pos h1]at h
   have e:i.toNat=j:=Option.some.inj h
   exact⟨by rw[seqIndex_of h0 h1,e],by omega,by omega,h1⟩
  ·rw[if_neg h1]at h;cases h
 ·rw[if_neg h0]at h
  by_cases h1:-(n:Int)<=i
  ·rw[if_pos h1]at h
   have e:(i+n).toNat=j:=Option.some.inj h
   exact⟨by rw[seqIndex_neg (by omega) h1,e],by omega,h1,by omega⟩
  ·rw[if_neg h1]at h;cases h
theorem am5 {α:Type}{xs:List α}{i:Int}{v:α}(h:atI xs i=some v):∃ j,seqIndex? i xs.length=some j/\xs[j]?=some v/\j<xs.length /\ -(xs.length:Int)<=i/\i<xs.length:=by
 unfold atI at h
 cases e:ixN xs.length i with
 | none=>rw[e]at h;cases h
 | some j =>
  rw[e]at h
  obtain⟨h1,h2,h3,h4⟩:=ac4 e
  exact⟨j,h1,h,h2,h3,h4⟩
theorem o5 {α:Type}{xs:List α}{j:Nat}{v:α}(h:xs[j]?=some v):atI xs (j:Int)=some v:=by
 have hj:j<xs.length:=(a8.mp h).1
 have e:ixN xs.length (j:Int)=some j:=by
  unfold ixN
  rw[if_pos (by omega),if_pos (by omega)];simp
 unfold atI;rw[e];exact h
def aA7 (b:Expr):Prop:=∀ o i,subscripted b false o i=operate [o,i] (getItem o i)
def IxR (X:Cx)(r:R2):Prop:=
 ∀ (value slice:Expr) (pins:List (Addr × Obj)) (s:Shared) (σ:St) (H:Hp) (x y:V) (v u:Value) (Q:VK),Inv X pins σ H s->RelV x v->RelV y u->r x y H Q ->
  subscripted slice false v u=operate [v,u] (getItem v u)->wpAny (model X.prog X.w) X.A (subscriptTail value slice v u) (EP X pins σ Q) X.xe s
def MtR (X:Cx)(id:String)(r:V->List V->Hp->VK->Prop):Prop:=
 ∀ (pins:List (Addr × Obj)) (s:Shared) (σ:St) (H:Hp) (x:V) (xs:List V) (v:Value) (us:List Value) (Q:VK),Inv X pins σ H s->RelV x v->o6 xs us->r x xs H Q ->
  wpAny (model X.prog X.w) X.A (call (.builtin id) (v::us)) (EP X pins σ Q) X.xe s
section
variable {X:Cx} {a b:Expr} {ta tb:TE} {pos:Pos}
theorem IxR.or {r r':R2}(h:IxR X r)(h':IxR X r'):IxR X (fun x y H Q=>r x y H Q\/r' x y H Q):=by
 intro value slice pins s σ H x y v u Q I rx ry q hs
 rcases q with q | q
 ·exact h value slice pins s σ H x y v u Q I rx ry q hs
 ·exact h' value slice pins s σ H x y v u Q I rx ry q hs
theorem B4 {r:R2}(hr:IxR X r)(ha:PE X a ta)(hb:PE X b tb)(hs:aA7 b):PE X (.Subscript a b pos) (tOp r ta tb):=by
 intro pins s σ H Q I h
 exact Subscript_ (aR5 ha hb I h fun v u s2 x y H2 I2 rx ry q=>hr a b pins s2 σ H2 x y v u Q I2 rx ry q (hs _ _))
def be9 (K:W.Frag):R2:=fun x y H Q=>∃ p xs i v,x=.ref p/\y=.int i/\SqL K H p xs/\atI xs i=some v/\Q v H
def be7 (K:W.Frag):R2:=fun x y H Q=>∃ p xs i v,x=.ref p/\y=.int i/\SqT K H p xs/\atI xs i=some v/\Q v H
def be8:R2:=fun x y H Q=>∃ z i c,x=.str z/\y=.int i/\z.length<=sizeLine/\atI z.cps.toList i=some c/\Q (.str ⟨#[c]⟩) H
theorem F3:IxR X (be9 X.K):=by
 intro value slice pins s σ H x y v u Q I rx ry h hs
 obtain⟨p,xs,i,z,rfl,rfl,hq,he,q⟩:=h
 cases rx
 obtain⟨t,rfl⟩:=ry
 obtain⟨its,r,pl,hz⟩:=I.list hq
 obtain⟨j,h1,h2,h3,h4,h5⟩:=am5 he
 obtain⟨w,ew,rw'⟩:=r.get h2
 have hl:=r.length
 have hn:=Y9
 have fin:EP X pins σ Q w s:=⟨z,H,I,rw',q⟩
 by_cases h0:0<=i
 ·have hj:i.toNat=j:=by
   rw[seqIndex_of h0 h5]at h1
   exact Option.some.inj h1
  exact item_listR pl.isList h0 (by omega) (by rw[hj];simpa using ew) fin hs
 ·have hj:(i+(its.toArray.size:Int)).toNat=j:=by
   rw[seqIndex_neg (by omega) h4]at h1
   rw[d3,<- hl]
   exact Option.some.inj h1
  exact subscriptTail_builtinR (x:=w) pl.isList.typeIs slot_list_getitem.lookup
   (wpAny_getItem_list_neg (Q:=fun r s'=>r=w/\EP X pins σ Q r s') pl.isList (by omega) (by rw[d3]<;>omega) (by omega) (by rw[hj];simpa using ew) ⟨rfl,fin⟩) hs
theorem C4:IxR X (be7 X.K):=by
 intro value slice pins s σ H x y v u Q I rx ry h hs
 obtain⟨p,xs,i,z,rfl,rfl,hq,he,q⟩:=h
 cases rx
 obtain⟨t,rfl⟩:=ry
 obtain⟨its,r,pl,hz⟩:=I.tuple hq
 obtain⟨j,h1,h2,h3,h4,h5⟩:=am5 he
 obtain⟨w,ew,rw'⟩:=r.get h2
 have hl:=r.length
 have hn:=Y9
 have fin:EP X pins σ Q w s:=⟨z,H,I,rw',q⟩
 exact subscriptTail_builtinR (x:=w) pl.typeIs slot_tuple_getitem.lookup
  (getItem_tuple (j:=j) (Q:=fun r s'=>r=w/\EP X pins σ Q r s') pl (by omega) (by omega) (by rw[d3,<- hl];exact h1) (by simpa using ew) ⟨rfl,fin⟩) hs
theorem aZ5:IxR X be8:=by
 intro value slice pins s σ H x y v u Q I rx ry h hs
 obtain⟨z,i,c,rfl,rfl,hz,he,q⟩:=h
 obtain⟨t,rfl⟩:=rx
 obtain⟨t',rfl⟩:=ry
 obtain⟨j,h1,h2,h3,h4,h5⟩:=am5 he
 have hl:z.cps.toList.length=z.length:=by simp[Str.length]
 rw[hl]at h1 h4 h5
 have hn:=Y9
 exact tail_any (typeIs_str s z t) slot_str_getitem.lookup (getItem_str (c:=c) (by
  have e1:decide (i < -(2 ^ 63:Int))=false:=decide_eq_false (by omega)
  have e2:decide (i≥2 ^ 63)=false:=decide_eq_false (by omega)
  rw[e1,e2,aF3]) (by rw[h1];simpa using h2) ⟨.str ⟨#[c]⟩,H,I.tok _,⟨_,rfl⟩,q⟩) hs
def rIx (K:W.Frag):R2:=fun x y H Q=>be9 K x y H Q\/be7 K x y H Q\/be8 x y H Q
theorem aZ6:IxR X (rIx X.K):=F3.or (C4.or aZ5)
theorem av6 (its:List Value)(n j:Nat)(u:Value):Obj.mapSeq (·.setIfInBounds j u) { cls:=.type "list",data:=.seq its.toArray n }={ cls:=.type "list",data:=.seq (its.set j u).toArray n }:=by
 simp[Obj.mapSeq]
theorem Inv.lst {pins:List (Addr × Obj)}{σ:St}{H:Hp}{s:Shared}{p:Addr}{xs:List V}(I:Inv X pins σ H s)(h:H p=some (.lst xs)) :
  ∃ (its:List Value) (n:Nat),o6 xs its/\s.heap.get? p=some { cls:=.type "list",data:=.seq its.toArray n }/\xs.length<=sizeLine:=by
 obtain⟨z,its,n,r,e⟩:=I.hok p _ h
 exact⟨its,n,r,e,z⟩
theorem Inv.lstUpd {pins:List (Addr × Obj)}{σ:St}{H:Hp}{s:Shared}{p:Addr}{xs ys:List V}{its its':List Value}{n n':Nat}{f:Obj->Obj}(I:Inv X pins σ H s)(h:H p=some (.lst xs))
  (ho:s.heap.get? p=some { cls:=.type "list",data:=.seq its.toArray n })(hf:f { cls:=.type "list",data:=.seq its.toArray n }={ cls:=.type "list",data:=.seq its'.toArray n' })(r:o6 ys its')(hz:ys.length<=sizeLine)(t:Nat) :
  Inv X pins σ (upd H p (.lst ys)) { s with heap:=s.heap.update p f,toks:=t }:=by
 have e:(s.heap.update p f).get? p=some { cls:=.type "list",data:=.seq its'.toArray n' }:=by
  rw[X7 f ho (by rw[hf]<;>rfl),hf]
 refine I.write (x:=p) (e:=p) (by rw[h];trivial) (.inl rfl) (fun b u hb q=>(u6 _ _ (Ne.symm hb)).trans q) ⟨_,e⟩ ?_
 exact⟨hz,its',n',r,e⟩
def be5:V->V->V->Hp->(Hp->Prop)->Prop:=fun o i v H Q=>∃ p xs k j,o=.ref p/\i=.int k/\H p=some (.lst xs)/\ixN xs.length k=some j/\Q (upd H p (.lst (xs.set j v)))
theorem set_list:bh2 X be5:=by
 intro pins s σ H o i v ov iv u Q I ro ri rv h
 obtain⟨p,xs,k,j,rfl,rfl,hp,hj,q⟩:=h
 cases ro
 obtain⟨t,rfl⟩:=ri
 obtain⟨its,n,r,ho,hz⟩:=I.lst hp
 obtain⟨h1,h2,h3,h4⟩:=ac4 hj
 have hl:=r.length
 have hn:=Y9
 have I':Inv X pins σ (upd H p (.lst (xs.set j v))) { s with heap:=s.heap.update p (Obj.mapSeq (·.setIfInBounds j u)) }:=
  I.lstUpd hp ho (av6 its n j u) (r.set rv j) (by rw[at3];exact hz) s.toks
 by_cases h0:0<=k
 ·have hk:k.toNat=j:=by
   rw[seqIndex_of h0 h4]at h1
   exact Option.some.inj h1
  exact PySem.W.ki_setAt ho h0 (by omega) (by rw[d3,<- hl];exact h4) (by rw[hk];exact⟨_,I',q⟩)
 ·have hk:(k+(its.toArray.size:Int)).toNat=j:=by
   rw[seqIndex_neg (by omega) h3]at h1
   rw[d3,<- hl]
   exact Option.some.inj h1
  exact PySem.W.ki_setBack ho (by omega) (by rw[d3,<- hl];exact h3) (by omega) (by rw[hk];exact⟨_,I',q⟩)
theorem ak6 (lo hi:Option Int)(n:Nat):(sliceBounds lo hi none n).1=((HT.sIx n 0 lo:Nat):Int)/\(sliceBounds lo hi none n).2.1=((HT.sIx n n hi:Nat):Int)/\(sliceBounds lo hi none n).2.2=1:=by
 refine⟨?_,?_,rfl⟩
 ·cases lo with
  | none=>simp[sliceBounds,HT.sIx]
  | some i =>
   simp only[sliceBounds,HT.sIx,aV1,show (1:Int) > 0 by decide,if_true]
   by_cases h:i<0
   ·simp only[h,if_true]<;>omega
   ·simp only[h,if_false]<;>omega
 ·cases hi with
  | none=>simp[sliceBounds,HT.sIx]
  | some i =>
   simp only[sliceBounds,HT.sIx,aV1,show (1:Int) > 0 by decide,if_true]
   by_cases h:i<0
   ·simp only[h,if_true]<;>omega
   ·simp only[h,if_false]<;>omega
theorem ag7 (its:List Value)(lo hi:Option Int):slicePick its.toArray lo hi none=((its.drop (HT.sIx its.length 0 lo)).take (HT.sIx its.length its.length hi - HT.sIx its.length 0 lo)).toArray:=by
 obtain⟨h1,h2,h3⟩:=ak6 lo hi its.toArray.size
 unfold slicePick
 rw[h1,h2,h3]
 simp only[sliceRange_one,pick_run,d3]<;>rfl
def bj3 (K:W.Frag):V->Option Int->Option Int->Hp->VK->Prop:=fun x lo hi H Q=>∃ a xs,x=.ref a/\SqL K H a xs/\∀ p,H p=none->Q (.ref p) (upd H p (.lst (am3 xs lo hi)))
theorem ak7:SlR X (bj3 X.K):=by
 intro pins s σ H x v vl vu lo hi sl Q I rx hs pl pu h
 obtain⟨a,xs,rfl,hx,q⟩:=h
 cases rx
 obtain⟨its,r,ht,hz⟩:=I.list hx
 have hlen:=r.length
 refine⟨"list",_,slot_list_getitem.lookup,ht.isList.typeIs,?_⟩
 refine wpAny_getItem_list_slice ht.isList hs pl pu .none (by simp) ?_ (by rw[d3]<;>omega)
 rw[ag7,<- hlen]
 refine⟨.ref s.heap.objs.size,_,I.laid (t':=s.toks) (o:=.lst (am3 xs lo hi)) (fun b ob q=>a5 _ q) (b4 _) ?_,rfl,q _ (I.hok.fresh (b4 _))⟩
 exact⟨o7 (as1 xs lo hi) hz,_,0,(r.drop (HT.sIx xs.length 0 lo)).take (HT.sIx xs.length xs.length hi - HT.sIx xs.length 0 lo),j3 _ rfl⟩
def aa8:V->Bool
 | .non=>true
 | .bl _=>true
 | .int _=>true
 | .str _=>true
 | _=>false
def eqV:V->V->Bool
 | .non,.non=>true
 | .bl a,.bl b=>a == b
 | .bl a,.int b=>(if a then 1 else 0) == b
 | .int a,.bl b=>a == (if b then 1 else 0)
 | .int a,.int b=>a == b
 | .str a,.str b=>a == b
 | _,_=>false
theorem ba3 {A:Around}{s:Shared}{y x:V}{u v:Value}(ry:RelV y u)(rx:RelV x v)(fy:aa8 y=true)(fx:aa8 x=true):SeqAt.EqAt A s u v (eqV y x):=by
 cases y with
 | non =>
  cases ry
  cases x with
  | non=>cases rx;exact SeqAt.EqAt.same _
  | bl b=>cases rx;exact SeqAt.EqAt.none_bool b
  | int b=>obtain⟨t,rfl⟩:=rx;exact SeqAt.EqAt.none_int b t
  | str b=>obtain⟨t,rfl⟩:=rx;exact SeqAt.EqAt.none_str b t
  | _=>exact absurd (show false=true from fx) b6
 | bl a =>
  cases ry
  cases x with
  | non=>cases rx;exact SeqAt.EqAt.bool_none a
  | bl b=>cases rx;exact SeqAt.EqAt.bool_bool a b
  | int b=>obtain⟨t,rfl⟩:=rx;exact SeqAt.EqAt.bool_int a b t
  | str b=>obtain⟨t,rfl⟩:=rx;exact SeqAt.EqAt.bool_str a b t
  | _=>exact absurd (show false=true from fx) b6
 | int a =>
  obtain⟨t',rfl⟩:=ry
  cases x with
  | non=>cases rx;exact SeqAt.EqAt.int_none a t'
  | bl b=>cases rx;exact SeqAt.EqAt.int_bool a t' b
  | int b=>obtain⟨t,rfl⟩:=rx;exact SeqAt.EqAt.int_int a t' b t
  | str b=>obtain⟨t,rfl⟩:=rx;exact SeqAt.EqAt.int_str a t' b t
  | _=>exact absurd (show false=true from fx) b6
 | str a =>
  obtain⟨t',rfl⟩:=ry
  cases x with
  | non=>cases rx;exact SeqAt.EqAt.str_none a t'
  | bl b=>cases rx;exact SeqAt.EqAt.str_bool a t' b
  | int b=>obtain⟨t,rfl⟩:=rx;exact SeqAt.EqAt.str_int a t' b t
  | str b=>obtain⟨t,rfl⟩:=rx;exact SeqAt.EqAt.str_str a t' b t
  | _=>exact absurd (show false=true from fx) b6
 | _=>exact absurd (show false=true from fy) b6
def eqU (x:V)(u:Value):Bool:=match u with
 | .none=>eqV .non x
 | .bool b=>eqV (.bl b) x
 | .int i _=>eqV (.int i) x
 | .str z _=>eqV (.str z) x
 | _=>false
theorem aK8 {x y:V}{u:Value}(r:RelV y u)(f:aa8 y=true):eqU x u=eqV y x:=by
 cases y with
 | non=>cases r;rfl
 | bl b=>cases r;rfl
 | int i=>obtain⟨t,rfl⟩:=r;rfl
 | str z=>obtain⟨t,rfl⟩:=r;rfl
 | _=>exact absurd (show false=true from f) b6
theorem am6 {x:V}:∀ {xs:List V} {us:List Value},o6 xs us->xs.all aa8=true->us.any (eqU x)=xs.any fun y=>eqV y x
 | _,_,.nil,_=>rfl
 | y::xs,u::us,.cons r t,f=>by
  rw[List.all_cons,d9]at f
  rw[ag3,ag3,aK8 r f.1,am6 t f.2]
theorem af3 {A:Around}{s:Shared}{x:V}{v:Value}(rx:RelV x v)(fx:aa8 x=true):∀ {xs:List V} {us:List Value},o6 xs us->xs.all aa8=true->∀ u∈us,SeqAt.EqAt A s u v (eqU x u)
 | _,_,.nil,_=>fun u hu=>by cases hu
 | y::xs,u::us,.cons r t,f=>fun u' hu=>by
  rw[List.all_cons,d9]at f
  rcases d7.mp hu with rfl | hu
  ·rw[aK8 r f.1];exact ba3 r rx f.1 fx
  ·exact af3 rx fx t f.2 u' hu
def inV (x:V)(xs:List V):Bool:=xs.any fun y=>eqV y x
def rIn (K:W.Frag)(neg:Bool):R2:=fun x y H Q=>∃ p xs,y=.ref p/\(SqL K H p xs\/SqT K H p xs)/\aa8 x=true/\xs.all aa8=true/\Q (.bl (if neg then !inV x xs else inV x xs)) H
theorem aC6:OpR X (compareOp .In) (rIn X.K false):=by
 intro pins s σ H x y v u Q I rx ry h
 obtain⟨p,xs,rfl,hq,fx,fs,q⟩:=h
 cases ry
 rcases hq with hq | hq
 ·obtain⟨its,r,pl,hz⟩:=I.list hq
  refine SeqAt.in_listAt (eqU x) pl.isList (fun w hw=>af3 rx fx r fs w (by simpa using hw)) ⟨.bl _,H,I,rfl,?_⟩
  rw[show its.toArray.any (eqU x)=its.any (eqU x) by simp,am6 r fs]
  exact q
 ·obtain⟨its,r,pl,hz⟩:=I.tuple hq
  refine SeqAt.in_tupleAt (eqU x) pl (fun w hw=>af3 rx fx r fs w (by simpa using hw)) ⟨.bl _,H,I,rfl,?_⟩
  rw[show its.toArray.any (eqU x)=its.any (eqU x) by simp,am6 r fs]
  exact q
theorem x6:G0 X (.builtin "len") (fun xs H Q=>∃ p ys,xs=[.ref p]/\(SqL X.K H p ys\/SqT X.K H p ys)/\Q (.int ys.length) H):=by
 intro pins s σ H xs us Q I r h
 obtain⟨p,ys,rfl,hq,q⟩:=h
 obtain⟨u,rfl,rx⟩:=vals1 r
 cases rx
 have hn:=Y9
 rcases hq with hq | hq
 ·obtain⟨its,r',pl,hz⟩:=I.list hq
  have hlen:=r'.length
  exact Calls.call_len_list pl.isList (by simp only[d3]<;>omega) ⟨.int ys.length,H,I.tok _,⟨s.toks+1,by rw[d3,hlen]⟩,q⟩
 ·obtain⟨its,r',pl,hz⟩:=I.tuple hq
  have hlen:=r'.length
  exact len_tuple pl (by simp only[d3]<;>omega) ⟨.int ys.length,H,I.tok _,⟨s.toks+1,by rw[d3,hlen]⟩,q⟩
theorem G9:G0 X (.type "tuple") (fun xs H Q=>∃ p ys,xs=[.ref p]/\((SqL X.K H p ys/\∀ l,H l=none->Q (.ref l) (upd H l (.tup ys)))\/(SqT X.K H p ys/\Q (.ref p) H))):=by
 intro pins s σ H xs us Q I r h
 obtain⟨p,ys,rfl,h⟩:=h
 obtain⟨u,rfl,rx⟩:=vals1 r
 cases rx
 rcases h with⟨hq,q⟩ | ⟨hq,q⟩
 ·obtain⟨its,r',pl,hz⟩:=I.list hq
  have hlen:=r'.length
  refine call_tuple_list pl.isList (fun h' kp=>?_) (by simp only[d3]<;>omega)
  have I1:Inv X pins σ H { s with heap:=h' }:=I.kept (t':=s.toks) kp
  have I2:Inv X pins σ (upd H h'.objs.size (.tup ys)) { s with heap:=h'.push { cls:=.type "tuple",data:=.seq its.toArray } } :=
   I1.laid (t':=s.toks) (fun b o e=>a5 _ e) (b4 _) (show C8 X.prog X.w _ _ _ (.tup ys) from ⟨hz,its,r',IsTup.new _ _⟩)
  exact⟨.ref h'.objs.size,_,I2,rfl,q _ (I1.hok.fresh (b4 _))⟩
 ·obtain⟨its,r',pl,hz⟩:=I.tuple hq
  exact call_tuple_same pl ⟨.ref p,H,I,rfl,q⟩
def tyV (K:W.Frag)(T:String)(x:V)(H:Hp):Prop:=match x with
 | .str _=>T="str"
 | .int _=>T="int"
 | .ref p=>(T="list"/\∃ xs,SqL K H p xs)\/(T="tuple"/\∃ o,K.lookup p=some o/\o.cls=.type "tuple"/\o.dict=none) \/
   (T="dict"/\((∃ kvs,H p=some (.dK kvs))\/∃ kvs,H p=some (.dT kvs)))\/(T="set"/\∃ S n,H p=some (.set S n))
 | _=>False
theorem aG2 {pins:List (Addr × Obj)}{σ:St}{H:Hp}{s:Shared}{T:String}{x:V}{v:Value}(I:Inv X pins σ H s)(r:RelV x v)(ty:tyV X.K T x H) :
  s.TypeIs v T/\∀ a,v=.ref a->∃ ob,s.heap.get? a=some ob/\ob.dict=none:=by
 cases x with
 | str z =>
  obtain⟨t,rfl⟩:=r
  cases (show T="str" from ty)
  exact⟨typeIs_str s z t,fun _ e=>nomatch e⟩
 | int i =>
  obtain⟨t,rfl⟩:=r
  cases (show T="int" from ty)
  exact⟨typeIs_int s i t,fun _ e=>nomatch e⟩
 | ref p =>
  cases r
  rcases ty with⟨rfl,xs,hq⟩ | ⟨rfl,o,hk,hc,hd⟩ | ⟨rfl,hk⟩ | ⟨rfl,S,n,hk⟩
  ·obtain⟨its,_,pl,_⟩:=I.list hq
   refine⟨pl.isList.typeIs,fun a e=>?_⟩
   cases e
   obtain⟨o,n,e,c,hd,_⟩:=pl
   exact⟨o,e,hd⟩
  ·refine⟨⟨o,I.kIn p o hk,hc⟩,fun a e=>?_⟩
   cases e
   exact⟨o,I.kIn _ o hk,hd⟩
  ·have z:∃ o,s.heap.get? p=some o/\o.ExactDict:=by
    rcases hk with⟨kvs,hk⟩ | ⟨kvs,hk⟩
    ·obtain⟨_,_,_,_,o,_,_,e,ex,_⟩:=I.hok p _ hk
     exact⟨o,e,ex⟩
    ·obtain⟨_,_,_,_,o,_,_,e,ex,_⟩:=I.hok p _ hk
     exact⟨o,e,ex⟩
   obtain⟨o,e,ex⟩:=z
   refine⟨⟨o,e,ex.1⟩,fun a e2=>?_⟩
   cases e2
   exact⟨o,e,ex.2.1⟩
  ·obtain⟨o,_,_,_,e,ex,_⟩:=I.hok p _ hk
   refine⟨⟨o,e,ex.1⟩,fun a e2=>?_⟩
   cases e2
   exact⟨o,e,ex.2.1⟩
 | _=>exact False.elim ty
def tBM (K:W.Frag)(T:String)(r:V->List V->Hp->VK->Prop)(to:TE)(t:TA):TE:=fun σ H Q=>to σ H fun x H1=>tyV K T x H1/\t σ H1 fun xs H2=>r x xs H2 Q
variable {o e:Expr} {es:List Expr} {to:TE} {t:TA} {name:Str} {apos cpos:Pos} {T id:String} {r:V->List V->Hp->VK->Prop}
theorem J8 (pa:PlainAttrs T) (slot:Slot T name id) (hty:typeOf (.builtin id)=pure (.type "method_descriptor")) (hm:MtR X id r) (ho:PE X o to) (ha:PA X (e::es) t)
  (hbase:attributeBase o name X.env (eval o X.env)=eval o X.env:=by rfl)
  (hfew : ((backTo cpos (starEach (e :: es) X.env)).all (fun x => !x.1) && (backToKw cpos (keywordEach [] X.env)).all (fun x => x.1.isSome)
   && decide ((e::es).length+([]:List Keyword).length+(if ([]:List Keyword).isEmpty then 0 else 1)<30))=true:=by rfl)
  (hline:(apos.endLine == cpos.line)=true:=by rfl) (hs:starEach (e::es) X.env=(false,eval e X.env)::starEach es X.env:=by rfl) (hplain:(backTo cpos (starEach es X.env)).any (·.1)=false:=by rfl) :
  PE X (.Call (.Attribute o name apos) (e::es) [] cpos) (tBM X.K T r to t):=by
 intro pins s σ H Q I h
 refine wpAny_Call_method_late hbase hfew hline rfl (thn (ho pins s σ H _ I h) fun v s1 ⟨x,H1,I1,r1,ty,q1⟩=>?_)
 obtain⟨h1,h2⟩:=aG2 I1 r1 ty
 refine⟨T,id,pa,slot,hty,h1,h2,?_⟩
 have hA:=ha cpos pins s1 σ H1 _ I1 q1
 rw[hs]at hA ⊢
 refine Calls.callWith_builtin (by show (false || (backTo cpos (starEach es X.env)).any (·.1))=false;rw[hplain]<;>rfl) (Calls.evalArgs_plain ?_)
 exact thn hA fun us s2 ⟨vs,H2,I2,r2,q2⟩=>hm pins s2 σ H2 x vs v us Q I2 r1 r2 q2
/- xs.append(e),list.index on a module's tuple .. are MtR facts of 06m -/
end
def MtM (X:Cx)(id:String)(r:V->List V->Hp->VK->Prop):Prop:=
 ∀ (pins:List (Addr × Obj)) (s:Shared) (σ:St) (H:Hp) (x:V) (xs:List V) (v:Value) (us:List Value) (Q:VK),Inv X pins σ H s->RelV x v->o6 xs us->r x xs H Q ->
  wpAny (model X.prog X.w) X.A (call (.builtin id) (v::us)) (EP X pins σ Q) X.xe s
theorem o6.one:∀ {x:V} {us:List Value},o6 [x] us->∃ u,us=[u]/\RelV x u
 | _,_,.cons r .nil=>⟨_,rfl,r⟩
theorem o6.two:∀ {x y:V} {us:List Value},o6 [x,y] us->∃ u v,us=[u,v]/\RelV x u/\RelV y v
 | _,_,_,.cons r (.cons q .nil)=>⟨_,_,rfl,r,q⟩
theorem o6.eraseIdx:∀ {xs:List V} {us:List Value} (i:Nat),o6 xs us->o6 (xs.eraseIdx i) (us.eraseIdx i)
 | _,_,_,.nil=>.nil
 | _,_,0,.cons _ t=>t
 | _,_,i+1,.cons r t=>.cons r (o6.eraseIdx i t)
theorem ai5 {α:Type}:∀ (l:List α) (i:Nat),(l.eraseIdx i).length<=l.length
 | [],_=>b4 _
 | _::_,0=>ad4 _
 | _::r,i+1=>Nat.succ_le_succ (ai5 r i)
section
variable {X:Cx} {pins:List (Addr × Obj)} {σ:St} {H:Hp} {s:Shared} {l b:Addr} {xs ys zs:List V}
theorem Inv.lset {its its':List Value}{n:Nat}{f:Array Value->Array Value}{t':Nat}(I:Inv X pins σ H s)(hH:H l=some (.lst xs))
  (e:s.heap.get? l=some { cls:=.type "list",data:=.seq its.toArray n })(hf:f its.toArray=its'.toArray)(hv:o6 ys its')(hz:ys.length<=sizeLine) :
  Inv X pins σ (upd H l (.lst ys)) { s with heap:=s.heap.update l (Obj.mapSeq f),toks:=t' }:=by
 have q:=PySem.IsL.update e f
 rw[hf]at q
 refine I.write (x:=l) (e:=l) (by rw[hH];exact trivial) (.inl rfl) (fun b' u hb hu=>(u6 s.heap (Obj.mapSeq f) (Ne.symm hb)).trans hu) ⟨_,q⟩ ?_
 exact⟨hz,its',_,hv,q⟩
theorem Inv.lnew {its:List Value}{t':Nat}(I:Inv X pins σ H s)(hv:o6 ys its)(hz:ys.length<=sizeLine) :
  Inv X pins σ (upd H s.heap.objs.size (.lst ys)) { s with heap:=s.heap.push { cls:=.type "list",data:=.seq its.toArray },toks:=t' } :=
 I.laid (fun _ _ q=>a5 _ q) (b4 _) ⟨hz,its,0,hv,j3 _ rfl⟩
theorem Inv.fresh (I:Inv X pins σ H s):H s.heap.objs.size=none:=I.hok.fresh (b4 _)
theorem Inv.lstM (I:Inv X pins σ H s)(hH:H l=some (.lst xs)):xs.length<=sizeLine/\∃ (its:List Value) (n:Nat),o6 xs its/\xs.length=its.length/\s.heap.get? l=some { cls:=.type "list",data:=.seq its.toArray n }:=by
 obtain⟨z,its,n,r,e⟩:=I.hok l _ hH
 exact⟨z,its,n,r,r.length,e⟩
end
section
variable {X:Cx}
def aO4:V->List V->Hp->VK->Prop:=fun x vs H Q=>∃ l xs y,x=.ref l/\vs=[y]/\H l=some (.lst xs)/\xs.length<sizeLine/\Q .non (upd H l (.lst (xs++[y])))
theorem G7:MtM X "list.append" aO4:=by
 intro pins s σ H x vs v us Q I rx rv h
 obtain⟨l,xs,y,rfl,rfl,hH,hz,q⟩:=h
 cases rx
 obtain⟨u,rfl,ru⟩:=rv.one
 obtain⟨z,its,n,r,hl,e⟩:=I.lstM hH
 refine call_meets F.slot_list_append ⟨_,e,rfl⟩ F.entry_list_append (F.args_list_append_2 _ _) (PySem.list_append l its.toArray n u (by rw[d3];omega)) ⟨e,?_⟩
 refine⟨.non,_,I.lset (its':=its++[u]) hH e (by simp) (r.append (.cons ru .nil)) ?_,rfl,q⟩
 rw[c6,X8]
 omega
def aX0:V->List V->Hp->VK->Prop:=fun x vs H Q=>∃ l xs i k y,x=.ref l/\vs=[.int i]/\H l=some (.lst xs) /\ -(2 ^ 63)<=i/\i<2 ^ 63/\seqIndex? i xs.length=some k/\xs[k]?=some y/\Q y (upd H l (.lst (xs.eraseIdx k)))
theorem aq2:MtM X "list.pop" aX0:=by
 intro pins s σ H x vs v us Q I rx rv h
 obtain⟨l,xs,i,k,y,rfl,rfl,hH,h1,h2,hk,hy,q⟩:=h
 cases rx
 obtain⟨u,rfl,ru⟩:=rv.one
 obtain⟨t,rfl⟩:=ru
 obtain⟨z,its,n,r,hl,e⟩:=I.lstM hH
 obtain⟨w,hw,rw'⟩:=r.get hy
 refine call_meets F.slot_list_pop ⟨_,e,rfl⟩ F.entry_list_pop (F.args_list_pop_2 _ _)
  (MeetsSeq.list_pop_at l its.toArray n i t k w (fitsIndex_both h1 h2) (by rw[d3,<- hl];exact hk) (by rw[<- a6];exact hw) (by rw[d3];omega)) ⟨e,?_⟩
 refine⟨y,_,I.lset (its':=its.eraseIdx k) hH e ?_ (r.eraseIdx k) ?_,rw',q⟩
 ·show its.toArray.eraseIdxIfInBounds k=(its.eraseIdx k).toArray
  rw[List.eraseIdxIfInBounds_toArray]
 ·have:=ai5 xs k
  omega
def bj5:R2:=fun x y H Q=>∃ l b xs zs,x=.ref l/\y=.ref b/\H l=some (.lst xs)/\H b=some (.lst zs)/\xs.length+zs.length<=sizeLine/\∀ p,H p=none->Q (.ref p) (upd H p (.lst (xs++zs)))
theorem aJ2:OpR X (binaryOp .Add) bj5:=by
 intro pins s σ H x y v u Q I rx ry h
 obtain⟨l,b,xs,zs,rfl,rfl,hH,hB,hz,q⟩:=h
 cases rx
 cases ry
 obtain⟨z,its,n,r,hl,e⟩:=I.lstM hH
 obtain⟨z2,its2,n2,r2,hl2,e2⟩:=I.lstM hB
 refine PySem.P.add_list e e2 ?_ (by rw[d3,d3];omega)
 have ea:its.toArray++its2.toArray=(its++its2).toArray:=by simp
 rw[ea]
 exact⟨.ref _,_,I.lnew (t':=s.toks) (r.append r2) (by rw[c6];omega),rfl,q _ I.fresh⟩
end
section
variable {prog:Program} {w:World} {A:Around} {E:Value->Shared->Prop} {s:Shared}
end
section
variable {X:Cx}
end
end L2
namespace Att
open PySem PySem.W PySem.Calls PyProof.Rows
theorem ab4 {P:Params}{h:Heap}:∀ (ns:List Int) (vs:List Value),WellAll P h vs (ns.map WData.int)->IntsAre vs ns:=by
 intro ns
 induction ns with
 | nil =>
  intro vs w
  rw[List.map_nil]at w
  cases w
  exact .nil
 | cons n ns ih =>
  intro vs w
  rw[j8]at w
  cases w with
  | cons a b =>
   cases a
   exact .cons _ _ (ih _ b)
theorem aB8 {l:OpenLaw}{n:Nat}(hn:l.most=some n){P:Params}{h:Heap}{args:List WData}{vals:List Value}
  (hpre:l.row.toRowW.claim.pre args=true)(hwl:WellAll P h vals args) :
  ∃ a vs ns,vals=[Value.ref a]/\args=[WData.list (ns.map WData.int)]/\h.get? a=some { cls:=.type "list",data:=.seq vs.toArray }/\IntsAre vs ns/\ns.length<=n:=by
 have hsh:WShape.hasAll [] args [.list .int]=true:=(pre_splitW hpre).1
 have hc:l.pre.holds [] { args:=args }=true:=(pre_splitW hpre).2
 obtain⟨d,r,rfl,h1,h2⟩:=hasAllW_cons hsh
 obtain rfl:=hasAllW_nil h2
 obtain⟨xs,rfl,h3⟩:=hasW_list h1
 obtain⟨ns,rfl⟩:=items_int h3
 have hlen:ns.length<=n:=by
  unfold OpenLaw.pre at hc
  have h4:(WTm.not (.lt (.lit (.int (n:Int))) (.len (.arg 0)))).holds [] { args:=[.list (ns.map .int)] }=true:=by
   have h4:=(holds_andW hc).1
   rw[hn]at h4
   exact h4
  have h5:=condW_of h4 (w_not (w_lt w_lit (w_len_list (w_arg rfl))))
  rw[b5]at h5
  refine Nat.le_of_not_lt fun q=>?_
  have q':(n:Int)<((ns.length:Nat):Int):=by omega
  first
   | (rw[decide_eq_true q']at h5;exact absurd h5 (by decide))
   | (simp at h5;omega)
 cases hwl with
 | cons w1 w2 =>
  cases w2
  cases w1 with
  | list ho hall=>exact⟨_,_,ns,rfl,rfl,ho,ab4 ns _ hall,hlen⟩
theorem aC2 (l:OpenLaw)(args:List WData):l.row.toRowW.claim.post args (.bool true) args=true:=
 postW_of (r:=l.row.toRowW) (X:=(true == true))
  (show WShape.has [] (.bool true) .bool=true by first | rfl | decide | simp[WShape.has,WShape.arms,WShape.armsAll])
  (show (WTm.eq .res (.lit (.bool true))).value [] { args:=args,res:=some (.bool true),after:=args }=some (.bool (true == true)) from w_eq_bool (w_res rfl) w_lit) rfl
theorem attach_call {l:OpenLaw} {n:Nat} {q:Program} {loose:List Str} {XP:(Str->Option Value)->Heap->Prop} {YP:World->Heap->Prop} {d:DefRec}
  (hn:l.most=some n) (hdf:d.params.defaults=[])
  (call : ∀ (w : World) (s₀ s₁ : Shared) (mg mb : Str -> Option Value) (fa : Addr) (o : Obj) (pm cd doc : Value) (a : Addr) (vs : List Value) (ns : List Int),
   Ground q loose [] XP w s₀ mg mb s₁.heap->YP w s₁.heap ->
   s₁.heap.get? fa=some o->o.data=.func (docDef d.name d.params d.body d.scope pm cd doc)->s₁.heap.CodeRec cd d.name->mg d.name=some (.ref fa) ->
   s₁.heap.get? a=some { cls:=.type "list",data:=.seq vs.toArray }->IntsAre vs ns->ns.length<=n->s₁.gens=#[] ->
   codeAny (model l.prog w) callerA (.call (.ref fa) ⟨[.ref a],[]⟩) (fun r s'=>r=.ok (.ret (.bool true))/\OldK s₁.heap s'.heap/\s'.os=s₁.os/\AllBare s'.gens) s₁) :
  WalkO q loose XP YP l.row.toRowW d [] (fun f vs=>PySem.call f vs):=by
 intro w s₀ s₁ mg mb G Y fa o pm cd doc dV kV ho hd hcd hD hmg hg args vals as hpre hlay hrd hwl hlo
 obtain rfl:dV=.none:=Dflts.none hD hdf
 obtain rfl:kV=.none:=Dflts.noKw hD
 obtain⟨a,vs,ns,rfl,rfl,hobj,hints,hlen⟩:=aB8 hn hpre hwl
 refine enter_call (codeAny_mono (call w s₀ s₁ mg mb fa o pm cd doc a vs ns G Y ho (fd_plain hd) hcd hmg hobj hints hlen hg) fun r s' hq=>?_)
 obtain⟨rfl,h2,h3,h4⟩:=hq
 exact⟨.inl ⟨.bool true,.bool true,[],rfl,fun _=>rfl,.bool true,aC2 l _,fun _=>⟨List.Pairwise.nil,fun _ hm=>(nomatch hm)⟩⟩,h2,h3,h4⟩
section
variable {prog:Program} {w:World} {A:Around} {E:Value->Shared->Prop} {s:Shared} {K:Frag}
end
end Att
namespace L2
open PySem PySem.Spec PyProof.Rows
theorem ah7:∀ {vs:List Value} {ns:List Int},IntsAre vs ns->o6 (ns.map V.int) vs
 | _,_,.nil=>.nil
 | _,_,.cons n t h=>.cons ⟨t,rfl⟩ (ah7 h)
def ba9 (H:Hp):Prop:=∀ b,H b=none\/∃ o xs,H b=some (.frz o (.lst xs))
theorem aK1 {P:Program}{w:World}{K:W.Frag}{mg mb:Str->Option Value}{CX:CXT}{k:Nat}{fa a:Addr}{fd:FuncData}{x:Str}{sp:Sp}{s₁:Shared}{vs:List Value}{ns:List Int}
  (KX:K.In s₁.heap)(hns:s₁.heap.Ns mainGlobals mg)(hb:s₁.heap.Ns builtinsNs mb)(hbb:∀ x:Str,x≠"__name__"->mb x=bootBuiltins x)(hlim:s₁.heap.NoLimit)(hg:s₁.gens=#[])
  (ha:s₁.heap.get? a=some { cls:=.type "list",data:=.seq vs.toArray })(hi:IntsAre vs ns)(hl:ns.length<=sizeLine)(hr:M7 k callerA)
  (F:∀ base:Heap,K.In base->base.Ns mainGlobals mg->p8 P w K mg base CX k fa fd [x] sp)(hbind:∀ (s:Shared) (u:Value),BindsTo s fd ⟨[u],[]⟩ [(x,u)])
  (hsp:∀ H:Hp,ba9 H->SqL K H a (ns.map V.int)->sp [.ref a] H (fun v _=>v=.bl true) fun _ _ _=>False)
  (hCX:∀ H e s',CX [] H s₁ (fun _ _ _=>False) e s'->False) :
  codeAny (model P w) callerA (.call (.ref fa) ⟨[.ref a],[]⟩) (fun r s'=>r=.ok (.ret (.bool true))/\OldK s₁.heap s'.heap/\s'.os=s₁.os/\AllBare s'.gens) s₁:=by
 have rv:=ah7 hi
 have lenV:=hi.length
 have core:∀ H:Hp,ba9 H->SqL K H a (ns.map V.int)->HOk P w H s₁.heap->(∀ b,H b≠none->b=a)->(H a≠none->K.lookup a=none) ->
   codeAny (model P w) callerA (.call (.ref fa) ⟨[.ref a],[]⟩) (fun r s'=>r=.ok (.ret (.bool true))/\OldK s₁.heap s'.heap/\s'.os=s₁.os/\AllBare s'.gens) s₁:=by
  intro H hO hS hok hA hK
  have base_of:∀ {b:Addr} {o:Obj},s₁.heap.get? b=some o->H b=none->(am1 s₁.heap H).get? b=some o:=fun e n=>aK5 e n
  have noA:∀ {b:Addr} {o:Obj} {es:Array DictEntry} {ep:Nat},s₁.heap.get? b=some o->o.data=.dict es ep->H b=none:=fun {b o es ep} e d=>by
   cases q:H b with
   | none=>rfl
   | some u =>
    have e':b=a:=hA b (by rw[q];simp)
    subst e'
    rw[ha]at e;cases e
    have d':Data.seq vs.toArray _=Data.dict es ep:=d
    cases d'
  have nsK:∀ {b:Addr} {m:Str->Option Value},s₁.heap.Ns b m->(am1 s₁.heap H).Ns b m:=fun {b m} ⟨o,es,ep,e,d,r⟩=>⟨o,es,ep,base_of e (noA e d),d,r⟩
  have hKb:K.In (am1 s₁.heap H):=fun b o e=>base_of (KX b o e) (by
   cases q:H b with
   | none=>rfl
   | some u =>
    have e':b=a:=hA b (by rw[q];simp)
    subst e'
    rw[hK (by rw[q];simp)]at e;cases e)
  have hM:Mod K mg (am1 s₁.heap H):=⟨hKb,nsK hns,⟨mb,nsK hb,hbb⟩,let ⟨mc,h1,h2⟩:=hlim;⟨mc,nsK h1,h2⟩⟩
  have e0:aS1 P w K mg (am1 s₁.heap H) callerA [] s₁ H:=⟨rfl,hM,fun b o e=>aP7 e,Nat.le_of_eq (aD8 _ _),trivial,fun b hb=>absurd (show b∈([]:List Addr) from hb) (by simp),hok,.of_eq hg⟩
  refine codeAny_mono ((F _ hKb (nsK hns)).run callerA [] s₁ H ⟨[.ref a],[]⟩ [.ref a] [.ref a] _ _ hr e0 (hbind s₁ (.ref a)) (.cons rfl .nil) (hsp H hO hS)) fun r s' h=>?_
  cases r with
  | error e=>exact(hCX H e s' h).elim
  | ok fl =>
   cases fl with
   | next=>exact False.elim h
   | brk=>exact False.elim h
   | cont=>exact False.elim h
   | ret u =>
    obtain⟨v,H',os,bare,un,hok',r',q⟩:=h
    have q':v=.bl true:=q
    subst q'
    obtain rfl:u=Value.bool true:=r'
    refine⟨rfl,OldK.of_keep fun b o e=>?_,os,bare⟩
    cases q:H b with
    | none=>exact un.keep b o e q (by intro z;exact absurd (show b∈([]:List Addr) from z) (by simp)) (by simp)
    | some u =>
     rcases hO b with z | ⟨ob,xs,z⟩
     ·rw[q]at z;cases z
     ·have z2:=un.frzs b ob _ z
      obtain⟨e1,_⟩:=hok b _ z
      obtain⟨e2,_⟩:=hok' b _ z2
      rw[e]at e1;cases e1
      exact e2
 cases hk:K.lookup a with
 | some o =>
  have e:=KX a o hk
  rw[ha]at e
  cases e
  refine core (fun _=>none) (fun _=>.inl rfl) (.inr ⟨_,vs.toArray,_,hk,rfl,rfl,rfl,by rw[d3,lenV];exact hl,by simpa using rv⟩) (fun b u z=>by have z':(none:Option HO)=some u:=z;cases z') (fun b z=>absurd rfl z) fun z=>absurd rfl z
 | none =>
  refine core (fun b=>if b=a then some (.frz { cls:=.type "list",data:=.seq vs.toArray } (.lst (ns.map V.int))) else none) (fun b=>?_) (.inl (.inr ⟨{ cls:=.type "list",data:=.seq vs.toArray },if_pos rfl⟩)) (fun b u z=>?_) (fun b z=>?_) fun _=>hk
  ·by_cases hb:b=a
   ·exact .inr ⟨_,_,if_pos hb⟩
   ·exact .inl (if_neg hb)
  ·by_cases hb:b=a
   ·have z':=(if_pos hb).symm.trans z
    cases z'
    subst hb
    exact⟨ha,by rw[b5];exact hl,vs,_,rv,ha⟩
   ·have z':=(if_neg hb).symm.trans z
    cases z'
  ·by_cases hb:b=a
   ·exact hb
   ·exact absurd (if_neg hb) z
theorem walk_of {l:PySem.W.OpenLaw} {n k:Nat} {q:Program} {loose:List Str} {XP:(Str->Option Value)->Heap->Prop} {YP:World->Heap->Prop} {d:DefRec} {K:Params->PySem.W.Frag} {CX:World->CXT} {sp:World->Sp} {x:Str}
  (hn:l.most=some n) (hn2:n<=sizeLine) (hdf:d.params.defaults=[]) (hr:M7 k callerA)
  (hY:∀ (w:World) (h:Heap),YP w h->(K w.params).In h)
  (F : ∀ (w : World) (mg : Str -> Option Value) (fa : Addr) (h : Heap), (K w.params).In h -> h.Ns mainGlobals mg -> mg d.name = some (.ref fa) ->
   ∃ fd:FuncData,(∀ (s:Shared) (u:Value),BindsTo s fd ⟨[u],[]⟩ [(x,u)]) /\
    ∀ base:Heap,(K w.params).In base->base.Ns mainGlobals mg->p8 l.prog w (K w.params) mg base (CX w) k fa fd [x] (sp w))
  (hsp:∀ (w:World) (H:Hp) (a:Addr) (ns:List Int),ns.length<=n->ba9 H->SqL (K w.params) H a (ns.map V.int)->sp w [.ref a] H (fun v _=>v=.bl true) fun _ _ _=>False)
  (hCX:∀ (w:World) (H:Hp) (s:Shared) (e:Value) (s':Shared),CX w [] H s (fun _ _ _=>False) e s'->False) :
  PySem.W.WalkO q loose XP YP l.row.toRowW d [] (fun f vs=>PySem.call f vs):=by
 refine Att.attach_call hn hdf fun w s₀ s₁ mg mb fa o pm cd doc a vs ns G Y ho hd hcd hmg hobj hints hlen hg=>?_
 have KX:=hY w _ Y
 obtain⟨fd,hb,hF⟩:=F w mg fa _ KX G.T.g hmg
 exact aK1 KX G.T.g G.T.b G.T.builtins G.T.nolimit hg hobj hints (o7 hlen hn2) hr hF hb (fun H hO hS=>hsp w H a ns hlen hO hS) fun H e s'=>hCX w H s₁ e s'
end L2
namespace L2
open PySem PySem.Spec PyProof.Rows
def p7 (s:Stmt):Arguments:=match s with
 | .FunctionDef _ a _ _ _ _ _ _ _ _=>a
 | _=>{ posonlyargs:=[],args:=[],vararg:=none,kwonlyargs:=[],kw_defaults:=[],kwarg:=none,defaults:=[] }
def o9 (s:Stmt):List Stmt:=match s with
 | .FunctionDef _ _ b _ _ _ _ _ _ _=>b
 | _=>[]
def d8 (s:Stmt):Scope:=match s with
 | .FunctionDef _ _ _ _ _ _ sc _ _ _=>sc
 | _=>{ kind:=.function,names:=[],isGenerator:=false,isCoroutine:=false }
abbrev CX0:CXT:=fun _ _ _ _ _ _=>False
abbrev E0:XK:=fun _ _ _=>False
theorem E1 {X:Cx}:Z8 CX0 X E0:=fun _ _ _ _ _ _ _ h=>h.elim
structure Fun (K:W.Frag) (x qual:Str) (st:Stmt) (f:Addr) (fd:FuncData):Prop where
 ex:∃ (oc:Value) (od:Option Addr) (kV doc pm:Value) (an:Option Addr) (cdv ct:Value) (osl:Array (Option Value)),
  fd=j5 x qual (p7 st) (o9 st) (d8 st) .none kV doc pm an cdv ct/\K.lookup f=some ⟨oc,od,.func fd,osl⟩/\i8 K cdv qual=true
 kp:g8 K (.ref f)=true
section
variable {P:Program} {w:World} {K:W.Frag} {mg:Str->Option Value} {base:Heap}
theorem Fun.ok {x qual:Str} {st:Stmt} {f:Addr} {fd:FuncData} {N ps:List Str} {k:Nat} {sp:Sp} (F:Fun K x qual st f fd) (S:t7 N ps (d8 st)) (len:∀ vs H Q E,sp vs H Q E->vs.length=ps.length)
  (hbody : ∀ (cdv : Value) (A : Around) (outer : List Env) (s : Shared) (H : Hp) (vs : List V) (Q : VK) (E : XK), M7 k (A.deeper (envOfC qual (d8 st) s.heap.objs.size f cdv)) -> sp vs H Q E ->
   ∃ t,PSs (O3 CX0 P w K mg base N qual (d8 st) f cdv A outer s H E).nox (o9 st) t/\t { nx:=fun _ H'=>Q .non H',rt:=Q } (start N vs) H):p8 P w K mg base CX0 (k+1) f fd ps sp:=by
 obtain⟨oc,od,kV,doc,pm,an,cdv,ct,osl,rfl,lk,hcd⟩:=F.ex
 refine aV0 lk hcd S len fun A outer s H vs Q E hr hsp=>?_
 obtain⟨t,h,q⟩:=hbody cdv A outer s H vs Q E hr hsp
 exact⟨t,h.nox,q⟩
theorem Fun.binds {x qual:Str}{st:Stmt}{f:Addr}{fd:FuncData}{ps:List Str}(F:Fun K x qual st f fd)
  (h:∀ (kV doc pm:Value) (an:Option Addr) (cdv ct:Value) (us:List Value),us.length=ps.length->bindArgs (j5 x qual (p7 st) (o9 st) (d8 st) .none kV doc pm an cdv ct) ⟨us,[]⟩=pure (ps.zip us)):Binds K fd ps []:=by
 obtain⟨oc,od,kV,doc,pm,an,cdv,ct,osl,rfl,lk,hcd⟩:=F.ex
 exact .all (h kV doc pm an cdv ct)
theorem B6 {x qual:Str}{st:Stmt}{f:Addr}{oc:Value}{od an:Option Addr}{osl:Array (Option Value)}{kV doc pm cdv ct:Value}(l:K.lookup f=some ⟨oc,od,.func (j5 x qual (p7 st) (o9 st) (d8 st) .none kV doc pm an cdv ct),osl⟩)
  (c:i8 K cdv qual=true)(k:g8 K (.ref f)=true):Fun K x qual st f (j5 x qual (p7 st) (o9 st) (d8 st) .none kV doc pm an cdv ct):=⟨⟨oc,od,kV,doc,pm,an,cdv,ct,osl,rfl,l,c⟩,k⟩
end
section
variable {X:Cx}
theorem pv (i:Nat){x:Str}{pos:Pos}(hN:X.N[i]?=some x:=by rfl)(hv:Vis X.env.scope x:=by first | exact Or.inl rfl | exact Or.inr (Or.inl rfl) | exact Or.inr (Or.inr rfl))(hd:(x == ("__debug__":Str))=false:=by decide)
  (hcd:(x == ("__classdict__":Str))=false:=by decide):PE X (.Name x pos) (bc6 i):=aX3 hN hv hd hcd
end
theorem A8 {A B:Prop}(h:B):if false=true then A else B:=by
 rw[if_neg b6]
 exact h
theorem A5 {A B:Prop}(h:A):if true=true then A else B:=by
 rw[if_pos rfl]
 exact h
theorem R1 {c A B:Prop}[Decidable c](h1:c->A)(h2:¬ c->B):if c then A else B:=by
 by_cases h:c
 ·rw[if_pos h]
  exact h1 h
 ·rw[if_neg h]
  exact h2 h
theorem aU8 {c A B:Prop}[Decidable c](hc:c)(h:B):if (!decide c)=true then A else B:=by
 rw[decide_eq_true hc]
 exact A8 h
def n4 (H H':Hp):Prop:=∀ b o,H b=some o->H' b=some o
theorem n4.refl (H:Hp):n4 H H:=fun _ _ h=>h
theorem n4.trans {H H1 H2:Hp}(a:n4 H H1)(b:n4 H1 H2):n4 H H2:=fun c o h=>b c o (a c o h)
theorem n4.free {H H':Hp}(e:n4 H H'){l:Addr}(h:H' l=Option.none):H l=Option.none:=by
 cases q:H l with
 | none=>rfl
 | some o =>
  rw[e l o q]at h
  cases h
theorem n4.seq {K:W.Frag}{H H':Hp}{a:Addr}{xs:List V}(e:n4 H H')(h:SqL K H a xs):SqL K H' a xs:=by
 rcases h with(h | ⟨o,h⟩) | h
 ·exact .inl (.inl (e _ _ h))
 ·exact .inl (.inr ⟨o,e _ _ h⟩)
 ·exact .inr h
end L2
namespace Tim
open PySem PyProof.Rows
def K2:Bool->Keyed->Array Keyed->Nat->Nat->Nat->StateT SortSt Sem (Option Nat):=sortPriv% PySem.Builtin.gallop
def D0:Nat->StateT SortSt Sem Unit:=sortPriv% PySem.Builtin.setMinGallop
def af1:Array Keyed->Array Keyed->StateT SortSt Sem (Array Keyed):=sortPriv% PySem.Builtin.mergeLo
def af2:Array Keyed->Array Keyed->StateT SortSt Sem (Array Keyed):=sortPriv% PySem.Builtin.mergeHi
def O5 (left:Bool)(key:Keyed)(arr:Array Keyed)(base:Nat)(i:Nat):StateT SortSt Sem (Option Bool):=do
 let x <- elem' arr (base+i)
 if left then lt' x key else return (<- lt' key x).map (!·)
theorem aw2 (left:Bool)(key:Keyed)(arr:Array Keyed)(base n hint:Nat):K2 left key arr base n hint=(do
 let mut lastofs:=0
 let mut ofs:=1
 let mut lo:=0
 let mut hi:=0
 let some right <- O5 left key arr base hint | return none
 if right then
  let maxofs:=n - hint
  for _ in [0:n] do
   if ofs≥maxofs then break
   let some more <- O5 left key arr base (hint+ofs) | return none
   if !more then break
   lastofs:=ofs
   ofs:=2*ofs+1
  lo:=hint+lastofs+1
  hi:=hint+min ofs maxofs
 else
  let maxofs:=hint+1
  for _ in [0:n] do
   if ofs≥maxofs then break
   let some found <- O5 left key arr base (hint - ofs) | return none
   if found then break
   lastofs:=ofs
   ofs:=2*ofs+1
  lo:=hint+1 - min ofs maxofs
  hi:=hint - lastofs
 for _ in [0:n] do
  if lo≥hi then break
  let m:=lo+(hi - lo) / 2
  let some more <- O5 left key arr base m | return none
  if more then lo:=m+1 else hi:=m
 return some hi):=rfl
theorem Y5 (g:Nat):D0 g=modify (fun s=>SortSt.mk' (kindOf s) (arrOf s) (pendingOf s) g (failedOf s)):=rfl
structure Ord (B:Keyed->Keyed->Bool):Prop where
 irr:∀ x,B x x=false
 tr:∀ x y z,B x y=true->B y z=true->B x z=true
 ng:∀ x y z,B x z=true->B x y=true\/B y z=true
def le (B:Keyed->Keyed->Bool)(x y:Keyed):Prop:=B y x=false
theorem Ord.rf {B:Keyed->Keyed->Bool}(o:Ord B)(x:Keyed):le B x x:=o.irr x
theorem Ord.of_lt {B:Keyed->Keyed->Bool}(o:Ord B){x y:Keyed}(h:B x y=true):le B x y:=by
 unfold le
 cases e:B y x with
 | false=>rfl
 | true =>
  have:=o.tr _ _ _ h e
  rw[o.irr]at this
  cases this
theorem Ord.trans {B:Keyed->Keyed->Bool}(o:Ord B){x y z:Keyed}(h1:le B x y)(h2:le B y z):le B x z:=by
 unfold le at *
 cases e:B z x with
 | false=>rfl
 | true =>
  rcases o.ng _ y _ e with h | h
  ·rw[h2]at h;cases h
  ·rw[h1]at h;cases h
theorem Ord.lt_le {B:Keyed->Keyed->Bool}(o:Ord B){x y z:Keyed}(h1:B x y=true)(h2:le B y z):B x z=true:=by
 unfold le at h2
 rcases o.ng _ z _ h1 with h | h
 ·exact h
 ·rw[h2]at h;cases h
theorem Ord.le_lt {B:Keyed->Keyed->Bool}(o:Ord B){x y z:Keyed}(h1:le B x y)(h2:B y z=true):B x z=true:=by
 unfold le at h1
 rcases o.ng _ x _ h2 with h | h
 ·rw[h1]at h;cases h
 ·exact h
section
variable {prog:Program} {w:World} {A:Around} {E:Value->Shared->Prop} {s:Shared} {κ:SortKind} {S:Keyed->Prop} {B:Keyed->Keyed->Bool}
def Cmp (prog:Program)(w:World)(A:Around)(E:Value->Shared->Prop)(s:Shared)(κ:SortKind)(S:Keyed->Prop)(B:Keyed->Keyed->Bool):Prop:=
 ∀ (x y:Keyed),S x->S y->∀ (Q:Bool->Shared->Prop),Q (B x y) s->wpAny (model prog w) A (keyLt' κ x.1 y.1) Q (fun _ _=>False) s
theorem ad5 (C:Cmp prog w A E s κ S B){x y:Keyed}{st:SortSt}{Q:Option Bool->SortSt->Prop}(hk:kindOf st=κ)(hx:S x)(hy:S y)(h:Q (some (B x y)) st):wpS (model prog w) A E s (lt' x y) Q st:=by
 rw[lt'_eq]
 refine wpS_bind (wpS_get ?_)
 rw[hk]
 refine wpS_bind (wpS_lift (wpAny_attempt ?_))
 refine wpAny_mono (C x y hx hy (fun b s'=>s'=s/\b=B x y) ⟨rfl,rfl⟩) (fun b s' hb=>?_) (fun _ _ f=>f.elim)
 obtain⟨rfl,rfl⟩:=hb
 exact⟨rfl,wpS_pure h⟩
theorem p5 {arr:Array Keyed}{i:Nat}{x:Keyed}{st:SortSt}{Q:Keyed->SortSt->Prop}(hi:arr[i]?=some x)(h:Q x st):wpS (model prog w) A E s (elem' arr i) Q st:=by
 rw[elem'_eq,hi]
 exact wpS_pure h
theorem aB0 (C:Cmp prog w A E s κ S B){i j:Nat}{x y:Keyed}{st:SortSt}{Q:Option Bool->SortSt->Prop}(hk:kindOf st=κ)(hi:(arrOf st)[i]?=some x)(hj:(arrOf st)[j]?=some y)(hx:S x)(hy:S y)(h:Q (some (B x y)) st) :
  wpS (model prog w) A E s (ltAt' i j) Q st:=by
 rw[ltAt'_eq]
 refine wpS_bind (wpS_get ?_)
 show wpS _ _ _ _ (do let x <- elem' (arrOf st) i;let y <- elem' (arrOf st) j;lt' x y) Q st
 exact wpS_bind (p5 hi (wpS_bind (p5 hj (ad5 C hk hx hy h))))
theorem M9 {n:String}{st:SortSt}{Q:Unit->SortSt->Prop}(h:Q () st):wpS (model prog w) A E s (liftM (rule n):StateT SortSt Sem Unit) Q st:=wpS_lift (wpAny_rule ⟨rfl,h⟩)
def byn (B:Keyed->Keyed->Bool)(left:Bool)(key x:Keyed):Bool:=if left=true then B x key else !B key x
theorem at9 (C:Cmp prog w A E s κ S B){left:Bool}{key x:Keyed}{arr:Array Keyed}{base i:Nat}{st:SortSt}{Q:Option Bool->SortSt->Prop}(hk:kindOf st=κ)(hi:arr[base+i]?=some x)(hx:S x)(hy:S key)
  (h:Q (some (byn B left key x)) st):wpS (model prog w) A E s (O5 left key arr base i) Q st:=by
 unfold O5
 refine wpS_bind (p5 hi ?_)
 cases left with
 | true=>exact ad5 C hk hx hy h
 | false=>exact wpS_bind (ad5 C hk hy hx (wpS_pure h))
theorem ah4 {n:Nat} {st:SortSt} {Q:Option Nat->SortSt->Prop} (P:Nat->Bool) {f:Nat->Option (Option Nat) × Nat × Nat->StateT SortSt Sem (ForInStep (Option (Option Nat) × Nat × Nat))} {k:Option (Option Nat) × Nat × Nat->StateT SortSt Sem (Option Nat)}
  (mono:∀ i j,i<=j->j<n->P j=true->P i=true)
  (hf : ∀ x lo hi (R : ForInStep (Option (Option Nat) × Nat × Nat) -> SortSt -> Prop), hi <= n -> (hi <= lo -> R (.done (none, lo, hi)) st) -> (lo < hi -> P (lo + (hi - lo) / 2) = true -> R (.yield (none, lo + (hi - lo) / 2 + 1, hi)) st) ->
   (lo<hi->P (lo+(hi - lo) / 2)=false->R (.yield (none,lo,lo+(hi - lo) / 2)) st)->wpS (model prog w) A E s (f x (none,lo,hi)) R st)
  (hk:∀ lo hi (R:Option Nat->SortSt->Prop),R (some hi) st->wpS (model prog w) A E s (k (none,lo,hi)) R st)
  (h:∀ k,k<=n->(∀ i,i<k->P i=true)->(∀ i,k<=i->i<n->P i=false)->Q (some k) st) {lo hi:Nat}
  (h1:lo<=hi) (h2:hi<=n) (h3:∀ i,i<lo->P i=true) (h4:∀ i,hi<=i->i<n->P i=false) :
  wpS (model prog w) A E s (forIn [:n] ((none,lo,hi):Option (Option Nat) × Nat × Nat) f >>= k) Q st:=by
 have anti:∀ i j,i<=j->j<n->P i=false->P j=false:=fun i j h1 h2 h3=>by
  cases e:P j with
  | false=>rfl
  | true=>rw[mono i j h1 h2 e]at h3;cases h3
 refine wpS_bind (wpS_mono (wpS_forRange (I:=fun x c st'=>st'=st/\∃ lo hi,c=(none,lo,hi)/\lo<=hi/\hi<=n/\hi - lo<=n - x/\(∀ i,i<lo->P i=true)/\(∀ i,hi<=i->i<n->P i=false))
  (Q:=fun c st'=>st'=st/\∃ k,c=(none,k,k)/\k<=n/\(∀ i,i<k->P i=true)/\(∀ i,k<=i->i<n->P i=false)) ?step ?fin ⟨rfl,lo,hi,rfl,h1,h2,by omega,h3,h4⟩) ?post)
 case fin =>
  rintro c st' ⟨rfl,lo,hi,rfl,h1,h2,hm,h3,h4⟩
  have:lo=hi:=by omega
  subst this
  exact⟨rfl,lo,rfl,h2,h3,h4⟩
 case post =>
  rintro c st' ⟨rfl,k,rfl,h2,h3,h4⟩
  exact hk _ _ _ (h k h2 h3 h4)
 case step =>
  rintro x c st' _ hx ⟨rfl,lo,hi,rfl,h1,h2,hm,h3,h4⟩
  refine hf x lo hi _ h2 (fun hge=>?_) (fun hlt e=>?_) (fun hlt e=>?_)
  ·have:lo=hi:=by omega
   subst this
   exact⟨rfl,lo,rfl,h2,h3,h4⟩
  ·exact⟨rfl,_,hi,rfl,by omega,h2,by omega,fun i hi'=>mono i _ (by omega) (by omega) e,h4⟩
  ·exact⟨rfl,lo,_,rfl,by omega,by omega,by omega,h3,fun i h5 h6=>anti _ i h5 h6 e⟩
theorem ak0 {left:Bool} {key:Keyed} {arr:Array Keyed} {base n hint:Nat} {st:SortSt} {Q:Option Nat->SortSt->Prop} (P:Nat->Bool)
  (hP:∀ i,i<n->∀ R:Option Bool->SortSt->Prop,R (some (P i)) st->wpS (model prog w) A E s (O5 left key arr base i) R st)
  (mono:∀ i j,i<=j->j<n->P j=true->P i=true) (hh:hint<n)
  (h:∀ k,k<=n->(∀ i,i<k->P i=true)->(∀ i,k<=i->i<n->P i=false)->Q (some k) st) :
  wpS (model prog w) A E s (K2 left key arr base n hint) Q st:=by
 have anti:∀ i j,i<=j->j<n->P i=false->P j=false:=fun i j h1 h2 h3=>by
  cases e:P j with
  | false=>rfl
  | true=>rw[mono i j h1 h2 e]at h3;cases h3
 rw[aw2]
 dsimp only
 refine wpS_bind (hP hint hh _ ?_)
 cases e0:P hint with
 | true =>
  dsimp only
  rw[if_pos rfl]
  refine wpS_bind (wpS_mono (wpS_forRange (I:=fun x c st'=>st'=st/\∃ l o,c=(none,l,o)/\l<o/\x+1<=o/\hint+l<n/\P (hint+l)=true)
   (Q:=fun c st'=>st'=st/\∃ l o,c=(none,l,o)/\l<o/\hint+l<n/\P (hint+l)=true/\(n - hint<=o\/(hint+o<n/\P (hint+o)=false))) ?step ?fin ⟨rfl,0,1,rfl,by omega,by omega,by omega,e0⟩) ?post)
  case fin =>
   rintro c st' ⟨rfl,l,o,rfl,h1,h2,h3,h4⟩
   exact⟨rfl,l,o,rfl,h1,h3,h4,.inl (by omega)⟩
  case post =>
   rintro c st' ⟨rfl,l,o,rfl,h1,h3,h4,h5⟩
   dsimp only
   refine ah4 P mono
    (fun x lo hi R hn a b c => by
     dsimp only
     by_cases hge:lo≥hi
     ·rw[if_pos hge]
      exact wpS_pure (a hge)
     ·rw[if_neg hge]
      refine wpS_bind (hP _ (by omega) _ ?_)
      cases e:P (lo+(hi - lo) / 2) with
      | true =>
       dsimp only
       rw[if_pos rfl]
       exact wpS_pure (b (by omega) e)
      | false =>
       dsimp only
       rw[if_neg b6]
       exact wpS_pure (c (by omega) e)) (fun lo hi R hR=>wpS_pure hR) h (lo:=hint+l+1) (hi:=hint+min o (n - hint)) (by omega) (by omega) (fun i hi=>mono i _ (by omega) h3 h4) (fun i h6 h7=>?_)
   rcases h5 with h5 | ⟨h5,h8⟩
   ·omega
   ·exact anti _ i (by omega) h7 h8
  case step =>
   rintro x c st' _ hx ⟨rfl,l,o,rfl,h1,h2,h3,h4⟩
   dsimp only
   by_cases hge:o≥n - hint
   ·rw[if_pos hge]
    exact wpS_pure ⟨rfl,l,o,rfl,h1,h3,h4,.inl hge⟩
   ·rw[if_neg hge]
    refine wpS_bind (hP _ (by omega) _ ?_)
    cases e:P (hint+o) with
    | true =>
     dsimp only
     rw[if_neg (by simp)]
     exact wpS_pure ⟨rfl,o,2*o+1,rfl,by omega,by omega,by omega,e⟩
    | false =>
     dsimp only
     rw[if_pos (by simp)]
     exact wpS_pure ⟨rfl,l,o,rfl,h1,h3,h4,.inr ⟨by omega,e⟩⟩
 | false =>
  dsimp only
  rw[if_neg b6]
  refine wpS_bind (wpS_mono (wpS_forRange (I:=fun x c st'=>st'=st/\∃ l o,c=(none,l,o)/\l<o/\x+1<=o/\l<=hint/\P (hint - l)=false)
   (Q:=fun c st'=>st'=st/\∃ l o,c=(none,l,o)/\l<o/\l<=hint/\P (hint - l)=false/\(hint+1<=o\/(o<=hint/\P (hint - o)=true))) ?step ?fin ⟨rfl,0,1,rfl,by omega,by omega,by omega,e0⟩) ?post)
  case fin =>
   rintro c st' ⟨rfl,l,o,rfl,h1,h2,h3,h4⟩
   exact⟨rfl,l,o,rfl,h1,h3,h4,.inl (by omega)⟩
  case post =>
   rintro c st' ⟨rfl,l,o,rfl,h1,h3,h4,h5⟩
   dsimp only
   refine ah4 P mono
    (fun x lo hi R hn a b c => by
     dsimp only
     by_cases hge:lo≥hi
     ·rw[if_pos hge]
      exact wpS_pure (a hge)
     ·rw[if_neg hge]
      refine wpS_bind (hP _ (by omega) _ ?_)
      cases e:P (lo+(hi - lo) / 2) with
      | true =>
       dsimp only
       rw[if_pos rfl]
       exact wpS_pure (b (by omega) e)
      | false =>
       dsimp only
       rw[if_neg b6]
       exact wpS_pure (c (by omega) e)) (fun lo hi R hR=>wpS_pure hR) h (lo:=hint+1 - min o (hint+1)) (hi:=hint - l) (by omega) (by omega) (fun i hi=>?_) (fun i h6 h7=>anti _ i h6 h7 h4)
   rcases h5 with h5 | ⟨h5,h8⟩
   ·omega
   ·exact mono i _ (by omega) (by omega) h8
  case step =>
   rintro x c st' _ hx ⟨rfl,l,o,rfl,h1,h2,h3,h4⟩
   dsimp only
   by_cases hge:o≥hint+1
   ·rw[if_pos hge]
    exact wpS_pure ⟨rfl,l,o,rfl,h1,h3,h4,.inl hge⟩
   ·rw[if_neg hge]
    refine wpS_bind (hP _ (by omega) _ ?_)
    cases e:P (hint - o) with
    | true =>
     dsimp only
     rw[if_pos rfl]
     exact wpS_pure ⟨rfl,l,o,rfl,h1,h3,h4,.inr ⟨by omega,e⟩⟩
    | false =>
     dsimp only
     rw[if_neg b6]
     exact wpS_pure ⟨rfl,o,2*o+1,rfl,by omega,by omega,by omega,e⟩
theorem G6 (o:Ord B)(C:Cmp prog w A E s κ S B){left:Bool}{key:Keyed}{arr:Array Keyed}{base n hint:Nat}{st:SortSt}{Q:Option Nat->SortSt->Prop}(hk:kindOf st=κ)(hkey:S key)(hb:base+n<=arr.size)
  (hS:∀ (i:Nat) (x:Keyed),i<n->arr[base+i]?=some x->S x)
  (hs:∀ (i j:Nat) (x y:Keyed),i<=j->j<n->arr[base+i]?=some x->arr[base+j]?=some y->le B x y)(hh:hint<n)
  (h:∀ k,k<=n->(∀ (i:Nat) (x:Keyed),i<k->arr[base+i]?=some x->byn B left key x=true)->(∀ (i:Nat) (x:Keyed),k<=i->i<n->arr[base+i]?=some x->byn B left key x=false)->Q (some k) st) :
  wpS (model prog w) A E s (K2 left key arr base n hint) Q st:=by
 have ex:∀ i,i<n->∃ x,arr[base+i]?=some x:=fun i hi=>⟨arr[base+i]'(by omega),getElem?_pos arr _ (by omega)⟩
 have ev:∀ (i:Nat) (x:Keyed),arr[base+i]?=some x->((arr[base+i]?).getD key)=x:=fun i x e=>by rw[e];rfl
 refine ak0 (fun i=>byn B left key ((arr[base+i]?).getD key)) (fun i hi R hR=>?_) (fun i j hij hj hp=>?_) hh (fun k hk' h1 h2=>h k hk' (fun i x hi e=>?_) (fun i x h3 h4 e=>?_))
 ·obtain⟨x,e⟩:=ex i hi
  rw[ev i x e]at hR
  exact at9 C hk e (hS i x hi e) hkey hR
 ·obtain⟨x,e⟩:=ex i (by omega)
  obtain⟨y,e'⟩:=ex j hj
  rw[ev j y e']at hp
  rw[ev i x e]
  have l:=hs i j x y hij hj e e'
  unfold byn at hp ⊢
  cases left with
  | true =>
   simp only[if_true]at hp ⊢
   exact o.le_lt l hp
  | false =>
   simp only[g9,if_false,ah1]at hp ⊢
   exact o.trans l hp
 ·have:=h1 i hi;rw[ev i x e]at this;exact this
 ·have:=h2 i h3 h4;rw[ev i x e]at this;exact this
end
theorem aq3 (a b:Array Keyed):af1 a b=(do
 rule "list.sort.merge-lo"
 let total:=a.size+b.size
 let done (out:Array Keyed) (ia ib:Nat):=out++a.extract ia a.size++b.extract ib b.size
 let lastOfA (out:Array Keyed) (ia ib:Nat):=out++b.extract ib b.size++a.extract ia a.size
 let mut out:Array Keyed:=#[<- elem' b 0]
 let mut ia:=0
 let mut ib:=1
 if ib == b.size then return done out ia ib
 if ia+1 == a.size then return lastOfA out ia ib
 let mut minGallop:=gallopOf (<- get)
 for _ in [0:total] do
  let mut acount:=0
  let mut bcount:=0
  for _ in [0:total] do
   let some bWins <- lt' (<- elem' b ib) (<- elem' a ia) | return done out ia ib
   if bWins then
    out:=out.push (<- elem' b ib);ib:=ib+1;bcount:=bcount+1;acount:=0
    if ib == b.size then return done out ia ib
    if bcount≥minGallop then break
   else
    out:=out.push (<- elem' a ia);ia:=ia+1;acount:=acount+1;bcount:=0
    if ia+1 == a.size then return lastOfA out ia ib
    if acount≥minGallop then break
  rule "list.sort.gallop"
  minGallop:=minGallop+1
  for _ in [0:total] do
   if minGallop > 1 then minGallop:=minGallop - 1
   D0 minGallop
   let some k <- K2 false (<- elem' b ib) a ia (a.size - ia) 0 | return done out ia ib
   acount:=k
   if k > 0 then
    out:=out++a.extract ia (ia+k);ia:=ia+k
    if ia+1 == a.size then return lastOfA out ia ib
    if ia == a.size then return done out ia ib
   out:=out.push (<- elem' b ib);ib:=ib+1
   if ib == b.size then return done out ia ib
   let some k <- K2 true (<- elem' a ia) b ib (b.size - ib) 0 | return done out ia ib
   bcount:=k
   if k > 0 then
    out:=out++b.extract ib (ib+k);ib:=ib+k
    if ib == b.size then return done out ia ib
   out:=out.push (<- elem' a ia);ia:=ia+1
   if ia+1 == a.size then return lastOfA out ia ib
   if acount<7 && bcount<7 then break
  minGallop:=minGallop+1
  D0 minGallop
 unsupported "internal:list.sort.merge-bound"):=rfl
theorem aq4 (a b:Array Keyed):af2 a b=(do
 rule "list.sort.merge-hi"
 let total:=a.size+b.size
 let done (out:Array Keyed) (na nb:Nat):=a.extract 0 na++b.extract 0 nb++out.reverse
 let firstOfB (out:Array Keyed) (na nb:Nat):=b.extract 0 nb++a.extract 0 na++out.reverse
 let mut na:=a.size - 1
 let mut nb:=b.size
 let mut out:Array Keyed:=#[<- elem' a na]
 if na == 0 then return done out na nb
 if nb == 1 then return firstOfB out na nb
 let mut minGallop:=gallopOf (<- get)
 for _ in [0:total] do
  let mut acount:=0
  let mut bcount:=0
  for _ in [0:total] do
   let some aWins <- lt' (<- elem' b (nb - 1)) (<- elem' a (na - 1)) | return done out na nb
   if aWins then
    na:=na - 1;out:=out.push (<- elem' a na);acount:=acount+1;bcount:=0
    if na == 0 then return done out na nb
    if acount≥minGallop then break
   else
    nb:=nb - 1;out:=out.push (<- elem' b nb);bcount:=bcount+1;acount:=0
    if nb == 1 then return firstOfB out na nb
    if bcount≥minGallop then break
  rule "list.sort.gallop"
  minGallop:=minGallop+1
  for _ in [0:total] do
   if minGallop > 1 then minGallop:=minGallop - 1
   D0 minGallop
   let some at_ <- K2 false (<- elem' b (nb - 1)) a 0 na (na - 1) | return done out na nb
   let k:=na - at_
   acount:=k
   if k > 0 then
    out:=out++(a.extract at_ na).reverse;na:=at_
    if na == 0 then return done out na nb
   nb:=nb - 1;out:=out.push (<- elem' b nb)
   if nb == 1 then return firstOfB out na nb
   let some at_ <- K2 true (<- elem' a (na - 1)) b 0 nb (nb - 1) | return done out na nb
   let k:=nb - at_
   bcount:=k
   if k > 0 then
    out:=out++(b.extract at_ nb).reverse;nb:=at_
    if nb == 1 then return firstOfB out na nb
    if nb == 0 then return done out na nb
   na:=na - 1;out:=out.push (<- elem' a na)
   if na == 0 then return done out na nb
   if acount<7 && bcount<7 then break
  minGallop:=minGallop+1
  D0 minGallop
 unsupported "internal:list.sort.merge-bound"):=rfl
structure MI (R:Keyed->Keyed->Prop) (out ra rb all:List Keyed):Prop where
 so:out.Pairwise R
 oa:∀ x∈out,∀ y∈ra,R x y
 ob:∀ x∈out,∀ y∈rb,R x y
 sa:ra.Pairwise R
 sb:rb.Pairwise R
 pm:(out++(ra++rb)).Perm all
theorem MI.blkA {R:Keyed->Keyed->Prop}{out blk ra rb all:List Keyed}(m:MI R out (blk++ra) rb all)(h:∀ x∈blk,∀ y∈rb,R x y):MI R (out++blk) ra rb all:=by
 obtain⟨s1,s2,s3⟩:=n8.mp m.sa
 refine⟨n8.mpr ⟨m.so,s1,fun x hx y hy=>m.oa x hx y (v9 _ hy)⟩,fun x hx y hy=>?_,fun x hx y hy=>?_,s2,m.sb,?_⟩
 ·rcases l6.mp hx with hx | hx
  ·exact m.oa x hx y (c7 _ hy)
  ·exact s3 x hx y hy
 ·rcases l6.mp hx with hx | hx
  ·exact m.ob x hx y hy
  ·exact h x hx y hy
 ·have:=m.pm
  simpa [m7] using this
theorem MI.blkB {R:Keyed->Keyed->Prop}{out blk ra rb all:List Keyed}(m:MI R out ra (blk++rb) all)(h:∀ x∈blk,∀ y∈ra,R x y):MI R (out++blk) ra rb all:=by
 obtain⟨s1,s2,s3⟩:=n8.mp m.sb
 refine⟨n8.mpr ⟨m.so,s1,fun x hx y hy=>m.ob x hx y (v9 _ hy)⟩,fun x hx y hy=>?_,fun x hx y hy=>?_,m.sa,s2,?_⟩
 ·rcases l6.mp hx with hx | hx
  ·exact m.oa x hx y hy
  ·exact h x hx y hy
 ·rcases l6.mp hx with hx | hx
  ·exact m.ob x hx y (c7 _ hy)
  ·exact s3 x hx y hy
 ·refine List.Perm.trans ?_ m.pm
  rw[m7]
  refine List.Perm.append_left _ ?_
  rw[<- m7,<- m7]
  exact List.Perm.append_right _ aL6
theorem MI.oneA {R:Keyed->Keyed->Prop}{x:Keyed}{out ra rb all:List Keyed}(m:MI R out (x::ra) rb all)(h:∀ y∈rb,R x y):MI R (out++[x]) ra rb all:=
 MI.blkA (blk:=[x]) m fun z hz y hy=>by rw[i7.mp hz];exact h y hy
theorem MI.oneB {R:Keyed->Keyed->Prop}{x:Keyed}{out ra rb all:List Keyed}(m:MI R out ra (x::rb) all)(h:∀ y∈ra,R x y):MI R (out++[x]) ra rb all:=
 MI.blkB (blk:=[x]) m fun z hz y hy=>by rw[i7.mp hz];exact h y hy
theorem MI.endAB {R:Keyed->Keyed->Prop}{out ra rb all:List Keyed}(m:MI R out ra rb all)(h:∀ x∈ra,∀ y∈rb,R x y):(out++(ra++rb)).Pairwise R/\(out++(ra++rb)).Perm all:=by
 refine⟨n8.mpr ⟨m.so,n8.mpr ⟨m.sa,m.sb,h⟩,fun x hx y hy=>?_⟩,m.pm⟩
 rcases l6.mp hy with hy | hy
 ·exact m.oa x hx y hy
 ·exact m.ob x hx y hy
theorem MI.endBA {R:Keyed->Keyed->Prop}{out ra rb all:List Keyed}(m:MI R out ra rb all)(h:∀ x∈rb,∀ y∈ra,R x y):(out++(rb++ra)).Pairwise R/\(out++(rb++ra)).Perm all:=by
 refine⟨n8.mpr ⟨m.so,n8.mpr ⟨m.sb,m.sa,h⟩,fun x hx y hy=>?_⟩,List.Perm.trans (List.Perm.append_left _ aL6) m.pm⟩
 rcases l6.mp hy with hy | hy
 ·exact m.ob x hx y hy
 ·exact m.oa x hx y hy
theorem drop_cons {α:Type}{l:List α}{i:Nat}{x:α}(h:l[i]?=some x):l.drop i=x::l.drop (i+1):=by
 obtain⟨hi,rfl⟩:=a8.mp h
 exact P2 hi
theorem V0 {α:Type}(l:List α)(i k:Nat):l.drop i=(l.drop i).take k++l.drop (i+k):=by
 rw[<- P3]
 exact(A1 k (l.drop i)).symm
theorem x5 {α:Type}{l:List α}{i:Nat}{x:α}(h:x∈l.drop i):∃ j,i<=j/\j<l.length/\l[j]?=some x:=by
 obtain⟨k,hk⟩:=j7.mp h
 rw[J2]at hk
 exact⟨i+k,by omega,(a8.mp hk).1,hk⟩
theorem G8 {α:Type}{l:List α}{i k:Nat}{x:α}(h:x∈(l.drop i).take k):∃ j,j<k/\l[i+j]?=some x:=by
 obtain⟨j,hj⟩:=j7.mp h
 rw[E8]at hj
 split at hj
 ·rename_i hlt
  rw[J2]at hj
  exact⟨j,hlt,hj⟩
 ·cases hj
theorem ar7 (a:Array Keyed)(i k:Nat):(a.extract i (i+k)).toList=(a.toList.drop i).take k:=by
 rw[C6,G2,D7]
theorem ad1 (a:Array Keyed)(i:Nat):(a.extract i a.size).toList=a.toList.drop i:=by
 rw[C6,G2]
 exact i9 (by simp)
theorem am2 (a:Array Keyed)(i:Nat):(a.extract 0 i).toList=a.toList.take i:=by
 rw[C6,G2,ab1,Nat.sub_zero]
structure Sm (st st':SortSt):Prop where
 k:kindOf st'=kindOf st
 a:arrOf st'=arrOf st
 p:pendingOf st'=pendingOf st
 f:failedOf st'=failedOf st
theorem Sm.rfl' (st:SortSt):Sm st st:=⟨rfl,rfl,rfl,rfl⟩
theorem Sm.mg {st st':SortSt}(h:Sm st st')(g:Nat):Sm st (SortSt.mk' (kindOf st') (arrOf st') (pendingOf st') g (failedOf st')):=⟨h.k,h.a,h.p,h.f⟩
section
variable {prog:Program} {w:World} {A:Around} {E:Value->Shared->Prop} {s:Shared} {κ:SortKind} {S:Keyed->Prop} {B:Keyed->Keyed->Bool}
theorem R8 {g:Nat}{st:SortSt}{Q:Unit->SortSt->Prop}(h:Q () (SortSt.mk' (kindOf st) (arrOf st) (pendingOf st) g (failedOf st))):wpS (model prog w) A E s (D0 g) Q st:=by
 rw[Y5]
 exact wpS_modify h
structure LoI (B:Keyed->Keyed->Bool) (a b out:Array Keyed) (ia ib:Nat):Prop where
 m:MI (le B) out.toList (a.toList.drop ia) (b.toList.drop ib) (a.toList++b.toList)
 ha:ia+1<a.size
 hb:ib<b.size
 sz:out.size=ia+ib
def Good (B:Keyed->Keyed->Bool)(a b r:Array Keyed):Prop:=r.toList.Pairwise (le B)/\r.toList.Perm (a.toList++b.toList)
theorem A2 {M:Model}{A:Around}{E:Value->Shared->Prop}{s:Shared}{α σ:Type}{c:Prop}[Decidable c]{X Y:StateT σ Sem α}{Q:α->σ->Prop}{st:σ}(h:c)(k:wpS M A E s X Q st):wpS M A E s (if c then X else Y) Q st:=by
 rw[if_pos h]
 exact k
theorem y7 {M:Model}{A:Around}{E:Value->Shared->Prop}{s:Shared}{α σ:Type}{c:Prop}[Decidable c]{X Y:StateT σ Sem α}{Q:α->σ->Prop}{st:σ}(h:¬ c)(k:wpS M A E s Y Q st):wpS M A E s (if c then X else Y) Q st:=by
 rw[if_neg h]
 exact k
theorem R7 {M:Model}{A:Around}{E:Value->Shared->Prop}{s:Shared}{α σ:Type}{c:Prop}[Decidable c]{X Y:StateT σ Sem α}{Q:α->σ->Prop}{st:σ}(h:wpS M A E s X Q st)(k:wpS M A E s Y Q st):wpS M A E s (if c then X else Y) Q st:=by
 split
 ·exact h
 ·exact k
theorem ao0 {M:Model}{A:Around}{E:Value->Shared->Prop}{s:Shared}{α σ:Type}{c:Nat->Prop}[∀ m,Decidable (c m)]{X Y:Nat->StateT σ Sem α}{Q:α->σ->Prop}{st:σ}(hX:∀ m,X m=Y (m - 1))(h:∀ m,wpS M A E s (Y m) Q st):∀ m,wpS M A E s (if c m then X m else Y m) Q st:=fun m=>by
 split
 ·rw[hX]
  exact h _
 ·exact h m
theorem V6 {M:Model}{A:Around}{E:Value->Shared->Prop}{s:Shared}{α σ β γ:Type}{u0:β}{v0:γ}{c:β->γ->Prop}[∀ u v,Decidable (c u v)]{X Y:β->γ->StateT σ Sem α}{Q:α->σ->Prop}{st:σ}{R:β->γ->Prop}(J:∀ u v,R u v->wpS M A E s (Y u v) Q st)(h1:c u0 v0->(∀ u v,R u v->wpS M A E s (Y u v) Q st)->wpS M A E s (X u0 v0) Q st)(h2:¬ c u0 v0->R u0 v0):∀ u,u0=u->∀ v,v0=v->wpS M A E s (if c u v then X u v else Y u v) Q st:=by
 rintro _ rfl _ rfl
 by_cases h:c u0 v0
 ·rw[if_pos h]
  exact h1 h J
 ·rw[if_neg h]
  exact J u0 v0 (h2 h)
theorem an8 (o:Ord B)(C:Cmp prog w A E s κ S B){a b:Array Keyed}{st:SortSt}{Q:Array Keyed->SortSt->Prop}(hk:kindOf st=κ)(hSa:∀ x∈a.toList,S x)(hSb:∀ x∈b.toList,S x)
  (sa:a.toList.Pairwise (le B))(sb:b.toList.Pairwise (le B))(ha:0<a.size)(hb:0<b.size)
  (h0:∀ x y,b[0]?=some x->a[0]?=some y->B x y=true)(hl:∀ x∈b.toList,∀ y,a[a.size - 1]?=some y->B x y=true)
  (h:∀ r st',Sm st st'->Good B a b r->Q r st'):wpS (model prog w) A E s (af1 a b) Q st:=by
 have ga:∀ i,i<a.size->∃ x,a[i]?=some x/\a.toList[i]?=some x/\S x:=fun i hi=>by
  refine⟨a[i],getElem?_pos a i hi,by rw[a6];exact getElem?_pos a i hi,hSa _ (by simp)⟩
 have gb:∀ i,i<b.size->∃ x,b[i]?=some x/\b.toList[i]?=some x/\S x:=fun i hi=>by
  refine⟨b[i],getElem?_pos b i hi,by rw[a6];exact getElem?_pos b i hi,hSb _ (by simp)⟩
 have leA:∀ (i j:Nat) (x y:Keyed),i<=j->a.toList[i]?=some x->a.toList[j]?=some y->le B x y:=fun i j x y hij hx hy=>by
  obtain⟨h1,rfl⟩:=a8.mp hx
  obtain⟨h2,rfl⟩:=a8.mp hy
  rcases A9 hij with hlt | rfl
  ·exact j0.mp sa i j h1 h2 hlt
  ·exact o.rf _
 have leB:∀ (i j:Nat) (x y:Keyed),i<=j->b.toList[i]?=some x->b.toList[j]?=some y->le B x y:=fun i j x y hij hx hy=>by
  obtain⟨h1,rfl⟩:=a8.mp hx
  obtain⟨h2,rfl⟩:=a8.mp hy
  rcases A9 hij with hlt | rfl
  ·exact j0.mp sb i j h1 h2 hlt
  ·exact o.rf _
 have tl:∀ (z:Array Keyed) (i:Nat),z[i]?=z.toList[i]?:=fun z i=>(a6 ..).symm
 have goodDone:∀ (out:Array Keyed) (ia ib:Nat),MI (le B) out.toList (a.toList.drop ia) (b.toList.drop ib) (a.toList++b.toList)->ib=b.size->Good B a b (out++a.extract ia a.size++b.extract ib b.size):=fun out ia ib m e=>by
  have en:b.toList.drop ib=[]:=by rw[e];exact x9 (by simp)
  have:=m.endAB (fun x _ y hy=>by rw[en]at hy;cases hy)
  unfold Good
  rw[m9,m9,ad1,ad1,m7]
  exact this
 have lastA:∀ (ia:Nat) (x:Keyed),ia+1=a.size->x∈a.toList.drop ia->a[a.size - 1]?=some x:=fun ia x e hx=>by
  obtain⟨j,h1,h2,h3⟩:=x5 hx
  have:j=a.size - 1:=by rw[d5]at h2;omega
  rw[<- this,tl]
  exact h3
 have goodLast:∀ (out:Array Keyed) (ia ib:Nat),MI (le B) out.toList (a.toList.drop ia) (b.toList.drop ib) (a.toList++b.toList)->ia+1=a.size->Good B a b (out++b.extract ib b.size++a.extract ia a.size):=fun out ia ib m e=>by
  have:=m.endBA (fun x hx y hy=>o.of_lt (hl x (B2 hx) y (lastA ia y e hy)))
  unfold Good
  rw[m9,m9,ad1,ad1,m7]
  exact this
 have pushB:∀ (out:Array Keyed) (ia ib:Nat) (x:Keyed),MI (le B) out.toList (a.toList.drop ia) (b.toList.drop ib) (a.toList++b.toList)->b.toList[ib]?=some x->(∀ y∈a.toList.drop ia,le B x y) ->
   MI (le B) (out.push x).toList (a.toList.drop ia) (b.toList.drop (ib+1)) (a.toList++b.toList):=fun out ia ib x m e hx=>by
  rw[drop_cons e]at m
  rw[J9]
  exact m.oneB hx
 have pushA:∀ (out:Array Keyed) (ia ib:Nat) (x:Keyed),MI (le B) out.toList (a.toList.drop ia) (b.toList.drop ib) (a.toList++b.toList)->a.toList[ia]?=some x->(∀ y∈b.toList.drop ib,le B x y) ->
   MI (le B) (out.push x).toList (a.toList.drop (ia+1)) (b.toList.drop ib) (a.toList++b.toList):=fun out ia ib x m e hx=>by
  rw[drop_cons e]at m
  rw[J9]
  exact m.oneA hx
 have blkA:∀ (out:Array Keyed) (ia ib k:Nat),MI (le B) out.toList (a.toList.drop ia) (b.toList.drop ib) (a.toList++b.toList)->(∀ x∈(a.toList.drop ia).take k,∀ y∈b.toList.drop ib,le B x y) ->
   MI (le B) (out++a.extract ia (ia+k)).toList (a.toList.drop (ia+k)) (b.toList.drop ib) (a.toList++b.toList):=fun out ia ib k m hx=>by
  rw[V0 a.toList ia k]at m
  rw[m9,ar7]
  exact m.blkA hx
 have blkB:∀ (out:Array Keyed) (ia ib k:Nat),MI (le B) out.toList (a.toList.drop ia) (b.toList.drop ib) (a.toList++b.toList)->(∀ x∈(b.toList.drop ib).take k,∀ y∈a.toList.drop ia,le B x y) ->
   MI (le B) (out++b.extract ib (ib+k)).toList (a.toList.drop ia) (b.toList.drop (ib+k)) (a.toList++b.toList):=fun out ia ib k m hx=>by
  rw[V0 b.toList ib k]at m
  rw[m9,ar7]
  exact m.blkB hx
 rw[aq3]
 refine wpS_bind (M9 ?_)
 obtain⟨b0,eb0,eb0',Sb0⟩:=gb 0 hb
 obtain⟨a0,ea0,ea0',Sa0⟩:=ga 0 ha
 have lt0:=h0 b0 a0 eb0 ea0
 refine wpS_bind (p5 eb0 ?_)
 have m0:MI (le B) ([]:List Keyed) (a.toList.drop 0) (b.toList.drop 0) (a.toList++b.toList):=⟨List.Pairwise.nil,(fun _ hx=>nomatch hx),(fun _ hx=>nomatch hx),sa,sb,List.Perm.refl _⟩
 have m1:MI (le B) (#[b0]:Array Keyed).toList (a.toList.drop 0) (b.toList.drop 1) (a.toList++b.toList):=pushB #[] 0 0 b0 m0 eb0' fun y hy=>by
  obtain⟨j,h1,h2,h3⟩:=x5 hy
  exact o.of_lt (o.lt_le lt0 (leA 0 j a0 y (j4 _) ea0' h3))
 by_cases e1:1=b.size
 ·refine A2 (by simpa using e1) ?_
  exact wpS_pure (h _ st (Sm.rfl' st) (goodDone _ 0 1 m1 e1))
 refine y7 (by simpa using e1) ?_
 by_cases e2:0+1=a.size
 ·refine A2 (by simpa using e2) ?_
  exact wpS_pure (h _ st (Sm.rfl' st) (goodLast _ 0 1 m1 e2))
 refine y7 (by simpa using e2) ?_
 refine wpS_bind (wpS_get ?_)
 have I0:LoI B a b #[b0] 0 1:=⟨m1,by omega,by omega,rfl⟩
 refine wpS_bind (wpS_mono (wpS_forRange
  (I:=fun x c st'=>Sm st st'/\∃ out ia ib mg,c=(none,out,ia,ib,mg)/\LoI B a b out ia ib/\x+1<=out.size)
  (Q:=fun c st'=>Sm st st'/\∃ r out ia ib mg,c=(some r,out,ia,ib,mg)/\Good B a b r) ?step ?fin ⟨Sm.rfl' st,#[b0],0,1,_,rfl,I0,by simp⟩) ?post)
 case fin =>
  rintro c st' ⟨hS,out,ia,ib,mg,rfl,I,hx⟩
  have h1:=I.sz
  have h2:=I.ha
  have h3:=I.hb
  exfalso
  omega
 case post =>
  rintro c st' ⟨hS,r,out,ia,ib,mg,rfl,hg⟩
  exact wpS_pure (h r st' hS hg)
 case step =>
  rintro x c st1 _ hx ⟨hS1,out,ia,ib,mg,rfl,I,hsz⟩
  refine wpS_bind (wpS_mono (wpS_forRange
   (I:=fun j c st'=>Sm st st'/\∃ out' ia' ib' ac bc,c=(none,out',ia',ib',ac,bc)/\LoI B a b out' ia' ib'/\x+1<=out'.size/\(1<=j->x+2<=out'.size))
   (Q:=fun c st'=>Sm st st'/\((∃ r out' ia' ib' ac bc,c=(some r,out',ia',ib',ac,bc)/\Good B a b r)\/(∃ out' ia' ib' ac bc,c=(none,out',ia',ib',ac,bc)/\LoI B a b out' ia' ib'/\x+2<=out'.size)))
   ?istep ?ifin ⟨hS1,out,ia,ib,0,0,rfl,I,hsz,by omega⟩) ?ipost)
  case ifin =>
   rintro c st' ⟨hS,out',ia',ib',ac,bc,rfl,I',h1,h2⟩
   exact⟨hS,.inr ⟨out',ia',ib',ac,bc,rfl,I',h2 (by omega)⟩⟩
  case istep =>
   rintro j c st' _ hj ⟨hS,out',ia',ib',ac,bc,rfl,I',h1,_⟩
   obtain⟨bx,eb,eb',Sb⟩:=gb ib' I'.hb
   obtain⟨ax,ea,ea',Sa⟩:=ga ia' (by have:=I'.ha;omega)
   refine wpS_bind (p5 eb (wpS_bind (p5 ea (wpS_bind (ad5 C (hS.k.trans hk) Sb Sa ?_)))))
   cases ew:B bx ax with
   | true =>
    refine A2 rfl ?_
    refine wpS_bind (p5 eb ?_)
    have m2:=pushB out' ia' ib' bx I'.m eb' fun y hy=>by
     obtain⟨j,h1,h2,h3⟩:=x5 hy
     exact o.of_lt (o.lt_le ew (leA ia' j ax y h1 ea' h3))
    by_cases e3:ib'+1=b.size
    ·refine A2 (by simpa using e3) ?_
     exact wpS_pure ⟨hS,.inl ⟨_,_,_,_,_,_,rfl,goodDone _ _ _ m2 e3⟩⟩
    refine y7 (by simpa using e3) ?_
    have I2:LoI B a b (out'.push bx) ia' (ib'+1):=⟨m2,I'.ha,by have:=I'.hb;omega,by rw[l7,I'.sz];omega⟩
    have z2:x+2<=(out'.push bx).size:=by rw[l7];omega
    refine R7 ?_ ?_
    ·exact wpS_pure ⟨hS,.inr ⟨_,_,_,_,_,rfl,I2,z2⟩⟩
    ·exact wpS_pure ⟨hS,_,_,_,_,_,rfl,I2,S8 z2,fun _=>z2⟩
   | false =>
    refine y7 b6 ?_
    refine wpS_bind (p5 ea ?_)
    have m2:=pushA out' ia' ib' ax I'.m ea' fun y hy=>by
     obtain⟨j,h1,h2,h3⟩:=x5 hy
     exact o.trans ew (leB ib' j bx y h1 eb' h3)
    by_cases e3:ia'+1+1=a.size
    ·refine A2 (by simpa using e3) ?_
     exact wpS_pure ⟨hS,.inl ⟨_,_,_,_,_,_,rfl,goodLast _ _ _ m2 e3⟩⟩
    refine y7 (by simpa using e3) ?_
    have I2:LoI B a b (out'.push ax) (ia'+1) ib':=⟨m2,by have:=I'.ha;omega,I'.hb,by rw[l7,I'.sz];omega⟩
    have z2:x+2<=(out'.push ax).size:=by rw[l7];omega
    refine R7 ?_ ?_
    ·exact wpS_pure ⟨hS,.inr ⟨_,_,_,_,_,rfl,I2,z2⟩⟩
    ·exact wpS_pure ⟨hS,_,_,_,_,_,rfl,I2,S8 z2,fun _=>z2⟩
  case ipost =>
   rintro c st2 ⟨hS2,⟨r,out',ia',ib',ac,bc,rfl,hg⟩ | ⟨out',ia',ib',ac,bc,rfl,I',hz⟩⟩
   ·exact wpS_pure ⟨hS2,r,_,_,_,_,rfl,hg⟩
   refine wpS_bind (M9 ?_)
   refine wpS_bind (wpS_mono (wpS_forRange
    (I:=fun j c st'=>Sm st st'/\∃ out' ia' ib' mg ac bc,c=(none,out',ia',ib',mg,ac,bc)/\LoI B a b out' ia' ib'/\x+2<=out'.size)
    (Q:=fun c st'=>Sm st st'/\((∃ r out' ia' ib' mg ac bc,c=(some r,out',ia',ib',mg,ac,bc)/\Good B a b r)\/(∃ out' ia' ib' mg ac bc,c=(none,out',ia',ib',mg,ac,bc)/\LoI B a b out' ia' ib'/\x+2<=out'.size)))
    ?gstep ?gfin ⟨hS2,out',ia',ib',_,ac,bc,rfl,I',hz⟩) ?gpost)
   case gfin =>
    rintro c st' ⟨hS,out',ia',ib',mg,ac,bc,rfl,I',h1⟩
    exact⟨hS,.inr ⟨out',ia',ib',mg,ac,bc,rfl,I',h1⟩⟩
   case gpost =>
    rintro c st3 ⟨hS3,⟨r,out',ia',ib',mg,ac,bc,rfl,hg⟩ | ⟨out',ia',ib',mg,ac,bc,rfl,I',hz⟩⟩
    ·exact wpS_pure ⟨hS3,r,_,_,_,_,rfl,hg⟩
    exact wpS_bind (R8 (wpS_pure ⟨hS3.mg _,_,_,_,_,rfl,I',by omega⟩))
   case gstep =>
    rintro j c st' _ hj ⟨hS,out',ia',ib',mg,ac,bc,rfl,I',hz⟩
    dsimp (config:={ zeta:=false }) only
    obtain⟨bx,eb,eb',Sb⟩:=gb ib' I'.hb
    obtain⟨al,eal,eal',Sal⟩:=ga (a.size - 1) (by omega)
    revert mg
    refine ao0 (fun _=>rfl) fun mg1=>?_
    try dsimp (config:={ zeta:=false }) only
    refine wpS_bind (R8 (wpS_bind (p5 eb ?_)))
    refine wpS_bind (G6 o C (hS.k.trans hk) Sb (by have:=I'.ha;omega) (fun i y hi e=>hSa y (a9 (by rw[<- tl];exact e))) (fun i j y z hij hj e e'=>leA _ _ y z (G5 hij _) (by rw[<- tl];exact e) (by rw[<- tl];exact e')) (by have:=I'.ha;omega) fun k hkn hlt hge=>?_)
    dsimp (config:={ zeta:=false }) only
    have hS':=hS
    have hlt':∀ y∈(a.toList.drop ia').take k,∀ z∈b.toList.drop ib',le B y z:=fun y hy z hz'=>by
     obtain⟨i,hi,e⟩:=G8 hy
     have q:=hlt i y hi (by rw[tl];exact e)
     obtain⟨j',h1,h2,h3⟩:=x5 hz'
     simp only[byn,g9,if_false,ah1]at q
     exact o.trans q (leB ib' j' bx z h1 eb' h3)
    have m1':=blkA out' ia' ib' k I'.m hlt'
    have hge':∀ y∈a.toList.drop (ia'+k),B bx y=true:=fun y hy=>by
     obtain⟨j',h1,h2,h3⟩:=x5 hy
     have q:=hge (j' - ia') y (by omega) (by rw[d5]at h2;omega) (by rw[show ia'+(j' - ia')=j' by omega,tl];exact h3)
     simpa [byn] using q
    have hka:ia'+k<a.size:=by
     rcases an2 (ia'+k) a.size with q | q
     ·exact q
     ·exfalso
      have h9:=I'.ha
      have q1:=hlt (a.size - 1 - ia') al (by omega) (by rw[show ia'+(a.size - 1 - ia')=a.size - 1 by omega];exact eal)
      have q2:=hl bx (a9 eb') al eal
      simp[byn,q2]at q1
    generalize eo:out'=o
    generalize en:ia'=n
    revert o n
    refine V6 (R:=fun out1 ia1=>MI (le B) out1.toList (a.toList.drop ia1) (b.toList.drop ib') (a.toList++b.toList)/\(∀ y∈a.toList.drop ia1,B bx y=true)/\ia1+1<a.size/\out1.size=ia1+ib'/\x+2<=out1.size) ?_ (fun hk J=>?_) (fun hk=>?_)
    rotate_left
    ·by_cases e4:ia'+k+1=a.size
     ·refine A2 (by simpa using e4) ?_
      exact wpS_pure ⟨hS.mg _,.inl ⟨_,_,_,_,_,_,_,rfl,goodLast _ _ _ m1' e4⟩⟩
     refine y7 (by simpa using e4) (y7 (by simp;omega) ?_)
     exact J (out'++a.extract ia' (ia'+k)) (ia'+k) ⟨m1',hge',by omega,by rw[y6,u5,I'.sz];omega,by rw[y6];omega⟩
    ·have e9:k=0:=by omega
     rw[e9]at hge'
     exact⟨I'.m,hge',I'.ha,I'.sz,hz⟩
    rintro out1 ia1 ⟨m1,hge1,hne1,sz1,z1⟩
    refine wpS_bind (p5 eb ?_)
    have m2:=pushB out1 ia1 ib' bx m1 eb' fun y hy=>o.of_lt (hge1 y hy)
    by_cases e5:ib'+1=b.size
    ·refine A2 (by simpa using e5) ?_
     exact wpS_pure ⟨hS.mg _,.inl ⟨_,_,_,_,_,_,_,rfl,goodDone _ _ _ m2 e5⟩⟩
    refine y7 (by simpa using e5) ?_
    generalize ho:out1.push bx=o2 at m2 ⊢
    have so2:o2.size=out1.size+1:=by rw[<- ho,l7]
    generalize hn:ib'+1=n2 at m2 e5 ⊢
    obtain⟨ax,ea,ea',Sa⟩:=ga ia1 (by omega)
    have hib:=I'.hb
    refine wpS_bind (p5 ea ?_)
    refine wpS_bind (G6 o C (hS.k.trans hk) Sa (by omega) (fun i y hi e=>hSb y (a9 (by rw[<- tl];exact e))) (fun i j y z hij hj e e'=>leB _ _ y z (G5 hij _) (by rw[<- tl];exact e) (by rw[<- tl];exact e')) (by omega) fun k' hkn' hlt2 hge2=>?_)
    dsimp (config:={ zeta:=false }) only
    have hlt2':∀ y∈(b.toList.drop n2).take k',∀ z∈a.toList.drop ia1,le B y z:=fun y hy z hz'=>by
     obtain⟨i,hi,e⟩:=G8 hy
     have q:=hlt2 i y hi (by rw[tl];exact e)
     obtain⟨j',h1,h2,h3⟩:=x5 hz'
     simp only[byn,if_true]at q
     exact o.of_lt (o.lt_le q (leA ia1 j' ax z h1 ea' h3))
    have m3':=blkB o2 ia1 n2 k' m2 hlt2'
    have hge2':∀ y∈b.toList.drop (n2+k'),le B ax y:=fun y hy=>by
     obtain⟨j',h1,h2,h3⟩:=x5 hy
     have q:=hge2 (j' - n2) y (by omega) (by rw[d5]at h2;omega) (by rw[show n2+(j' - n2)=j' by omega,tl];exact h3)
     show B y ax=false
     simpa [byn] using q
    have sz2:o2.size=ia1+n2:=by omega
    generalize eo:o2=o
    generalize en:n2=n
    revert o n
    refine V6 (R:=fun out2 ib2=>MI (le B) out2.toList (a.toList.drop ia1) (b.toList.drop ib2) (a.toList++b.toList)/\(∀ y∈b.toList.drop ib2,le B ax y)/\ib2<b.size/\out2.size=ia1+ib2/\x+2<=out2.size) ?_ (fun hk J=>?_) (fun hk=>?_)
    rotate_left
    ·by_cases e6:n2+k'=b.size
     ·refine A2 (by simpa using e6) ?_
      exact wpS_pure ⟨hS.mg _,.inl ⟨_,_,_,_,_,_,_,rfl,goodDone _ _ _ m3' e6⟩⟩
     refine y7 (by simpa using e6) ?_
     exact J (o2++b.extract n2 (n2+k')) (n2+k') ⟨m3',hge2',by omega,by rw[y6,u5,sz2];omega,by rw[y6];omega⟩
    ·have e8:k'=0:=by omega
     rw[e8]at hge2'
     exact⟨m2,hge2',by omega,sz2,by omega⟩
    rintro out2 ib2 ⟨m3,hge3,hne3,sz3,z3⟩
    refine wpS_bind (p5 ea ?_)
    have m4:=pushA out2 ia1 ib2 ax m3 ea' hge3
    by_cases e7:ia1+1+1=a.size
    ·refine A2 (by simpa using e7) ?_
     exact wpS_pure ⟨hS.mg _,.inl ⟨_,_,_,_,_,_,_,rfl,goodLast _ _ _ m4 e7⟩⟩
    refine y7 (by simpa using e7) ?_
    have I4:LoI B a b (out2.push ax) (ia1+1) ib2:=⟨m4,by omega,hne3,by rw[l7,sz3];omega⟩
    have z4:x+2<=(out2.push ax).size:=by
     rw[l7,sz3]
     have:=I'.sz
     omega
    refine R7 ?_ ?_
    ·exact wpS_pure ⟨hS.mg _,.inr ⟨_,_,_,_,_,_,rfl,I4,z4⟩⟩
    ·exact wpS_pure ⟨hS.mg _,_,_,_,_,_,_,rfl,I4,z4⟩
end
theorem ao3 {α:Type}{l:List α}{n:Nat}{x:α}(h:l[n]?=some x):(l.take (n+1)).reverse=x::(l.take n).reverse:=by
 rw[t8,h,aS3]
 rfl
theorem P6 {α:Type}(l:List α){k n:Nat}(h:k<=n):(l.take n).reverse=((l.drop k).take (n - k)).reverse++(l.take k).reverse:=by
 rw[<- aS3]
 congr 1
 obtain⟨d,rfl⟩:=Nat.le.dest h
 rw[D7,List.take_add]
theorem A4 {α:Type}{l:List α}{n:Nat}{x:α}(h:x∈(l.take n).reverse):∃ j,j<n/\j<l.length/\l[j]?=some x:=by
 rw[L4]at h
 obtain⟨j,hj⟩:=j7.mp h
 rw[E8]at hj
 split at hj
 ·rename_i hlt
  exact⟨j,hlt,(a8.mp hj).1,hj⟩
 ·cases hj
theorem ad0 (a:Array Keyed)(i k:Nat):(a.extract i k).toList=(a.toList.drop i).take (k - i):=by
 rw[C6,G2]
section
variable {prog:Program} {w:World} {A:Around} {E:Value->Shared->Prop} {s:Shared} {κ:SortKind} {S:Keyed->Prop} {B:Keyed->Keyed->Bool}
abbrev HM (B:Keyed->Keyed->Bool)(a b out:Array Keyed)(na nb:Nat):Prop:=MI (fun x y=>le B y x) out.toList (a.toList.take na).reverse (b.toList.take nb).reverse (a.toList++b.toList)
structure HiI (B:Keyed->Keyed->Bool) (a b out:Array Keyed) (na nb:Nat):Prop where
 m:HM B a b out na nb
 ha:0<na
 ha':na<=a.size
 hb:1<nb
 hb':nb<=b.size
 sz:out.size+na+nb=a.size+b.size
theorem an9 (o:Ord B)(C:Cmp prog w A E s κ S B){a b:Array Keyed}{st:SortSt}{Q:Array Keyed->SortSt->Prop}(hk:kindOf st=κ)(hSa:∀ x∈a.toList,S x)(hSb:∀ x∈b.toList,S x)
  (sa:a.toList.Pairwise (le B))(sb:b.toList.Pairwise (le B))(ha:0<a.size)(hb:0<b.size)
  (h0:∀ x y,b[0]?=some x->a[0]?=some y->B x y=true)(hl:∀ x∈b.toList,∀ y,a[a.size - 1]?=some y->B x y=true)
  (h:∀ r st',Sm st st'->Good B a b r->Q r st'):wpS (model prog w) A E s (af2 a b) Q st:=by
 have ga:∀ i,i<a.size->∃ x,a[i]?=some x/\a.toList[i]?=some x/\S x:=fun i hi=>by
  refine⟨a[i],getElem?_pos a i hi,by rw[a6];exact getElem?_pos a i hi,hSa _ (by simp)⟩
 have gb:∀ i,i<b.size->∃ x,b[i]?=some x/\b.toList[i]?=some x/\S x:=fun i hi=>by
  refine⟨b[i],getElem?_pos b i hi,by rw[a6];exact getElem?_pos b i hi,hSb _ (by simp)⟩
 have leA:∀ (i j:Nat) (x y:Keyed),i<=j->a.toList[i]?=some x->a.toList[j]?=some y->le B x y:=fun i j x y hij hx hy=>by
  obtain⟨h1,rfl⟩:=a8.mp hx
  obtain⟨h2,rfl⟩:=a8.mp hy
  rcases A9 hij with hlt | rfl
  ·exact j0.mp sa i j h1 h2 hlt
  ·exact o.rf _
 have leB:∀ (i j:Nat) (x y:Keyed),i<=j->b.toList[i]?=some x->b.toList[j]?=some y->le B x y:=fun i j x y hij hx hy=>by
  obtain⟨h1,rfl⟩:=a8.mp hx
  obtain⟨h2,rfl⟩:=a8.mp hy
  rcases A9 hij with hlt | rfl
  ·exact j0.mp sb i j h1 h2 hlt
  ·exact o.rf _
 have tl:∀ (z:Array Keyed) (i:Nat),z[i]?=z.toList[i]?:=fun z i=>(a6 ..).symm
 have rel:∀ {l:List Keyed},l.Pairwise (fun x y=>le B y x)->l.reverse.Pairwise (le B):=fun {l} hp=>X9.mpr hp
 have goodDone:∀ (out:Array Keyed) (na nb:Nat),HM B a b out na nb->(na=0\/nb=0)->Good B a b (a.extract 0 na++b.extract 0 nb++out.reverse):=fun out na nb m e=>by
  have:=m.endBA (fun x hx y hy=>by
   rcases e with rfl | rfl
   ·simp at hy
   ·simp at hx)
  unfold Good
  rw[m9,m9,am2,am2,L5]
  have q:(out.toList++((b.toList.take nb).reverse++(a.toList.take na).reverse)).reverse=a.toList.take na++b.toList.take nb++out.toList.reverse:=by simp
  exact⟨by rw[<- q];exact rel this.1,by rw[<- q];exact(R5 _).trans this.2⟩
 obtain⟨b0,eb0,eb0',Sb0⟩:=gb 0 hb
 obtain⟨a0,ea0,ea0',Sa0⟩:=ga 0 ha
 have lt0:=h0 b0 a0 eb0 ea0
 have goodFirst:∀ (out:Array Keyed) (na nb:Nat),HM B a b out na nb->nb=1->Good B a b (b.extract 0 nb++a.extract 0 na++out.reverse):=fun out na nb m e=>by
  have:=m.endAB (fun x hx y hy=>by
   subst e
   obtain⟨i,h1,h2,h3⟩:=A4 hx
   obtain⟨j,h4,h5,h6⟩:=A4 hy
   have:j=0:=by omega
   subst this
   rw[eb0']at h6
   cases h6
   exact o.of_lt (o.lt_le lt0 (leA 0 i a0 x (j4 _) ea0' h3)))
  unfold Good
  rw[m9,m9,am2,am2,L5]
  have q:(out.toList++((a.toList.take na).reverse++(b.toList.take nb).reverse)).reverse=b.toList.take nb++a.toList.take na++out.toList.reverse:=by simp
  exact⟨by rw[<- q];exact rel this.1,by rw[<- q];exact(R5 _).trans this.2⟩
 have pushA:∀ (out:Array Keyed) (na nb:Nat) (x:Keyed),0<na->HM B a b out na nb->a.toList[na - 1]?=some x->(∀ y∈(b.toList.take nb).reverse,le B y x)->HM B a b (out.push x) (na - 1) nb:=fun out na nb x hn m e hx=>by
  obtain⟨n,rfl⟩:∃ n,na=n+1:=⟨na - 1,by omega⟩
  unfold HM at m ⊢
  rw[bb2]at e ⊢
  rw[ao3 e]at m
  rw[J9]
  exact m.oneA hx
 have pushB:∀ (out:Array Keyed) (na nb:Nat) (x:Keyed),0<nb->HM B a b out na nb->b.toList[nb - 1]?=some x->(∀ y∈(a.toList.take na).reverse,le B y x)->HM B a b (out.push x) na (nb - 1):=fun out na nb x hn m e hx=>by
  obtain⟨n,rfl⟩:∃ n,nb=n+1:=⟨nb - 1,by omega⟩
  unfold HM at m ⊢
  rw[bb2]at e ⊢
  rw[ao3 e]at m
  rw[J9]
  exact m.oneB hx
 have blkA:∀ (out:Array Keyed) (na nb k:Nat),k<=na->HM B a b out na nb->(∀ x∈((a.toList.drop k).take (na - k)).reverse,∀ y∈(b.toList.take nb).reverse,le B y x)->HM B a b (out++(a.extract k na).reverse) k nb:=fun out na nb k hkn m hx=>by
  unfold HM at m ⊢
  rw[P6 a.toList hkn]at m
  rw[m9,L5,ad0]
  exact m.blkA hx
 have blkB:∀ (out:Array Keyed) (na nb k:Nat),k<=nb->HM B a b out na nb->(∀ x∈((b.toList.drop k).take (nb - k)).reverse,∀ y∈(a.toList.take na).reverse,le B y x)->HM B a b (out++(b.extract k nb).reverse) na k:=fun out na nb k hkn m hx=>by
  unfold HM at m ⊢
  rw[P6 b.toList hkn]at m
  rw[m9,L5,ad0]
  exact m.blkB hx
 rw[aq4]
 refine wpS_bind (M9 ?_)
 obtain⟨al,eal,eal',Sal⟩:=ga (a.size - 1) (by omega)
 refine wpS_bind (p5 eal ?_)
 have m0:HM B a b #[] a.size b.size:=by
  unfold HM
  rw[i9 (by simp),i9 (by simp)]
  refine⟨List.Pairwise.nil,(fun _ hx=>nomatch hx),(fun _ hx=>nomatch hx),X9.mpr sa,X9.mpr sb,?_⟩
  rw[J3]
  exact List.Perm.append (R5 _) (R5 _)
 have m1:HM B a b #[al] (a.size - 1) b.size:=pushA #[] a.size b.size al ha m0 eal' fun y hy=>by
  obtain⟨j,h1,h2,h3⟩:=A4 hy
  exact o.of_lt (hl y (a9 h3) al eal)
 by_cases e1:a.size - 1=0
 ·refine A2 (by simpa using e1) ?_
  exact wpS_pure (h _ st (Sm.rfl' st) (goodDone _ _ _ m1 (.inl e1)))
 refine y7 (by simpa using e1) ?_
 by_cases e2:b.size=1
 ·refine A2 (by simpa using e2) ?_
  exact wpS_pure (h _ st (Sm.rfl' st) (goodFirst _ _ _ m1 e2))
 refine y7 (by simpa using e2) ?_
 refine wpS_bind (wpS_get ?_)
 have I0:HiI B a b #[al] (a.size - 1) b.size:=⟨m1,by omega,by omega,by omega,by omega,by simp;omega⟩
 refine wpS_bind (wpS_mono (wpS_forRange
  (I:=fun x c st'=>Sm st st'/\∃ na nb out mg,c=(none,na,nb,out,mg)/\HiI B a b out na nb/\x+1<=out.size)
  (Q:=fun c st'=>Sm st st'/\∃ r na nb out mg,c=(some r,na,nb,out,mg)/\Good B a b r) ?step ?fin ⟨Sm.rfl' st,_,_,#[al],_,rfl,I0,by simp⟩) ?post)
 case fin =>
  rintro c st' ⟨hS,na,nb,out,mg,rfl,I,hx⟩
  have h1:=I.sz
  have h2:=I.ha
  have h3:=I.hb
  exfalso
  omega
 case post =>
  rintro c st' ⟨hS,r,na,nb,out,mg,rfl,hg⟩
  exact wpS_pure (h r st' hS hg)
 case step =>
  rintro x c st1 _ hx ⟨hS1,na,nb,out,mg,rfl,I,hsz⟩
  refine wpS_bind (wpS_mono (wpS_forRange
   (I:=fun j c st'=>Sm st st'/\∃ na' nb' out' ac bc,c=(none,na',nb',out',ac,bc)/\HiI B a b out' na' nb'/\x+1<=out'.size/\(1<=j->x+2<=out'.size))
   (Q:=fun c st'=>Sm st st'/\((∃ r na' nb' out' ac bc,c=(some r,na',nb',out',ac,bc)/\Good B a b r)\/(∃ na' nb' out' ac bc,c=(none,na',nb',out',ac,bc)/\HiI B a b out' na' nb'/\x+2<=out'.size)))
   ?istep ?ifin ⟨hS1,na,nb,out,0,0,rfl,I,hsz,by omega⟩) ?ipost)
  case ifin =>
   rintro c st' ⟨hS,na',nb',out',ac,bc,rfl,I',h1,h2⟩
   exact⟨hS,.inr ⟨na',nb',out',ac,bc,rfl,I',h2 (by omega)⟩⟩
  case istep =>
   rintro j c st' _ hj ⟨hS,na',nb',out',ac,bc,rfl,I',h1,_⟩
   have i1:=I'.ha
   have i2:=I'.ha'
   have i3:=I'.hb
   have i4:=I'.hb'
   have i5:=I'.sz
   obtain⟨bx,eb,eb',Sb⟩:=gb (nb' - 1) (by omega)
   obtain⟨ax,ea,ea',Sa⟩:=ga (na' - 1) (by omega)
   refine wpS_bind (p5 eb (wpS_bind (p5 ea (wpS_bind (ad5 C (hS.k.trans hk) Sb Sa ?_)))))
   cases ew:B bx ax with
   | true =>
    refine A2 rfl ?_
    refine wpS_bind (p5 ea ?_)
    have m2:=pushA out' na' nb' ax i1 I'.m ea' fun y hy=>by
     obtain⟨j,h1,h2,h3⟩:=A4 hy
     exact o.of_lt (o.le_lt (leB j (nb' - 1) y bx (by omega) h3 eb') ew)
    by_cases e3:na' - 1=0
    ·refine A2 (by simpa using e3) ?_
     exact wpS_pure ⟨hS,.inl ⟨_,_,_,_,_,_,rfl,goodDone _ _ _ m2 (.inl e3)⟩⟩
    refine y7 (by simpa using e3) ?_
    have I2:HiI B a b (out'.push ax) (na' - 1) nb':=⟨m2,by omega,by omega,i3,i4,by rw[l7];omega⟩
    have z2:x+2<=(out'.push ax).size:=by rw[l7];omega
    refine R7 ?_ ?_
    ·exact wpS_pure ⟨hS,.inr ⟨_,_,_,_,_,rfl,I2,z2⟩⟩
    ·exact wpS_pure ⟨hS,_,_,_,_,_,rfl,I2,S8 z2,fun _=>z2⟩
   | false =>
    refine y7 b6 ?_
    refine wpS_bind (p5 eb ?_)
    have m2:=pushB out' na' nb' bx (by omega) I'.m eb' fun y hy=>by
     obtain⟨j,h1,h2,h3⟩:=A4 hy
     exact o.trans (leA j (na' - 1) y ax (by omega) h3 ea') ew
    by_cases e3:nb' - 1=1
    ·refine A2 (by simpa using e3) ?_
     exact wpS_pure ⟨hS,.inl ⟨_,_,_,_,_,_,rfl,goodFirst _ _ _ m2 e3⟩⟩
    refine y7 (by simpa using e3) ?_
    have I2:HiI B a b (out'.push bx) na' (nb' - 1):=⟨m2,i1,i2,by omega,by omega,by rw[l7];omega⟩
    have z2:x+2<=(out'.push bx).size:=by rw[l7];omega
    refine R7 ?_ ?_
    ·exact wpS_pure ⟨hS,.inr ⟨_,_,_,_,_,rfl,I2,z2⟩⟩
    ·exact wpS_pure ⟨hS,_,_,_,_,_,rfl,I2,S8 z2,fun _=>z2⟩
  case ipost =>
   rintro c st2 ⟨hS2,⟨r,na',nb',out',ac,bc,rfl,hg⟩ | ⟨na',nb',out',ac,bc,rfl,I',hz⟩⟩
   ·exact wpS_pure ⟨hS2,r,_,_,_,_,rfl,hg⟩
   refine wpS_bind (M9 ?_)
   refine wpS_bind (wpS_mono (wpS_forRange
    (I:=fun j c st'=>Sm st st'/\∃ na' nb' out' mg ac bc,c=(none,na',nb',out',mg,ac,bc)/\HiI B a b out' na' nb'/\x+2<=out'.size)
    (Q:=fun c st'=>Sm st st'/\((∃ r na' nb' out' mg ac bc,c=(some r,na',nb',out',mg,ac,bc)/\Good B a b r)\/(∃ na' nb' out' mg ac bc,c=(none,na',nb',out',mg,ac,bc)/\HiI B a b out' na' nb'/\x+2<=out'.size)))
    ?gstep ?gfin ⟨hS2,na',nb',out',_,ac,bc,rfl,I',hz⟩) ?gpost)
   case gfin =>
    rintro c st' ⟨hS,na',nb',out',mg,ac,bc,rfl,I',h1⟩
    exact⟨hS,.inr ⟨na',nb',out',mg,ac,bc,rfl,I',h1⟩⟩
   case gpost =>
    rintro c st3 ⟨hS3,⟨r,na',nb',out',mg,ac,bc,rfl,hg⟩ | ⟨na',nb',out',mg,ac,bc,rfl,I',hz⟩⟩
    ·exact wpS_pure ⟨hS3,r,_,_,_,_,rfl,hg⟩
    exact wpS_bind (R8 (wpS_pure ⟨hS3.mg _,_,_,_,_,rfl,I',by omega⟩))
   case gstep =>
    rintro j c st' _ hj ⟨hS,na',nb',out',mg,ac,bc,rfl,I',hz⟩
    dsimp (config:={ zeta:=false }) only
    have i1:=I'.ha
    have i2:=I'.ha'
    have i3:=I'.hb
    have i4:=I'.hb'
    have i5:=I'.sz
    obtain⟨bx,eb,eb',Sb⟩:=gb (nb' - 1) (by omega)
    revert mg
    refine ao0 (fun _=>rfl) fun mg1=>?_
    try dsimp (config:={ zeta:=false }) only
    refine wpS_bind (R8 (wpS_bind (p5 eb ?_)))
    refine wpS_bind (G6 o C (hS.k.trans hk) Sb (by omega) (fun i y hi e=>hSa y (a9 (by rw[<- tl];exact e))) (fun i j y z hij hj e e'=>leA _ _ y z (G5 hij _) (by rw[<- tl];exact e) (by rw[<- tl];exact e')) (by omega) fun k hkn hlt hge=>?_)
    dsimp (config:={ zeta:=false }) only
    have hlt':∀ y∈(a.toList.take k).reverse,le B y bx:=fun y hy=>by
     obtain⟨i,h1,h2,h3⟩:=A4 hy
     have q:=hlt i y h1 (by rw[D6,tl];exact h3)
     show B bx y=false
     simpa [byn] using q
    have hge':∀ y∈((a.toList.drop k).take (na' - k)).reverse,∀ z∈(b.toList.take nb').reverse,le B z y:=fun y hy z hz'=>by
     rw[L4]at hy
     obtain⟨i,h1,h3⟩:=G8 hy
     have q:=hge (k+i) y (by omega) (by omega) (by rw[D6,tl];exact h3)
     obtain⟨j',h4,h5,h6⟩:=A4 hz'
     have q':B bx y=true:=by simpa [byn] using q
     exact o.of_lt (o.le_lt (leB j' (nb' - 1) z bx (by omega) h6 eb') q')
    have m1':=blkA out' na' nb' k hkn I'.m hge'
    generalize hd:na' - k=d
    generalize eo:out'=o
    generalize en:na'=n
    revert o n
    refine V6 (R:=fun out1 na1=>HM B a b out1 na1 nb'/\(∀ y∈(a.toList.take na1).reverse,le B y bx)/\0<na1/\na1<=a.size/\out1.size+na1+nb'=a.size+b.size/\x+2<=out1.size) ?_ (fun hk J=>?_) (fun hk=>?_)
    rotate_left
    ·by_cases e4:k=0
     ·refine A2 (by simpa using e4) ?_
      exact wpS_pure ⟨hS.mg _,.inl ⟨_,_,_,_,_,_,_,rfl,goodDone _ _ _ m1' (.inl e4)⟩⟩
     refine y7 (by simpa using e4) ?_
     exact J (out'++(a.extract k na').reverse) k ⟨m1',hlt',by omega,by omega,by rw[y6,aS4,u5];omega,by rw[y6];omega⟩
    ·have e9:k=na':=by omega
     exact⟨I'.m,by rw[<- e9];exact hlt',i1,i2,i5,hz⟩
    rintro out1 na1 ⟨m1,hge1,hne1,hle1,sz1,z1⟩
    refine wpS_bind (p5 eb ?_)
    have m2:=pushB out1 na1 nb' bx (by omega) m1 eb' hge1
    by_cases e5:nb' - 1=1
    ·refine A2 (by simpa using e5) ?_
     exact wpS_pure ⟨hS.mg _,.inl ⟨_,_,_,_,_,_,_,rfl,goodFirst _ _ _ m2 e5⟩⟩
    refine y7 (by simpa using e5) ?_
    generalize ho:out1.push bx=o2 at m2 ⊢
    have so2:o2.size=out1.size+1:=by rw[<- ho,l7]
    generalize hn:nb' - 1=n2 at m2 e5 ⊢
    obtain⟨ax,ea,ea',Sa⟩:=ga (na1 - 1) (by omega)
    refine wpS_bind (p5 ea ?_)
    refine wpS_bind (G6 o C (hS.k.trans hk) Sa (by omega) (fun i y hi e=>hSb y (a9 (by rw[<- tl];exact e))) (fun i j y z hij hj e e'=>leB _ _ y z (G5 hij _) (by rw[<- tl];exact e) (by rw[<- tl];exact e')) (by omega) fun k' hkn' hlt2 hge2=>?_)
    dsimp (config:={ zeta:=false }) only
    have hlt2':∀ y∈(b.toList.take k').reverse,le B y ax:=fun y hy=>by
     obtain⟨i,h1,h2,h3⟩:=A4 hy
     have q:=hlt2 i y h1 (by rw[D6,tl];exact h3)
     have q':B y ax=true:=by simpa [byn] using q
     exact o.of_lt q'
    have hge2':∀ y∈((b.toList.drop k').take (n2 - k')).reverse,∀ z∈(a.toList.take na1).reverse,le B z y:=fun y hy z hz'=>by
     rw[L4]at hy
     obtain⟨i,h1,h3⟩:=G8 hy
     have q:=hge2 (k'+i) y (by omega) (by omega) (by rw[D6,tl];exact h3)
     obtain⟨j',h4,h5,h6⟩:=A4 hz'
     have q':B y ax=false:=by simpa [byn] using q
     exact o.trans (leA j' (na1 - 1) z ax (by omega) h6 ea') q'
    have m3':=blkB o2 na1 n2 k' hkn' m2 hge2'
    have sz2:o2.size+na1+n2=a.size+b.size:=by omega
    generalize hd2:n2 - k'=d2
    generalize eo:o2=o
    generalize en:n2=n
    revert o n
    refine V6 (R:=fun out2 nb2=>HM B a b out2 na1 nb2/\(∀ y∈(b.toList.take nb2).reverse,le B y ax)/\1<nb2/\nb2<=b.size/\out2.size+na1+nb2=a.size+b.size/\x+2<=out2.size) ?_ (fun hk J=>?_) (fun hk=>?_)
    rotate_left
    ·by_cases e6:k'=1
     ·refine A2 (by simpa using e6) ?_
      exact wpS_pure ⟨hS.mg _,.inl ⟨_,_,_,_,_,_,_,rfl,goodFirst _ _ _ m3' e6⟩⟩
     refine y7 (by simpa using e6) ?_
     by_cases e7:k'=0
     ·refine A2 (by simpa using e7) ?_
      exact wpS_pure ⟨hS.mg _,.inl ⟨_,_,_,_,_,_,_,rfl,goodDone _ _ _ m3' (.inr e7)⟩⟩
     refine y7 (by simpa using e7) ?_
     exact J (o2++(b.extract k' n2).reverse) k' ⟨m3',hlt2',by omega,by omega,by rw[y6,aS4,u5];omega,by rw[y6];omega⟩
    ·have e8:k'=n2:=by omega
     exact⟨m2,by rw[<- e8];exact hlt2',by omega,by omega,sz2,by omega⟩
    rintro out2 nb2 ⟨m3,hge3,hne3,hle3,sz3,z3⟩
    refine wpS_bind (p5 ea ?_)
    have m4:=pushA out2 na1 nb2 ax hne1 m3 ea' hge3
    by_cases e7:na1 - 1=0
    ·refine A2 (by simpa using e7) ?_
     exact wpS_pure ⟨hS.mg _,.inl ⟨_,_,_,_,_,_,_,rfl,goodDone _ _ _ m4 (.inl e7)⟩⟩
    refine y7 (by simpa using e7) ?_
    have I4:HiI B a b (out2.push ax) (na1 - 1) nb2:=⟨m4,by omega,by omega,hne3,hle3,by rw[l7];omega⟩
    have z4:x+2<=(out2.push ax).size:=by
     rw[l7]
     omega
    refine R7 ?_ ?_
    ·exact wpS_pure ⟨hS.mg _,.inr ⟨_,_,_,_,_,_,rfl,I4,z4⟩⟩
    ·exact wpS_pure ⟨hS.mg _,_,_,_,_,_,_,rfl,I4,z4⟩
end
def KF {O:KeyOrd}(f:Keyed->O.α)(d:O.α)(xs:Array Keyed)(i:Nat):O.α:=match xs[i]? with
 | some p=>f p
 | none=>d
def Bf {O:KeyOrd}(f:Keyed->O.α)(x y:Keyed):Bool:=O.blt (f x) (f y)
theorem Bf.ord {O:KeyOrd}(f:Keyed->O.α):Ord (Bf f):=⟨fun x=>O.irrefl _,fun x y z=>O.trans _ _ _,fun x y z=>O.negTrans _ _ _⟩
section
variable {O:KeyOrd} {f:Keyed->O.α} {d:O.α}
theorem R3 {xs ys:Array Keyed}{i j:Nat}(h:xs[i]?=ys[j]?):KF f d xs i=KF f d ys j:=by unfold KF;rw[h]
theorem ad2 {xs:Array Keyed}{i:Nat}{x:Keyed}(h:xs[i]?=some x):KF f d xs i=f x:=by unfold KF;rw[h]
theorem aj9 {xs:Array Keyed}{src dd:Nat}(hs:src<xs.size)(hd:dd<=src)(k:Nat) :
  KF f d (bubble xs src dd) k=if k=src - dd then KF f d xs src else if src - dd<k/\k<=src then KF f d xs (k - 1) else KF f d xs k:=by
 have e:=getElem?_bubble hs dd hd k
 repeat' split at e
 all_goals first
  | (rw[if_pos (by assumption)];exact R3 e)
  | (rw[if_neg (by assumption),if_pos (by assumption)];exact R3 e)
  | (rw[if_neg (by assumption),if_neg (by assumption)];exact R3 e)
theorem Z9 {xs:Array Keyed}{i j:Nat}(hj:j<=xs.size)(k:Nat):KF f d (mirror xs i j ((j - i) / 2)) k=if i<=k/\k<j then KF f d xs (i+j - 1 - k) else KF f d xs k:=by
 have e:=getElem?_mirror_all (i:=i) hj k
 split at e
 ·rw[if_pos (by assumption)];exact R3 e
 ·rw[if_neg (by assumption)];exact R3 e
theorem C9 {xs:Array Keyed}{i j:Nat}(hj:j<=xs.size)(heq:∀ k,i<=k->k<j->KF f d xs k=KF f d xs (j - 1))(k:Nat):KF f d (mirror xs i j ((j - i) / 2)) k=KF f d xs k:=by
 rw[Z9 hj]
 split
 ·rw[heq _ (by omega) (by omega),heq k (by omega) (by omega)]
 ·rfl
end
def F9 {O:KeyOrd}(f:Keyed->O.α)(d:O.α)(lo:Nat)(xs:Array Keyed)(k:Nat):Prop:=∀ i j,i<=j->j<k->O.kle (KF f d xs (lo+i)) (KF f d xs (lo+j))
def O6 {O:KeyOrd}(f:Keyed->O.α)(d:O.α)(lo:Nat)(xs:Array Keyed)(k:Nat):Prop:=∀ i j,i<=j->j<k->O.kle (KF f d xs (lo+j)) (KF f d xs (lo+i))
def Pre (lo:Nat)(xs ys:Array Keyed):Prop:=∀ k,k<lo->ys[k]?=xs[k]?
theorem Pre.rf (lo:Nat)(xs:Array Keyed):Pre lo xs xs:=fun _ _=>rfl
theorem Pre.trans {lo:Nat}{xs ys zs:Array Keyed}(a:Pre lo xs ys)(b:Pre lo ys zs):Pre lo xs zs:=fun k hk=>(b k hk).trans (a k hk)
theorem Pre.mirror {lo i j:Nat}{xs:Array Keyed}(hj:j<=xs.size)(hi:lo<=i):Pre lo xs (mirror xs i j ((j - i) / 2)):=fun k hk=>by
 rw[getElem?_mirror_all hj,if_neg (by omega)]
theorem Pre.bubble {lo src dd:Nat}{xs:Array Keyed}(hs:src<xs.size)(hd:dd<=src)(hl:lo<=src - dd):Pre lo xs (bubble xs src dd):=fun k hk=>by
 rw[getElem?_bubble hs dd hd,if_neg (by omega),if_neg (by omega)]
structure SI (a₀:Array Keyed) (κ:SortKind) (p:Array (Nat × Nat × Nat)) (st:SortSt):Prop where
 perm:(arrOf st).Perm a₀
 kind:kindOf st=κ
 failed:failedOf st=none
 pend:pendingOf st=p
section
variable {prog:Program} {w:World} {A:Around} {E:Value->Shared->Prop} {s:Shared} {κ:SortKind} {a₀:Array Keyed} {p:Array (Nat × Nat × Nat)} {O:KeyOrd} {f:Keyed->O.α} {d:O.α}
theorem SI.size {st:SortSt}(h:SI a₀ κ p st):(arrOf st).size=a₀.size:=h.perm.size_eq
theorem SI.setArr {st:SortSt}(h:SI a₀ κ p st){xs:Array Keyed}(hp:xs.Perm (arrOf st)):SI a₀ κ p (setArr st xs):=⟨hp.trans h.perm,h.kind,h.failed,h.pend⟩
theorem SI.at {st:SortSt}(h:SI a₀ κ p st){i:Nat}(hi:i<a₀.size):∃ x,(arrOf st)[i]?=some x/\x∈a₀.toList:=by
 have hi':i<(arrOf st).size:=by rw[h.size];exact hi
 exact⟨(arrOf st)[i],getElem?_pos _ i hi',(F4.mp h.perm).mem_iff.mp (by simp)⟩
abbrev aS2 (prog:Program)(w:World)(A:Around)(E:Value->Shared->Prop)(s:Shared)(κ:SortKind)(a₀:Array Keyed){O:KeyOrd}(f:Keyed->O.α):Prop:=Cmp prog w A E s κ (·∈a₀.toList) (Bf f)
theorem N8 (C:aS2 prog w A E s κ a₀ f){st:SortSt}{i j:Nat}{Q:Option Bool->SortSt->Prop}(hB:SI a₀ κ p st)(hi:i<a₀.size)(hj:j<a₀.size)
  (h:Q (some (O.blt (KF f d (arrOf st) i) (KF f d (arrOf st) j))) st):wpS (model prog w) A E s (ltAt' i j) Q st:=by
 obtain⟨x,e1,hx⟩:=hB.at hi
 obtain⟨y,e2,hy⟩:=hB.at hj
 rw[ad2 e1,ad2 e2]at h
 exact aB0 C hB.kind e1 e2 hx hy h
theorem ax5 {st:SortSt} {lo a nrem:Nat} {Q:Option (Option Nat) × Nat->SortSt->Prop} {b:Nat->Option (Option Nat) × Nat->StateT SortSt Sem (ForInStep (Option (Option Nat) × Nat))} (ha:1<=a) (han:a<=nrem)
  (hb : ∀ x n (R : ForInStep (Option (Option Nat) × Nat) -> SortSt -> Prop), 1 <= n -> n < nrem -> (O.klt (KF f d (arrOf st) (lo + n)) (KF f d (arrOf st) (lo + n - 1)) -> R (.done (none, n)) st) ->
   (O.kle (KF f d (arrOf st) (lo+n - 1)) (KF f d (arrOf st) (lo+n))->R (.yield (none,n+1)) st)->wpS (model prog w) A E s (b x (none,n)) R st)
  (hs:F9 f d lo (arrOf st) a)
  (h:∀ n,a<=n->n<=nrem->F9 f d lo (arrOf st) n->(n=nrem\/O.klt (KF f d (arrOf st) (lo+n)) (KF f d (arrOf st) (lo+n - 1)))->Q (none,n) st) :
  wpS (model prog w) A E s (forIn [a:nrem] (none,a) b) Q st:=by
 refine wpS_forRange (I:=fun x c st'=>st'=st/\c=(none,x)/\F9 f d lo (arrOf st) x) ?step ?fin ⟨rfl,rfl,hs⟩
 case fin =>
  rintro c st' ⟨rfl,rfl,hs'⟩
  rw[show max a nrem=nrem by omega]at hs' ⊢
  exact h nrem han (b4 _) hs' (.inl rfl)
 case step =>
  rintro x c st' hax hxn ⟨rfl,rfl,hs'⟩
  refine hb x x _ (by omega) hxn (fun q=>h x hax (by omega) hs' (.inr q)) (fun q=>⟨rfl,rfl,fun i j hij hj=>?_⟩)
  by_cases hjx:j<x
  ·exact hs' i j hij hjx
  ·have hj':j=x:=by omega
   subst hj'
   by_cases hi':i=j
   ·subst hi';exact KeyOrd.kle_refl _
   ·refine KeyOrd.kle_trans (hs' i (j - 1) (by omega) (by omega)) ?_
    rw[show lo+(j - 1)=lo+j - 1 by omega]
    exact q
theorem aF8 {st:SortSt} {lo n nrem:Nat} {Q:Option (Option Nat) × Nat × Nat->SortSt->Prop} {b:Nat->Option (Option Nat) × Nat × Nat->StateT SortSt Sem (ForInStep (Option (Option Nat) × Nat × Nat))} (hn:lo+nrem<=a₀.size) (h1:1<=n) (hnn:n<=nrem) (hB:SI a₀ κ p st)
  (hb : ∀ y x neq st' (R : ForInStep (Option (Option Nat) × Nat × Nat) -> SortSt -> Prop), SI a₀ κ p st' -> 1 <= x -> x < nrem ->
   (O.klt (KF f d (arrOf st') (lo+x)) (KF f d (arrOf st') (lo+x - 1))->0<neq->R (.yield (none,x+1,0)) (setArr st' (mirror (arrOf st') (lo+x - (neq+1)) (lo+x) ((lo+x - (lo+x - (neq+1))) / 2)))) ->
   (O.klt (KF f d (arrOf st') (lo+x)) (KF f d (arrOf st') (lo+x - 1))->R (.yield (none,x+1,0)) st') ->
   (R (.done (none,x,neq)) st') ->
   (O.kle (KF f d (arrOf st') (lo+x - 1)) (KF f d (arrOf st') (lo+x))->O.kle (KF f d (arrOf st') (lo+x)) (KF f d (arrOf st') (lo+x - 1))->R (.yield (none,x+1,neq+1)) st')->wpS (model prog w) A E s (b y (none,x,neq)) R st')
  (hs:O6 f d lo (arrOf st) n)
  (h:∀ m neq st',SI a₀ κ p st'->Pre lo (arrOf st) (arrOf st')->n<=m->m<=nrem->O6 f d lo (arrOf st') m->neq+1<=m->(∀ i,m - (neq+1)<=i->i<m->KF f d (arrOf st') (lo+i)=KF f d (arrOf st') (lo+m - 1))->Q (none,m,neq) st') :
  wpS (model prog w) A E s (forIn [n:nrem] (none,n,0) b) Q st:=by
 refine wpS_forRange (I:=fun x c st'=>∃ neq,c=(none,x,neq)/\SI a₀ κ p st'/\Pre lo (arrOf st) (arrOf st')/\O6 f d lo (arrOf st') x/\neq+1<=x /\
   (∀ i,x - (neq+1)<=i->i<x->KF f d (arrOf st') (lo+i)=KF f d (arrOf st') (lo+x - 1))) ?step ?fin ⟨0,rfl,hB,Pre.rf _ _,hs,by omega,fun i h1 h2=>by congr 1;omega⟩
 case fin =>
  rintro c st' ⟨neq,rfl,hB',hp',hs',hq,he⟩
  rw[show max n nrem=nrem by omega]at hs' hq he ⊢
  exact h nrem neq st' hB' hp' hnn (b4 _) hs' hq he
 case step =>
  rintro x c st' hax hxn ⟨neq,rfl,hB',hp',hs',hq,he⟩
  have hsz:lo+x<=(arrOf st').size:=by rw[hB'.size];omega
  have step1:O.klt (KF f d (arrOf st') (lo+x)) (KF f d (arrOf st') (lo+x - 1))->∀ xs:Array Keyed,(∀ k,KF f d xs k=KF f d (arrOf st') k)->O6 f d lo xs (x+1):=by
   intro hless xs hk i j hij hj
   rw[hk,hk]
   by_cases hjx:j<x
   ·exact hs' i j hij hjx
   ·have hj':j=x:=by omega
    subst hj'
    by_cases hi':i=j
    ·subst hi';exact KeyOrd.kle_refl _
    ·refine KeyOrd.kle_trans (KeyOrd.kle_of_klt hless) ?_
     rw[show lo+j - 1=lo+(j - 1) by omega]
     exact hs' i (j - 1) (by omega) (by omega)
  have he':∀ k,lo+x - (neq+1)<=k->k<lo+x->KF f d (arrOf st') k=KF f d (arrOf st') (lo+x - 1):=fun k h1 h2=>by
   have:=he (k - lo) (by omega) (by omega)
   rw[show lo+(k - lo)=k by omega]at this
   exact this
  refine hb x x neq st' _ hB' (by omega) hxn (fun q hneq=>?_) (fun q=>?_) (h x neq st' hB' hp' hax (by omega) hs' hq he) (fun q q'=>?_)
  ·exact⟨0,rfl,hB'.setArr (mirror_perm _ _ _ _),hp'.trans (Pre.mirror hsz (by omega)),step1 q _ (C9 hsz he'),by omega,fun i h1 h2=>by congr 1;omega⟩
  ·exact⟨0,rfl,hB',hp',step1 q _ (fun _=>rfl),by omega,fun i h1 h2=>by congr 1;omega⟩
  ·have heqx:KF f d (arrOf st') (lo+x)=KF f d (arrOf st') (lo+x - 1):=KeyOrd.kle_antisymm q' q
   refine⟨neq+1,rfl,hB',hp',fun i j hij hj=>?_,by omega,fun i h1 h2=>?_⟩
   ·by_cases hjx:j<x
    ·exact hs' i j hij hjx
    ·have hj':j=x:=by omega
     subst hj'
     by_cases hi':i=j
     ·subst hi';exact KeyOrd.kle_refl _
     ·rw[heqx,show lo+j - 1=lo+(j - 1) by omega];exact hs' i (j - 1) (by omega) (by omega)
   ·rw[show lo+(x+1) - 1=lo+x by omega]
    by_cases hix:i=x
    ·subst hix;rfl
    ·rw[heqx];exact he i (by omega) (by omega)
theorem wpS_countRun (C:aS2 prog w A E s κ a₀ f) {st:SortSt} {lo nrem:Nat} {Q:Option Nat->SortSt->Prop} (d:O.α) (hn:lo+nrem<=a₀.size) (h1:1<=nrem) (hB:SI a₀ κ p st)
    (h:∀ m st',SI a₀ κ p st'->Pre lo (arrOf st) (arrOf st')->1<=m->m<=nrem->F9 f d lo (arrOf st') m->Q (some m) st') :
    wpS (model prog w) A E s (countRun' lo nrem) Q st:=by
  rw[countRun'_eq]
  dsimp only
  refine wpS_bind (ax5 (f:=f) (d:=d) (lo:=lo) (b4 1) h1 (fun x n R hn1 hn2 q1 q2=>?_) (fun i j hij hj=>by have:i=j:=(by omega);subst this;exact KeyOrd.kle_refl _) fun n hn1 hn2 hsn hor=>?_)
  · dsimp only
    refine wpS_bind (N8 (d:=d) C hB (by omega) (by omega) ?_)
    cases e:O.blt (KF f d (arrOf st) (lo+n)) (KF f d (arrOf st) (lo+n - 1)) with
    | true=>exact wpS_pure (q1 e)
    | false=>exact wpS_pure (q2 e)
  dsimp only
  by_cases hnn:n=nrem
  · rw[if_pos (by simpa using hnn)]
    exact wpS_pure (h n st hB (Pre.rf _ _) hn1 hn2 hsn)
  rw[if_neg (by simpa using hnn)]
  have hlt:=hor.resolve_left hnn
  by_cases hrose:1<n/\O.blt (KF f d (arrOf st) lo) (KF f d (arrOf st) (lo+n - 1))=true
  · rw[if_pos hrose.1]
    refine wpS_bind (N8 (d:=d) C hB (by omega) (by omega) ?_)
    rw[hrose.2]
    exact wpS_pure (h n st hB (Pre.rf _ _) hn1 hn2 hsn)
  have hfell:1<n->O.blt (KF f d (arrOf st) lo) (KF f d (arrOf st) (lo+n - 1))=false:=fun hgt=>by
    cases e:O.blt (KF f d (arrOf st) lo) (KF f d (arrOf st) (lo+n - 1)) with
    | false=>rfl
    | true=>exact absurd ⟨hgt,e⟩ hrose
  have fall:∃ st2,SI a₀ κ p st2/\Pre lo (arrOf st) (arrOf st2)/\O6 f d lo (arrOf st2) (n+1)/\(n > 1->st2=setArr st (mirror (arrOf st) lo (lo+n) ((lo+n - lo) / 2)))/\(¬ n > 1->st2=st):=by
    by_cases hgt:1<n
    · have hfell:=hfell hgt
      have hsz:lo+n<=(arrOf st).size:=by rw[hB.size];omega
      have hall:∀ k,lo<=k->k<lo+n->KF f d (arrOf st) k=KF f d (arrOf st) (lo+n - 1):=by
        intro k hk0 hk
        have a1:=hsn 0 (k - lo) (by omega) (by omega)
        have a2:=hsn (k - lo) (n - 1) (by omega) (by omega)
        rw[show lo+0=lo by omega,show lo+(k - lo)=k by omega]at a1
        rw[show lo+(k - lo)=k by omega,show lo+(n - 1)=lo+n - 1 by omega]at a2
        exact KeyOrd.kle_antisymm a2 (KeyOrd.kle_trans hfell a1)
      refine⟨_,hB.setArr (mirror_perm _ _ _ _),Pre.mirror hsz (b4 _),?_,fun _=>rfl,fun e=>by omega⟩
      intro i j hij hj
      show O.kle (KF f d (mirror (arrOf st) _ _ _) (lo+j)) (KF f d (mirror (arrOf st) _ _ _) (lo+i))
      rw[C9 hsz hall,C9 hsz hall]
      by_cases hjn:j<n
      · rw[hall (lo+i) (by omega) (by omega),hall (lo+j) (by omega) (by omega)];exact KeyOrd.kle_refl _
      · have hj':j=n:=by omega
        subst hj'
        by_cases hi':i=j
        · subst hi';exact KeyOrd.kle_refl _
        · rw[hall (lo+i) (by omega) (by omega)];exact KeyOrd.kle_of_klt hlt
    · have hn1':n=1:=by omega
      subst hn1'
      refine⟨st,hB,Pre.rf _ _,?_,fun q=>by omega,fun _=>rfl⟩
      intro i j hij hj
      by_cases hi':i=j
      · subst hi';exact KeyOrd.kle_refl _
      · have hi0:i=0:=by omega
        have hj1:j=1:=by omega
        subst hi0;subst hj1
        rw[show lo+0=lo+1 - 1 by omega]
        exact KeyOrd.kle_of_klt hlt
  obtain⟨st2,hB2,hp2,hs2,e2,e3⟩:=fall
  by_cases hgt:n > 1
  all_goals first
    | (rw [if_pos hgt]
       refine wpS_bind (N8 (d:=d) C hB (by omega) (by omega) ?_)
       rw[hfell hgt]
       dsimp only
       rw[if_neg b6]
       refine wpS_bind (wpS_reverse ?_)
       rw[<- e2 hgt])
    | (rw [if_neg hgt]
       have e3:=e3 hgt
       rw[<- e3])
  all_goals
    clear e2 e3
    refine wpS_bind (M9 ?_)
    refine wpS_bind (aF8 (f:=f) (d:=d) (lo:=lo) hn (by omega) (by omega) hB2 (fun y x neq st' R hB' x1 x2 q1 q2 q3 q4=>?_) hs2 fun m neq st' hB' hp' hm1 hm2 hs' hq he=>?_)
    · dsimp only
      refine wpS_bind (N8 (d:=d) C hB' (by omega) (by omega) ?_)
      cases e:O.blt (KF f d (arrOf st') (lo+x)) (KF f d (arrOf st') (lo+x - 1)) with
      | true =>
        dsimp only
        rw[if_pos rfl]
        split
        · rename_i hz
          exact wpS_bind (wpS_reverse (wpS_pure (q1 e hz)))
        · exact wpS_pure (q2 e)
      | false =>
        dsimp only
        rw[if_neg b6]
        refine wpS_bind (N8 (d:=d) C hB' (by omega) (by omega) ?_)
        cases e':O.blt (KF f d (arrOf st') (lo+x - 1)) (KF f d (arrOf st') (lo+x)) with
        | true=>exact wpS_pure q3
        | false=>exact wpS_pure (q4 e e')
    · dsimp only
      have hsz:lo+m<=(arrOf st').size:=by rw[hB'.size];omega
      have he':∀ k,lo+m - (neq+1)<=k->k<lo+m->KF f d (arrOf st') k=KF f d (arrOf st') (lo+m - 1):=fun k h1 h2=>by
        have:=he (k - lo) (by omega) (by omega)
        rw[show lo+(k - lo)=k by omega]at this
        exact this
      have tailOk:∀ st3,SI a₀ κ p st3->Pre lo (arrOf st) (arrOf st3)->O6 f d lo (arrOf st3) m->SI a₀ κ p (setArr st3 (mirror (arrOf st3) lo (lo+m) ((lo+m - lo) / 2)))/\Pre lo (arrOf st) (mirror (arrOf st3) lo (lo+m) ((lo+m - lo) / 2))/\F9 f d lo (mirror (arrOf st3) lo (lo+m) ((lo+m - lo) / 2)) m:=fun st3 hB3 hp3 hs3=>by
        have hsz3:lo+m<=(arrOf st3).size:=by rw[hB3.size];omega
        refine⟨hB3.setArr (mirror_perm _ _ _ _),hp3.trans (Pre.mirror hsz3 (b4 _)),fun i j hij hj=>?_⟩
        rw[Z9 hsz3,Z9 hsz3,if_pos (by omega),if_pos (by omega),show lo+(lo+m) - 1 - (lo+i)=lo+(m - 1 - i) by omega,show lo+(lo+m) - 1 - (lo+j)=lo+(m - 1 - j) by omega]
        exact hs3 _ _ (by omega) (by omega)
      have mm:O6 f d lo (mirror (arrOf st') (lo+m - (neq+1)) (lo+m) ((lo+m - (lo+m - (neq+1))) / 2)) m:=fun i j hij hj=>by
        rw[C9 hsz he',C9 hsz he']
        exact hs' i j hij hj
      by_cases hneq:neq > 0
      all_goals first
        | (rw [if_pos hneq]
           refine wpS_bind (wpS_reverse (wpS_bind (wpS_reverse ?_)))
           obtain⟨hB4,hp4,hs4⟩:=tailOk (setArr st' (mirror (arrOf st') (lo+m - (neq+1)) (lo+m) ((lo+m - (lo+m - (neq+1))) / 2))) (hB'.setArr (mirror_perm _ _ _ _)) ((hp2.trans hp').trans (Pre.mirror hsz (by omega))) mm)
        | (rw [if_neg hneq]
           refine wpS_bind (wpS_reverse ?_)
           obtain⟨hB4,hp4,hs4⟩:=tailOk st' hB' (hp2.trans hp') hs')
      all_goals
        refine wpS_bind (ax5 (f:=f) (d:=d) (lo:=lo) (by omega) hm2 (fun x n R hn1 hn2 q1 q2=>?_) hs4 fun n' hn1' hn2' hsn' _=>wpS_pure (h n' _ hB4 hp4 (by omega) hn2' hsn'))
        dsimp only
        refine wpS_bind (N8 (d:=d) C hB4 (by omega) (by omega) ?_)
        revert q1 q2
        generalize KF f d (arrOf _) (lo+n)=u
        generalize KF f d (arrOf _) (lo+n - 1)=v
        intro q1 q2
        cases e:O.blt u v with
        | true=>exact wpS_pure (q1 e)
        | false=>exact wpS_pure (q2 e)
theorem ab2 (C:aS2 prog w A E s κ a₀ f) {st:SortSt} {lo n ok:Nat} {Q:Bool->SortSt->Prop} (d:O.α) (hn:lo+n<=a₀.size) (hok:ok<=n) (hB:SI a₀ κ p st) (hs:F9 f d lo (arrOf st) ok)
  (h:∀ st',SI a₀ κ p st'->Pre lo (arrOf st) (arrOf st')->F9 f d lo (arrOf st') n->Q true st'):wpS (model prog w) A E s (binarySort' lo n ok) Q st:=by
 rw[binarySort'_eq]
 refine wpS_bind (wpS_mono (wpS_forRange (I:=fun k c st'=>c=(none,())/\SI a₀ κ p st'/\Pre lo (arrOf st) (arrOf st')/\F9 f d lo (arrOf st') (min k n))
  (Q:=fun c st'=>c=(none,())/\SI a₀ κ p st'/\Pre lo (arrOf st) (arrOf st')/\F9 f d lo (arrOf st') n) ?step ?fin ?init) ?post)
 case post =>
  rintro c st' ⟨rfl,hB',hp',hs'⟩
  exact wpS_pure (h st' hB' hp' hs')
 case init =>
  refine⟨rfl,hB,Pre.rf _ _,fun i j hij hj=>?_⟩
  by_cases h1:ok=0
  ·have:i=j:=by omega
   subst this;exact KeyOrd.kle_refl _
  ·exact hs i j hij (by omega)
 case fin =>
  rintro c st' ⟨hc,hB',hp',hs'⟩
  refine⟨hc,hB',hp',?_⟩
  rwa [show min (max (max ok 1) n) n=n by omega]at hs'
 case step =>
  rintro k c st' hak hkn ⟨rfl,hB',hp',hs'⟩
  rw[show min k n=k by omega]at hs'
  have hk:lo+k<a₀.size:=by omega
  refine wpS_bind (wpS_mono (wpS_forRange (I:=fun x c st''=>st''=st'/\∃ l r,c=(none,l,r)/\l<=r/\r<=k/\r - l<=k - x /\
    (∀ i,i<l->O.kle (KF f d (arrOf st') (lo+i)) (KF f d (arrOf st') (lo+k)))/\(∀ i,r<=i->i<k->O.klt (KF f d (arrOf st') (lo+k)) (KF f d (arrOf st') (lo+i))))
   (Q := fun c st'' => st'' = st' /\ ∃ l r, c = (none, l, r) /\ l <= k /\
    (∀ i,i<l->O.kle (KF f d (arrOf st') (lo+i)) (KF f d (arrOf st') (lo+k)))/\(∀ i,l<=i->i<k->O.klt (KF f d (arrOf st') (lo+k)) (KF f d (arrOf st') (lo+i)))) ?istep ?ifin ?iinit) ?ipost)
  case iinit=>exact⟨rfl,0,k,rfl,by omega,by omega,by omega,fun i hi=>by omega,fun i h1 h2=>by omega⟩
  case ifin =>
   rintro c st'' ⟨rfl,l,r,rfl,hlr,hrk,hm,hlo,hhi⟩
   have:l=r:=by omega
   subst this
   exact⟨rfl,l,l,rfl,hrk,hlo,hhi⟩
  case istep =>
   rintro x c st'' _ hxk ⟨rfl,l,r,rfl,hlr,hrk,hm,hlo,hhi⟩
   dsimp only
   by_cases hge:l≥r
   ·rw[if_pos hge]
    have:l=r:=by omega
    subst this
    exact wpS_pure ⟨rfl,l,l,rfl,hrk,hlo,hhi⟩
   ·rw[if_neg hge]
    refine wpS_bind (N8 (d:=d) C hB' hk (by omega) ?_)
    cases hless:O.blt (KF f d (arrOf st'') (lo+k)) (KF f d (arrOf st'') (lo+(l+r) / 2))
    case true =>
     simp only[if_true]
     refine wpS_pure ⟨rfl,l,(l+r) / 2,rfl,by omega,by omega,by omega,hlo,fun i h1 h2=>?_⟩
     exact KeyOrd.klt_of_klt_of_kle hless (hs' _ _ h1 h2)
    case false =>
     simp only[g9,if_false]
     refine wpS_pure ⟨rfl,(l+r) / 2+1,r,rfl,by omega,by omega,by omega,fun i h1=>?_,hhi⟩
     exact KeyOrd.kle_trans (hs' i ((l+r) / 2) (by omega) (by omega)) (show O.kle _ _ from hless)
  case ipost =>
   rintro c st'' ⟨rfl,l,r,rfl,hlk,hlo,hhi⟩
   show wpS _ _ _ _ (do moveDown' (lo+k) (lo+l);pure (ForInStep.yield (none,()))) _ _
   rw[moveDown'_eq]
   have hks:lo+k<(arrOf st'').size:=by rw[hB'.size];exact hk
   refine wpS_bind (wpS_modify (wpS_pure ⟨rfl,hB'.setArr (bubble_perm _ _ _),hp'.trans (Pre.bubble hks (by omega) (by omega)),?_⟩))
   rw[show min (k+1) n=k+1 by omega]
   intro i j hij hj
   show O.kle (KF f d (bubble (arrOf st'') (lo+k) (lo+k - (lo+l))) (lo+i)) (KF f d (bubble (arrOf st'') (lo+k) (lo+k - (lo+l))) (lo+j))
   rw[aj9 hks (by omega),aj9 hks (by omega),show lo+k - (lo+k - (lo+l))=lo+l by omega]
   have e1:∀ t:Nat,0<t->lo+t - 1=lo+(t - 1):=fun t ht=>by omega
   repeat' split
   all_goals first
    | (exfalso;omega)
    | exact KeyOrd.kle_refl _
    | exact hlo _ (by omega)
    | (rw[e1 _ (by omega)];exact KeyOrd.kle_of_klt (hhi _ (by omega) (by omega)))
    | exact KeyOrd.kle_of_klt (hhi _ (by omega) (by omega))
    | exact hs' _ _ (by omega) (by omega)
    | (rw[e1 _ (by omega)];exact hs' _ _ (by omega) (by omega))
    | (rw[e1 _ (by omega),e1 _ (by omega)];exact hs' _ _ (by omega) (by omega))
end
theorem aq5 (i:Nat):mergeAt' i=(do
 let s <- get
 let (some (sa,na,power),some (sb,nb,_)):=((pendingOf s)[i]?,(pendingOf s)[i+1]?) | unsupported "internal:list.sort.pending"
 set (setPending s (((pendingOf s).setIfInBounds i (sa,na+nb,power)).eraseIdxIfInBounds (i+1)))
 let some k <- K2 false (<- elem' (arrOf s) sb) (arrOf s) sa na 0 | return false
 let (sa,na):=(sa+k,na - k)
 if na == 0 then return true
 let some nb <- K2 true (<- elem' (arrOf s) (sa+na - 1)) (arrOf s) sb nb (nb - 1) | return false
 if nb == 0 then return true
 let x:=(arrOf s).extract sa sb
 let y:=(arrOf s).extract sb (sb+nb)
 let merged <- if na<=nb then af1 x y else af2 x y
 modify fun s=>setArr s (merged.toList.zipIdx.foldl (fun a (p,j)=>a.setIfInBounds (sa+j) p) (arrOf s))
 return (failedOf (<- get)).isNone):=rfl
def shape (ps:List (Nat × Nat × Nat)):List (Nat × Nat):=ps.map fun x=>(x.1,x.2.1)
def W5:Nat->List (List Keyed)->List (Nat × Nat)
 | _,[]=>[]
 | k,r::rs=>(k,r.length)::W5 (k+r.length) rs
theorem M0:∀ (k:Nat) (rs ts:List (List Keyed)),W5 k (rs++ts)=W5 k rs++W5 (k+rs.flatten.length) ts
 | k,[],ts=>by simp[W5]
 | k,r::rs,ts=>by
  rw[List.cons_append]
  show (k,r.length)::W5 (k+r.length) (rs++ts)=(k,r.length)::(W5 (k+r.length) rs++_)
  rw[M0 (k+r.length) rs ts,bb3,c6,Nat.add_assoc]
theorem L9:∀ (k:Nat) (rs:List (List Keyed)),(W5 k rs).length=rs.length
 | _,[]=>rfl
 | k,r::rs=>by
  show (W5 (k+r.length) rs).length+1=rs.length+1
  rw[L9]
theorem ao9 {α:Type}{l:List α}{i:Nat}(h:i+1<l.length):∃ l1 u v l2,l=l1++u::v::l2/\l1.length=i:=by
 refine⟨l.take i,l[i],l[i+1],l.drop (i+2),?_,by rw[k9];omega⟩
 rw[<- P2,<- P2,A1]
theorem ar6 (b:Nat):∀ (m:List Keyed) (k:Nat) (arr:Array Keyed),b+k+m.length<=arr.size ->
  (ah2 (fun a x=>match x with | (p,j)=>aM0 a (b+j) p) arr (m.zipIdx k)).toList=arr.toList.take (b+k)++(m++arr.toList.drop (b+k+m.length))
 | [],k,arr,h=>by simp
 | x::m,k,arr,h=>by
  rw[d6]at h
  rw[List.zipIdx_cons,Y0,ar6 b m (k+1) _ (by rw[aw9];omega)]
  dsimp only
  rw[at4]
  have hl:b+k<arr.toList.length:=by rw[d5];omega
  rw[List.set_eq_take_append_cons_drop,if_pos hl]
  have e1:(ag4 (b+k) arr.toList).length=b+k:=by rw[k9];omega
  have e2:(ag4 (b+k) arr.toList++x::aL7 (b+k+1) arr.toList).take (b+(k+1))=ag4 (b+k) arr.toList++[x]:=by
   rw[bb9,e1,show b+(k+1) - (b+k)=1 by omega,i9 (by rw[e1];omega)]
   rfl
  have e3:(ag4 (b+k) arr.toList++x::aL7 (b+k+1) arr.toList).drop (b+(k+1)+m.length)=arr.toList.drop (b+k+(m.length+1)):=by
   rw[L6,e1,x9 (by rw[e1];omega),J3,show b+(k+1)+m.length - (b+k)=m.length+1 by omega,List.drop_succ_cons,P3]
   congr 1
   omega
  rw[e2,e3,m7]
  rfl
theorem aM3 {M:Model}{A:Around}{E:Value->Shared->Prop}{s:Shared}{σ:Type}{x:σ}{Q:PUnit->σ->Prop}{st:σ}(h:Q ⟨⟩ x):wpS M A E s (set x:StateT σ Sem PUnit) Q st:=by
 unfold wpS;rw[StateT.run_set];exact wpAny_pure ⟨rfl,h⟩
structure SR (a₀:Array Keyed) (κ:SortKind) (B:Keyed->Keyed->Bool) (runs:List (List Keyed)) (suf:List Keyed) (st:SortSt):Prop where
 perm:(arrOf st).Perm a₀
 kind:kindOf st=κ
 failed:failedOf st=none
 sh:shape (pendingOf st).toList=W5 0 runs
 ok:∀ r∈runs,r≠[]/\r.Pairwise (le B)
 arr:(arrOf st).toList=runs.flatten++suf
section
variable {prog:Program} {w:World} {A:Around} {E:Value->Shared->Prop} {s:Shared} {κ:SortKind} {a₀:Array Keyed} {B:Keyed->Keyed->Bool}
theorem N0 {l:List Keyed}{R:Keyed->Keyed->Prop}(h:l.Pairwise R)(rf:∀ x,R x x){i j:Nat}{x y:Keyed}(hij:i<=j)(hx:l[i]?=some x)(hy:l[j]?=some y):R x y:=by
 obtain⟨h1,rfl⟩:=a8.mp hx
 obtain⟨h2,rfl⟩:=a8.mp hy
 rcases A9 hij with hlt | rfl
 ·exact j0.mp h i j h1 h2 hlt
 ·exact rf _
theorem aa3 (o:Ord B)(C:Cmp prog w A E s κ (·∈a₀.toList) B){st:SortSt}{i:Nat}{runs:List (List Keyed)}{suf:List Keyed}{Q:Bool->SortSt->Prop}(I:SR a₀ κ B runs suf st)(hi:i+1<runs.length)
  (h:∀ runs' st',SR a₀ κ B runs' suf st'->runs'.length+1=runs.length->runs'.flatten.length=runs.flatten.length->Q true st'):wpS (model prog w) A E s (mergeAt' i) Q st:=by
 obtain⟨r1,R,R',r2,rfl,hr1⟩:=ao9 hi
 have hpl:(pendingOf st).toList.length=(r1++R::R'::r2).length:=by
  have:=congrArg N4 I.sh
  rw[L9]at this
  unfold shape at this
  rw[b5]at this
  exact this
 obtain⟨l1,u,v,l2,hp,hl1⟩:=ao9 (l:=(pendingOf st).toList) (i:=i) (by rw[hpl];exact hi)
 have hsh:=I.sh
 rw[hp,M0]at hsh
 unfold shape at hsh
 rw[g7]at hsh
 obtain⟨s1,s2⟩:=List.append_inj hsh (by rw[b5,L9,hl1,hr1])
 rw[j8,j8]at s2
 simp only[W5,List.cons.injEq,D6]at s2
 obtain⟨su,sv,s2⟩:=s2
 obtain⟨sa,na,pw⟩:=u
 obtain⟨sb,nb,pw2⟩:=v
 simp only[Prod.mk.injEq]at su sv
 obtain⟨hsa,hna⟩:=su
 obtain⟨hsb,hnb⟩:=sv
 have okR:=I.ok R (by simp)
 have okR':=I.ok R' (by simp)
 have nR:0<R.length:=ab7.mpr okR.1
 have nR':0<R'.length:=ab7.mpr okR'.1
 have g1:(pendingOf st)[i]?=some (sa,na,pw):=by
  rw[<- a6,hp,t9 (by omega),hl1,an3]
  rfl
 have g2:(pendingOf st)[i+1]?=some (sb,nb,pw2):=by
  rw[<- a6,hp,t9 (by omega),hl1,show i+1 - i=1 by omega]
  rfl
 have harr:(arrOf st).toList=r1.flatten++(R++(R'++(r2.flatten++suf))):=by
  rw[I.arr]
  simp
 have hsize:(arrOf st).size=sa+(na+(nb+(r2.flatten++suf).length)):=by
  rw[<- d5,harr,c6,c6,c6,hsa,hna,hnb]
 have atR:∀ k,k<na->(arrOf st)[sa+k]?=R[k]?:=fun k hk=>by
  rw[<- a6,harr,t9 (by omega),hsa,D7,G1 (by omega)]
 have atR':∀ k,k<nb->(arrOf st)[sb+k]?=R'[k]?:=fun k hk=>by
  rw[<- a6,harr,t9 (by omega),t9 (by omega),G1 (by omega)]
  congr 1
  omega
 have inS:∀ x∈(arrOf st).toList,x∈a₀.toList:=fun x hx=>(F4.mp I.perm).mem_iff.mp hx
 have hpend:∀ M:List Keyed,M.length=na+nb->shape (((pendingOf st).setIfInBounds i (sa,na+nb,pw)).eraseIdxIfInBounds (i+1)).toList=W5 0 (r1++M::r2):=fun M hM=>by
  have e:(((pendingOf st).setIfInBounds i (sa,na+nb,pw)).eraseIdxIfInBounds (i+1)).toList=l1++(sa,na+nb,pw)::l2:=by
   rw[Array.toList_eraseIdxIfInBounds,at4,hp]
   subst hl1
   rw[List.set_append_right _ _ (b4 _),an3,List.set_cons_zero,List.eraseIdx_append_of_length_le (by omega)]
   rw[show l1.length+1 - l1.length=1 by omega]
   rfl
  unfold shape
  rw[e,g7,s1,M0,j8]
  show _++(sa,na+nb)::_=_++(0+r1.flatten.length,M.length)::W5 (0+r1.flatten.length+M.length) r2
  rw[hM,s2,D6,hsa,hna,hnb,Nat.add_assoc]
 have fin:∀ (st':SortSt) (M:List Keyed),kindOf st'=κ->failedOf st'=none->pendingOf st'=((pendingOf st).setIfInBounds i (sa,na+nb,pw)).eraseIdxIfInBounds (i+1) ->
   (arrOf st').toList=r1.flatten++(M++(r2.flatten++suf))->M.Perm (R++R')->M.Pairwise (le B)->Q true st':=fun st' M k1 k2 k3 k4 k5 k6=>by
  have hM:M.length=na+nb:=by rw[k5.length_eq,c6,hna,hnb]
  refine h (r1++M::r2) st' ⟨?_,k1,k2,by rw[k3];exact hpend M hM,fun r hr=>?_,?_⟩ (by simp;omega) (by simp;omega)
  ·refine Array.Perm.trans ?_ I.perm
   rw[F4,k4,harr]
   refine List.Perm.append_left _ ?_
   rw[<- m7 R]
   exact List.Perm.append_right _ k5
  ·rcases l6.mp hr with hr | hr
   ·exact I.ok r (v9 _ hr)
   ·rcases d7.mp hr with rfl | hr
    ·exact⟨by intro e;rw[e]at hM;simp at hM;omega,k6⟩
    ·exact I.ok r (c7 _ (a7 _ (a7 _ hr)))
  ·rw[k4];simp
 have both:(∀ x∈R,∀ y∈R',le B x y)->(R++R').Pairwise (le B):=fun hxy=>n8.mpr ⟨okR.2,okR'.2,hxy⟩
 rw[aq5]
 refine wpS_bind (wpS_get ?_)
 rw[g1,g2]
 dsimp only
 refine wpS_bind (aM3 ?_)
 obtain⟨y0,ey0⟩:∃ y0,R'[0]?=some y0:=⟨R'[0],c5 nR'⟩
 have ey:(arrOf st)[sb]?=some y0:=by
  have:=atR' 0 (by omega)
  rw[an4]at this
  rw[this,ey0]
 refine wpS_bind (p5 ey ?_)
 have hy0:y0∈a₀.toList:=inS y0 (a9 (by rw[a6];exact ey))
 refine wpS_bind (G6 o C (by exact I.kind) hy0 (by omega) (fun i x hi' e=>inS x (a9 (by rw[a6];exact e)))
  (fun i j x y hij hj e e'=>N0 okR.2 o.rf hij (by rw[<- atR i (by omega)];exact e) (by rw[<- atR j hj];exact e')) (by omega) fun k hk hlt hge=>?_)
 dsimp only
 have leR:∀ (j:Nat) (x:Keyed),j<k->R[j]?=some x->le B x y0:=fun j x hj e=>by
  have q:=hlt j x hj (by rw[atR j (by omega)];exact e)
  show B y0 x=false
  simpa [byn] using q
 have gtR:∀ (j:Nat) (x:Keyed),k<=j->R[j]?=some x->B y0 x=true:=fun j x hj e=>by
  have hjl:j<R.length:=(a8.mp e).1
  have q:=hge j x hj (by omega) (by rw[atR j (by omega)];exact e)
  simpa [byn] using q
 have leY:∀ y∈R',le B y0 y:=fun y hy=>by
  obtain⟨j,hj⟩:=j7.mp hy
  exact N0 okR'.2 o.rf (j4 j) ey0 hj
 by_cases e0:na - k=0
 ·rw[if_pos (by simpa using e0)]
  refine wpS_pure (fin _ (R++R') I.kind I.failed rfl ?_ (List.Perm.refl _) (both fun x hx y hy=>?_))
  ·show (arrOf st).toList=_
   rw[harr];simp
  ·obtain⟨j,hj⟩:=j7.mp hx
   have hjl:j<R.length:=(a8.mp hj).1
   exact o.trans (leR j x (by omega) hj) (leY y hy)
 rw[if_neg (by simpa using e0)]
 obtain⟨xl,exl⟩:∃ xl,R[na - 1]?=some xl:=⟨R[na - 1]'(by omega),c5 (by omega)⟩
 have ex:(arrOf st)[sa+k+(na - k) - 1]?=some xl:=by
  rw[show sa+k+(na - k) - 1=sa+(na - 1) by omega,atR _ (by omega),exl]
 refine wpS_bind (p5 ex ?_)
 have hxl:xl∈a₀.toList:=inS xl (a9 (by rw[a6];exact ex))
 refine wpS_bind (G6 o C (by exact I.kind) hxl (by omega) (fun i x hi' e=>inS x (a9 (by rw[a6];exact e)))
  (fun i j x y hij hj e e'=>N0 okR'.2 o.rf hij (by rw[<- atR' i (by omega)];exact e) (by rw[<- atR' j hj];exact e')) (by omega) fun k2 hk2 hlt2 hge2=>?_)
 dsimp only
 have ltY:∀ (j:Nat) (x:Keyed),j<k2->R'[j]?=some x->B x xl=true:=fun j x hj e=>by
  have q:=hlt2 j x hj (by rw[atR' j (by omega)];exact e)
  simpa [byn] using q
 have geY:∀ (j:Nat) (x:Keyed),k2<=j->R'[j]?=some x->le B xl x:=fun j x hj e=>by
  have hjl:j<R'.length:=(a8.mp e).1
  have q:=hge2 j x hj (by omega) (by rw[atR' j (by omega)];exact e)
  show B x xl=false
  simpa [byn] using q
 have leX:∀ x∈R,le B x xl:=fun x hx=>by
  obtain⟨j,hj⟩:=j7.mp hx
  have hjl:j<R.length:=(a8.mp hj).1
  exact N0 okR.2 o.rf (by omega) hj exl
 by_cases e1:k2=0
 ·rw[if_pos (by simpa using e1)]
  refine wpS_pure (fin _ (R++R') I.kind I.failed rfl ?_ (List.Perm.refl _) (both fun x hx y hy=>?_))
  ·show (arrOf st).toList=_
   rw[harr];simp
  ·obtain⟨j,hj⟩:=j7.mp hy
   exact o.trans (leX x hx) (geY j y (by omega) hj)
 rw[if_neg (by simpa using e1)]
 have ex1:((arrOf st).extract (sa+k) sb).toList=R.drop k:=by
  rw[ad0,harr,hsa,L6,x9 (by omega),J3,D7,an5 (by omega),L7 (by rw[n9];omega)]
  exact i9 (by rw[n9];omega)
 have ey1:((arrOf st).extract sb (sb+k2)).toList=R'.take k2:=by
  rw[ad0,harr,hsb,<- m7,L6,x9 (by rw[c6];omega),J3,c6,an3,ab1,D7,L7 (by omega)]
 have sx:((arrOf st).extract (sa+k) sb).size=na - k:=by rw[<- d5,ex1,n9];omega
 have sy:((arrOf st).extract sb (sb+k2)).size=k2:=by rw[<- d5,ey1,k9];omega
 have pre1:∀ x y,((arrOf st).extract sb (sb+k2))[0]?=some x->((arrOf st).extract (sa+k) sb)[0]?=some y->B x y=true:=fun x y hx hy=>by
  rw[<- a6,ey1,G4 (by omega),ey0]at hx
  cases hx
  rw[<- a6,ex1,J2]at hy
  exact gtR (k+0) y (by omega) hy
 have pre2:∀ x∈((arrOf st).extract sb (sb+k2)).toList,∀ y,((arrOf st).extract (sa+k) sb)[((arrOf st).extract (sa+k) sb).size - 1]?=some y->B x y=true:=fun x hx y hy=>by
  rw[<- a6,ex1,J2,sx,show k+(na - k - 1)=na - 1 by omega,exl]at hy
  cases hy
  rw[ey1]at hx
  obtain⟨j,hj⟩:=j7.mp hx
  rw[E8]at hj
  split at hj
  ·rename_i hlt'
   exact ltY j x hlt' hj
  ·cases hj
 have sS1:∀ x∈((arrOf st).extract (sa+k) sb).toList,x∈a₀.toList:=fun x hx=>by
  rw[ex1]at hx
  refine inS x ?_
  rw[harr]
  exact c7 _ (v9 _ (B2 hx))
 have sS2:∀ x∈((arrOf st).extract sb (sb+k2)).toList,x∈a₀.toList:=fun x hx=>by
  rw[ey1]at hx
  refine inS x ?_
  rw[harr]
  exact c7 _ (c7 _ (v9 _ (C7 hx)))
 have so1:((arrOf st).extract (sa+k) sb).toList.Pairwise (le B):=by rw[ex1];exact okR.2.sublist (ah3 _ _)
 have so2:((arrOf st).extract sb (sb+k2)).toList.Pairwise (le B):=by rw[ey1];exact okR'.2.sublist (R4 _ _)
 have done:∀ (r:Array Keyed) (st3:SortSt),Sm (setPending st (((pendingOf st).setIfInBounds i (sa,na+nb,pw)).eraseIdxIfInBounds (i+1))) st3->Good B ((arrOf st).extract (sa+k) sb) ((arrOf st).extract sb (sb+k2)) r ->
   wpS (model prog w) A E s (do
    modify fun s=>setArr s (ah2 (fun a x=>match x with | (p,j)=>aM0 a (sa+k+j) p) (arrOf s) r.toList.zipIdx)
    let __do_lift <- get
    pure (failedOf __do_lift).isNone) Q st3:=fun r st3 hS hg=>by
  refine wpS_bind (wpS_modify (wpS_bind (wpS_get (wpS_pure ?_))))
  have hf:failedOf st3=none:=hS.f.trans I.failed
  show Q (failedOf st3).isNone _
  rw[hf]
  obtain⟨g1,g2⟩:=hg
  rw[ex1,ey1]at g2
  have hrl:r.toList.length=na - k+k2:=by rw[g2.length_eq,c6,n9,k9];omega
  refine fin _ (R.take k++(r.toList++R'.drop k2)) (hS.k.trans I.kind) hf hS.p ?_ ?_ ?_
  ·show (ah2 _ (arrOf st3) (r.toList.zipIdx 0)).toList=_
   rw[hS.a]
   show (ah2 _ (arrOf st) (r.toList.zipIdx 0)).toList=_
   rw[ar6 (sa+k) r.toList 0 (arrOf st) (by omega),harr,an4,hrl]
   have t1:ag4 (sa+k) (r1.flatten++(R++(R'++(r2.flatten++suf))))=r1.flatten++R.take k:=by
    rw[bb9,i9 (by omega),show sa+k - r1.flatten.length=k by omega,L7 (by omega)]
   have t2:aL7 (sa+k+(na - k+k2)) (r1.flatten++(R++(R'++(r2.flatten++suf))))=R'.drop k2++(r2.flatten++suf):=by
    rw[L6,x9 (by omega),J3,L6,x9 (by omega),J3,an5 (by omega)]
    congr 2
    omega
   rw[t1,t2]
   simp
  ·have:(R.take k++(r.toList++R'.drop k2)).Perm (R.take k++((R.drop k++R'.take k2)++R'.drop k2)):=List.Perm.append_left _ (List.Perm.append_right _ g2)
   refine this.trans (List.Perm.of_eq ?_)
   rw[m7,A1,<- m7,A1]
  ·have inM:∀ z∈r.toList,z∈R.drop k\/z∈R'.take k2:=fun z hz=>l6.mp (g2.mem_iff.mp hz)
   have tk:∀ {l:List Keyed} {n:Nat} {x:Keyed},x∈l.take n->∃ j,j<n/\l[j]?=some x:=fun {l n x} hx=>by
    obtain⟨j,hj⟩:=j7.mp hx
    rw[E8]at hj
    split at hj
    ·rename_i hlt'
     exact⟨j,hlt',hj⟩
    ·cases hj
   refine n8.mpr ⟨okR.2.sublist (R4 _ _),n8.mpr ⟨g1,okR'.2.sublist (ah3 _ _),fun x hx y hy=>?_⟩,fun x hx y hy=>?_⟩
   ·obtain⟨j,h1,h2,h3⟩:=x5 hy
    rcases inM x hx with hx | hx
    ·exact o.trans (leX x (B2 hx)) (geY j y h1 h3)
    ·obtain⟨i',h4,h5⟩:=tk hx
     exact N0 okR'.2 o.rf (by omega) h5 h3
   ·obtain⟨i',h4,h5⟩:=tk hx
    rcases l6.mp hy with hy | hy
    ·rcases inM y hy with hy | hy
     ·obtain⟨j,h1,h2,h3⟩:=x5 hy
      exact N0 okR.2 o.rf (by omega) h5 h3
     ·exact o.trans (leR i' x h4 h5) (leY y (C7 hy))
    ·exact o.trans (leR i' x h4 h5) (leY y (B2 hy))
 by_cases e2:na - k<=k2
 ·rw[if_pos e2]
  exact wpS_bind (an8 o C (by exact I.kind) sS1 sS2 so1 so2 (by omega) (by omega) pre1 pre2 fun r st3 hS hg=>done r st3 hS hg)
 ·rw[if_neg e2]
  exact wpS_bind (an9 o C (by exact I.kind) sS1 sS2 so1 so2 (by omega) (by omega) pre1 pre2 fun r st3 hS hg=>done r st3 hS hg)
theorem ap9 {runs:List (List Keyed)}{suf:List Keyed}{st:SortSt}(I:SR a₀ κ B runs suf st):(pendingOf st).size=runs.length:=by
 have:=congrArg N4 I.sh
 rw[L9]at this
 unfold shape at this
 rw[b5,d5]at this
 exact this
theorem ay3:∀ (runs:List (List Keyed)),(∀ r∈runs,r≠[]/\r.Pairwise (le B))->runs.length<=runs.flatten.length
 | [],_=>b4 _
 | r::rs,h=>by
  have h1:=ay3 rs fun r hr=>h r (a7 _ hr)
  have h2:0<r.length:=ab7.mpr (h r b9).1
  rw[d6,bb3,c6]
  omega
end
section
variable {prog:Program} {w:World} {A:Around} {E:Value->Shared->Prop} {s:Shared} {κ:SortKind} {a₀:Array Keyed} {O:KeyOrd} {f:Keyed->O.α}
theorem aW7 {d:O.α}{xs:Array Keyed}{lo n:Nat}(hs:F9 f d lo xs n)(hn:lo+n<=xs.size):((xs.toList.drop lo).take n).Pairwise (le (Bf f))/\((xs.toList.drop lo).take n).length=n:=by
 refine⟨j0.mpr fun i j hi hj hij=>?_,by rw[k9,n9,d5];omega⟩
 have hjn:j<n:=by rw[k9]at hj;omega
 have gi:∀ k,(hk:k<n)->(xs.toList.drop lo)[k]?=some (xs[lo+k]'(by omega)):=fun k hk=>by
  rw[J2,a6]
  exact getElem?_pos xs _ _
 have e1:((xs.toList.drop lo).take n)[i]=xs[lo+i]'(by omega):=by
  have:=gi i (by omega)
  rw[<- G4 (show i<n by omega),c5 hi]at this
  exact Option.some.inj this
 have e2:((xs.toList.drop lo).take n)[j]=xs[lo+j]'(by omega):=by
  have:=gi j hjn
  rw[<- G4 hjn,c5 hj]at this
  exact Option.some.inj this
 rw[e1,e2]
 have:=hs i j (an1 hij) hjn
 rw[ad2 (getElem?_pos xs (lo+i) (by omega)),ad2 (getElem?_pos xs (lo+j) (by omega))]at this
 exact this
theorem ao4 {lo:Nat}{xs ys:Array Keyed}(h:Pre lo xs ys)(hz:ys.size=xs.size):ys.toList.take lo=xs.toList.take lo:=by
 apply R6
 intro k
 rw[E8,E8]
 split
 ·rw[a6,a6]
  exact h k (by assumption)
 ·rfl
theorem an7 (C:aS2 prog w A E s κ a₀ f) {st:SortSt} {Q:Unit->SortSt->Prop} (d:O.α) (hp:(arrOf st).Perm a₀) (hk:kindOf st=κ) (hf:failedOf st=none) (hpe:pendingOf st=#[])
    (h:∀ st',(arrOf st').Perm a₀->failedOf st'=none->(arrOf st').toList.Pairwise (le (Bf f))->Q () st'):wpS (model prog w) A E s sortRuns' Q st:=by
  have o:Ord (Bf f):=Bf.ord f
  have hsz:(arrOf st).size=a₀.size:=hp.size_eq
  rw[sortRuns'_eq]
  refine wpS_bind (wpS_get ?_)
  dsimp only
  rw[hsz]
  refine wpS_bind (wpS_mono (wpS_forRange
    (I:=fun x c st'=>∃ runs suf lo,c=(none,lo)/\SR a₀ κ (Bf f) runs suf st'/\lo=runs.flatten.length/\(x<=lo\/lo=a₀.size)/\lo<=a₀.size)
    (Q:=fun c st'=>∃ runs,c=(none,a₀.size)/\SR a₀ κ (Bf f) runs [] st') ?step ?fin
    ⟨[],(arrOf st).toList,0,rfl,⟨hp,hk,hf,by rw[hpe];rfl,(fun _ hr=>nomatch hr),by simp⟩,rfl,.inl (b4 _),j4 _⟩) ?post)
  case fin =>
    rintro c st' ⟨runs,suf,lo,rfl,I,h1,h2,h3⟩
    have e:lo=a₀.size:=by omega
    have hl:=congrArg N4 I.arr
    rw[d5,I.perm.size_eq,c6]at hl
    have:suf=[]:=E4 (by omega)
    subst this
    exact⟨runs,by rw[e],I⟩
  case step =>
    rintro x c st1 _ hx ⟨runs,suf,lo,rfl,I,h1,h2,h3⟩
    dsimp only
    by_cases hge:lo≥a₀.size
    · rw[if_pos hge]
      have e:lo=a₀.size:=by omega
      have hl:=congrArg N4 I.arr
      rw[d5,I.perm.size_eq,c6]at hl
      have:suf=[]:=E4 (by omega)
      subst this
      exact wpS_pure ⟨runs,by rw[e],I⟩
    rw[if_neg hge]
    refine wpS_bind (wpS_countRun C d (p:=pendingOf st1) (by omega) (by omega) ⟨I.perm,I.kind,I.failed,rfl⟩ fun n st2 hB2 hp2 hn1 hn2 hs2=>?_)
    dsimp only
    have cont:∀ (n':Nat) (st3:SortSt),SI a₀ κ (pendingOf st1) st3->Pre lo (arrOf st1) (arrOf st3)->1<=n'->n'<=a₀.size - lo->F9 f d lo (arrOf st3) n' ->
        ∃ run suf',SR a₀ κ (Bf f) runs (run++suf') st3/\run.length=n'/\run.Pairwise (le (Bf f)):=fun n' st3 hB3 hp3 k1 k2 hs3=>by
      obtain⟨q1,q2⟩:=aW7 hs3 (by rw[hB3.size];omega)
      refine⟨((arrOf st3).toList.drop lo).take n',(arrOf st3).toList.drop (lo+n'),⟨hB3.perm,hB3.kind,hB3.failed,by rw[hB3.pend];exact I.sh,I.ok,?_⟩,q2,q1⟩
      rw[<- V0]
      refine(A1 lo (arrOf st3).toList).symm.trans ?_
      congr 1
      rw[ao4 hp3 (by rw[hB3.size,I.perm.size_eq]),I.arr,h1]
      exact List.take_left
    have more:∀ (rs:List (List Keyed)) (run suf':List Keyed) (n':Nat) (st3:SortSt),SR a₀ κ (Bf f) rs (run++suf') st3->rs.flatten.length=lo->run.length=n'->run.Pairwise (le (Bf f))->1<=n'->n'<=a₀.size - lo ->
        ∃ runs suf lo',((none,lo+n'):Option Unit × Nat)=(none,lo')/\SR a₀ κ (Bf f) runs suf (setPending st3 ((pendingOf st3).push (lo,n',0)))/\lo'=runs.flatten.length/\(x+1<=lo'\/lo'=a₀.size)/\lo'<=a₀.size:=fun rs run suf' n' st3 I3 e1 e2 e3 k1 k2=>by
      refine⟨rs++[run],suf',lo+n',rfl,⟨I3.perm,I3.kind,I3.failed,?_,fun r hr=>?_,?_⟩,by simp[e1,e2],by omega,by omega⟩
      · show shape ((pendingOf st3).push (lo,n',0)).toList=_
        rw[J9,M0,<- I3.sh]
        unfold shape
        rw[g7,D6,e1]
        simp[W5,e2]
      · rcases l6.mp hr with hr | hr
        · exact I3.ok r hr
        · rw[i7.mp hr]
          exact⟨by intro z;rw[z]at e2;simp at e2;omega,e3⟩
      · show (arrOf st3).toList=_
        rw[I3.arr]
        simp
    by_cases hlt:n<minRun' a₀.size a₀.size 0
    all_goals first
      | (rw [if_pos hlt]
         refine wpS_bind (M9 ?_)
         refine wpS_bind (ab2 C d (by omega) (by omega) hB2 hs2 fun st3 hB3 hp3 hs3=>?_)
         simp only[F5,g9,if_false]
         obtain⟨run,suf',I3,e2,e3⟩:=cont _ st3 hB3 (hp2.trans hp3) (by omega) (by omega) hs3
         have k1:1<=min (a₀.size - lo) (minRun' a₀.size a₀.size 0):=by omega
         have k2:min (a₀.size - lo) (minRun' a₀.size a₀.size 0)<=a₀.size - lo:=by omega
         revert e2 k1 k2
         generalize min (a₀.size - lo) (minRun' a₀.size a₀.size 0)=n'
         intro e2 k1 k2)
      | (rw [if_neg hlt]
         obtain⟨run,suf',I3,e2,e3⟩:=cont n st2 hB2 hp2 hn1 hn2 hs2
         have k1:1<=n:=hn1
         have k2:n<=a₀.size - lo:=hn2
         revert e2 k1 k2
         generalize n=n'
         intro e2 k1 k2)
    all_goals
      refine wpS_bind (wpS_get ?_)
      split
      ·
        rename_i s1 n1 pw1 hback
        refine wpS_bind (wpS_mono (wpS_forRange
          (I:=fun _ c st'=>c=(none,())/\∃ rs,SR a₀ κ (Bf f) rs (run++suf') st'/\rs.flatten.length=lo)
          (Q:=fun c st'=>c=(none,())/\∃ rs,SR a₀ κ (Bf f) rs (run++suf') st'/\rs.flatten.length=lo) ?mstep (fun _ _ q=>q) ⟨rfl,runs,I3,h1.symm⟩) ?mpost)
        case mstep =>
          rintro y c st4 _ _ ⟨rfl,rs,I4,e4⟩
          refine wpS_bind (wpS_get ?_)
          try dsimp only
          by_cases hz:(pendingOf st4).size > 1
          · rw[if_pos hz]
            split
            · split
              · exact wpS_pure ⟨rfl,rs,I4,e4⟩
              · refine wpS_bind (aa3 o C I4 (by rw[<- ap9 I4];omega) fun rs' st5 I5 _ e5=>?_)
                simp only[F5,g9,if_false]
                exact wpS_pure ⟨rfl,rs',I5,e5.trans e4⟩
            · exact wpS_pure ⟨rfl,rs,I4,e4⟩
          · rw[if_neg hz]
            exact wpS_pure ⟨rfl,rs,I4,e4⟩
        case mpost =>
          rintro c st4 ⟨rfl,rs,I4,e4⟩
          try dsimp only
          refine wpS_bind (wpS_modify ?_)
          have I5:SR a₀ κ (Bf f) rs (run++suf') (setPending st4 ((pendingOf st4).modify ((pendingOf st4).size - 1) fun x=>match x with | (st,len,snd)=>(st,len,power' a₀.size (2*s1+n1) (2*s1+n1+n1+n') a₀.size))):=by
            refine⟨I4.perm,I4.kind,I4.failed,?_,I4.ok,I4.arr⟩
            rw[<- I4.sh]
            show shape ((pendingOf st4).modify _ _).toList=_
            rw[Array.toList_modify]
            unfold shape
            apply R6
            intro k
            rw[l9,l9,List.getElem?_modify]
            cases (pendingOf st4).toList[k]? with
            | none=>rfl
            | some v =>
              obtain⟨v1,v2,v3⟩:=v
              simp only[Option.map_some]
              split<;>rfl
          exact wpS_bind (wpS_modify (wpS_pure (more rs run suf' n' _ I5 e4 e2 e3 k1 k2)))
      · exact wpS_bind (wpS_modify (wpS_pure (more runs run suf' n' _ I3 h1.symm e2 e3 k1 k2)))
  case post =>
    rintro c st1 ⟨runs,rfl,I⟩
    try dsimp only
    refine wpS_bind (wpS_mono (wpS_forRange
      (I:=fun x c st'=>c=(none,())/\∃ rs,SR a₀ κ (Bf f) rs [] st'/\(rs.length+x<=a₀.size\/rs.length<=1))
      (Q:=fun c st'=>c=(none,())/\∃ rs,SR a₀ κ (Bf f) rs [] st'/\rs.length<=1) ?fstep ?ffin ⟨rfl,runs,I,.inl ?fst⟩) ?fpost)
    case fst =>
      have h1:=ay3 runs I.ok
      have hl:=congrArg N4 I.arr
      rw[d5,I.perm.size_eq,X6]at hl
      omega
    case ffin =>
      rintro c st' ⟨rfl,rs,I',q⟩
      exact⟨rfl,rs,I',by omega⟩
    case fstep =>
      rintro x c st2 _ hx ⟨rfl,rs,I2,q⟩
      refine wpS_bind (wpS_get ?_)
      try dsimp only
      have hpl:=ap9 I2
      by_cases hz:(pendingOf st2).size<=1
      · rw[if_pos hz]
        exact wpS_pure ⟨rfl,rs,I2,by omega⟩
      rw[if_neg hz]
      refine wpS_bind (aa3 o C I2 ?_ fun rs' st3 I3 e3 _=>?_)
      · (repeat' split)<;>omega
      · simp only[F5,g9,if_false]
        exact wpS_pure ⟨rfl,rs',I3,by omega⟩
    case fpost =>
      rintro c st2 ⟨rfl,rs,I2,q⟩
      refine wpS_pure (h st2 I2.perm I2.failed ?_)
      rw[I2.arr,X6]
      match rs,I2.ok,q with
      | [],_,_=>exact List.Pairwise.nil
      | [r],ok,_=>simpa using (ok r (by simp)).2
end
end Tim
namespace Tim
open PySem PyProof.Rows PySem.W
def B3:List Int->List Int->Bool
 | [],[]=>false
 | [],_::_=>true
 | _::_,[]=>false
 | a::x,b::y=>if a=b then B3 x y else decide (a<b)
theorem Q9:∀ x,B3 x x=false
 | []=>rfl
 | a::x=>by unfold B3;rw[if_pos rfl];exact Q9 x
theorem W8:∀ x y z,B3 x y=true->B3 y z=true->B3 x z=true
 | [],[],z,h,_=>by cases h
 | [],_::_,[],_,h=>by cases h
 | [],_::_,_::_,_,_=>rfl
 | _::_,[],z,h,_=>by cases h
 | _::_,_::_,[],_,h=>by cases h
 | a::x,b::y,c::z,h1,h2=>by
  unfold B3 at h1 h2 ⊢
  by_cases e1:a=b
  ·subst e1
   rw[if_pos rfl]at h1
   by_cases e2:a=c
   ·rw[if_pos e2]at h2 ⊢
    exact W8 x y z h1 h2
   ·rw[if_neg e2]at h2 ⊢
    exact h2
  ·rw[if_neg e1,decide_eq_true_eq]at h1
   by_cases e2:b=c
   ·subst e2
    rw[if_neg e1,decide_eq_true_eq]
    exact h1
   ·rw[if_neg e2,decide_eq_true_eq]at h2
    rw[if_neg (by omega),decide_eq_true_eq]
    omega
theorem af6:∀ x y,B3 x y=false->B3 y x=false->x=y
 | [],[],_,_=>rfl
 | [],_::_,h,_=>by cases h
 | _::_,[],_,h=>by cases h
 | a::x,b::y,h1,h2=>by
  unfold B3 at h1 h2
  by_cases e:a=b
  ·subst e
   rw[if_pos rfl]at h1 h2
   rw[af6 x y h1 h2]
  ·rw[if_neg e,decide_eq_false_iff_not]at h1
   rw[if_neg (Ne.symm e),decide_eq_false_iff_not]at h2
   omega
theorem aQ2 (x y z:List Int)(h:B3 x z=true):B3 x y=true\/B3 y z=true:=by
 cases e1:B3 x y with
 | true=>exact .inl rfl
 | false =>
  cases e2:B3 y x with
  | true=>exact .inr (W8 _ _ _ e2 h)
  | false=>rw[af6 x y e1 e2]at h;exact .inr h
def aQ1:KeyOrd:=⟨List Int,B3,Q9,W8,aQ2,af6⟩
section
variable {prog:Program} {w:World}
def IsK (prog:Program)(w:World)(h:Heap)(k:List Int)(v:Value):Prop:=∃ a,v=.ref a/\IsTupleKey (intKind prog w) h k a
theorem IsK.inj {h:Heap}{k k':List Int}{v:Value}(x:IsK prog w h k v)(y:IsK prog w h k' v):k=k':=by
 obtain⟨a,rfl,h1⟩:=x
 obtain⟨b,e,h2⟩:=y
 cases e
 exact h1.inj h2
open Classical in
noncomputable def N1 (prog:Program)(w:World)(h:Heap)(v:Value):List Int:=if q:∃ k,IsK prog w h k v then Classical.choose q else []
theorem R0 {h:Heap}{k:List Int}{v:Value}(x:IsK prog w h k v):N1 prog w h v=k:=by
 unfold N1
 rw[dif_pos ⟨k,x⟩]
 exact(Classical.choose_spec (⟨k,x⟩:∃ k,IsK prog w h k v)).inj x
theorem IsK.up {h h':Heap}{k:List Int}{v:Value}(x:IsK prog w h k v)(hs:∀ b o,h.get? b=some o->h'.get? b=some o):IsK prog w h' k v:=by
 obtain⟨a,e,o,items,n,h2,h3⟩:=x
 exact⟨a,e,o,items,n,hs a o h2,h3⟩
variable {A:Around} {E:Value->Shared->Prop} {s:Shared}
theorem ai4 {b:Bool}{Q:Bool->Shared->Prop}(hb:b=true):∀ (x y:List Int) (vs us:List Value) (i:Nat) (fin:Bool),ItemsAre (intKind prog w) x vs->ItemsAre (intKind prog w) y us->(x.length<y.length↔fin=true)->Q (B3 x y) s->KatLex prog w A b fin Q (vs.zip us) i s
 | [],[],_,_,i,fin,.nil,.nil,hf,h=>by
  have:fin=false:=by cases fin with | false=>rfl | true=>exact absurd (hf.mpr rfl) (by simp)
  subst this
  exact kat_nil h
 | [],_::_,_,_,i,fin,.nil,.cons _ _,hf,h=>by
  have:fin=true:=hf.mp (by simp)
  subst this
  exact kat_nil h
 | _::_,[],_,_,i,fin,.cons _ _,.nil,hf,h=>by
  have:fin=false:=by cases fin with | false=>rfl | true=>exact absurd (hf.mpr rfl) (by simp)
  subst this
  exact kat_nil h
 | a::x,c::y,_,_,i,fin,.cons h1 t1,.cons h2 t2,hf,h=>by
  obtain⟨t,rfl⟩:=Value.isInt_shape h1
  obtain⟨u,rfl⟩:=Value.isInt_shape h2
  rw[ag2]
  refine kat_cons (wpAny_eqBool_int ?_)
  unfold B3 at h
  by_cases e:a=c
  ·subst e
   rw[if_pos rfl]at h
   rw[show (a == a)=true by simp]
   exact kat_yes (ai4 hb x y _ _ (i+1) fin t1 t2 (by rw[<- hf];simp) h)
  ·rw[if_neg e]at h
   rw[show (a == c)=false by simpa using e]
   refine kat_no ?_
   cases hi:(b && i == 0) with
   | true=>exact oneLt_int h
   | false=>exact kat_one _ _ (lt_int h)
theorem aJ9 {x y:Value}{k k':List Int}{Q:Bool->Shared->Prop}(hx:IsK prog w s.heap k x)(hy:IsK prog w s.heap k' y)(h:Q (B3 k k') s):wpAny (model prog w) A (keyLt' (tuples' true) x y) Q E s:=by
 obtain⟨a,rfl,o,xs,n,ho,hc,hd,hi⟩:=hx
 obtain⟨b,rfl,o',ys,n',ho',hc',hd',hi'⟩:=hy
 refine kat_lt ho hd ho' hd' (ai4 rfl k k' _ _ 0 _ hi hi' ?_ h)
 have e1:k.length=xs.size:=by have:=hi.length;simpa using this
 have e2:k'.length=ys.size:=by have:=hi'.length;simpa using this
 rw[e1,e2]
 simp
theorem aw0 {vs:List Value}{Q:SortKind->Shared->Prop}(hne:0<vs.length)(hv:∀ v∈vs,∃ i k,IsK prog w s.heap (i::k) v)(h:Q (tuples' true) s):wpAny (model prog w) A (keyKind' vs.toArray) Q E s:=by
 have ex:∀ l:List Value,(∀ v∈l,∃ i k,IsK prog w s.heap (i::k) v)->∃ fs:List Value,KatTups s.heap l fs/\fs.length=l.length/\∀ v∈fs,∃ i t,v=.int i t:=fun l=>by
  induction l with
  | nil=>intro _;exact⟨[],KatTups.nil,rfl,(fun _ h=>nomatch h)⟩
  | cons v l ih =>
   intro hl
   obtain⟨i,k,a,rfl,o,xs,n,ho,hc,hd,hi⟩:=hl v b9
   obtain⟨fs,f1,f2,f3⟩:=ih fun v hv=>hl v (a7 _ hv)
   obtain⟨f,hf,t,rfl⟩:∃ f,xs[0]?=some f/\∃ t,f=.int i t:=by
    cases e:xs.toList with
    | nil=>rw[e]at hi;cases hi
    | cons f r =>
     rw[e]at hi
     cases hi with
     | cons h1 _ =>
      obtain⟨t,et⟩:=Value.isInt_shape h1
      exact⟨f,by rw[<- a6,e];rfl,t,et⟩
   refine⟨.int i t::fs,KatTups.cons ho hc hd hf f1,by rw[d6,f2,d6],fun v hv=>?_⟩
   rcases d7.mp hv with rfl | hv
   ·exact⟨i,t,rfl⟩
   ·exact f3 v hv
 obtain⟨fs,f1,f2,f3⟩:=ex vs hv
 refine kat_kind (T:=.type "int") f1 (by omega) (fun v hv=>?_) (by decide) ?_
 ·obtain⟨i,t,rfl⟩:=f3 v hv
  exact .now
 ·exact h
theorem aB5 {a:Addr}{vs:List Value}{n:Nat}{P:PySem.Fin->Shared->Prop}(ho:s.heap.get? a=some (seqObj "list" vs.toArray n))(hz:vs.length<=sizeLine)
  (hv:∀ v∈vs,∃ i k,IsK prog w s.heap (i::k) v)(hna:∀ v∈vs,v≠.ref a)
  (h:∀ out:List Value,out.Perm vs->out.Pairwise (fun x y=>B3 (N1 prog w s.heap y) (N1 prog w s.heap x)=false)->P (.done (.ret .none)) { s with heap:=sortedHeap s.heap a vs out.toArray }) :
  wpAny (model prog w) A (Builtin.«list.sort» ⟨[.ref a],[]⟩) P E s:=by
 rw[list_sort_plain]
 have ha:a<s.heap.objs.size:=c3 ho
 refine wpAny_bind (listItems_at ho rfl ?_)
 refine wpAny_bind (listUpdate_at ho rfl ?_ (by rw[d3];exact hz) (j4 _))
 obtain⟨e1,ho1⟩:∃ e1,(s.heap.update a (Obj.mapSeq fun _=>#[])).get? a=some (seqObj "list" #[] e1):=⟨_,get?_update_seq ho (fun _=>#[])⟩
 refine wpAny_bind (seqEpoch_at ho1 rfl ?_)
 refine wpAny_bind (wpAny_newTuple ?_ (by show vs.length<=_;exact hz))
 refine wpAny_bind (wpAny_newList ?_ (j4 _))
 refine wpAny_holding ?_
 generalize hH:((s.heap.update a (Obj.mapSeq fun _=>#[])).push (seqObj "tuple" vs.toArray 0)).push (seqObj "list" #[] 0)=h6
 have ho6:h6.get? a=some (seqObj "list" #[] e1):=by rw[<- hH];exact a5 _ (a5 _ ho1)
 have keep:∀ b o,b≠a->s.heap.get? b=some o->h6.get? b=some o:=fun b o hb e=>by
  rw[<- hH]
  exact a5 _ (a5 _ ((u6 s.heap _ (Ne.symm hb)).trans e))
 have up:∀ v∈vs,∀ k,IsK prog w s.heap k v->IsK prog w h6 k v:=fun v hv' k hk=>by
  obtain⟨c,rfl,o,items,n,h2,h3⟩:=hk
  exact⟨c,rfl,o,items,n,keep c o (fun z=>hna _ hv' (by rw[z])) h2,h3⟩
 have fin:∀ st':SortSt,(arrOf st').Perm (pairsOf vs)->(arrOf st').toList.Pairwise (le (Bf (O:=aQ1) fun p=>N1 prog w s.heap p.1))->P (.done (.ret .none)) { s with heap:=sortedHeap s.heap a vs ((arrOf st').map (·.2)) }:=fun st' hp hs=>by
  have hl:(arrOf st').toList.Perm (vs.zip vs):=by rw[<- pairsOf_toList];exact F4.mp hp
  have hm:((arrOf st').map (·.2)).toList=(arrOf st').toList.map (·.2):=Array.toList_map ..
  have hz2:(vs.zip vs).map (·.2)=vs:=List.map_snd_zip (b4 _)
  have:=h ((arrOf st').toList.map (·.2)) (by have:=hl.map (·.2);rw[hz2]at this;exact this) ?_
  ·rw[show (arrOf st').map (·.2)=((arrOf st').toList.map (·.2)).toArray by rw[<- hm]]
   exact this
  ·rw[K3]
   refine List.Pairwise.imp_of_mem ?_ hs
   intro x y hx hy hxy
   have ex:=(mem_zip_self (hl.mem_iff.mp hx)).1
   have ey:=(mem_zip_self (hl.mem_iff.mp hy)).1
   rw[<- ex,<- ey]
   exact hxy
 have out:∀ st':SortSt,(arrOf st').Perm (pairsOf vs)->failedOf st'=none->(arrOf st').toList.Pairwise (le (Bf (O:=aQ1) fun p=>N1 prog w s.heap p.1)) ->
   wpAny (model prog w) A (do
    let sorted:=(arrOf st').map (·.2)
    let touched:=(<- seqEpoch a) != e1
    Builtin.List.listUpdate (.ref a) fun _=>sorted
    if let some e:=failedOf st' then rule "list.sort.comparison-raised";throw e
    if touched then rule "list.sort.modified";raiseError "ValueError" "list modified during sort"
    ret .none) P E { s with heap:=h6 }:=fun st' hp hf hs=>by
  dsimp only
  refine wpAny_bind (seqEpoch_at (s:={ s with heap:=h6 }) ho6 rfl ?_)
  refine wpAny_bind (listUpdate_at (s:={ s with heap:=h6 }) ho6 rfl ?_ (j4 _) (by refine o7 (Nat.le_of_eq ((aa2 ..).trans (hp.size_eq.trans (pairsOf_size _)))) ?_;omega))
  rw[hf]
  simp only[bne_self_eq_false,g9,if_false]
  refine wpAny_pure ?_
  have:=fin st' hp hs
  unfold sortedHeap at this
  rw[hH]at this
  exact this
 show wpAny (model prog w) A _ P E { s with heap:=h6 }
 dsimp only
 by_cases h2:vs.toArray.size<2
 ·rw[if_pos h2,if_pos h2]
  refine wpAny_bind (wpAny_pure ?_)
  rw[StateT.run_pure]
  refine wpAny_bind (wpAny_pure ?_)
  refine out (SortSt.mk' general' (vs.toArray.zip vs.toArray) #[] 7 none) (Array.Perm.refl _) rfl ?_
  show (pairsOf vs).toList.Pairwise _
  rw[j0]
  intro i j hi hj hij
  rw[d5,pairsOf_size]at hj
  rw[d3]at h2
  omega
 ·rw[if_neg h2,if_neg h2]
  rw[d3]at h2
  refine wpAny_bind (aw0 (s:={ s with heap:=h6 }) (by omega) (fun v hv'=>?_) ?_)
  ·obtain⟨i,k,hk⟩:=hv v hv'
   exact⟨i,k,up v hv' _ hk⟩
  refine wpAny_bind (wpAny_mono (an7 (s:={ s with heap:=h6 }) (a₀:=pairsOf vs) (κ:=tuples' true) (O:=aQ1) (f:=fun p=>N1 prog w s.heap p.1) (st:=SortSt.mk' (tuples' true) (vs.toArray.zip vs.toArray) #[] 7 none)
   (Q:=fun _ st'=>(arrOf st').Perm (pairsOf vs)/\failedOf st'=none/\(arrOf st').toList.Pairwise (le (Bf (O:=aQ1) fun p=>N1 prog w s.heap p.1))) ?_ ([]:List Int) (Array.Perm.refl _) rfl rfl rfl fun st' a1 a2 a3=>⟨a1,a2,a3⟩) ?_ fun _ _ e=>e)
  ·intro x y hx hy Q hq
   rw[pairsOf_toList]at hx hy
   obtain⟨i,k,hk⟩:=hv x.1 (mem_zip_self hx).2
   obtain⟨j,k',hk'⟩:=hv y.1 (mem_zip_self hy).2
   refine aJ9 (s:={ s with heap:=h6 }) (up _ (mem_zip_self hx).2 _ hk) (up _ (mem_zip_self hy).2 _ hk') ?_
   rw[<- R0 hk,<- R0 hk']
   exact hq
  ·rintro⟨⟨⟩,st'⟩ s' ⟨rfl,hp,hf,hs⟩
   exact out st' hp hf hs
theorem ag6 {l:Addr} {vs:List Value} {Q:Value->Shared->Prop} (hl:s.heap.IsList l vs.toArray) (hz:vs.length<=sizeLine) (hv:∀ v∈vs,∃ i k,IsK prog w s.heap (i::k) v)
  (h : ∀ (out : List Value) (h' : Heap) (n : Nat), out.Perm vs -> out.Pairwise (fun x y => B3 (N1 prog w s.heap y) (N1 prog w s.heap x) = false) -> (∀ b o, s.heap.get? b = some o -> h'.get? b = some o) ->
   h'.get? (s.heap.objs.size+1)=some { cls:=.type "list",data:=.seq out.toArray n }->Q (.ref (s.heap.objs.size+1)) { s with heap:=h' }) :
  wpAny (model prog w) A (call (.builtin "sorted") [.ref l]) Q E s:=by
 refine Calls.call_function_entry kind_sorted plain_sorted entry_sorted (args_sorted1 _) ?_
 unfold Builtin.«sorted»
 refine wpAny_bind (m:=checkCount "sorted" 1 1 _) (wpAny_pure ?_)
 refine wpAny_bind (collect_list hl ?_ hz)
 refine wpAny_bind (wpAny_newList ?_ hz)
 have hsz:((s.heap.push (seqObj "list" #[] 0)).update s.heap.objs.size (Obj.mapSeq (·++vs.toArray))).objs.size=s.heap.objs.size+1:=by
  rw[Heap.size_update,size_push']
 generalize hH:((s.heap.push (seqObj "list" #[] 0)).update s.heap.objs.size (Obj.mapSeq (·++vs.toArray))).push (seqObj "list" vs.toArray 0)=h2
 have hoL:h2.get? (s.heap.objs.size+1)=some (seqObj "list" vs.toArray 0):=by
  rw[<- hH,<- hsz];exact j3 _ rfl
 have keep:∀ b o,s.heap.get? b=some o->h2.get? b=some o:=fun b o e=>by
  rw[<- hH]
  refine a5 _ ((u6 _ _ ?_).trans (a5 _ e))
  exact Ne.symm (f9 (c3 e))
 have hsz2:h2.objs.size=s.heap.objs.size+2:=by rw[<- hH,size_push',hsz]
 rw[hsz]
 have up:∀ v k,IsK prog w s.heap k v->IsK prog w h2 k v:=fun v k hk=>hk.up keep
 have kA:∀ v∈vs,N1 prog w h2 v=N1 prog w s.heap v:=fun v hv'=>by
  obtain⟨i,k,hk⟩:=hv v hv'
  rw[R0 hk,R0 (up v _ hk)]
 refine wpAny_bind (wpAny_holding (wpAny_call_entry slot_list_sort (s:={ s with heap:=h2 }) ⟨_,hoL,rfl⟩ entry_list_sort (aB5 (s:={ s with heap:=h2 }) hoL hz (fun v hv'=>?_) (fun v hv' z=>?_) fun out a1 a2=>⟨_,rfl,?_⟩) (args_list_sort _)))
 ·obtain⟨i,k,hk⟩:=hv v hv'
  exact⟨i,k,up v _ hk⟩
 ·obtain⟨i,k,a,rfl,o,items,n,ho,_⟩:=hv v hv'
  cases z
  exact absurd (c3 ho) (Nat.not_lt.mpr (ad4 _))
 ·have hlast:∃ n,(sortedHeap h2 (s.heap.objs.size+1) vs out.toArray).get? (s.heap.objs.size+1)=some (seqObj "list" out.toArray n):=by
   unfold sortedHeap
   have g1:=get?_update_seq hoL (fun _=>(#[]:Array Value))
   have g2:(((h2.update (s.heap.objs.size+1) (Obj.mapSeq fun _=>#[])).push (seqObj "tuple" vs.toArray 0)).push (seqObj "list" #[] 0)).get? (s.heap.objs.size+1)=_:=a5 _ (a5 _ g1)
   exact⟨_,get?_update_seq g2 (fun _=>out.toArray)⟩
  obtain⟨n,hn⟩:=hlast
  refine wpAny_pure ⟨_,rfl,h out _ n a1 ?_ (fun b o e=>?_) hn⟩
  ·refine List.Pairwise.imp_of_mem ?_ a2
   intro x y hx hy hxy
   rw[kA x (a1.mem_iff.mp hx),kA y (a1.mem_iff.mp hy)]at hxy
   exact hxy
  ·have hb:b≠s.heap.objs.size+1:=f9 (v7 (c3 e))
   unfold sortedHeap
   refine(u6 _ _ (Ne.symm hb)).trans (a5 _ (a5 _ ((u6 _ _ (Ne.symm hb)).trans (keep b o e))))
end
end Tim
namespace Sett
open PySem PySem.SetTable
theorem aw4 {P:Nat->Prop}(h:∃ n,P n):∃ n,P n/\∀ m,m<n->¬ P m:=by
 obtain⟨n,hn⟩:=h
 induction n using Nat.strongRecOn with
 | ind n ih =>
  by_cases q:∃ m,m<n/\P m
  ·obtain⟨m,hm,pm⟩:=q
   exact ih m hm pm
  ·exact⟨n,hn,fun m hm pm=>q ⟨m,hm,pm⟩⟩
def st (m i pt:Nat):Probe:={ j:=i,more:=runEnd m i - i,i:=i,perturb:=pt,dummy:=none }
def it (t:SetTable):Nat->Probe->Probe
 | 0,p=>p
 | n+1,p=>it t n (t.advance p)
theorem am0 (t:SetTable):∀ (a b:Nat) (p:Probe),it t (a+b) p=it t b (it t a p)
 | 0,b,p=>by rw[D6];rfl
 | a+1,b,p=>by
  rw[show a+1+b=(a+b)+1 by omega]
  exact am0 t a b (t.advance p)
theorem S6 (t:SetTable)(n:Nat)(p:Probe):it t (n+1) p=t.advance (it t n p):=am0 t n 1 p
theorem Y7 (m i:Nat):i<=runEnd m i/\runEnd m i<=i+9:=by unfold runEnd;split<;>omega
theorem ap7 {m i:Nat}(h:i<=m):runEnd m i<=m:=by unfold runEnd;split<;>omega
theorem al8 (t:SetTable)(i pt:Nat):∀ k,k<=runEnd t.mask i - i->it t k (st t.mask i pt)={ j:=i+k,more:=runEnd t.mask i - i - k,i:=i,perturb:=pt,dummy:=none }
 | 0,_=>rfl
 | k+1,h=>by
  rw[S6,al8 t i pt k (by omega)]
  unfold advance
  dsimp only
  rw[if_pos (by omega)]
  simp only[Probe.mk.injEq,and_true,true_and]
  omega
theorem al9 (t:SetTable)(i pt:Nat):it t (runEnd t.mask i - i+1) (st t.mask i pt)=st t.mask (leap t.mask i pt).1 (leap t.mask i pt).2:=by
 rw[S6,al8 t i pt _ (b4 _)]
 unfold advance
 dsimp only
 rw[if_neg (by omega)]
 rfl
def rn (m i pt:Nat):Nat->Nat × Nat
 | 0=>(i,pt)
 | r+1=>leap m (rn m i pt r).1 (rn m i pt r).2
theorem aT8 (m i pt:Nat):∀ r,(rn m i pt r).2=pt / 32 ^ r
 | 0=>by simp[rn]
 | r+1=>by
  show (rn m i pt r).2 / 32=_
  rw[aT8 m i pt r,aL8,Nat.pow_succ]
theorem aT9 (m i pt:Nat)(h:i<=m):∀ r,(rn m i pt r).1<=m
 | 0=>h
 | r+1=>S9 (bc0 _ (P4 m))
theorem aU9 (t:SetTable)(i pt:Nat):∀ r,∃ n,n<=10*r/\it t n (st t.mask i pt)=st t.mask (rn t.mask i pt r).1 (rn t.mask i pt r).2
 | 0=>⟨0,b4 _,rfl⟩
 | r+1=>by
  obtain⟨n,hn,e⟩:=aU9 t i pt r
  have h9:=Y7 t.mask (rn t.mask i pt r).1
  refine⟨n+(runEnd t.mask (rn t.mask i pt r).1 - (rn t.mask i pt r).1+1),by omega,?_⟩
  rw[am0,e,al9]
  rfl
def f5 (m i:Nat):Nat:=(i*5+1) % (m+1)
def orb (m:Nat):Nat->Nat->List Nat
 | 0,_=>[]
 | k+1,i=>i::orb m k (f5 m i)
def Full (m:Nat):Prop:=∀ b,b<=m->∀ a,a<=m->∃ n,n<=m/\Nat.repeat (f5 m) n a=b
def chk (m:Nat):Bool:=(orb m (m+1) 0).foldl (fun acc i=>acc ||| 2 ^ i) 0 == 2 ^ (m+1) - 1
theorem as7:∀ (l:List Nat) (acc b:Nat),(l.foldl (fun acc i=>acc ||| 2 ^ i) acc).testBit b=true->acc.testBit b=true\/b∈l
 | [],acc,b,h=>.inl h
 | i::l,acc,b,h=>by
  rcases as7 l _ b h with q | q
  ·rw[Nat.testBit_or,Bool.or_eq_true]at q
   rcases q with q | q
   ·exact .inl q
   ·rw[aV2]at q
    exact .inr (by rw[of_decide_eq_true q];exact b9)
  ·exact .inr (a7 _ q)
theorem W1 (f:Nat->Nat)(a:Nat):∀ n k,Nat.repeat f (n+k) a=Nat.repeat f k (Nat.repeat f n a)
 | n,0=>rfl
 | n,k+1=>by
  show f (Nat.repeat f (n+k) a)=f (Nat.repeat f k (Nat.repeat f n a))
  rw[W1 f a n k]
theorem az0 (m:Nat):∀ k i x,x∈orb m k i->∃ n,n<k/\Nat.repeat (f5 m) n i=x
 | 0,i,x,h=>by cases h
 | k+1,i,x,h=>by
  rcases d7.mp h with rfl | h
  ·exact⟨0,P4 _,rfl⟩
  ·obtain⟨n,hn,e⟩:=az0 m k (f5 m i) x h
   refine⟨n+1,by omega,?_⟩
   rw[Nat.add_comm n 1,W1]
   exact e
theorem ac8 {m:Nat}(hc:chk m=true)(hz:Nat.repeat (f5 m) (m+1) 0=0):Full m:=by
 intro b hb a ha
 unfold chk at hc
 have hc:=eq_of_beq hc
 have get:∀ x,x<=m->∃ n,n<m+1/\Nat.repeat (f5 m) n 0=x:=fun x hx=>by
  have hb:(2 ^ (m+1) - 1).testBit x=true:=by rw[Nat.testBit_two_pow_sub_one];exact decide_eq_true (by omega)
  rw[<- hc]at hb
  rcases as7 _ _ _ hb with q | q
  ·simp at q
  ·exact az0 m (m+1) 0 x q
 obtain⟨p,hp,ep⟩:=get a ha
 obtain⟨q,hq,eq⟩:=get b hb
 by_cases h:p<=q
 ·refine⟨q - p,by omega,?_⟩
  rw[<- ep,<- W1,show p+(q - p)=q by omega,eq]
 ·refine⟨m+1 - p+q,by omega,?_⟩
  rw[<- ep,<- W1,show p+(m+1 - p+q)=(m+1)+q by omega,W1,hz,eq]
def Good (m:Nat):Prop:=m=7\/m=31\/m=127\/m=511
set_option maxRecDepth 100000 in
theorem Good.full {m:Nat}(h:Good m):Full m:=by
 rcases h with rfl | rfl | rfl | rfl
 ·exact ac8 (by decide +kernel) (by decide +kernel)
 ·exact ac8 (by decide +kernel) (by decide +kernel)
 ·exact ac8 (by decide +kernel) (by decide +kernel)
 ·exact ac8 (by decide +kernel) (by decide +kernel)
theorem ay4 (m i pt:Nat)(hp:pt<2 ^ 64):∀ k,(rn m i pt (13+k)).1=Nat.repeat (f5 m) k (rn m i pt 13).1
 | 0=>rfl
 | k+1=>by
  show (leap m (rn m i pt (13+k)).1 (rn m i pt (13+k)).2).1=f5 m (Nat.repeat (f5 m) k (rn m i pt 13).1)
  rw[<- ay4 m i pt hp k]
  unfold leap f5
  have:(rn m i pt (13+k)).2 / 32=0:=by
   rw[aT8,Nat.pow_add,<- aL8]
   have:pt / 32 ^ 13=0:=Nat.div_eq_of_lt (Nat.lt_trans hp (by decide))
   rw[this]
   simp
  dsimp only
  rw[this,an4]
theorem ay5 {m i pt b:Nat}(g:Good m)(hi:i<=m)(hp:pt<2 ^ 64)(hb:b<=m):∃ r,r<turns m/\(rn m i pt r).1=b:=by
 obtain⟨n,hn,e⟩:=g.full b hb (rn m i pt 13).1 (aT9 m i pt hi 13)
 exact⟨13+n,by unfold turns;omega,by rw[ay4 m i pt hp];exact e⟩
theorem aQ7 (t:SetTable){i pt b:Nat}(g:Good t.mask)(hi:i<=t.mask)(hp:pt<2 ^ 64)(hb:b<=t.mask):∃ n,n<10*turns t.mask/\(it t n (st t.mask i pt)).j=b:=by
 obtain⟨r,hr,e⟩:=ay5 g hi hp hb
 obtain⟨n,hn,e'⟩:=aU9 t i pt r
 refine⟨n,by omega,?_⟩
 rw[e']
 exact e
theorem ar1 (t:SetTable):∀ (n:Nat) (p:Probe),(it t n p).dummy=p.dummy
 | 0,p=>rfl
 | n+1,p=>by
  show (it t n (t.advance p)).dummy=_
  rw[ar1 t n]
  unfold advance
  split<;>rfl
theorem aA4 (h:Int):bits h<2 ^ 64:=by
 unfold bits
 have h1:=N6 h (show (2 ^ 64:Int)≠0 by decide)
 have h2:=J4 h (show (0:Int)<2 ^ 64 by decide)
 omega
theorem P9 (t:SetTable)(h:Int):t.probeStart h=st t.mask (bits h % (t.mask+1)) (bits h):=rfl
theorem ac6 {t t':SetTable}(h:t'.mask=t.mask):∀ (n:Nat) (p:Probe),it t' n p=it t n p
 | 0,p=>rfl
 | n+1,p=>by
  show it t' n (t'.advance p)=it t n (t.advance p)
  have:t'.advance p=t.advance p:=by unfold advance;rw[h]
  rw[this,ac6 h n]
def Asc (xs:Array Nat):Prop:=∀ (i j a b:Nat),i<j->xs[i]?=some a->xs[j]?=some b->a<b
theorem ag1 {xs:Array Nat}(asc:Asc xs)(j:Nat):∀ (fuel lo hi:Nat),hi - lo<=fuel->lo<=hi->hi<=xs.size->(∀ i a,i<lo->xs[i]?=some a->a<j)->(∀ i a,hi<=i->xs[i]?=some a->j<=a) ->
  (below.go xs j fuel lo hi)<=xs.size/\(∀ i a,i<below.go xs j fuel lo hi->xs[i]?=some a->a<j)/\(∀ i a,below.go xs j fuel lo hi<=i->xs[i]?=some a->j<=a)
 | 0,lo,hi,h0,h1,h2,h3,h4=>by
  have:lo=hi:=by omega
  subst this
  exact⟨h2,h3,h4⟩
 | fuel+1,lo,hi,h0,h1,h2,h3,h4=>by
  unfold below.go
  by_cases hlt:lo<hi
  ·rw[if_pos hlt]
   dsimp only
   have hm:(lo+hi) / 2<xs.size:=by omega
   have hg:xs.getD ((lo+hi) / 2) j=xs[(lo+hi) / 2]:=by simp[aV3,hm]
   have hq:xs[(lo+hi) / 2]?=some xs[(lo+hi) / 2]:=getElem?_pos xs _ hm
   by_cases hc:xs.getD ((lo+hi) / 2) j<j
   ·rw[if_pos hc]
    refine ag1 asc j fuel _ hi (by omega) (by omega) h2 (fun i a hi' e=>?_) h4
    rw[hg]at hc
    by_cases he:i=(lo+hi) / 2
    ·subst he;rw[hq]at e;cases e;exact hc
    ·have:=asc i _ a _ (by omega) e hq
     omega
   ·rw[if_neg hc]
    refine ag1 asc j fuel lo _ (by omega) (by omega) (by omega) h3 (fun i a hi' e=>?_)
    rw[hg]at hc
    by_cases he:i=(lo+hi) / 2
    ·subst he;rw[hq]at e;cases e;omega
    ·have:=asc _ i _ a (by omega) hq e
     omega
  ·rw[if_neg hlt]
   have:lo=hi:=by omega
   subst this
   exact⟨h2,h3,h4⟩
theorem ag0 {xs:Array Nat}(asc:Asc xs)(j:Nat):below xs j<=xs.size/\(∀ i a,i<below xs j->xs[i]?=some a->a<j)/\(∀ i a,below xs j<=i->xs[i]?=some a->j<=a):=
 ag1 asc j xs.size 0 xs.size (by omega) (by omega) (b4 _) (fun i a h=>by omega) fun i a h e=>by
  have:=(getElem?_eq_some_iff.mp e).1
  omega
theorem below_at {xs:Array Nat}(asc:Asc xs){i j:Nat}(h:xs[i]?=some j):below xs j=i:=by
 obtain⟨h1,h2,h3⟩:=ag0 asc j
 rcases T4 (below xs j) i with q | q | q
 ·exfalso
  have hlt:below xs j<xs.size:=Nat.lt_trans q (getElem?_eq_some_iff.mp h).1
  have e:=getElem?_pos xs (below xs j) hlt
  have a1:=h3 (below xs j) _ (b4 _) e
  have a2:=asc _ _ _ _ q e h
  omega
 ·exact q
 ·have:=h2 i j q h
  omega
theorem Y4 {t:SetTable}(asc:Asc t.place){i j:Nat}(h:t.place[i]?=some j):t.slot j=.live i:=by
 unfold slot
 dsimp only
 rw[below_at asc h,h]
 simp
theorem au5 {t:SetTable}(hd:t.dummies=#[]){j:Nat}(h:∀ i:Nat,t.place[i]?≠some j):t.slot j=.empty:=by
 unfold slot
 dsimp only
 rw[if_neg (by simpa using h _),if_neg (by rw[hd];simp[has])]
theorem ar4 {t:SetTable}{hashAt:Nat->Int}{h:Int}:∀ (n fuel:Nat) (p:Probe),n<fuel->(∀ k,k<n->∃ i,t.slot (it t k p).j=.live i/\hashAt i≠h)->t.slot (it t n p).j=.empty ->
  probe.go t hashAt h fuel p=some (.empty (it t n p).j (it t n p).dummy)
 | 0,fuel+1,p,_,_,he=>by
  unfold probe.go
  have he':t.slot p.j=.empty:=he
  rw[he']
  rfl
 | n+1,fuel+1,p,hl,hk,he=>by
  obtain⟨i,e,hne⟩:=hk 0 (P4 _)
  have e':t.slot p.j=.live i:=e
  unfold probe.go
  rw[e']
  dsimp only
  rw[if_neg (by simpa using hne)]
  exact ar4 n fuel (t.advance p) (by omega) (fun k hk'=>hk (k+1) (by omega)) he
theorem az9 {t:SetTable}{hashAt:Nat->Int}{h:Int}{i:Nat}:∀ (n fuel:Nat) (p:Probe),n<fuel->(∀ k,k<n->∃ i,t.slot (it t k p).j=.live i/\hashAt i≠h)->t.slot (it t n p).j=.live i->hashAt i=h ->
  ∃ q,probe.go t hashAt h fuel p=some (.candidate (it t n p).j i q)
 | 0,fuel+1,p,_,_,he,hh=>by
  unfold probe.go
  have he':t.slot p.j=.live i:=he
  rw[he']
  dsimp only
  rw[if_pos (by simpa using hh)]
  exact⟨_,rfl⟩
 | n+1,fuel+1,p,hl,hk,he,hh=>by
  obtain⟨i',e,hne⟩:=hk 0 (P4 _)
  have e':t.slot p.j=.live i':=e
  unfold probe.go
  rw[e']
  dsimp only
  rw[if_neg (by simpa using hne)]
  exact az9 n fuel (t.advance p) (by omega) (fun k hk'=>hk (k+1) (by omega)) he hh
abbrev En:=Int × Value
structure Tb (t:SetTable) (es:Array En):Prop where
 dum:t.dummies=#[]
 len:t.place.size=es.size
 asc:Asc t.place
 bnd:∀ (i j:Nat),t.place[i]?=some j->j<=t.mask
 good:Good t.mask
 nf:es.size*5<t.mask*3
 path:∀ (i:Nat) (e:En),es[i]?=some e->∃ n,n<10*turns t.mask/\t.place[i]?=some (it t n (t.probeStart e.1)).j/\∀ k,k<n->∃ i':Nat,t.place[i']?=some (it t k (t.probeStart e.1)).j
theorem aL3 {xs:Array Nat}(asc:Asc xs):∀ (i a:Nat),xs[i]?=some a->i<=a
 | 0,a,_=>j4 _
 | i+1,a,h=>by
  have hi:i+1<xs.size:=(getElem?_eq_some_iff.mp h).1
  have e:=getElem?_pos xs i (by omega)
  have h1:=aL3 asc i _ e
  have h2:=asc i (i+1) _ a (by omega) e h
  omega
theorem aD9 {xs:Array Nat}(asc:Asc xs){m:Nat}(h:xs.size<=m):∃ b,b<=m/\∀ i:Nat,xs[i]?≠some b:=by
 by_cases q:∃ i,i<xs.size/\xs[i]?≠some i
 ·obtain⟨i,⟨hi,hne⟩,hmin⟩:=aw4 q
  refine⟨i,by omega,fun k e=>?_⟩
  have hk:=aL3 asc k i e
  rcases A9 hk with hlt | rfl
  ·have ek:xs[k]?=some k:=Classical.byContradiction fun z=>hmin k hlt ⟨by omega,z⟩
   rw[ek]at e
   cases e
   omega
  ·exact hne e
 ·refine⟨xs.size,h,fun k e=>?_⟩
  have hk:k<xs.size:=(getElem?_eq_some_iff.mp e).1
  have ek:xs[k]?=some k:=Classical.byContradiction fun z=>q ⟨k,hk,z⟩
  rw[ek]at e
  cases e
  omega
theorem Tb.small {t:SetTable}{es:Array En}(T:Tb t es):es.size<=t.mask:=by
 have:=T.nf
 omega
theorem Tb.fits {t:SetTable}{es:Array En}(T:Tb t es):t.fits es.size=true:=by
 unfold SetTable.fits fill
 rw[T.dum,T.len]
 have:=T.small
 simp
 exact this
theorem Tb.odd {t:SetTable}{es:Array En}(T:Tb t es):t.gaveWay=false:=by
 unfold gaveWay
 rcases T.good with e | e | e | e<;>rw[e]<;>rfl
def hashOf (es:Array En)(i:Nat):Int:=(es[i]?.map (·.1)).getD 0
theorem M3 {es:Array En}{i:Nat}{e:En}(h:es[i]?=some e):hashOf es i=e.1:=by unfold hashOf;rw[h];rfl
theorem P8 (t:SetTable)(h:Int):bits h % (t.mask+1)<=t.mask:=S9 (bc0 _ (P4 _))
theorem Tb.absent {t:SetTable}{es:Array En}(T:Tb t es){h:Int}(hh:∀ e∈es.toList,e.1≠h):∃ n,n<10*turns t.mask/\(∀ i:Nat,t.place[i]?≠some (it t n (t.probeStart h)).j)/\(it t n (t.probeStart h)).j<=t.mask /\
  (∀ k,k<n->∃ i':Nat,t.place[i']?=some (it t k (t.probeStart h)).j)/\t.probe (hashOf es) h (t.probeStart h)=some (.empty (it t n (t.probeStart h)).j none):=by
 obtain⟨b,hb,hfree⟩:=aD9 T.asc (m:=t.mask) (by rw[T.len];exact T.small)
 obtain⟨n0,hn0,e0⟩:=aQ7 t T.good (P8 t h) (aA4 h) hb
 rw[<- P9]at e0
 obtain⟨n,⟨hfr,hn,hle⟩,hmin⟩:=aw4 (P:=fun n=>(∀ i:Nat,t.place[i]?≠some (it t n (t.probeStart h)).j)/\n<=n0/\(it t n (t.probeStart h)).j<=t.mask) ⟨n0,by rw[e0];exact hfree,b4 _,by rw[e0];exact hb⟩
 have hocc:∀ k,k<n->∃ i':Nat,t.place[i']?=some (it t k (t.probeStart h)).j:=fun k hk=>Classical.byContradiction fun z=>by
  have hk':∀ i:Nat,t.place[i]?≠some (it t k (t.probeStart h)).j:=fun i e=>z ⟨i,e⟩
  by_cases hkm:(it t k (t.probeStart h)).j<=t.mask
  ·exact hmin k hk ⟨hk',by omega,hkm⟩
  ·-- every place on the way is a slot
   exact hkm (by
    clear z hk' hkm hmin hfr hle hn hk
    rw[P9]
    induction k with
    | zero=>exact P8 t h
    | succ k ih =>
     have key:∀ k,∃ r c,c<=runEnd t.mask (rn t.mask (bits h % (t.mask+1)) (bits h) r).1 - (rn t.mask (bits h % (t.mask+1)) (bits h) r).1 /\
       it t k (st t.mask (bits h % (t.mask+1)) (bits h))=it t c (st t.mask (rn t.mask (bits h % (t.mask+1)) (bits h) r).1 (rn t.mask (bits h % (t.mask+1)) (bits h) r).2):=fun k=>by
      induction k with
      | zero=>exact⟨0,0,j4 _,rfl⟩
      | succ k ih =>
       obtain⟨r,c,hc,e⟩:=ih
       rcases A9 hc with hlt | heq
       ·exact⟨r,c+1,hlt,by rw[S6,e,<- S6]⟩
       ·refine⟨r+1,0,j4 _,?_⟩
        rw[S6,e,<- S6,heq,al9]
        rfl
     obtain⟨r,c,hc,e⟩:=key (k+1)
     rw[e,al8 t _ _ c hc]
     have h1:=aT9 t.mask (bits h % (t.mask+1)) (bits h) (P8 t h) r
     have h2:=ap7 h1
     have h3:=Y7 t.mask (rn t.mask (bits h % (t.mask+1)) (bits h) r).1
     show (rn t.mask (bits h % (t.mask+1)) (bits h) r).1+c<=t.mask
     omega)
 refine⟨n,by omega,hfr,hle,hocc,?_⟩
 unfold probe
 have:=ar4 (hashAt:=hashOf es) (h:=h) n (10*turns t.mask) (t.probeStart h) (by omega) (fun k hk=>?_) (au5 T.dum hfr)
 ·rw[this,ar1]
  rfl
 ·obtain⟨i',e⟩:=hocc k hk
  refine⟨i',Y4 T.asc e,?_⟩
  have hi:i'<es.size:=by rw[<- T.len];exact(getElem?_eq_some_iff.mp e).1
  have e2:=getElem?_pos es i' hi
  rw[M3 e2]
  exact hh _ (by simp)
theorem Tb.present {t:SetTable}{es:Array En}(T:Tb t es){i:Nat}{e:En}(he:es[i]?=some e)(hu:∀ (k:Nat) (e':En),es[k]?=some e'->e'.1=e.1->k=i):∃ j q,t.probe (hashOf es) e.1 (t.probeStart e.1)=some (.candidate j i q):=by
 obtain⟨n,hn,hp,hocc⟩:=T.path i e he
 unfold probe
 obtain⟨m,⟨hm,i1,hi1,hs1⟩,hmin⟩:=aw4 (P:=fun m=>m<=n/\∃ i1:Nat,t.place[i1]?=some (it t m (t.probeStart e.1)).j/\hashOf es i1=e.1) ⟨n,b4 _,i,hp,M3 he⟩
 have hi2:i1<es.size:=by rw[<- T.len];exact(getElem?_eq_some_iff.mp hi1).1
 have e2:=getElem?_pos es i1 hi2
 rw[M3 e2]at hs1
 have hii:i1=i:=hu i1 _ e2 hs1
 subst hii
 obtain⟨q,hq⟩:=az9 (hashAt:=hashOf es) (h:=e.1) (i:=i1) m (10*turns t.mask) (t.probeStart e.1) (by omega) (fun k hk=>by
  obtain⟨i',e3⟩:=hocc k (by omega)
  exact⟨i',Y4 T.asc e3,fun z=>hmin k hk ⟨by omega,i',e3,z⟩⟩) (Y4 T.asc hi1) (M3 he)
 exact⟨_,q,hq⟩
theorem get_ins {α:Type}{xs:Array α}{p:Nat}{x:α}(hp:p<=xs.size)(i:Nat):(insertAt xs p x)[i]?=if i<p then xs[i]? else if i=p then some x else xs[i - 1]?:=by
 unfold insertAt
 have e0:((xs.extract 0 p).push x).size=p+1:=by rw[l7,u5];omega
 by_cases h1:i<p
 ·rw[if_pos h1,at5 (by omega),Array.getElem?_push_lt (by rw[u5];omega)]
  rw[Array.getElem_extract]
  simp only[D6]
  exact(getElem?_pos xs i (by omega)).symm
 ·rw[if_neg h1]
  by_cases h2:i=p
  ·subst h2
   rw[if_pos rfl,at5 (by omega)]
   have e1:(xs.extract 0 i).size=i:=by rw[u5];omega
   rw[Array.getElem?_push,e1,if_pos rfl]
  ·rw[if_neg h2,Array.getElem?_append_right (by omega),e0,Array.getElem?_extract]
   split
   ·congr 1;omega
   ·rw[getElem?_neg]
    omega
theorem W0 {α:Type}{xs:Array α}{p:Nat}{x:α}(hp:p<=xs.size):(insertAt xs p x).size=xs.size+1:=by
 unfold insertAt
 rw[y6,l7,u5,u5]
 omega
theorem aP9 {α:Type}{xs:Array α}{p:Nat}{x:α}(hp:p<=xs.size)(y:α):y∈(insertAt xs p x).toList↔y=x\/y∈xs.toList:=by
 constructor
 ·intro h
  obtain⟨i,hi⟩:=j7.mp h
  rw[a6,get_ins hp]at hi
  split at hi
  ·exact .inr (a9 (by rw[a6];exact hi))
  ·split at hi
   ·cases hi;exact .inl rfl
   ·exact .inr (a9 (by rw[a6];exact hi))
 ·rintro(rfl | h)
  ·exact a9 (i:=p) (by rw[a6,get_ins hp,if_neg (p6 _),if_pos rfl])
  ·obtain⟨i,hi⟩:=j7.mp h
   rw[a6]at hi
   have hi':i<xs.size:=(getElem?_eq_some_iff.mp hi).1
   by_cases q:i<p
   ·exact a9 (i:=i) (by rw[a6,get_ins hp,if_pos q];exact hi)
   ·exact a9 (i:=i+1) (by rw[a6,get_ins hp,if_neg (by omega),if_neg (by omega)];simpa using hi)
structure Tb' (t:SetTable) (es:Array En):Prop where
 dum:t.dummies=#[]
 len:t.place.size=es.size
 asc:Asc t.place
 bnd:∀ (i j:Nat),t.place[i]?=some j->j<=t.mask
 good:Good t.mask
 fil:es.size<=t.mask
 path:∀ (i:Nat) (e:En),es[i]?=some e->∃ n,n<10*turns t.mask/\t.place[i]?=some (it t n (t.probeStart e.1)).j/\∀ k,k<n->∃ i':Nat,t.place[i']?=some (it t k (t.probeStart e.1)).j
theorem Tb'.full {t:SetTable}{es:Array En}(T:Tb' t es)(h:es.size*5<t.mask*3):Tb t es:=⟨T.dum,T.len,T.asc,T.bnd,T.good,h,T.path⟩
theorem Tb'.fits {t:SetTable}{es:Array En}(T:Tb' t es):t.fits es.size=true:=by
 unfold SetTable.fits fill
 rw[T.dum,T.len]
 have:=T.fil
 simp
 exact this
theorem Tb'.plain {t:SetTable}{es:Array En}(T:Tb' t es)(b:Bool):Tb' { t with plain:=b } es:=by
 have e:∀ n (p:Probe),it { t with plain:=b } n p=it t n p:=fun n p=>ac6 (t:=t) (t':={ t with plain:=b }) rfl n p
 refine⟨T.dum,T.len,T.asc,T.bnd,T.good,T.fil,fun i x hx=>?_⟩
 obtain⟨n,h1,h2,h3⟩:=T.path i x hx
 exact⟨n,h1,by rw[e];exact h2,fun k hk=>by rw[e];exact h3 k hk⟩
theorem Tb.put {t:SetTable}{es:Array En}(T:Tb t es){h:Int}{x:Value}{n:Nat}(hn:n<10*turns t.mask)(hfr:∀ i:Nat,t.place[i]?≠some (it t n (t.probeStart h)).j)(hle:(it t n (t.probeStart h)).j<=t.mask)
  (hocc:∀ k,k<n->∃ i':Nat,t.place[i']?=some (it t k (t.probeStart h)).j) :
  (t.put (it t n (t.probeStart h)).j).2<=es.size/\Tb' (t.put (it t n (t.probeStart h)).j).1 (insertAt es (t.put (it t n (t.probeStart h)).j).2 (h,x)):=by
 generalize hj:(it t n (t.probeStart h)).j=j at *
 obtain⟨b1,b2,b3⟩:=ag0 T.asc j
 have hp:(t.put j).2=below t.place j:=rfl
 have hd:has t.dummies j=false:=by rw[T.dum];simp[has]
 have ht:(t.put j).1={ t with place:=insertAt t.place (below t.place j) j }:=by
  unfold SetTable.put
  dsimp only
  rw[if_neg (by rw[hd];exact b6)]
 have hm:(t.put j).1.mask=t.mask:=by rw[ht]
 have hpl:(t.put j).1.place=insertAt t.place (below t.place j) j:=by rw[ht]
 have hsz:=T.nf
 have old:∀ (i a:Nat),t.place[i]?=some a->∃ i':Nat,(insertAt t.place (below t.place j) j)[i']?=some a:=fun i a e=>by
  by_cases q:i<below t.place j
  ·exact⟨i,by rw[get_ins b1,if_pos q];exact e⟩
  ·exact⟨i+1,by rw[get_ins b1,if_neg (by omega),if_neg (by omega)];simpa using e⟩
 have hit:∀ k (p:Probe),it (t.put j).1 k p=it t k p:=fun k p=>ac6 hm k p
 have hst:∀ z:Int,(t.put j).1.probeStart z=t.probeStart z:=fun z=>by rw[P9,P9,hm]
 refine⟨by rw[hp,<- T.len];exact b1,?_⟩
 rw[hp]
 refine⟨by rw[ht];exact T.dum,by rw[hpl,W0 b1,W0 (by rw[<- T.len];exact b1),T.len],?_,?_,by rw[hm];exact T.good,?_,?_⟩
 ·rw[hpl]
  intro i k a c hik ea ec
  rw[get_ins b1]at ea ec
  split at ea
  ·rename_i hi
   split at ec
   ·exact T.asc i k a c hik ea ec
   ·split at ec
    ·cases ec;exact b2 i a hi ea
    ·exact T.asc i (k - 1) a c (by omega) ea ec
  ·split at ea
   ·rename_i hi1 hi2
    cases ea
    rw[if_neg (by omega),if_neg (by omega)]at ec
    have h1:=b3 (k - 1) c (by omega) ec
    rcases A9 h1 with h2 | h2
    ·exact h2
    ·subst h2;exact absurd ec (hfr (k - 1))
   ·rw[if_neg (by omega),if_neg (by omega)]at ec
    exact T.asc (i - 1) (k - 1) a c (by omega) ea ec
 ·rw[hpl,hm]
  intro i a ea
  rw[get_ins b1]at ea
  split at ea
  ·exact T.bnd i a ea
  ·split at ea
   ·cases ea;exact hle
   ·exact T.bnd _ a ea
 ·rw[hm,W0 (by rw[<- T.len];exact b1)]
  have:=T.good
  unfold Good at this
  omega
 ·intro i e he
  rw[hpl,hm]
  have b1':below t.place j<=es.size:=by rw[<- T.len];exact b1
  rw[get_ins b1']at he
  have lift:∀ (i0:Nat) (i':Nat),es[i0]?=some e->(∀ a,t.place[i0]?=some a->(insertAt t.place (below t.place j) j)[i']?=some a) ->
    ∃ n,n<10*turns t.mask/\(insertAt t.place (below t.place j) j)[i']?=some (it (t.put j).1 n ((t.put j).1.probeStart e.1)).j/\∀ k,k<n->∃ i':Nat,(insertAt t.place (below t.place j) j)[i']?=some (it (t.put j).1 k ((t.put j).1.probeStart e.1)).j:=fun i0 i' h0 h1=>by
   obtain⟨n',q1,q2,q3⟩:=T.path i0 e h0
   refine⟨n',q1,?_,fun k hk=>?_⟩
   ·rw[hit,hst];exact h1 _ q2
   ·obtain⟨i2,e2⟩:=q3 k hk
    rw[hit,hst]
    exact old i2 _ e2
  split at he
  ·rename_i hi
   exact lift i i he fun a ea=>by rw[get_ins b1,if_pos hi];exact ea
  ·split at he
   ·rename_i hi1 hi2
    cases he
    refine⟨n,hn,?_,fun k hk=>?_⟩
    ·rw[hit,hst,hj,get_ins b1,if_neg hi1,if_pos hi2]
    ·obtain⟨i2,e2⟩:=hocc k hk
     rw[hit,hst]
     exact old i2 _ e2
   ·rename_i hi1 hi2
    exact lift (i - 1) i he fun a ea=>by rw[get_ins b1,if_neg hi1,if_neg hi2];exact ea
theorem al3:∀ (k n:Nat) (g:Nat->Nat),(∀ i,i<n->g i<k)->(∀ i j,i<n->j<n->g i=g j->i=j)->n<=k
 | 0,n,g,h,_=>by
  rcases Nat.eq_zero_or_pos n with e | e
  ·omega
  ·exact absurd (h 0 e) (Nat.not_lt_zero _)
 | k+1,0,g,_,_=>j4 _
 | k+1,n+1,g,h,inj=>by
  by_cases q:∃ i0,i0<n+1/\g i0=k
  ·obtain⟨i0,h0,e0⟩:=q
   have:=al3 k n (fun i=>if i=i0 then g n else g i) (fun i hi=>?_) (fun i j hi hj e=>?_)
   ·omega
   ·try dsimp only
    split
    ·rename_i hii
     have h1:=h n (by omega)
     have h2:g n≠k:=fun z=>by have:=inj n i0 (by omega) h0 (by rw[z,e0]);omega
     omega
    ·have h1:=h i (by omega)
     have h2:g i≠k:=fun z=>by have:=inj i i0 (by omega) h0 (by rw[z,e0]);omega
     omega
   ·try dsimp only at e
    split at e
    ·split at e
     ·omega
     ·have:=inj n j (by omega) (by omega) e;omega
    ·split at e
     ·have:=inj i n (by omega) (by omega) e;omega
     ·exact inj i j (by omega) (by omega) e
  ·have:=al3 k (n+1) g (fun i hi=>?_) inj
   ·omega
   ·have h1:=h i hi
    have h2:g i≠k:=fun z=>q ⟨i,hi,z⟩
    omega
structure LI (t:SetTable) (hs:Array Int) (owner:Array (Option Nat)) (k:Nat):Prop where
 size:owner.size=t.mask+1
 lt:∀ (j i:Nat),owner[j]?=some (some i)->i<k
 inj:∀ (j j' i:Nat),owner[j]?=some (some i)->owner[j']?=some (some i)->j=j'
 has:∀ (i:Nat) (h:Int),i<k->hs[i]?=some h->∃ n,n<10*turns t.mask/\owner[(it t n (t.probeStart h)).j]?=some (some i)/\∀ c,c<n->∃ i':Nat,owner[(it t c (t.probeStart h)).j]?=some (some i')
theorem LI.free {t:SetTable}{hs:Array Int}{owner:Array (Option Nat)}{k:Nat}(L:LI t hs owner k)(hk:k<=t.mask):∃ b,b<=t.mask/\owner[b]?=some none:=by
 apply Classical.byContradiction
 intro z
 have all:∀ b,b<=t.mask->∃ i,owner[b]?=some (some i):=fun b hb=>by
  have e:=getElem?_pos owner b (by rw[L.size];omega)
  cases q:owner[b]'(by rw[L.size];omega) with
  | none=>rw[q]at e;exact absurd ⟨b,hb,e⟩ z
  | some i=>rw[q]at e;exact⟨i,e⟩
 have:=al3 k (t.mask+1) (fun b=>match owner[b]? with | some (some i)=>i | _=>0) (fun b hb=>?_) (fun b b' hb hb' e=>?_)
 ·omega
 ·obtain⟨i,e⟩:=all b (by omega)
  try dsimp only
  rw[e]
  exact L.lt b i e
 ·obtain⟨i,e1⟩:=all b (by omega)
  obtain⟨i',e2⟩:=all b' (by omega)
  try dsimp only at e
  rw[e1,e2]at e
  dsimp only at e
  subst e
  exact L.inj b b' i e1 e2
theorem ai8 (t:SetTable)(owner:Array (Option Nat))(hz:owner.size=t.mask+1):∀ (fuel i pt:Nat),i<=t.mask->(∃ r,r<fuel/\∃ b,b=(rn t.mask i pt r).1/\owner[b]?=some none) ->
  ∃ n,n<10*fuel/\layClean.free t.mask owner fuel i pt=some (it t n (st t.mask i pt)).j/\owner[(it t n (st t.mask i pt)).j]?=some none/\∀ c,c<n->∃ i':Nat,owner[(it t c (st t.mask i pt)).j]?=some (some i')
 | 0,i,pt,_,⟨r,hr,_⟩=>absurd hr (Nat.not_lt_zero _)
 | fuel+1,i,pt,hi,⟨r,hr,b,hb,hbo⟩=>by
  have h9:=Y7 t.mask i
  have hm:=ap7 hi
  unfold layClean.free
  have slotOf:∀ k,k<=runEnd t.mask i - i->(it t k (st t.mask i pt)).j=i+k:=fun k hk=>by rw[al8 t i pt k hk]
  have getS:∀ k,k<=runEnd t.mask i - i->(owner.getD (i+k) (some 0)).isNone=false->∃ i':Nat,owner[i+k]?=some (some i'):=fun k hk e=>by
   have hlt:i+k<owner.size:=by omega
   have e1:=getElem?_pos owner (i+k) hlt
   have e2:owner.getD (i+k) (some 0)=owner[i+k]:=by simp[aV3,hlt]
   rw[e2]at e
   cases q:owner[i+k] with
   | none=>rw[q]at e;cases e
   | some i'=>rw[q]at e1;exact⟨i',e1⟩
  cases hf:(A6 (runEnd t.mask i+1 - i)).find? (fun k=>(owner.getD (i+k) (some 0)).isNone) with
  | some k =>
   dsimp only
   rw[List.find?_eq_some_iff_getElem]at hf
   obtain⟨hp,k',hk',ek,hbef⟩:=hf
   rw[List.length_range]at hk'
   rw[O8]at ek
   subst ek
   refine⟨k',by omega,by rw[slotOf k' (by omega)],?_,fun c hc=>?_⟩
   ·rw[slotOf k' (by omega)]
    have hlt:i+k'<owner.size:=by omega
    have e2:owner.getD (i+k') (some 0)=owner[i+k']:=by simp[aV3,hlt]
    rw[e2]at hp
    rw[getElem?_pos owner _ hlt]
    cases q:owner[i+k'] with
    | none=>rfl
    | some z=>rw[q]at hp;cases hp
   ·rw[slotOf c (by omega)]
    have:=hbef c hc
    rw[O8]at this
    exact getS c (by omega) (by simpa using this)
  | none =>
   dsimp only
   rw[List.find?_eq_none]at hf
   have all:∀ c,c<=runEnd t.mask i - i->∃ i':Nat,owner[i+c]?=some (some i'):=fun c hc=>getS c hc (by simpa only [bc1] using hf c (B5.mpr (by omega)))
   have hr0:r≠0:=fun z=>by
    subst z
    obtain⟨i',e⟩:=all 0 (j4 _)
    have hb':b=i:=hb
    rw[hb']at hbo
    rw[an4,hbo]at e
    cases e
   obtain⟨r',rfl⟩:∃ r',r=r'+1:=⟨r - 1,by omega⟩
   have shift:∀ r,rn t.mask (leap t.mask i pt).1 (leap t.mask i pt).2 r=rn t.mask i pt (r+1):=fun r=>by
    induction r with
    | zero=>rfl
    | succ r ih =>
     show leap t.mask _ _=leap t.mask _ _
     rw[ih]
   obtain⟨n,hn,e1,e2,e3⟩:=ai8 t owner hz fuel (leap t.mask i pt).1 (leap t.mask i pt).2 (S9 (bc0 _ (P4 _))) ⟨r',by omega,b,by rw[hb,shift],hbo⟩
   have sh:∀ c,it t (runEnd t.mask i - i+1+c) (st t.mask i pt)=it t c (st t.mask (leap t.mask i pt).1 (leap t.mask i pt).2):=fun c=>by rw[am0,al9]
   refine⟨runEnd t.mask i - i+1+n,by omega,by rw[sh];exact e1,by rw[sh];exact e2,fun c hc=>?_⟩
   by_cases q:c<=runEnd t.mask i - i
   ·rw[slotOf c q]
    exact all c q
   ·have:=e3 (c - (runEnd t.mask i - i+1)) (by omega)
    rw[<- sh,show runEnd t.mask i - i+1+(c - (runEnd t.mask i - i+1))=c by omega]at this
    exact this
theorem aq7 (t:SetTable)(g:Good t.mask)(hs:Array Int)(hsz:hs.size<=t.mask):∀ (l:List Int) (k:Nat) (owner:Array (Option Nat)),LI t hs owner k->hs.toList.drop k=l ->
  ∃ owner',(l.foldl (fun acc h=>do
   let (owner,k) <- acc
   let j <- layClean.free t.mask owner (turns t.mask) (bits h % (t.mask+1)) (bits h)
   pure (owner.setIfInBounds j (some k),k+1)) (some (owner,k)))=some (owner',k+l.length)/\LI t hs owner' (k+l.length)
 | [],k,owner,L,_=>⟨owner,rfl,L⟩
 | h::l,k,owner,L,hd=>by
  have hk:k<hs.size:=by
   apply Classical.byContradiction
   intro z
   rw[x9 (by rw[d5];omega)]at hd
   cases hd
  have hget:hs[k]?=some h:=by
   rw[<- a6]
   have:=congrArg (fun l=>l[0]?) hd
   simpa using this
  obtain⟨b,hb,hbo⟩:=L.free (by omega)
  obtain⟨r,hr,er⟩:=ay5 g (P8 t h) (aA4 h) hb
  obtain⟨n,hn,e1,e2,e3⟩:=ai8 t owner L.size (turns t.mask) (bits h % (t.mask+1)) (bits h) (P8 t h) ⟨r,hr,b,er.symm,hbo⟩
  rw[<- P9]at e1 e2 e3
  have hjs:(it t n (t.probeStart h)).j<owner.size:=(getElem?_eq_some_iff.mp e2).1
  have gs:∀ x,(owner.setIfInBounds (it t n (t.probeStart h)).j (some k))[x]?=if (it t n (t.probeStart h)).j=x then some (some k) else owner[x]?:=fun x=>by
   rw[Array.getElem?_setIfInBounds]
   split
   ·rename_i hx;subst hx;simp[hjs]
   ·rfl
  have occ:∀ (x i:Nat),owner[x]?=some (some i)->∃ i':Nat,(owner.setIfInBounds (it t n (t.probeStart h)).j (some k))[x]?=some (some i'):=fun x i e=>by
   rw[gs];split
   ·exact⟨k,rfl⟩
   ·exact⟨i,e⟩
  have L':LI t hs (owner.setIfInBounds (it t n (t.probeStart h)).j (some k)) (k+1):=by
   refine⟨by rw[aw9];exact L.size,fun j i e=>?_,fun j j' i ea ec=>?_,fun i h' hi hh=>?_⟩
   ·rw[gs]at e
    split at e
    ·cases e;omega
    ·have:=L.lt j i e;omega
   ·rw[gs]at ea ec
    split at ea
    ·rename_i q1
     cases ea
     split at ec
     ·rename_i q2;rw[<- q1,<- q2]
     ·have:=L.lt j' k ec;omega
    ·split at ec
     ·cases ec
      have:=L.lt j k ea;omega
     ·exact L.inj j j' i ea ec
   ·by_cases q:i=k
    ·subst q
     rw[hget]at hh
     cases hh
     refine⟨n,hn,by rw[gs,if_pos rfl],fun c hc=>?_⟩
     obtain⟨i',e⟩:=e3 c hc
     exact occ _ i' e
    ·obtain⟨n',q1,q2,q3⟩:=L.has i h' (by omega) hh
     refine⟨n',q1,?_,fun c hc=>?_⟩
     ·rw[gs]
      split
      ·rename_i q4
       rw[q4]at e2
       rw[e2]at q2
       cases q2
      ·exact q2
     ·obtain⟨i',e⟩:=q3 c hc
      exact occ _ i' e
  obtain⟨owner',f1,f2⟩:=aq7 t g hs hsz l (k+1) _ L' (by
   have e5:hs.toList.drop (k+1)=(hs.toList.drop k).drop 1:=by rw[P3]
   rw[e5,hd]
   rfl)
  refine⟨owner',?_,?_⟩
  ·rw[Y0]
   have:(do
     let (owner,k) <- some (owner,k)
     let j <- layClean.free t.mask owner (turns t.mask) (bits h % (t.mask+1)) (bits h)
     pure (owner.setIfInBounds j (some k),k+1))=some (owner.setIfInBounds (it t n (t.probeStart h)).j (some k),k+1):=by
    show (layClean.free t.mask owner (turns t.mask) (bits h % (t.mask+1)) (bits h) >>= fun j=>pure (owner.setIfInBounds j (some k),k+1))=_
    rw[e1]
    rfl
   rw[this,f1,d6]
   congr 2
   omega
  ·rw[d6,show k+(l.length+1)=k+1+l.length by omega]
   exact f2
theorem aK2 {M finger moves:Nat}{led plain:Bool}{es:Array En}(g:Good M)(hsz:es.size*5<M*3) :
  ∃ t2 order,laid M finger moves led plain (es.map (·.1))=some (t2,order)/\Tb t2 (order.filterMap (es[·]?))/\(order.filterMap (es[·]?)).toList.Perm es.toList/\order.toList.Perm (A6 es.size)/\t2.led=led/\t2.plain=plain:=by
 let t:SetTable:={ mask:=M,place:=#[],dummies:=#[],finger:=finger,led:=led,moves:=moves,plain:=plain }
 have ht:t.mask=M:=rfl
 have h0:LI t (es.map (·.1)) (Array.replicate (M+1) none) 0:=by
  refine⟨by simp[ht],fun j i e=>?_,fun j j' i e=>?_,fun i h hi=>by omega⟩
  ·rw[ax0]at e;split at e<;>cases e
  ·rw[ax0]at e;split at e<;>cases e
 obtain⟨owner,f1,L⟩:=aq7 t g (es.map (·.1)) (by rw[aa2,ht];omega) (es.map (·.1)).toList 0 _ h0 rfl
 rw[D6,d5,aa2]at f1 L
 have hlay:layClean M (es.map (·.1))=some owner:=by
  unfold layClean
  rw[<- Array.foldl_toList]
  have:(ah2 _ _ (es.map (·.1)).toList)=some (owner,es.size):=f1
  rw[this]
  rfl
 let live:List (Nat × Nat):=(A6 (M+1)).filterMap fun j=>(owner.getD j none).map (j,·)
 have hlive:∀ p:Nat × Nat,p∈live↔owner[p.1]?=some (some p.2):=fun p=>by
  obtain⟨j,i⟩:=p
  have hg:∀ j,owner.getD j none=(owner[j]?).getD none:=fun j=>by simp
  show (j,i)∈List.filterMap _ _↔_
  rw[J1]
  constructor
  ·rintro⟨j',hj',e⟩
   rw[hg]at e
   cases q:owner[j']? with
   | none=>rw[q]at e;cases e
   | some z =>
    rw[q]at e
    cases z with
    | none=>cases e
    | some i' =>
     have e':(j',i')=(j,i):=Option.some.inj e
     cases e'
     exact q
  ·intro e
   have hj:j<owner.size:=(getElem?_eq_some_iff.mp e).1
   refine⟨j,B5.mpr (by rw[L.size,ht]at hj;exact hj),?_⟩
   rw[hg,e]
   rfl
 have hpw:live.Pairwise (fun a b=>a.1<b.1):=by
  show (List.filterMap _ _).Pairwise _
  rw[List.pairwise_filterMap]
  refine List.Pairwise.imp ?_ V4
  intro a b hab p hp q hq
  cases h1:owner.getD a none with
  | none=>rw[h1]at hp;cases hp
  | some i =>
   cases h2:owner.getD b none with
   | none=>rw[h2]at hq;cases hq
   | some i' =>
    rw[h1]at hp
    rw[h2]at hq
    have e1:(a,i)=p:=Option.some.inj hp
    have e2:(b,i')=q:=Option.some.inj hq
    subst e1 e2
    exact hab
 have hnd:(live.map (·.2)).Nodup:=by
  unfold List.Nodup
  rw[K3]
  refine List.Pairwise.imp_of_mem ?_ hpw
  intro a b ha hb hab e
  have h1:=(hlive a).mp ha
  have h2:=(hlive b).mp hb
  rw[<- e]at h2
  have:=L.inj _ _ _ h1 h2
  omega
 have hord:(live.map (·.2)).Perm (A6 es.size):=by
  refine(List.perm_ext_iff_of_nodup hnd List.nodup_range).mpr fun i=>?_
  rw[B5,m8]
  constructor
  ·rintro⟨p,hp,rfl⟩
   exact L.lt _ _ ((hlive p).mp hp)
  ·intro hi
   obtain⟨n,_,q,_⟩:=L.has i ((es.map (·.1))[i]'(by rw[aa2];exact hi)) hi (getElem?_pos _ _ _)
   exact⟨(_,i),(hlive _).mpr q,rfl⟩
 have hlen:live.length=es.size:=by have:=hord.length_eq;simpa using this
 have hes:∀ i,i∈live.map (·.2)->∃ e,es[i]?=some e:=fun i hi=>by
  have:=hord.mem_iff.mp hi
  rw[B5]at this
  exact⟨es[i],getElem?_pos es i this⟩
 have fm:∀ (l:List Nat),(∀ i∈l,∃ e,es[i]?=some e)->(l.filterMap (es[·]?)).length=l.length/\∀ (p:Nat),(l.filterMap (es[·]?))[p]?=(l[p]?).bind (es[·]?):=fun l=>by
  induction l with
  | nil=>intro _;exact⟨rfl,fun p=>rfl⟩
  | cons a l ih =>
   intro h
   obtain⟨e,he⟩:=h a b9
   obtain⟨i1,i2⟩:=ih fun i hi=>h i (a7 _ hi)
   rw[List.filterMap_cons_some he]
   refine⟨by rw[d6,i1,d6],fun p=>?_⟩
   cases p with
   | zero=>simp[he]
   | succ p=>simpa using i2 p
 obtain⟨fl,fg⟩:=fm _ hes
 have hperm:((live.map (·.2)).filterMap (es[·]?)).Perm es.toList:=by
  refine(hord.filterMap _).trans (List.Perm.of_eq ?_)
  apply R6
  intro p
  obtain⟨_,g2⟩:=fm (A6 es.size) fun i hi=>⟨es[i]'(B5.mp hi),getElem?_pos es i (B5.mp hi)⟩
  rw[g2,show es.toList[p]?=es[p]? from a6 ..]
  by_cases hp:p<es.size
  ·rw[List.getElem?_range hp];rfl
  ·rw[Y1 (by simp;omega),getElem?_neg es p hp];rfl
 let t2:SetTable:={ mask:=M,place:=(live.map (·.1)).toArray,dummies:=#[],finger:=finger,led:=led,moves:=moves,plain:=plain }
 have hes':((live.map (·.2)).toArray.filterMap (es[·]?)).toList=(live.map (·.2)).filterMap (es[·]?):=by simp
 have getE:∀ (p:Nat) (e:En),((live.map (·.2)).toArray.filterMap (es[·]?))[p]?=some e->∃ j i:Nat,live[p]?=some (j,i)/\es[i]?=some e:=fun p e h=>by
  rw[<- a6,hes',fg,l9]at h
  cases q:live[p]? with
  | none=>rw[q]at h;cases h
  | some ji=>rw[q]at h;exact⟨ji.1,ji.2,rfl,h⟩
 have getP:∀ (p:Nat) (j:Nat),t2.place[p]?=some j↔∃ i,live[p]?=some (j,i):=fun p j=>by
  show (live.map (·.1)).toArray[p]?=some j↔_
  rw[List.getElem?_toArray,l9]
  cases q:live[p]? with
  | none=>simp
  | some ji =>
   obtain⟨a,b⟩:=ji
   simp
 have itE:∀ n (p:Probe),it t2 n p=it t n p:=fun n p=>ac6 (t:=t) (t':=t2) rfl n p
 refine⟨t2,(live.map (·.2)).toArray,?_,?_,(by rw[hes'];exact hperm),hord,rfl,rfl⟩
 ·unfold laid
  rw[hlay]
  rfl
 ·refine⟨rfl,?_,?_,?_,g,?_,?_⟩
  ·show (live.map (·.1)).toArray.size=_
   rw[d3,b5,<- d5,hes',fl,b5]
  ·intro i j a b hij ea eb
   obtain⟨_,ea⟩:=(getP i a).mp ea
   obtain⟨_,eb⟩:=(getP j b).mp eb
   obtain⟨h1,e1⟩:=a8.mp ea
   obtain⟨h2,e2⟩:=a8.mp eb
   have:=j0.mp hpw i j h1 h2 hij
   rw[e1,e2]at this
   exact this
  ·intro i j e
   obtain⟨i',e⟩:=(getP i j).mp e
   have:=(hlive _).mp (a9 e)
   have hj:j<owner.size:=(getElem?_eq_some_iff.mp this).1
   rw[L.size]at hj
   show j<=M
   exact S9 hj
  ·rw[<- d5,hes',fl,b5,hlen]
   exact hsz
  ·intro p e he
   obtain⟨j,i,hl,hi⟩:=getE p e he
   have ho:=(hlive _).mp (a9 hl)
   have hi':i<es.size:=(getElem?_eq_some_iff.mp hi).1
   obtain⟨n,q1,q2,q3⟩:=L.has i e.1 hi' (by rw[Array.getElem?_map,hi];rfl)
   have ej:=L.inj _ _ _ ho q2
   refine⟨n,q1,?_,fun c hc=>?_⟩
   ·rw[itE]
    exact(getP p _).mpr ⟨i,by rw[hl];congr 2⟩
   ·obtain⟨i',e'⟩:=q3 c hc
    obtain⟨p',hp'⟩:=j7.mp ((hlive (_,i')).mpr e')
    exact⟨p',by rw[itE];exact(getP p' _).mpr ⟨i',hp'⟩⟩
theorem aQ6 {M finger moves:Nat}{led plain:Bool}{es:Array En}(g:Good M)(hsz:es.size*5<M*3) :
  ∃ t2 order,laid M finger moves led plain (es.map (·.1))=some (t2,order)/\Tb t2 (order.filterMap (es[·]?))/\(order.filterMap (es[·]?)).toList.Perm es.toList:=
 let ⟨a,b,c,d,e,_⟩:=aK2 (finger:=finger) (moves:=moves) (led:=led) (plain:=plain) g hsz;⟨a,b,c,d,e⟩
end Sett
namespace Sett
open PySem PySem.SetTable PyProof.Rows
def S3:List Nat->Nat->Bool
 | [],_=>true
 | x::l,acc=>!acc.testBit x && S3 l (acc ||| 2 ^ x)
theorem W7:∀ (l:List Nat) (acc:Nat),S3 l acc=true->l.Nodup/\∀ x∈l,acc.testBit x=false
 | [],_,_=>⟨List.nodup_nil,(fun _ h=>nomatch h)⟩
 | x::l,acc,h=>by
  unfold S3 at h
  rw[d9]at h
  obtain⟨h1,h2⟩:=h
  obtain⟨n,m⟩:=W7 l _ h2
  have m':∀ y∈l,acc.testBit y=false/\x≠y:=fun y hy=>by
   have:=m y hy
   rw[Nat.testBit_or,aM1,aV2]at this
   exact⟨this.1,of_decide_eq_false this.2⟩
  refine⟨F1.mpr ⟨fun hx=>(m' x hx).2 rfl,n⟩,fun y hy=>?_⟩
  rcases d7.mp hy with rfl | hy
  ·simpa using h1
  ·exact(m' y hy).1
def hp (n:Nat):Nat:=bits (reduceHash (Builtin.Tuple.tupleHashOf [hashInt ((n / 24:Nat):Int),hashInt ((n % 24:Nat):Int)])) % 3708
set_option maxRecDepth 100000 in
theorem aZ8:S3 ((A6 576).map hp) 0=true:=by decide +kernel
theorem aZ7 {a b:Nat}(ha:a<576)(hb:b<576)(h:hp a=hp b):a=b:=by
 have:=(W7 _ _ aZ8).1
 unfold List.Nodup at this
 rw[K3]at this
 rw[j0]at this
 rcases T4 a b with q | q | q
 ·have:=this a b (by simpa using ha) (by simpa using hb) q
  simp only[O8]at this
  exact absurd h this
 ·exact q
 ·have:=this b a (by simpa using hb) (by simpa using ha) q
  simp only[O8]at this
  exact absurd h.symm this
def ab0 (ks:List Int):Prop:=∃ i j:Nat,i<24/\j<24/\ks=[(i:Int),(j:Int)]
theorem ar2 {prog:Program}{w:World}{k k':List Int}(h1:ab0 k)(h2:ab0 k')(e:tupleKeyHash (intKind prog w) k=tupleKeyHash (intKind prog w) k'):k=k':=by
 obtain⟨i,j,hi,hj,rfl⟩:=h1
 obtain⟨i',j',hi',hj',rfl⟩:=h2
 have e2:hp (24*i+j)=hp (24*i'+j'):=by
  unfold hp
  rw[show (24*i+j) / 24=i by omega,show (24*i+j) % 24=j by omega,show (24*i'+j') / 24=i' by omega,show (24*i'+j') % 24=j' by omega]
  exact congrArg (fun z=>bits z % 3708) e
 have:=aZ7 (by omega) (by omega) e2
 have h3:i=i':=by omega
 have h4:j=j':=by omega
 rw[h3,h4]
section
variable {prog:Program} {w:World}
def T5 (prog:Program)(w:World)(h:Heap)(k:List Int)(e:En):Prop:=∃ a,e.2=.ref a/\IsTupleKey (intKind prog w) h k a/\e.1=tupleKeyHash (intKind prog w) k
def ab6 (prog:Program)(w:World)(hk h:Heap)(S:Addr)(ks:List (List Int)):Prop:=
 ∃ o es ep t,h.get? S=some o/\o.ExactSet/\o.data=.set es ep t/\Tb t es/\es.size=ks.length/\ks.Nodup/\(∀ k∈ks,ab0 k)/\(∀ k∈ks,∃ e∈es.toList,T5 prog w hk k e)/\∀ e∈es.toList,∃ k∈ks,T5 prog w hk k e
theorem aK3 {h h':Heap}{k:List Int}{a:Addr}(x:IsTupleKey (intKind prog w) h k a)(hs:∀ b o,h.get? b=some o->h'.get? b=some o):IsTupleKey (intKind prog w) h' k a:=by
 obtain⟨o,items,n,h2,h3⟩:=x
 exact⟨o,items,n,hs a o h2,h3⟩
theorem T5.up {h h':Heap}{k:List Int}{e:En}(x:T5 prog w h k e)(hs:∀ b o,h.get? b=some o->h'.get? b=some o):T5 prog w h' k e:=by
 obtain⟨a,h1,h2,h6⟩:=x
 exact⟨a,h1,aK3 h2 hs,h6⟩
theorem T5.inj {h:Heap}{k k':List Int}{e:En}(x:T5 prog w h k e)(y:T5 prog w h k' e):k=k':=by
 obtain⟨a,h1,h2,_⟩:=x
 obtain⟨b,h3,h4,_⟩:=y
 rw[h1]at h3
 cases h3
 exact h2.inj h4
variable {A:Around} {E:Value->Shared->Prop} {s:Shared}
theorem aw6 (x:Addr)(es:Array En):byScan (.ref x) es=false:=by
 unfold byScan Value.scannable
 rfl
theorem Z1 {k:List Int}{x:Addr}{Q:Bool->Shared->Prop}(hx:IsTupleKey (intKind prog w) s.heap k x)(h:Q true s):wpAny (model prog w) A (hashByValue 8 (.ref x)) Q E s:=by
 have hT:=hx.typeIs
 obtain⟨o,items,n,ho,hc,hd,hi⟩:=hx
 unfold hashByValue
 refine wpAny_bind (wpAny_specialOf hT F.slot_tuple_hash.lookup ?_)
 dsimp only
 refine wpAny_bind (wpAny_seqItems ho hd ?_)
 show wpAny _ _ (forIn items _ _ >>= _) _ _ s
 rw[<- aS5]
 have hv:∀ v∈items.toList,∃ i t,v=.int i t:=fun v hv=>by
  clear ho hd
  generalize items.toList=l at hi hv
  induction hi with
  | nil=>cases hv
  | cons h1 _ ih =>
   rcases d7.mp hv with rfl | hv
   ·obtain⟨t,e⟩:=Value.isInt_shape h1
    exact⟨_,t,e⟩
   ·exact ih hv
 refine wpAny_bind (wpAny_forIn_list _ (fun rest r s'=>r.1=none/\s'=s/\∀ v∈rest,∃ i t,v=.int i t) _ ?_ ?_ _ _ ⟨rfl,rfl,hv⟩)
 ·rintro v rest r s' ⟨hr,rfl,hall⟩
  obtain⟨i,t,rfl⟩:=hall v b9
  have e:hashByValue 7 (.int i t)=pure true:=by unfold hashByValue;rfl
  rw[e]
  refine wpAny_bind (wpAny_pure ?_)
  simp only[F5,g9,if_false]
  exact wpAny_pure ⟨rfl,rfl,fun u hu'=>hall u (a7 _ hu')⟩
 ·rintro⟨r1,r2⟩ s' ⟨hr,rfl,_⟩
  simp only at hr
  subst hr
  exact wpAny_pure h
end
section
variable {prog:Program} {w:World} {A:Around} {E:Value->Shared->Prop} {s:Shared}
theorem ag8 {S x:Addr}{o:Obj}{es:Array En}{ep:Nat}{t:SetTable}{h:Int}{Q:SetFound->Shared->Prop}(ho:s.heap.get? S=some o)(hd:o.data=.set es ep t)(T:Tb t es)(hh:∀ e∈es.toList,e.1≠h)
  (hq:∀ n,n<10*turns t.mask->(∀ i:Nat,t.place[i]?≠some (it t n (t.probeStart h)).j)->(it t n (t.probeStart h)).j<=t.mask->(∀ k,k<n->∃ i':Nat,t.place[i']?=some (it t k (t.probeStart h)).j)->Q (.free (it t n (t.probeStart h)).j false) s) :
  wpAny (model prog w) A (setSearch S (.ref x) h true) Q E s:=by
 obtain⟨n,h1,h2,h3,h4,h5⟩:=T.absent hh
 unfold setSearch setSearchFrom
 refine wpAny_bind (wpAny_setState_of ho hd T.fits ?_)
 dsimp only
 rw[T.odd]
 simp only[g9,if_false]
 split
 ·rename_i met hm
  have e:=hm.symm.trans h5
  cases e
  exact wpAny_pure (hq n h1 h2 h3 h4)
 ·rename_i hm
  exact absurd h5 (fun z=>hm _ z)
theorem as4 {k:List Int}{x:Addr}{Q:Bool->Shared->Prop}(hx:IsTupleKey (intKind prog w) s.heap k x)(h:Q false s):wpAny (model prog w) A (ofAClassStatement 8 (.ref x)) Q E s:=by
 have hT:=hx.typeIs
 obtain⟨o,items,n,ho,hc,hd,hi⟩:=hx
 unfold ofAClassStatement
 refine wpAny_bind (wpAny_typeOf hT ?_)
 dsimp only
 rw[if_pos (by decide)]
 refine wpAny_bind (wpAny_pure ?_)
 simp only[F5,g9,if_false]
 refine wpAny_bind (wpAny_seqItems ho hd ?_)
 dsimp only
 rw[<- aS5]
 have hv:∀ v∈items.toList,∃ i t,v=.int i t:=fun v hv=>by
  clear ho hd
  generalize items.toList=l at hi hv
  induction hi with
  | nil=>cases hv
  | cons h1 _ ih =>
   rcases d7.mp hv with rfl | hv
   ·obtain⟨t,e⟩:=Value.isInt_shape h1
    exact⟨_,t,e⟩
   ·exact ih hv
 refine wpAny_bind (wpAny_forIn_list _ (fun rest r s'=>r.1=none/\s'=s/\∀ v∈rest,∃ i t,v=.int i t) _ ?_ ?_ _ _ ⟨rfl,rfl,hv⟩)
 ·rintro v rest r s' ⟨hr,rfl,hall⟩
  obtain⟨i,t,rfl⟩:=hall v b9
  have e:ofAClassStatement 7 (.int i t)=pure false:=by unfold ofAClassStatement;rfl
  rw[e]
  refine wpAny_bind (wpAny_pure ?_)
  simp only[g9,if_false]
  exact wpAny_pure ⟨rfl,rfl,fun u hu'=>hall u (a7 _ hu')⟩
 ·rintro⟨r1,r2⟩ s' ⟨hr,rfl,_⟩
  simp only at hr
  subst hr
  exact wpAny_pure h
theorem aV5 {k:List Int}{x:Addr}{l:List Value}{Q:Bool->Shared->Prop}(hx:IsTupleKey (intKind prog w) s.heap k x)(hl:∀ v∈l,∃ a k',v=.ref a/\IsTupleKey (intKind prog w) s.heap k' a)(h:Q false s) :
  wpAny (model prog w) A (searchCouldBeSeen (.ref x) l) Q E s:=by
 unfold searchCouldBeSeen
 refine wpAny_bind (wpAny_forIn_list _ (fun rest r s'=>r.1=none/\s'=s/\∀ v∈rest,∃ a k',v=.ref a/\IsTupleKey (intKind prog w) s.heap k' a) _ ?_ ?_ _ _ ⟨rfl,rfl,hl⟩)
 ·rintro v rest r s' ⟨hr,rfl,hall⟩
  obtain⟨a,k',rfl,ha⟩:=hall v b9
  have hrest:∀ v∈rest,∃ a k',v=.ref a/\IsTupleKey (intKind prog w) s'.heap k' a:=fun u hu'=>hall u (a7 _ hu')
  dsimp only
  split
  ·exact wpAny_pure ⟨rfl,rfl,hrest⟩
  ·refine wpAny_bind (wpAny_eqIsQuiet_tuple hx ?_)
   simp only[F5,g9,if_false]
   refine wpAny_bind (wpAny_eqIsQuiet_tuple ha ?_)
   simp only[F5,g9,if_false]
   refine wpAny_bind (as4 hx ?_)
   simp only[g9,if_false]
   refine wpAny_bind (as4 ha ?_)
   simp only[g9,if_false]
   exact wpAny_pure ⟨rfl,rfl,hrest⟩
 ·rintro⟨r1,r2⟩ s' ⟨hr,rfl,_⟩
  simp only at hr
  subst hr
  exact wpAny_pure h
theorem ae0 {S x:Addr}{o:Obj}{es:Array En}{ep:Nat}{t:SetTable}{k:List Int}{i:Nat}{e:En}{Q:SetFound->Shared->Prop}(hu:A.units<cLine)(ho:s.heap.get? S=some o)(hd:o.data=.set es ep t)(T:Tb t es)
  (hx:IsTupleKey (intKind prog w) s.heap k x)(he:es[i]?=some e)(hk:T5 prog w s.heap k e)(hall:∀ e∈es.toList,∃ k,T5 prog w s.heap k e)(huq:∀ (c:Nat) (e':En),es[c]?=some e'->e'.1=e.1->c=i)
  (hq:Q (.there none) s):wpAny (model prog w) A (setSearch S (.ref x) (tupleKeyHash (intKind prog w) k) true) Q E s:=by
 obtain⟨y,hy1,hy2,hy3⟩:=hk
 obtain⟨j,q,hp⟩:=T.present he huq
 rw[hy3]at hp
 unfold setSearch setSearchFrom
 refine wpAny_bind (wpAny_setState_of ho hd T.fits ?_)
 dsimp only
 rw[T.odd]
 simp only[g9,if_false]
 have fin:wpAny (model prog w) A (do
   let some (_,y):=es[i]? | unsupported "internal:set-entry"
   let equal <- holding [y] (eqBool y (.ref x))
   let (es',_,t') <- setState S
   if true && equal then return .there none
   let some same:=t'.sameMemory t.moves t.mask | unsupported "set.changed-during-lookup:is-the-new-block-at-the-old-address"
   let still <- match (if same then t'.slot j else .empty) with
    | .live i'=>match es'[i']? with
     | some (_,y')=>do pure (if <- isSame y' y then some i' else none)
     | none=>pure none
    | _=>pure none
   match still with
   | none=>rule "set.search.anew";setSearchFrom S (.ref x) (tupleKeyHash (intKind prog w) k) true 99999 none
   | some i'=>if equal then return .there (some i') else setSearchFrom S (.ref x) (tupleKeyHash (intKind prog w) k) true 99999 (some q)) Q E s:=by
  rw[he]
  obtain⟨e1,e2⟩:=e
  have hy1:e2=.ref y:=hy1
  subst hy1
  dsimp only
  refine wpAny_bind (wpAny_holding (wpAny_eqBool_tuple hu hy2 hx ?_))
  refine wpAny_bind (wpAny_setState_of ho hd T.fits ?_)
  dsimp only
  rw[decide_eq_true rfl]
  simp only[Bool.and_self,if_true]
  exact wpAny_pure hq
 split
 ·rename_i met hm
  have e9:=hm.symm.trans hp
  cases e9
  dsimp only
  cases hled:t.led with
  | true =>
   simp only[F5,g9,if_false]
   exact fin
  | false =>
   simp only[ax1,if_true]
   refine wpAny_bind (aV5 hx (fun v hv=>?_) ?_)
   ·rw[m8]at hv
    obtain⟨e',he',rfl⟩:=hv
    have he'':e'∈es.toList:=by
     have:=Array.mem_filter.mp (L3.mp he')
     exact L3.mpr this.1
    obtain⟨k',a,h1,h2,_⟩:=hall e' he''
    exact⟨a,k',h1,h2⟩
   ·simp only[g9,if_false]
    exact fin
 ·rename_i hm
  exact absurd hp (fun z=>hm _ z)
end
theorem thr {n m:Nat}(g:Good m)(h1:n*5<m*3)(h2:m*3<=(n+1)*5)(h3:n<300):(m=7/\n+1=5)\/(m=31/\n+1=19)\/(m=127/\n+1=77):=by
 rcases g with rfl | rfl | rfl | rfl<;>omega
theorem aw1 {n m:Nat}(g:Good m)(h1:n*5<m*3)(h2:m*3<=(n+1)*5)(h3:n<300):Good (sizeAbove (grown (n+1)) - 1)/\(n+1)*5<(sizeAbove (grown (n+1)) - 1)*3/\sizeAbove (grown (n+1))<=4096:=by
 rcases thr g h1 h2 h3 with⟨_,e⟩ | ⟨_,e⟩ | ⟨_,e⟩<;>rw[e]<;>refine⟨?_,by decide +kernel,by decide +kernel⟩
 ·exact .inr (.inl (by decide +kernel))
 ·exact .inr (.inr (.inl (by decide +kernel)))
 ·exact .inr (.inr (.inr (by decide +kernel)))
theorem aM5 {t:SetTable}{es:Array En}(T:Tb' t es):t.tooFull=decide (t.mask*3<=es.size*5):=by
 unfold tooFull PySem.SetTable.fill
 rw[T.dum,T.len]
 rfl
section
variable {prog:Program} {w:World} {A:Around} {E:Value->Shared->Prop} {s:Shared}
theorem stored {S:Addr}{o:Obj}{es es':Array En}{ep:Nat}{t t':SetTable}{h:Heap}(ho:h.get? S=some o)(hd:o.data=.set es ep t) :
  (h.update S (Obj.putSet es' t')).get? S=some { o with data:=.set es' (ep+1) t' }:=by
 have:=X7 (Obj.putSet es' t') ho (by rw[putSet_of es' t' hd];rfl)
 rw[putSet_of es' t' hd]at this
 exact this
theorem ap2 {S x:Addr}{ks:List (List Int)}{k:List Int}{Q:Bool->Shared->Prop}{hp:Heap}(hup:∀ b o,hp.get? b=some o->s.heap.get? b=some o)(hu:A.units<cLine)(hS:ab6 prog w hp s.heap S ks)(hx0:IsTupleKey (intKind prog w) hp k x)(hk:ab0 k)(hn:ks.length<300)
  (hq:∀ (b:Bool) (h':Heap) (tk:Nat),s.toks<=tk->Heap.SameBut S s.heap h'->ab6 prog w hp h' S (if k∈ks then ks else k::ks)->Q b { s with heap:=h',toks:=tk }) :
  wpAny (model prog w) A (setAdd S (.ref x)) Q E s:=by
 have hx:=aK3 hx0 hup
 unfold setAdd
 refine wpAny_holding (wpAny_bind (wpAny_pyHash_tuple hu hx ?_))
 obtain⟨o,es,ep,t,ho,hex,hd,T,hsz,hnd,hok,hto,hfrom⟩:=hS
 unfold setAddHashed
 refine wpAny_holding ?_
 unfold setAddHashedIn
 refine wpAny_bind (wpAny_setState_of (s:={ s with toks:=s.toks+(k.length+1) }) ho hd T.fits ?_)
 dsimp only
 rw[aw6]
 simp only[g9,if_false]
 by_cases hmem:k∈ks
 ·-- it is there
  obtain⟨e,he,hek⟩:=hto k hmem
  obtain⟨i,hi⟩:=j7.mp he
  rw[a6]at hi
  have huq:∀ (c:Nat) (e':En),es[c]?=some e'->e'.1=e.1->c=i:=fun c e' hc hh=>by
   apply Classical.byContradiction
   intro hci
   have hkey:∀ (c:Nat),c<es.size->∃ kk,kk∈ks/\∃ e,es[c]?=some e/\T5 prog w hp kk e:=fun c hc=>by
    have e:=getElem?_pos es c hc
    obtain⟨kk,h1,h2⟩:=hfrom es[c] (by simp)
    exact⟨kk,h1,_,e,h2⟩
   have e'k:T5 prog w hp k e':=by
    obtain⟨kk,h1,h2⟩:=hfrom e' (a9 (by rw[a6];exact hc))
    have h3:=h2
    obtain⟨_,_,_,h4⟩:=h2
    have h5:=hek
    obtain⟨_,_,_,h6⟩:=h5
    have:kk=k:=ar2 (prog:=prog) (w:=w) (hok kk h1) hk (by rw[<- h4,hh,h6])
    rw[<- this]
    exact h3
   have hch:∀ n,n<ks.length->∃ c,c<es.size/\∃ e,es[c]?=some e/\∃ kk,ks[n]?=some kk/\T5 prog w hp kk e:=fun n hn'=>by
    obtain⟨e,he,hek⟩:=hto ks[n] (u9 hn')
    obtain⟨c,hc⟩:=j7.mp he
    rw[a6]at hc
    exact⟨c,(getElem?_eq_some_iff.mp hc).1,e,hc,ks[n],c5 hn',hek⟩
   have:=al3 (es.size - 1) ks.length (fun n=>if hn':n<ks.length then (let c0:=Classical.choose (hch n hn');let c1:=if c0=c then i else c0;if c1<c then c1 else c1 - 1) else 0) ?_ ?_
   ·have hc':=(getElem?_eq_some_iff.mp hc).1
    omega
   ·intro n hn'
    dsimp only
    rw[dif_pos hn']
    have hp:=Classical.choose_spec (hch n hn')
    generalize Classical.choose (hch n hn')=c0 at hp
    obtain⟨p1,_⟩:=hp
    have hc':=(getElem?_eq_some_iff.mp hc).1
    have hi':=(getElem?_eq_some_iff.mp hi).1
    split<;>split<;>omega
   ·intro n n' hn1 hn2 eqn
    dsimp only at eqn
    rw[dif_pos hn1,dif_pos hn2]at eqn
    have hp:=Classical.choose_spec (hch n hn1)
    have hp':=Classical.choose_spec (hch n' hn2)
    generalize Classical.choose (hch n hn1)=c0 at hp eqn
    generalize Classical.choose (hch n' hn2)=c0' at hp' eqn
    obtain⟨p1,e1,p2,kk,p3,p4⟩:=hp
    obtain⟨p1',e1',p2',kk',p3',p4'⟩:=hp'
    have same:kk=kk':=by
     have r1:T5 prog w hp kk (if c0=c then e else e1):=by
      split
      ·rename_i hcc
       subst hcc
       rw[hc]at p2
       cases p2
       have:=p4.inj e'k
       rw[this]
       exact hek
      ·exact p4
     have r2:T5 prog w hp kk' (if c0'=c then e else e1'):=by
      split
      ·rename_i hcc
       subst hcc
       rw[hc]at p2'
       cases p2'
       have:=p4'.inj e'k
       rw[this]
       exact hek
      ·exact p4'
     have g1:es[if c0=c then i else c0]?=some (if c0=c then e else e1):=by split<;>assumption
     have g2:es[if c0'=c then i else c0']?=some (if c0'=c then e else e1'):=by split<;>assumption
     have ne1:(if c0=c then i else c0)≠c:=by split<;>omega
     have ne2:(if c0'=c then i else c0')≠c:=by split<;>omega
     have eqc:(if c0=c then i else c0)=(if c0'=c then i else c0'):=by
      generalize (if c0=c then i else c0)=u at eqn ne1
      generalize (if c0'=c then i else c0')=v at eqn ne2
      split at eqn<;>split at eqn<;>omega
     rw[eqc,g2]at g1
     rw[<- Option.some.inj g1]at r1
     exact r1.inj r2
    subst same
    obtain⟨q1,q2⟩:=a8.mp p3
    obtain⟨q3,q4⟩:=a8.mp p3'
    rcases T4 n n' with z | z | z
    ·exact absurd (q2.trans q4.symm) (j0.mp hnd n n' q1 q3 z)
    ·exact z
    ·exact absurd (q4.trans q2.symm) (j0.mp hnd n' n q3 q1 z)
  refine wpAny_bind (ae0 (s:={ s with toks:=s.toks+(k.length+1) }) hu ho hd T hx hi (hek.up hup) (fun e he=>?_) huq ?_)
  ·obtain⟨kk,_,h2⟩:=hfrom e he
   exact⟨kk,h2.up hup⟩
  ·refine wpAny_pure ?_
   have:=hq false s.heap (s.toks+(k.length+1)) (V5 _ _) (Heap.SameBut.refl S s.heap)
   rw[if_pos hmem]at this
   exact this ⟨o,es,ep,t,ho,hex,hd,T,hsz,hnd,hok,hto,hfrom⟩
 ·-- it is new
  have hh:∀ e∈es.toList,e.1≠tupleKeyHash (intKind prog w) k:=fun e he z=>by
   obtain⟨kk,h1,h2⟩:=hfrom e he
   obtain⟨_,_,_,h4⟩:=h2
   have:kk=k:=ar2 (prog:=prog) (w:=w) (hok kk h1) hk (by rw[<- h4,z])
   exact hmem (this ▸ h1)
  refine wpAny_bind (ag8 (s:={ s with toks:=s.toks+(k.length+1) }) ho hd T hh fun n hn1 hfr hle hocc=>?_)
  dsimp only
  refine wpAny_bind (wpAny_setState_of (s:={ s with toks:=s.toks+(k.length+1) }) ho hd T.fits ?_)
  dsimp only
  obtain⟨hp1,T1⟩:=T.put (h:=tupleKeyHash (intKind prog w) k) (x:=Value.ref x) hn1 hfr hle hocc
  generalize hpt:t.put (it t n (t.probeStart (tupleKeyHash (intKind prog w) k))).j=tp at hp1 T1 ⊢
  have hled:tp.1.mask=t.mask:=by
   rw[<- hpt]
   unfold SetTable.put
   rfl
  obtain⟨t1,p⟩:=tp
  dsimp only at hp1 T1 hled ⊢
  have hsz1:(insertAt es p (tupleKeyHash (intKind prog w) k,Value.ref x)).size=es.size+1:=W0 hp1
  have fits1:(insertAt es p (tupleKeyHash (intKind prog w) k,Value.ref x)).size<=sizeLine:=by rw[hsz1,hsz,sizeLine_eq];omega
  have made:∀ (h':Heap) (o':Obj) (es':Array En) (ep':Nat) (t':SetTable),Heap.SameBut S s.heap h'->h'.get? S=some o'->o'.ExactSet->o'.data=.set es' ep' t'->Tb t' es' ->
    es'.toList.Perm (insertAt es p (tupleKeyHash (intKind prog w) k,Value.ref x)).toList->ab6 prog w hp h' S (k::ks):=fun h' o' es' ep' t' hsb ho' hex' hd' T' hpm=>by
   have hmemE:∀ e,e∈es'.toList↔e=(tupleKeyHash (intKind prog w) k,Value.ref x)\/e∈es.toList:=fun e=>by rw[hpm.mem_iff];exact aP9 hp1 e
   have hnew:T5 prog w hp k (tupleKeyHash (intKind prog w) k,Value.ref x):=⟨x,rfl,hx0,rfl⟩
   refine⟨o',es',ep',t',ho',hex',hd',T',?_,F1.mpr ⟨hmem,hnd⟩,fun kk hkk=>?_,fun kk hkk=>?_,fun e he=>?_⟩
   ·have:=hpm.length_eq
    rw[d5,d5,hsz1,hsz]at this
    rw[this,d6]
   ·rcases d7.mp hkk with rfl | hkk
    ·exact hk
    ·exact hok kk hkk
   ·rcases d7.mp hkk with rfl | hkk
    ·exact⟨_,(hmemE _).mpr (.inl rfl),hnew⟩
    ·obtain⟨e,he,hek⟩:=hto kk hkk
     exact⟨e,(hmemE e).mpr (.inr he),hek⟩
   ·rcases(hmemE e).mp he with rfl | he
    ·exact⟨k,b9,hnew⟩
    ·obtain⟨kk,h1,h2⟩:=hfrom e he
     exact⟨kk,a7 _ h1,h2⟩
  have rest:∀ b:Bool,wpAny (model prog w) A (do
    storeSet S (insertAt es p (tupleKeyHash (intKind prog w) k,Value.ref x)) (if b=true then t1 else { t1 with plain:=false })
    if (!false && (if b=true then t1 else { t1 with plain:=false }).tooFull)=true then do
     setRelay S (grown (es.size+1))
     pure true
    else pure true) Q E { s with toks:=s.toks+(k.length+1) }:=fun b=>by
   have T2:Tb' (if b=true then t1 else { t1 with plain:=false }) (insertAt es p (tupleKeyHash (intKind prog w) k,Value.ref x)):=by
    split
    ·exact T1
    ·exact T1.plain false
   have hm2:(if b=true then t1 else { t1 with plain:=false }).mask=t.mask:=by split<;>exact hled
   generalize (if b=true then t1 else { t1 with plain:=false })=t2 at T2 hm2
   refine wpAny_bind (wpAny_storeSet_of (s:={ s with toks:=s.toks+(k.length+1) }) ho hd ?_ fits1)
   have ho1:=stored (es':=insertAt es p (tupleKeyHash (intKind prog w) k,Value.ref x)) (t':=t2) ho hd
   have hsb1:=Heap.SameBut.update s.heap S (Obj.putSet (insertAt es p (tupleKeyHash (intKind prog w) k,Value.ref x)) t2)
   rw[aM5 T2]
   simp only[ax1,M8,decide_eq_true_eq]
   by_cases hful:t2.mask*3<=(insertAt es p (tupleKeyHash (intKind prog w) k,Value.ref x)).size*5
   ·rw[if_pos hful]
    rw[hsz1,hm2]at hful
    obtain⟨g1,g2,g3⟩:=aw1 T.good T.nf hful (by rw[hsz];exact hn)
    unfold setRelay
    refine wpAny_bind (wpAny_bind (wpAny_setState_of (s:={ s with heap:=s.heap.update S (Obj.putSet (insertAt es p (tupleKeyHash (intKind prog w) k,Value.ref x)) t2),toks:=s.toks+(k.length+1) }) ho1 rfl T2.fits ?_))
    dsimp only
    rw[if_neg (by rw[sizeLine_eq];omega)]
    obtain⟨t3,order,hl3,T3,hpm3⟩:=aQ6 (M:=sizeAbove (grown (es.size+1)) - 1) (finger:=t2.finger) (moves:=t2.movedTo (sizeAbove (grown (es.size+1)) - 1)) (led:=t2.led) (plain:=t2.plain) (es:=insertAt es p (tupleKeyHash (intKind prog w) k,Value.ref x)) g1 (by rw[hsz1];exact g2)
    have hrel:t2.relaid ((insertAt es p (tupleKeyHash (intKind prog w) k,Value.ref x)).map (·.1)) (grown (es.size+1))=some (t3,order):=by
     unfold relaid
     exact hl3
    rw[hrel]
    have hsz3:(order.filterMap ((insertAt es p (tupleKeyHash (intKind prog w) k,Value.ref x))[·]?)).size=(insertAt es p (tupleKeyHash (intKind prog w) k,Value.ref x)).size:=by
     rw[<- d5,hpm3.length_eq,d5]
    refine wpAny_bind ?_
    show wpAny _ _ (if ((order.filterMap ((insertAt es p (tupleKeyHash (intKind prog w) k,Value.ref x))[·]?)).size != (insertAt es p (tupleKeyHash (intKind prog w) k,Value.ref x)).size)=true then _ else _) _ _ _
    rw[if_neg (by rw[hsz3];simp)]
    first | refine wpAny_pure ?_ | refine wpAny_bind (wpAny_pure (wpAny_pure ?_))
    dsimp only
    refine wpAny_storeSet_of (s:={ s with heap:=s.heap.update S (Obj.putSet (insertAt es p (tupleKeyHash (intKind prog w) k,Value.ref x)) t2),toks:=s.toks+(k.length+1) }) ho1 rfl ?_ (by rw[hsz3];exact fits1)
    refine wpAny_pure ?_
    have ho2:=stored (es':=order.filterMap ((insertAt es p (tupleKeyHash (intKind prog w) k,Value.ref x))[·]?)) (t':=t3) ho1 rfl
    have hsb2:=hsb1.trans (Heap.SameBut.update _ S (Obj.putSet (order.filterMap ((insertAt es p (tupleKeyHash (intKind prog w) k,Value.ref x))[·]?)) t3))
    have:=hq true _ (s.toks+(k.length+1)) (V5 _ _) hsb2
    rw[if_neg hmem]at this
    exact this (made _ _ _ _ _ hsb2 ho2 hex rfl T3 hpm3)
   ·rw[if_neg hful]
    refine wpAny_pure ?_
    have:=hq true _ (s.toks+(k.length+1)) (V5 _ _) hsb1
    rw[if_neg hmem]at this
    exact this (made _ _ _ _ _ hsb1 ho1 hex rfl (T2.full (by omega)) (List.Perm.refl _))
  cases hpl:t1.plain with
  | true =>
   rw[if_pos rfl]
   refine wpAny_bind (Z1 (s:={ s with toks:=s.toks+(k.length+1) }) hx ?_)
   exact rest true
  | false =>
   rw[if_neg b6]
   refine wpAny_bind (wpAny_pure ?_)
   exact rest true
end
def K1 (ks:List (List Int))(k:List Int):List (List Int):=if k∈ks then ks else k::ks
theorem aK4 (ks:List (List Int))(k:List Int):(K1 ks k).length<=ks.length+1:=by unfold K1;split<;>simp
theorem W9:∀ (l ks:List (List Int)),(l.foldl K1 ks).length<=ks.length+l.length
 | [],ks=>by simp
 | k::l,ks=>by
  rw[Y0]
  have h1:=W9 l (K1 ks k)
  have h2:=aK4 ks k
  rw[d6]
  omega
theorem Z3:∀ (l ks:List (List Int)),(l.foldl K1 ks).length=ks.length+l.length↔l.Nodup/\∀ x∈l,x∉ks
 | [],ks=>by simp
 | k::l,ks=>by
  rw[Y0,d6,F1]
  by_cases h:k∈ks
  ·have e:K1 ks k=ks:=by unfold K1;rw[if_pos h]
   rw[e]
   have:=W9 l ks
   constructor
   ·intro q;omega
   ·rintro⟨_,q⟩
    exact absurd h (q k b9)
  ·have e:K1 ks k=k::ks:=by unfold K1;rw[if_neg h]
   rw[e]
   have:=Z3 l (k::ks)
   rw[d6]at this
   constructor
   ·intro q
    obtain⟨q1,q2⟩:=this.mp (by omega)
    refine⟨⟨fun hk=>q2 k hk b9,q1⟩,fun x hx=>?_⟩
    rcases d7.mp hx with rfl | hx
    ·exact h
    ·exact fun z=>q2 x hx (a7 _ z)
   ·rintro⟨⟨q1,q2⟩,q3⟩
    have:=this.mpr ⟨q2,fun x hx z=>by
     rcases d7.mp z with rfl | z
     ·exact q1 hx
     ·exact q3 x (a7 _ hx) z⟩
    omega
section
variable {prog:Program} {w:World}
theorem ao1 {A:Around}{R:Result->Shared->Prop}{I:Addr}{fp wr:List Addr}{G:Array GenState->Array GenState->Prop}{n:Nat}{P:Nat->Value->Prop}{St:Nat->Shared->Prop}
  (W:WalksS prog w A.in1 I fp wr G n P St)(hu:A.in1.units<cLine)(S:Addr)(hSf:S∉fp)(hp:Heap)(hS0:hp.get? S=none)(hw0:∀ b∈wr,hp.get? b=none)(keys:List (List Int))(hn:keys.length=n)(hb:n<300)
  (hkey:∀ i v,P i v->∃ x k,v=.ref x/\keys[i]?=some k/\ab0 k/\IsTupleKey (intKind prog w) hp k x) :
  ∀ (c i:Nat) (s:Shared),n - i=c->i<=n->St i s->(∀ b o,hp.get? b=some o->s.heap.get? b=some o)->ab6 prog w hp s.heap S ((keys.take i).foldl K1 []) ->
   (∀ s',Moved (S::wr) G s s'->ab6 prog w hp s'.heap S (keys.foldl K1 [])->R (.ok (.ret .none)) s') ->
   codeAny (model prog w) A (.builtin "set.update.loop" ⟨[.ref S,.ref I],[]⟩) R s:=by
 have hSw:S∉wr:=fun h=>hSf (W.sub _ h)
 have hsub:∀ b∈wr,b∈S::wr:=fun b hb=>a7 _ hb
 have nw:∀ b o,hp.get? b=some o->b∉wr:=fun b o e hm=>by rw[hw0 b hm]at e;cases e
 have nS:∀ b o,hp.get? b=some o->b≠S:=fun b o e hm=>by rw[hm,hS0]at e;cases e
 have setKept:∀ {s s':Shared} {ks:List (List Int)},ab6 prog w hp s.heap S ks->(∀ b o,b∉wr->s.heap.get? b=some o->s'.heap.get? b=some o)->ab6 prog w hp s'.heap S ks:=fun {s s' ks} hS hk=>by
  obtain⟨o,es,ep,t,ho,rest⟩:=hS
  exact⟨o,es,ep,t,hk S o hSw ho,rest⟩
 intro c
 induction c with
 | zero =>
  intro i s hk hi hst hup hS hR
  have hin:i=n:=by omega
  subst hin
  refine codeAny_builtin PyProof.Rows.F.entry_set_update_loop ?_
  rw[Around.under_plainId PyProof.Rows.F.plain_set_update_loop _]
  show wpAny _ A.in1 (pyNext (.ref I) >>= _) _ _ s
  refine wpAny_bind (W.done s _ _ hst fun s' hm=>?_)
  show wpAny _ A.in1 (ret Value.none) _ _ s'
  refine wpAny_pure (hR s' (hm.mono hsub) ?_)
  have:=setKept hS hm.heap
  rw[i9 (by omega)]at this
  exact this
 | succ c ih =>
  intro i s hk hi hst hup hS hR
  have hlt:i<n:=by omega
  refine codeAny_builtin PyProof.Rows.F.entry_set_update_loop ?_
  rw[Around.under_plainId PyProof.Rows.F.plain_set_update_loop _]
  show wpAny _ A.in1 (pyNext (.ref I) >>= _) _ _ s
  refine wpAny_bind (W.item i s _ _ hlt hst fun v s' hP hst' hm=>?_)
  obtain⟨x,k,rfl,hki,hok,hx⟩:=hkey i v hP
  have hup':∀ b o,hp.get? b=some o->s'.heap.get? b=some o:=fun b o e=>hm.heap b o (nw b o e) (hup b o e)
  have hS':=setKept (s':=s') hS hm.heap
  show wpAny _ A.in1 (holding [Value.ref x] (setAdd S (.ref x)) >>= _) _ _ s'
  refine wpAny_bind (wpAny_holding ?_)
  have hlen:((keys.take i).foldl K1 []).length<300:=by
   have:=W9 (keys.take i) []
   rw[k9]at this
   simp only[N5]at this
   omega
  refine ap2 hup' hu hS' hx hok hlen fun b h' tk htk hsb hS2=>?_
  have hS3:ab6 prog w hp h' S ((keys.take (i+1)).foldl K1 []):=by
   rw[t8,hki,List.foldl_append]
   exact hS2
  refine wpAny_pure ⟨plainId_quiet PyProof.Rows.F.plain_set_update_loop _,ih (i+1) _ (by omega) hlt (W.frame _ s' _ _ hst' htk fun b hb o e=>?_) (fun b o e=>?_) hS3 fun s'' hm'' hS''=>?_⟩
  ·rw[hsb.2 b (fun h:b=S=>hSf (h ▸ hb))];exact e
  ·show h'.get? b=some o
   rw[hsb.2 b (nS b o e)]
   exact hup' b o e
  ·refine hR s'' (Moved.trans W.gtrans ((hm.mono hsub).then_heap htk fun b o hb e=>?_) hm'') hS''
   rw[hsb.2 b (fun h:b=S=>hb (h ▸ b9))];exact e
variable {A:Around} {E:Value->Shared->Prop} {s:Shared}
set_option maxRecDepth 100000 in
set_option maxHeartbeats 3200000 in
theorem ap1 {l:Addr}{items:Array Value}{keys:List (List Int)}{Q:Value->Shared->Prop}(hh:A.handled=none)(hu:A.units+8<cLine)(hl:s.heap.IsList l items)(hn:keys.length=items.size)(hb:items.size<300)
  (hkey:∀ (i:Nat) (v:Value),items[i]?=some v->∃ x k,v=.ref x/\keys[i]?=some k/\ab0 k/\IsTupleKey (intKind prog w) s.heap k x)
  (h:∀ (h':Heap) (tk:Nat),ab6 prog w s.heap h' s.heap.objs.size (keys.foldl K1 [])->(∀ b o,s.heap.get? b=some o->h'.get? b=some o)->Q (.ref s.heap.objs.size) { s with heap:=h',toks:=tk }) :
  wpAny (model prog w) A (call (.type "set") [.ref l]) Q E s:=by
 obtain⟨c,tl,hmro⟩:=F.called_set.mro
 have hmade:=F.called_set.made
 have hsub:=F.called_set.sub
 refine wpAny_call (codeAny_of_tree ?_)
 show wpAny _ _ (callAny (.type "set") _) _ _ _
 refine wpAny_pure ⟨Code.quiet_builtin _ (by decide +kernel),codeAny_builtin F.entry_type_call ?_⟩
 rw[Around.under_plain (weight_type_call_type "set" [.ref l] []) rfl]
 have h1:=F.called_set.notType
 have h2:=F.called_set.canCreate
 have hct:=F.typeCall_set_1 (.ref l)
 repeat (any_goals (first | assumption | wp_step))
 refine codeAny_mono (code_set_new_1 (.ref l) (E:=E) (Q₁:=fun obj s₁=>∃ led:Bool,obj=.ref s.heap.objs.size/\s₁={ s with heap:=s.heap.push { cls:=.type "set",dict:=none,data:=.set #[] 0 (.fresh 0 0 led) } }) fun led=>⟨led,rfl,rfl⟩) fun r s₁ hr=>?_
 cases r with
 | error e=>exact hr
 | ok fl =>
  cases fl with
  | ret obj =>
   obtain⟨led,rfl,rfl⟩:=hr
   have hS:(s.heap.push { cls:=.type "set",dict:=none,data:=.set #[] 0 (.fresh 0 0 led) }).get? s.heap.objs.size=some { cls:=.type "set",dict:=none,data:=.set #[] 0 (.fresh 0 0 led) }:=j3 _ rfl
   have hT:Shared.TypeIs { s with heap:=s.heap.push { cls:=.type "set",dict:=none,data:=.set #[] 0 (.fresh 0 0 led) } } (.ref s.heap.objs.size) "set":=⟨_,hS,rfl⟩
   have hli:=F.called_set.init.lookup
   have hbi:=F.called_set.init.bind (.ref s.heap.objs.size)
   repeat (any_goals (first | assumption | wp_step))
   refine codeAny_mono (codeAny_call_builtin (R:=wants (fun r s₂=>r=.none/\∃ h' tk,s₂={ s with heap:=h',toks:=tk }/\ab6 prog w s.heap h' s.heap.objs.size (keys.foldl K1 [])/\(∀ b o,s.heap.get? b=some o->h'.get? b=some o)) E) F.called_set.init.plain F.entry_set_init (check_set_init_1 hT ?_)) fun r₂ s₂ hr₂=>?_
   ·obtain⟨ol,hol,hcl,nl,hdl⟩:=hl
    obtain⟨ocls,odict,odata,oslots⟩:=ol
    simp only at hcl hdl
    subst hcl;subst hdl
    have hol':(s.heap.push { cls:=.type "set",dict:=none,data:=.set #[] 0 (.fresh 0 0 led) }).get? l=some { cls:=.type "list",dict:=odict,data:=.seq items nl,slots:=oslots }:=a5 _ hol
    have hsls:=F.sub_list_set
    have hslf:=F.sub_list_frozenset
    have hne:(Value.type "list" == Value.type "dict")=false:=by decide
    have hl1:(s.heap.push { cls:=.type "set",dict:=none,data:=.set #[] 0 (.fresh 0 0 led) }).IsList l items:=⟨_,hol',rfl,nl,rfl⟩
    unfold Builtin.«set.__init__» noKeywords Builtin.Frozenset.updateFrom
    generalize hPI:pyIter=PI
    wp_walk
    subst hPI
    refine wpAny_pyIter_list hl1 ?_
    refine wpAny_bind (wpAny_runValue ?_)
    have hlS:l<s.heap.objs.size:=c3 hol
    have hh3:A.in1.in1.in1.handled=none:=by simp[hh]
    have hneI:l≠(s.heap.push { cls:=.type "set",dict:=none,data:=.set #[] 0 (.fresh 0 0 led) }).objs.size:=by
     rw[G3];exact f9 (v7 hlS)
    have hSf:s.heap.objs.size∉[(s.heap.push { cls:=.type "set",dict:=none,data:=.set #[] 0 (.fresh 0 0 led) }).objs.size,l]:=by
     rw[G3];simp only[d7,i7,T8,or_false,not_or]
     exact⟨f9 (Nat.lt_succ_self _),Y2 hlS⟩
    refine ao1 ((Walks.list hh3 _ l hneI items).toS) ?hu s.heap.objs.size hSf s.heap ?hn ?hw keys hn hb hkey (items.size - 0) 0 _ (by omega) (j4 _)
     ⟨⟨_,j3 _ rfl,rfl,rfl⟩,(hl1.push _)⟩ (fun b o e=>a5 _ (a5 _ e)) ?hS0 ?hR
    case hu=>show A.units+1+1+1<cLine;omega
    case hn=>exact aa0 (b4 _)
    case hw =>
     intro b hb
     have e:b=(s.heap.push { cls:=.type "set",dict:=none,data:=.set #[] 0 (.fresh 0 0 led) }).objs.size:=by simpa using hb
     rw[e]
     exact aa0 (by rw[G3];exact ad4 _)
    case hS0 =>
     have hget:((s.heap.push { cls:=.type "set",dict:=none,data:=.set #[] 0 (.fresh 0 0 led) }).push { cls:=.type "list_iterator",data:=.fields #[.ref l,.int 0 0] }).get? s.heap.objs.size
       = some { cls:=.type "set",dict:=none,data:=.set #[] 0 (.fresh 0 0 led) }:=a5 _ hS
     refine⟨_,_,_,_,hget,⟨rfl,rfl,rfl⟩,rfl,⟨rfl,rfl,?_,?_,.inl rfl,by show 0*5<7*3;decide,?_⟩,rfl,List.nodup_nil,(fun _ h=>nomatch h),(fun _ h=>nomatch h),(fun _ h=>nomatch h)⟩
     ·intro i j a b hij ea
      simp[SetTable.fresh]at ea
     ·intro i j ea
      simp[SetTable.fresh]at ea
     ·intro i e ea
      simp at ea
    case hR =>
     intro s' hm hS'
     obtain⟨h',g',d',tk',os'⟩:=s'
     have eg:g'=s.gens:=hm.gens
     have ed:d'=s.drawn:=hm.drawn
     have eo:os'=s.os:=hm.os
     subst eg;subst ed;subst eo
     show wpAny _ _ _ _ _ _
     refine wpAny_pure ?_
     show wpAny _ _ (ret Value.none) _ _ _
     refine wpAny_pure ⟨rfl,h',tk',rfl,hS',fun b o e=>?_⟩
     have hlt:=c3 e
     have hb1:b≠s.heap.objs.size:=f9 hlt
     have hb2:b≠(s.heap.push { cls:=.type "set",dict:=none,data:=.set #[] 0 (.fresh 0 0 led) }).objs.size:=by
      rw[G3];exact f9 (v7 hlt)
     exact hm.heap b o (by simp only[d7,i7,T8,or_false,not_or];exact⟨hb1,hb2⟩) (a5 _ (a5 _ e))
   ·cases r₂ with
    | error e=>exact hr₂
    | ok fl₂ =>
     cases fl₂ with
     | ret r =>
      obtain⟨rfl,h',tk,rfl,hS',hk'⟩:=hr₂
      repeat (any_goals (first | assumption | wp_step))
      exact h _ _ hS' hk'
     | _=>exact hr₂.elim
  | _=>exact hr.elim
theorem av8 {S:Addr}{hp:Heap}{ks:List (List Int)}{Q:Value->Shared->Prop}(hS:ab6 prog w hp s.heap S ks)(hn:ks.length<300)(h:∀ t tk,Q (.int ks.length t) { s with toks:=tk }) :
  wpAny (model prog w) A (call (.builtin "len") [.ref S]) Q E s:=by
 obtain⟨o,es,ep,t,ho,hex,hd,T,hsz,_⟩:=hS
 refine call_len_set ho hex hd T.fits (by omega) ?_
 rw[hsz]
 exact h _ _
end
end Sett
namespace L2
open PySem PySem.Spec PyProof.Rows
def t5 (K:W.Frag)(H:Hp)(ys:List V)(ks:List (List Int)):Prop:=Paired (fun y k=>∃ a,y=V.ref a/\SqT K H a (k.map V.int)) ys ks
theorem t5.len {K:W.Frag}{H:Hp}{ys:List V}{ks:List (List Int)}(t:t5 K H ys ks):ys.length=ks.length:=Paired.length t
theorem t5.get {K:W.Frag}{H:Hp}:∀ {ys:List V} {ks:List (List Int)} {i:Nat} {y:V},t5 K H ys ks->ys[i]?=some y->∃ a k,y=V.ref a/\ks[i]?=some k/\SqT K H a (k.map V.int)
 | _,_,_,_,.nil,e=>by simp at e
 | _,_,0,_,.cons r _,e=>by
  simp at e
  subst e
  obtain⟨a,h1,h2⟩:=r
  exact⟨a,_,h1,rfl,h2⟩
 | _,_,i+1,y,.cons _ t,e=>by
  obtain⟨a,k,h1,h2,h3⟩:=t5.get (i:=i) (y:=y) t (by simpa using e)
  exact⟨a,k,h1,by simpa using h2,h3⟩
theorem t5.same {K:W.Frag}{H H':Hp}(hs:∀ b o,H b=some o->H' b=some o):∀ {ys:List V} {ks:List (List Int)},t5 K H ys ks->t5 K H' ys ks
 | _,_,.nil=>.nil
 | _,_,.cons r t=>by
  obtain⟨a,h1,h2⟩:=r
  refine .cons ⟨a,h1,?_⟩ (t5.same hs t)
  rcases h2 with(h | ⟨o,h⟩) | h
  ·exact .inl (.inl (hs _ _ h))
  ·exact .inl (.inr ⟨o,hs _ _ h⟩)
  ·exact .inr h
theorem t5.append {K:W.Frag}{H:Hp}:∀ {ys zs:List V} {ks ls:List (List Int)},t5 K H ys ks->t5 K H zs ls->t5 K H (ys++zs) (ks++ls)
 | _,_,_,_,.nil,s=>s
 | _,_,_,_,.cons r t,s=>.cons r (t5.append t s)
section
variable {X:Cx} {pins:List (Addr × Obj)} {σ:St} {H:Hp} {s:Shared}
theorem ar0 {prog:Program}{w:World}:∀ {k:List Int} {its:List Value},o6 (k.map V.int) its->ItemsAre (intKind prog w) k its
 | [],_,.nil=>.nil
 | i::k,_,.cons r t=>by
  obtain⟨tk,rfl⟩:=r
  exact .cons (by simp[intKind,Value.isInt]) (ar0 t)
theorem aM4 (I:Inv X pins σ H s){a:Addr}{k:List Int}(h:SqT X.K H a (k.map V.int)):IsTupleKey (intKind X.prog X.w) s.heap k a:=by
 obtain⟨its,r,⟨o,ho,hc,n,hd⟩,_⟩:=I.tuple h
 exact⟨o,its.toArray,n,ho,hc,hd,by simpa using ar0 r⟩
theorem S0 (I:Inv X pins σ H s):∀ {ys:List V} {ks:List (List Int)} {us:List Value},t5 X.K H ys ks->o6 ys us->Paired (fun u k=>∃ a,u=Value.ref a/\IsTupleKey (intKind X.prog X.w) s.heap k a) us ks
 | _,_,_,.nil,.nil=>.nil
 | _,_,_,.cons r t,.cons q v=>by
  obtain⟨a,rfl,h⟩:=r
  cases q
  exact .cons ⟨a,rfl,aM4 I h⟩ (S0 I t v)
theorem U8 {α β:Type}{R:α->β->Prop}:∀ {l:List α} {m:List β} {i:Nat} {x:α},Paired R l m->l[i]?=some x->∃ y,m[i]?=some y/\R x y
 | _,_,_,_,.nil,e=>by simp at e
 | _,_,0,_,.cons r _,e=>by simp at e;subst e;exact⟨_,rfl,r⟩
 | _,_,i+1,x,.cons _ t,e=>by
  obtain⟨y,h1,h2⟩:=U8 (i:=i) (x:=x) t (by simpa using e)
  exact⟨y,by simpa using h1,h2⟩
theorem aa6 {α β:Type}{R:α->β->Prop}{l l':List α}(p:l'.Perm l):∀ {m:List β},Paired R l m->∃ m',m'.Perm m/\Paired R l' m':=by
 induction p with
 | nil=>intro m h;exact⟨m,List.Perm.refl _,h⟩
 | cons x _ ih =>
  intro m h
  cases h with
  | cons r t =>
   obtain⟨m',p',h'⟩:=ih t
   exact⟨_::m',p'.cons _,.cons r h'⟩
 | swap x y l =>
  intro m h
  cases h with
  | cons r t =>
   cases t with
   | cons r' t'=>exact⟨_::_::_,List.Perm.swap _ _ _,.cons r' (.cons r t')⟩
 | trans _ _ ih1 ih2 =>
  intro m h
  obtain⟨m1,p1,h1⟩:=ih2 h
  obtain⟨m2,p2,h2⟩:=ih1 h1
  exact⟨m2,p2.trans p1,h2⟩
theorem Q7 {α β:Type}{R:α->β->Prop}:∀ {l:List α} {m:List β},Paired R l m->Paired (fun b a=>R a b) m l
 | _,_,.nil=>.nil
 | _,_,.cons r t=>.cons r (Q7 t)
end
section
variable {X:Cx}
theorem as6:G0 X (.builtin "sorted") (fun xs H Q=>∃ p ys ks,xs=[.ref p]/\SqL X.K H p ys/\t5 X.K H ys ks/\(∀ k∈ks,k≠[]) /\
  ∀ l zs ks',H l=none->ks'.Perm ks->ks'.Pairwise (fun a b=>Tim.B3 b a=false)->t5 X.K (upd H l (.lst zs)) zs ks'->Q (.ref l) (upd H l (.lst zs))):=by
 intro pins s σ H xs us Q I r h
 obtain⟨p,ys,ks,rfl,hq,ht,hne,q⟩:=h
 obtain⟨u,rfl,rx⟩:=vals1 r
 cases rx
 obtain⟨its,r',pl,hz⟩:=I.list hq
 have hlen:=r'.length
 have hk:=S0 I ht r'
 have hv:∀ v∈its,∃ i k,Tim.IsK X.prog X.w s.heap (i::k) v:=fun v hv=>by
  obtain⟨j,hj⟩:=j7.mp hv
  obtain⟨k,h1,a,rfl,h2⟩:=U8 hk hj
  cases k with
  | nil=>exact absurd rfl (hne [] (a9 h1))
  | cons i k=>exact⟨i,k,a,rfl,h2⟩
 refine Tim.ag6 pl.isList (by omega) hv fun out h' n hp hs kp e=>?_
 obtain⟨zs,pz,rz⟩:=aa6 hp (Q7 r')
 have rz':o6 zs out:=Q7 rz
 have hzl:zs.length<=sizeLine:=by rw[pz.length_eq];exact hz
 have hfr:H (s.heap.objs.size+1)=none:=I.hok.fresh (ad4 _)
 have keepS:∀ b o,H b=some o->upd H (s.heap.objs.size+1) (.lst zs) b=some o:=fun b o e=>by rw[q8 (r6 e hfr)];exact e
 refine⟨.ref (s.heap.objs.size+1),upd H (s.heap.objs.size+1) (.lst zs),I.laid (t':=s.toks) kp (ad4 _) (show C8 X.prog X.w _ h' _ (.lst zs) from ⟨hzl,out,n,rz',e⟩),rfl,?_⟩
 obtain⟨ks',pk,hk'⟩:=aa6 pz (show Paired (fun y k=>∃ a,y=V.ref a/\SqT X.K H a (k.map V.int)) ys ks from ht)
 refine q _ zs ks' hfr pk ?_ (t5.same keepS hk')
 have hko:=S0 I (show t5 X.K H zs ks' from hk') rz'
 have eq:ks'=out.map (Tim.N1 X.prog X.w s.heap):=by
  clear hs hp rz rz' hk' pk e
  induction hko with
  | nil=>rfl
  | cons r t ih =>
   obtain⟨a,rfl,hka⟩:=r
   rw[j8,Tim.R0 ⟨a,rfl,hka⟩,<- ih]
 rw[eq,K3]
 exact hs
def aF1 (P:Program)(w:World)(S:Addr)(n:Nat):HO:=.ext fun h=>∃ hk ks,ks.length=n/\n<300/\Sett.ab6 P w hk h S ks
theorem aL1 (hc:X.calm=true)(hu:X.A.units+8<cLine):G0 X (.type "set") (fun xs H Q=>∃ p ys ks,xs=[.ref p]/\SqL X.K H p ys/\t5 X.K H ys ks/\(∀ k∈ks,Sett.ab0 k)/\ks.length<300 /\
  ∀ S,H S=none->Q (.ref S) (upd H S (aF1 X.prog X.w S (ks.foldl Sett.K1 []).length))):=by
 intro pins s σ H xs us Q I r h
 obtain⟨p,ys,ks,rfl,hq,ht,hok,hb,q⟩:=h
 obtain⟨u,rfl,rx⟩:=vals1 r
 cases rx
 obtain⟨its,r',pl,hz⟩:=I.list hq
 have hlen:=r'.length
 have hk:=S0 I ht r'
 have hkl:=ht.len
 refine Sett.ap1 (keys:=ks) (I.ok.hd hc) hu pl.isList (by simp;omega) (by simp;omega) (fun i v hv=>?_) fun h' tk hS kp=>?_
 ·obtain⟨k,h1,a,rfl,h2⟩:=U8 hk (by simpa using hv)
  exact⟨a,k,rfl,h1,hok k (a9 h1),h2⟩
 ·have hle:=Sett.W9 ks []
  simp only[N5]at hle
  refine⟨.ref s.heap.objs.size,_,I.laid (o:=aF1 X.prog X.w s.heap.objs.size (ks.foldl Sett.K1 []).length) (t':=tk) kp (b4 _) ?_,rfl,q _ (I.hok.fresh (b4 _))⟩
  refine⟨⟨s.heap,ks.foldl Sett.K1 [],rfl,by omega,hS⟩,?_,fun h1 h2 ⟨hk1,ks1,e1,e2,hS1⟩ hkeep=>⟨hk1,ks1,e1,e2,?_⟩⟩
  ·obtain⟨o,_,_,_,ho,_⟩:=hS
   exact⟨o,ho⟩
  ·obtain⟨o,es,ep,t,ho,rest⟩:=hS1
   exact⟨o,es,ep,t,hkeep o ho,rest⟩
theorem call_len_set:G0 X (.builtin "len") (fun xs H Q=>∃ S n,xs=[.ref S]/\H S=some (aF1 X.prog X.w S n)/\Q (.int n) H):=by
 intro pins s σ H xs us Q I r h
 obtain⟨S,n,rfl,hS,q⟩:=h
 obtain⟨u,rfl,rx⟩:=vals1 r
 cases rx
 obtain⟨⟨hk,ks,e1,e2,hS1⟩,_⟩:=I.hok S _ hS
 refine Sett.av8 hS1 (by omega) fun t tk=>?_
 exact⟨.int n,H,I.tok _,⟨t,by rw[e1]⟩,q⟩
end
def n5 (X:Cx)(scope:Scope)(cl:List (Str × Addr))(N':List Str)(s₃:Shared)(H₃:Hp)(fp:List Addr)(xe':Value->Shared->Prop):Cx:=
 { X with N:=N',s₀:=s₃,H₀:=H₃,env:=compEnvC scope cl s₃.heap.objs.size X.env,outer:=X.stack,ex:=fp,fn:=fun _=>false,pn:=[],xe:=xe' }
def an0 (env:Env):List (Str × Addr)->Prop
 | []=>True
 | (x,c)::r=>env.cells.lookup x=some c/\an0 env r
theorem an0.get {env:Env}:∀ {cl:List (Str × Addr)} {x:Str} {c:Addr},an0 env cl->cl.lookup x=some c->env.cells.lookup x=some c
 | [],_,_,_,h=>by cases h
 | (y,d)::r,x,c,⟨h1,h2⟩,h=>by
  rw[bc2]at h
  cases e:x == y with
  | true =>
   rw[e]at h
   cases h
   rw[eq_of_beq e]
   exact h1
  | false =>
   rw[e]at h
   exact an0.get h2 h
def am7 (names:List (Str × NameKind))(cl:List (Str × Addr)):Bool:=names.all fun y=>y.2 != .cell && (y.2 != .free || (cl.lookup y.1).isSome)
theorem K9 {env:Env}:∀ {names:List (Str × NameKind)} {x:Str} {k:NameKind},(names.map fun(n,k)=>if (k == NameKind.free && env.scope.kind == .function && env.kindOf n == some .cell) then (n,NameKind.cell) else (n,k)).lookup x=some k ->
  ∃ k',(x,k')∈names/\(k'=k\/(k'=.free/\k=.cell))
 | [],_,_,h=>by cases h
 | (n,k0)::r,x,k,h=>by
  rw[j8]at h
  have hn:∀ k1,(List.lookup x ((n,k1)::r.map fun(n,k)=>if (k == NameKind.free && env.scope.kind == .function && env.kindOf n == some .cell) then (n,NameKind.cell) else (n,k)))=some k->(x=n/\k1=k)\/∃ k',(x,k')∈r/\(k'=k\/(k'=.free/\k=.cell)):=fun k1 h=>by
   rw[bc2]at h
   cases e:x == n with
   | true=>rw[e]at h;cases h;exact .inl ⟨eq_of_beq e,rfl⟩
   | false=>rw[e]at h;exact .inr (K9 h)
  dsimp only at h
  by_cases hc:(k0 == NameKind.free && env.scope.kind == .function && env.kindOf n == some .cell)=true
  ·rw[if_pos hc]at h
   rcases hn _ h with⟨rfl,rfl⟩ | ⟨k',h1,h2⟩
   ·simp only[d9]at hc
    have e0:k0=.free:=eq_of_beq hc.1.1
    exact⟨k0,b9,.inr ⟨e0,rfl⟩⟩
   ·exact⟨k',a7 _ h1,h2⟩
  ·rw[if_neg hc]at h
   rcases hn _ h with⟨rfl,rfl⟩ | ⟨k',h1,h2⟩
   ·exact⟨k0,b9,.inl rfl⟩
   ·exact⟨k',a7 _ h1,h2⟩
def ab5 (lk:List (Option Nat))(σ:St):St:=lk.map fun o=>o.bind fun j=>(σ[j]?).join
def aF2 (X:Cx)(N':List Str)(lk:List (Option Nat))(scope:Scope)(cl:List (Str × Addr)):Prop:=
 lk.length=N'.length/\∀ (i j:Nat) (x:Str),N'[i]?=some x->lk[i]?=some (some j)->X.N[j]?=some x/\(X.env.scope.names.lookup x=some .cell\/X.env.scope.names.lookup x=some .free)/\(cl.lookup x).isSome=true /\
  ((compEnvC scope cl 0 X.env).kindOf x=some .cell\/(compEnvC scope cl 0 X.env).kindOf x=some .free)
section
variable {X:Cx}
theorem V1 {pins:List (Addr × Obj)}{σ:St}{H3:Hp}{s3:Shared}{h1:Heap}{tk:Nat}{scope:Scope}{cl:List (Str × Addr)}{N':List Str}{lk:List (Option Nat)}{fp:List Addr}{xe':Value->Shared->Prop}{m0:Str->Option Value}
  (I:Inv X pins σ H3 s3)(hf:∀ b∈fp,P1 X pins H3 b)(hkind:scope.kind=.function)(hcl:an0 X.env cl)(hfr:am7 scope.names cl=true)(hlk:aF2 X N' lk scope cl)
  (hn:h1.Ns s3.heap.objs.size m0)(hk:∀ b u,s3.heap.get? b=some u->h1.get? b=some u)(hfs:∀ b∈fp,b<s3.heap.objs.size):Inv (n5 X scope cl N' s3 H3 fp xe') [] (ab5 lk σ) H3 { s3 with heap:=h1,toks:=tk }:=by
 have hC:H3 s3.heap.objs.size=none:=I.hok.fresh (b4 _)
 have hmem:∀ y∈scope.names,y.2≠.cell/\(y.2=.free->(cl.lookup y.1).isSome=true):=fun y hy=>by
  unfold am7 at hfr
  rw[o3]at hfr
  have:=hfr y hy
  rw[d9]at this
  refine⟨by simpa using this.1,fun e=>?_⟩
  have h2:=this.2
  rw[e]at h2
  simpa using h2
 have hcell:∀ x c,cl.lookup x=some c->X.env.cells.lookup x=some c:=fun x c e=>hcl.get e
 have clt:∀ x c,cl.lookup x=some c->c<s3.heap.objs.size:=fun x c e=>by
  obtain⟨v,q⟩:=I.cell x c (hcell x c e)
  exact q.lt
 refine⟨⟨I.ok.mod,hkind,I.ok.glob,I.ok.blt,b4 _,fun x y c e1 e2=>I.ok.inj x y c (hcell x c e1) (hcell y c e2),fun x hx=>?_,(fun x c e=>by cases e),I.ok.hd,I.ok.frames,.inl rfl,fun b hb=>?_,fun b o e=>I.bs b o e,o7 I.ok.bsz I.sz,fun b o e hb=>?_,fun b hb z=>?_,I.stack,I.stkFree⟩,
  rfl,I.bare,Un.kept hk,⟨m0,hn,fun i x v e1 e2 e3=>?_⟩,fun x c e=>?_,hC,fun x c e=>?_,(fun p hp=>nomatch hp),I.hok.kept hk,?_⟩
 ·have hx':(relabel scope X.env).names.lookup x=some .cell\/(relabel scope X.env).names.lookup x=some .free:=hx
  have:∃ k',(x,k')∈scope.names/\k'=.free:=by
   rcases hx' with h | h
   ·obtain⟨k',h1,h2⟩:=K9 h
    rcases h2 with h2 | h2
    ·exact absurd h2 (hmem _ h1).1
    ·exact⟨k',h1,h2.1⟩
   ·obtain⟨k',h1,h2⟩:=K9 h
    rcases h2 with h2 | h2
    ·exact⟨k',h1,h2⟩
    ·exact⟨k',h1,h2.1⟩
  obtain⟨k',h1,h2⟩:=this
  exact C5.mp ((hmem _ h1).2 h2)
 ·obtain⟨f0,f1,f2,f3,f4,f5⟩:=hf b hb
  exact⟨f9 (hfs b hb),fun x c e=>f4 x c (hcell x c e)⟩
 ·obtain⟨f0,f1,f2,f3,f4,f5⟩:=hf b hb
  rcases f3 with f3 | f3
  ·exact I.ok.noex b o e f3
  ·exact absurd (j6 (c3 e) (o7 I.ok.bsz f3)) (p6 _)
 ·obtain⟨f0,f1,f2,f3,f4,f5⟩:=hf b hb
  rcases d7.mp (I.stkSub b z) with e | e
  ·exact f1 e
  ·exact f2 e
 ·-- a captured name
  have e2':(ab5 lk σ)[i]?=some (some v):=e2
  unfold ab5 at e2'
  rw[l9]at e2'
  cases hq:lk[i]? with
  | none=>rw[hq]at e2';cases e2'
  | some o =>
   rw[hq]at e2'
   have e2'':(o.bind fun j=>(σ[j]?).join)=some v:=Option.some.inj e2'
   cases o with
   | none=>cases e2''
   | some j =>
    obtain⟨q1,q2,q3,q4⟩:=hlk.2 i j x e1 hq
    have hσ:σ[j]?=some (some v):=by
     have z:(σ[j]?).join=some v:=e2''
     cases hh:σ[j]? with
     | none=>rw[hh]at z;cases z
     | some o=>rw[hh]at z;rw[show o=some v from z]
    obtain⟨m,hnX,hl⟩:=I.loc
    obtain⟨u,r,lo⟩:=hl j x v q1 hσ (q2.elim (fun a=>.inr (.inl a)) (fun a=>.inr (.inr a)))
    refine⟨u,r,.inr ?_⟩
    obtain⟨c,hc⟩:=C5.mp q3
    refine⟨q4,c,hc,?_⟩
    have hcX:=hcell x c hc
    rcases lo with⟨k,_⟩ | ⟨_,c',hc',z⟩
    ·have k':X.env.scope.names.lookup x=some .local:=k
     rw[k']at q2
     rcases q2 with q2 | q2<;>cases q2
    ·rw[hcX]at hc'
     cases hc'
     obtain⟨o,ho,hd⟩:=z
     exact⟨o,hk c o ho,hd⟩
 ·obtain⟨v,o,ho,hd⟩:=I.cell x c (hcell x c e)
  exact⟨v,o,hk c o ho,hd⟩
 ·exact I.freeC x c (hcell x c e)
 ·show (ab5 lk σ).length=N'.length
  unfold ab5
  rw[b5]
  exact hlk.1
def PTs (X:Cx)(ifs:List Expr)(t:TT):Prop:=
 ∀ (pins:List (Addr × Obj)) (s:Shared) (σ:St) (H:Hp) (Q:Bool->Hp->Prop),Inv X pins σ H s->t σ H Q->wpAny (model X.prog X.w) X.A (forIn ifs true fun c r=>if r=true then do let ok <- isTrue c X.env (eval c X.env);pure (ForInStep.yield ok) else pure (ForInStep.yield r)) (TP X pins σ Q) X.xe s
def aS8:TT:=fun _ H Q=>Q true H
theorem W3:PTs X [] aS8:=fun pins s σ H Q I h=>wpAny_tests_nil ⟨H,I,h⟩
theorem ay8 {c:Expr}{t:TT}(h:PT X c t):PTs X [c] t:=fun pins s σ H Q I q=>wpAny_tests_one (h pins s σ H Q I q)
def ax9 (wi:TI)(lk:List (Option Nat))(g:TG)(tt:TT)(te:TE):TE:=fun σ H Q=>wi σ H fun J H1=>∀ D,H1 D=none->∃ W:Nat->Nat->List V->St->Hp->Prop,(∃ m,W 0 m [] (ab5 lk σ) (upd H1 D (.lst [])))/\∀ i m xs σ' H',W i m xs σ' H' ->
 H' D=some (.lst xs)/\((J.stop i H'/\Q (.ref D) H')\/(J.go i H'/\xs.length<sizeLine/\∀ x H'',J.yld i H' x H''->g x σ' H'' fun σ2 H2=>tt σ2 H2 fun b H3 =>
  if b=true then te σ2 H3 fun v H4=>H4 D=some (.lst xs)/\∃ m',m'<m/\W (i+1) m' (xs++[v]) σ2 (upd H4 D (.lst (xs++[v]))) else ∃ m',m'<m/\W (i+1) m' xs σ2 H3))
theorem ac2 {elt iter tg:Expr}{ifs:List Expr}{scope:Scope}{pos:Pos}{cl:List (Str × Addr)}{N':List Str}{lk:List (Option Nat)}{wi:TI}{g:TG}{tt:TT}{te:TE}(hc:X.calm=true)(hi:PI X tg iter wi)(hclos:closureFor scope X.env=pure cl)(hkind:scope.kind=.function)
  (hnames:∀ y∈scope.names,y.2=.local->scope.names.lookup y.1=some .local)(hcl:an0 X.env cl)(hfr:am7 scope.names cl=true)(hlk:aF2 X N' lk scope cl)
  (hg:∀ s3 H3 fp,PG (n5 X scope cl N' s3 H3 fp fun _ _=>False) tg g)(ht:∀ s3 H3 fp,PTs (n5 X scope cl N' s3 H3 fp fun _ _=>False) ifs tt)(he:∀ s3 H3 fp,PE (n5 X scope cl N' s3 H3 fp fun _ _=>False) elt te)
  (hs:∀ x,foldedSetIterable iter X.env x=pure x:=by intro _;rfl):PE X (.ListComp elt [⟨tg,iter,ifs,0⟩] scope pos) (ax9 wi lk g tt te):=by
 intro pins s σ H Q I h
 rw[eval_ListComp]
 have hcellN:∀ y∈scope.names,y.2≠.cell:=fun y hy=>by
  unfold am7 at hfr
  rw[o3]at hfr
  have:=hfr y hy
  rw[d9]at this
  simpa using this.1
 refine wpAny_comprehension_free (use:=none) rfl hs hclos hkind hnames (thn (hi pins s σ H _ I h) fun v s1 h1=>thn h1 fun itv s2 h2=>?_)
 obtain⟨it,fp,tn,J,H2,e,I2,T,st2,f2,q⟩:=h2
 subst e
 refine wpAny_newList ?_ (j4 _)
 have hD:H2 s2.heap.objs.size=none:=I2.hok.fresh (b4 _)
 have I3:=I2.lnew (ys:=[]) (its:=[]) (t':=s2.toks) .nil (j4 _)
 obtain⟨W,⟨m0,w0⟩,turn⟩:=q s2.heap.objs.size hD
 have fpl:∀ b∈fp,b<s2.heap.objs.size:=fun b hb=>by
  obtain⟨o,ho,_⟩:=T.obj 0 s2.heap st2 b hb
  exact c3 ho
 refine wpAny_newFunctionEnv hcellN (by intro y hy;cases hy) (fun h1 hns1 hsb1=>?_) hkind
 dsimp only at hns1 hsb1 ⊢
 have e3:s2.heap.push { cls:=.type "list",dict:=none,data:=.seq ([]:List Value).toArray }=s2.heap.push { cls:=.type "list",data:=.seq ([]:List Value).toArray }:=rfl
 generalize hh3:s2.heap.push { cls:=.type "list",dict:=none,data:=.seq ([]:List Value).toArray }=h3 at *
 have I3':Inv X pins σ (upd H2 s2.heap.objs.size (.lst [])) { s2 with heap:=h3,toks:=s2.toks }:=I3
 have size3:h3.objs.size=s2.heap.objs.size+1:=by rw[<- hh3,G3]
 have f3:∀ b∈fp,P1 X pins (upd H2 s2.heap.objs.size (.lst [])) b:=fun b hb=>by
  obtain⟨f0,fr⟩:=f2 b hb
  exact⟨by rw[q8 (f9 (fpl b hb))];exact f0,fr⟩
 have up:∀ b u,h3.get? b=some u->h1.get? b=some u:=fun b u eb=>by
  rw[hsb1.2 b (f9 (c3 eb))]
  exact a5 _ eb
 have I4:Inv (n5 X scope cl N' { s2 with heap:=h3,toks:=s2.toks } (upd H2 s2.heap.objs.size (.lst [])) fp fun _ _=>False) [] (ab5 lk σ) (upd H2 s2.heap.objs.size (.lst [])) { s2 with heap:=h1,toks:=s2.toks+([]:List (Str × Value)).length }:=
  V1 (s3:={ s2 with heap:=h3,toks:=s2.toks }) I3' f3 hkind hcl hfr hlk hns1 up fun b hb=>by show b<h3.objs.size;rw[size3];exact v7 (fpl b hb)
 have st4:tn 0 h1:=T.keep 0 s2.heap h1 st2 fun b hb o eb=>up b o (by rw[<- hh3];exact a5 _ eb)
 have hCs:h3.objs.size=(compEnvC scope cl h3.objs.size X.env).locals:=rfl
 have stat:∀ {H':Hp},(∀ b∈fp,H' b=none)->∀ b∈fp,P1 (n5 X scope cl N' { s2 with heap:=h3,toks:=s2.toks } (upd H2 s2.heap.objs.size (.lst [])) fp fun _ _=>False) [] H' b:=fun {H'} hn b hb=>by
  obtain⟨f0,f1,f2',f3',f4,f5⟩:=f3 b hb
  refine⟨hn b hb,?_,fun z=>?_,.inl hb,fun x c ex=>f4 x c (hcl.get ex),fun p hp=>nomatch hp⟩
  ·show b≠h3.objs.size
   rw[size3]
   exact f9 (v7 (fpl b hb))
  ·rcases d7.mp (I3'.stkSub b z) with q | q
   ·exact f1 q
   ·exact f2' q
 have fin:∀ (s':Shared) (σ':St) (H':Hp),Inv (n5 X scope cl N' { s2 with heap:=h3,toks:=s2.toks } (upd H2 s2.heap.objs.size (.lst [])) fp fun _ _=>False) [] σ' H' s'->Q (.ref s2.heap.objs.size) H' ->
   compPost (model X.prog X.w) X.A X.xe none (EP X pins σ Q) (.ref s2.heap.objs.size) h3.objs.size (.ok .next) s':=fun s' σ' H' I' q'=>by
  obtain⟨m,hm,_⟩:=id I'.loc
  have I5:Inv X pins σ H' s':=I3'.call' (ch:=fp) I'.os I'.base I'.hok I'.bare fun b hb=>by
   obtain⟨f0,f1,f2',f3',f4,f5⟩:=f3 b hb
   exact⟨f3',f1,f4,f5⟩
  refine⟨m,hm,fun h' hsb=>?_⟩
  refine⟨.ref s2.heap.objs.size,H',?_,rfl,q'⟩
  have hfc:H' h3.objs.size=none:=I'.free
  have hcl1:∀ b o,h3.get? b=some o->b≠h3.objs.size:=fun b o eb=>f9 (c3 eb)
  obtain⟨h0',g0,d0,t0,o0⟩:=s'
  refine I5.turned (t':=t0) (it:=h3.objs.size) (fun b o hb eb=>(hsb.2 b hb).trans eb) hfc ?_ (.inr I3'.sz) (fun x c ex z=>?_) (fun p hp z=>?_)
  ·exact Y2 I3'.lt
  ·obtain⟨v',q2⟩:=I3'.cell x c ex
   exact absurd q2.lt (by rw[z];exact p6 _)
  ·exact absurd (c3 (I3'.pin p hp).1) (by rw[z];exact p6 _)
 have loop:∀ s5:Shared,s5={ s2 with heap:=h1,toks:=s2.toks+([]:List (Str × Value)).length } ->
   codeAny (model X.prog X.w) X.A (.compLoop (.ListComp elt [⟨tg,iter,ifs,0⟩] scope pos) 0 (.ref it) (.ref s2.heap.objs.size) (compEnvC scope cl h3.objs.size X.env)) (compPost (model X.prog X.w) X.A X.xe none (EP X pins σ Q) (.ref s2.heap.objs.size) h3.objs.size) s5:=by
  rintro s5 rfl
  refine codeAny_loop rfl (fun n s'=>∃ i xs σ' H',Inv (n5 X scope cl N' { s2 with heap:=h3,toks:=s2.toks } (upd H2 s2.heap.objs.size (.lst [])) fp fun _ _=>False) [] σ' H' s'/\tn i s'.heap/\(∀ b∈fp,H' b=none)/\W i n xs σ' H')
   (fun n s6 hI=>?_) m0 ⟨0,[],ab5 lk σ,_,I4,st4,fun b hb=>(f3 b hb).1,w0⟩
  obtain⟨i,xs,σ6,H6,I6,st6,fr6,w6⟩:=hI
  show wpAny _ X.A ((compTurn (.ListComp elt [⟨tg,iter,ifs,0⟩] scope pos) 0 (.ref it) (.ref s2.heap.objs.size) (compEnvC scope cl h3.objs.size X.env)).onRaise (fun x=>do noteFrame x (compEnvC scope cl h3.objs.size X.env);theTreesLotGoes x)) _ _ s6
  refine wpAny_noted ?_
  rw[compTurn_list]
  refine wpAny_bind (wpAny_standAt (wpAny_bind ?_))
  obtain⟨hD6,hw⟩:=turn i n xs σ6 H6 w6
  rcases hw with⟨stop,qn⟩ | ⟨go,hlen,step⟩
  ·refine thn (T.done (n5 X scope cl N' { s2 with heap:=h3,toks:=s2.toks } (upd H2 s2.heap.objs.size (.lst [])) fp fun _ _=>False) rfl rfl rfl hc i [] s6 σ6 H6 _ I6 (stat fr6) st6 stop) fun r s7 ⟨hr,I7⟩=>?_
   subst hr
   exact wpAny_pure (fin s7 σ6 H6 I7 qn)
  ·refine thn (T.item (n5 X scope cl N' { s2 with heap:=h3,toks:=s2.toks } (upd H2 s2.heap.objs.size (.lst [])) fp fun _ _=>False) rfl rfl rfl hc i [] s6 σ6 H6 _ I6 (stat fr6) st6 go) fun r s7 ⟨u,hr,h7⟩=>?_
   subst hr
   refine wpAny_bind (thn h7 fun _ s8 ⟨x,H8,I8,r8,y8,st8,fr8⟩=>?_)
   have I8':=I8.pinned (stat fr8) (T.obj _ _ st8)
   refine wpAny_bind (wpAny_mono (hg _ _ _ _ s8 σ6 H8 x u _ I8' r8 (step x H8 y8)) (fun _ s9 ⟨σ9,H9,I9,q9⟩=>?_) (fun _ _ z=>False.elim z))
   refine wpAny_bind (wpAny_mono (ht _ _ _ _ s9 σ9 H9 _ I9 q9) (fun ok s10 ⟨H10,I10,q10⟩=>?_) (fun _ _ z=>False.elim z))
   have again:∀ {σ':St} {H':Hp} {ys:List V} {s':Shared},Inv (n5 X scope cl N' { s2 with heap:=h3,toks:=s2.toks } (upd H2 s2.heap.objs.size (.lst [])) fp fun _ _=>False) ([]++U7 fp s8.heap) σ' H' s'->(∃ m',m'<n/\W (i+1) m' ys σ' H') ->
     ∃ m',m'<n/\∃ i xs σ' H',Inv (n5 X scope cl N' { s2 with heap:=h3,toks:=s2.toks } (upd H2 s2.heap.objs.size (.lst [])) fp fun _ _=>False) [] σ' H' s'/\tn i s'.heap/\(∀ b∈fp,H' b=none)/\W i m' xs σ' H':=fun {σ' H' ys s'} I' ⟨m',hm,w'⟩=>by
    refine⟨m',hm,i+1,ys,σ',H',I'.unpinned,T.keep _ _ _ st8 fun b hb o eb=>(I'.pin (b,o) (c7 _ (c7 _ (E2 hb eb)))).1,fun b hb=>?_,w'⟩
    obtain⟨o,eb,_⟩:=T.obj _ _ st8 b hb
    exact(I'.pin (b,o) (c7 _ (c7 _ (E2 hb eb)))).2.1
   cases ok with
   | false =>
    have q10':∃ m',m'<n/\W (i+1) m' xs σ9 H10:=by simpa using q10
    exact wpAny_pure ⟨rfl,again I10 q10'⟩
   | true =>
    rw[if_pos rfl]at q10
    refine wpAny_bind (wpAny_bind (wpAny_mono (he _ _ _ _ s10 σ9 H10 _ I10 q10) (fun y s11 ⟨v11,H11,I11,r11,hD11,q11⟩=>?_) (fun _ _ z=>False.elim z)))
    refine wpAny_bind (wpAny_mono (G7 (X:=n5 X scope cl N' { s2 with heap:=h3,toks:=s2.toks } (upd H2 s2.heap.objs.size (.lst [])) fp fun _ _=>False) _ s11 σ9 H11 (.ref s2.heap.objs.size) [v11] (.ref s2.heap.objs.size) [y] (fun _ H'=>∃ m',m'<n/\W (i+1) m' (xs++[v11]) σ9 H') I11 rfl (.cons r11 .nil) ⟨s2.heap.objs.size,xs,v11,rfl,rfl,hD11,hlen,q11⟩) (fun _ s12 ⟨_,H12,I12,_,q12⟩=>?_) (fun _ _ z=>False.elim z))
    exact wpAny_pure (wpAny_pure ⟨rfl,again I12 q12⟩)
 exact codeAny_compStart_list (loop _ rfl) (T.self X.A 0 _ _ _ st4 (loop _ rfl))
end
section
variable {X:Cx}
end
theorem Z5 {K:W.Frag}{a D:Addr}{ys:List V}{g:TG}{tt:TT}{te:TE}{Qd:Hp->Prop}{σ0:St}{H0:Hp}(Pv:Nat->List V->St->Hp->Prop)(h0:Pv 0 [] σ0 H0)(hz:ys.length<=sizeLine)(hl:∀ i xs σ H,i<=ys.length->Pv i xs σ H->SqL K H a ys/\H D=some (.lst xs)/\xs.length<=i)
  (hs:∀ i xs x σ H (N:List V->St->Hp->Prop),(∀ xs' σ' H',Pv (i+1) xs' σ' H'->N xs' σ' H')->ys[i]?=some x->Pv i xs σ H->g x σ H fun σ2 H2=>tt σ2 H2 fun b H3=>if b=true then te σ2 H3 fun v H4=>H4 D=some (.lst xs)/\N (xs++[v]) σ2 (upd H4 D (.lst (xs++[v]))) else N xs σ2 H3)
  (hd:∀ xs σ H,Pv ys.length xs σ H->Qd H) :
  ∃ W:Nat->Nat->List V->St->Hp->Prop,(∃ m,W 0 m [] σ0 H0)/\∀ i m xs σ' H',W i m xs σ' H'->H' D=some (.lst xs)/\(((Itl K a).stop i H'/\Qd H')\/((Itl K a).go i H'/\xs.length<sizeLine/\∀ x H'',(Itl K a).yld i H' x H''->g x σ' H'' fun σ2 H2=>tt σ2 H2 fun b H3 =>
   if b=true then te σ2 H3 fun v H4=>H4 D=some (.lst xs)/\∃ m',m'<m/\W (i+1) m' (xs++[v]) σ2 (upd H4 D (.lst (xs++[v]))) else ∃ m',m'<m/\W (i+1) m' xs σ2 H3)):=by
 refine⟨fun i m xs σ H=>m=ys.length - i/\i<=ys.length/\Pv i xs σ H,⟨ys.length,by simp,j4 _,h0⟩,?_⟩
 rintro i m xs σ H ⟨rfl,hi,p⟩
 obtain⟨q,hD,hx⟩:=hl i xs σ H hi p
 refine⟨hD,?_⟩
 by_cases hlt:i<ys.length
 ·refine .inr ⟨⟨ys,ys[i],q,by simp[hlt]⟩,by omega,fun x H'' y=>?_⟩
  obtain⟨e,y⟩:=y
  subst e
  exact hs i xs x σ _ (fun zs σ' H'=>∃ m',m'<ys.length - i/\m'=ys.length - (i+1)/\i+1<=ys.length/\Pv (i+1) zs σ' H') (fun zs σ' H' r=>⟨_,by omega,rfl,hlt,r⟩) (y ys q) p
 ·have e:i=ys.length:=by omega
  subst e
  exact .inl ⟨⟨ys,q,b4 _⟩,hd xs σ H p⟩
theorem as2 {K:W.Frag}{a D:Addr}{ys:List V}{g:TG}{tt:TT}{te:TE}{Qd:Hp->Prop}{σ0:St}{H0:Hp}(Pv:Nat->List V->St->Hp->Prop)(h0:Pv 0 [] σ0 H0)(hz:ys.length<=sizeLine)(hl:∀ i xs σ H,i<=ys.length->Pv i xs σ H->SqT K H a ys/\H D=some (.lst xs)/\xs.length<=i)
  (hs:∀ i xs x σ H (N:List V->St->Hp->Prop),(∀ xs' σ' H',Pv (i+1) xs' σ' H'->N xs' σ' H')->ys[i]?=some x->Pv i xs σ H->g x σ H fun σ2 H2=>tt σ2 H2 fun b H3=>if b=true then te σ2 H3 fun v H4=>H4 D=some (.lst xs)/\N (xs++[v]) σ2 (upd H4 D (.lst (xs++[v]))) else N xs σ2 H3)
  (hd:∀ xs σ H,Pv ys.length xs σ H->Qd H) :
  ∃ W:Nat->Nat->List V->St->Hp->Prop,(∃ m,W 0 m [] σ0 H0)/\∀ i m xs σ' H',W i m xs σ' H'->H' D=some (.lst xs)/\(((Itt K a).stop i H'/\Qd H')\/((Itt K a).go i H'/\xs.length<sizeLine/\∀ x H'',(Itt K a).yld i H' x H''->g x σ' H'' fun σ2 H2=>tt σ2 H2 fun b H3 =>
   if b=true then te σ2 H3 fun v H4=>H4 D=some (.lst xs)/\∃ m',m'<m/\W (i+1) m' (xs++[v]) σ2 (upd H4 D (.lst (xs++[v]))) else ∃ m',m'<m/\W (i+1) m' xs σ2 H3)):=by
 refine⟨fun i m xs σ H=>m=ys.length - i/\i<=ys.length/\Pv i xs σ H,⟨ys.length,by simp,j4 _,h0⟩,?_⟩
 rintro i m xs σ H ⟨rfl,hi,p⟩
 obtain⟨q,hD,hx⟩:=hl i xs σ H hi p
 refine⟨hD,?_⟩
 by_cases hlt:i<ys.length
 ·refine .inr ⟨⟨ys,ys[i],q,by simp[hlt]⟩,by omega,fun x H'' y=>?_⟩
  obtain⟨e,y⟩:=y
  subst e
  exact hs i xs x σ _ (fun zs σ' H'=>∃ m',m'<ys.length - i/\m'=ys.length - (i+1)/\i+1<=ys.length/\Pv (i+1) zs σ' H') (fun zs σ' H' r=>⟨_,by omega,rfl,hlt,r⟩) (y ys q) p
 ·have e:i=ys.length:=by omega
  subst e
  exact .inl ⟨⟨ys,q,b4 _⟩,hd xs σ H p⟩
mutual
def Dt (K:W.Frag)(H:Hp):PyData->V->Prop
 | .none,v=>v=.non
 | .bool b,v=>v=.bl b
 | .int i,v=>v=.int i
 | .str x,v=>v=.str x
 | .list ds,v=>∃ a xs,v=.ref a/\SqL K H a xs/\o8 K H ds xs
 | .tuple ds,v=>∃ a xs,v=.ref a/\SqT K H a xs/\o8 K H ds xs
 | .dict _,_=>False
def o8 (K:W.Frag)(H:Hp):List PyData->List V->Prop
 | [],xs=>xs=[]
 | d::ds,xs=>∃ y ys,xs=y::ys/\Dt K H d y/\o8 K H ds ys
end
section
variable {X:Cx} {pins:List (Addr × Obj)} {σ:St} {H:Hp} {s:Shared}
mutual
theorem Dt.reads (I:Inv X pins σ H s):∀ (d:PyData) (v:V) (u:Value),Dt X.K H d v->RelV v u->∃ as,Reads s.heap u d as
 | .none,v,u,h,r=>by unfold Dt at h;subst h;cases r;exact⟨_,.none⟩
 | .bool b,v,u,h,r=>by unfold Dt at h;subst h;cases r;exact⟨_,.bool b⟩
 | .int i,v,u,h,r=>by unfold Dt at h;subst h;obtain⟨t,rfl⟩:=r;exact⟨_,.int i t⟩
 | .str x,v,u,h,r=>by unfold Dt at h;subst h;obtain⟨t,rfl⟩:=r;exact⟨_,.str x t⟩
 | .list ds,v,u,h,r=>by
  unfold Dt at h
  obtain⟨a,xs,rfl,hq,hd⟩:=h
  cases r
  obtain⟨its,rv,⟨o,n,ho,hc,_,hdd⟩,_⟩:=I.list hq
  obtain⟨as,ra⟩:=o8.reads I ds xs its hd rv
  exact⟨_,.list ho hc hdd (by simpa using ra)⟩
 | .tuple ds,v,u,h,r=>by
  unfold Dt at h
  obtain⟨a,xs,rfl,hq,hd⟩:=h
  cases r
  obtain⟨its,rv,⟨o,ho,hc,n,hdd⟩,_⟩:=I.tuple hq
  obtain⟨as,ra⟩:=o8.reads I ds xs its hd rv
  exact⟨_,.tuple ho hc hdd (by simpa using ra)⟩
 | .dict _,v,u,h,r=>by unfold Dt at h;exact h.elim
theorem o8.reads (I:Inv X pins σ H s):∀ (ds:List PyData) (xs:List V) (us:List Value),o8 X.K H ds xs->o6 xs us->∃ as,ReadsAll s.heap us ds as
 | [],xs,us,h,r=>by unfold o8 at h;subst h;cases r;exact⟨_,.nil⟩
 | d::ds,xs,us,h,r=>by
  unfold o8 at h
  obtain⟨y,ys,rfl,h1,h2⟩:=h
  cases r with
  | cons q t =>
   obtain⟨as,ra⟩:=Dt.reads I d y _ h1 q
   obtain⟨bs,rb⟩:=o8.reads I ds ys _ h2 t
   exact⟨_,.cons ra rb⟩
end
end
mutual
theorem Dt.same {K:W.Frag}{H H':Hp}(hs:∀ b o,H b=some o->H' b=some o):∀ (d:PyData) (v:V),Dt K H d v->Dt K H' d v
 | .none,v,h=>by unfold Dt at h ⊢;exact h
 | .bool b,v,h=>by unfold Dt at h ⊢;exact h
 | .int i,v,h=>by unfold Dt at h ⊢;exact h
 | .str x,v,h=>by unfold Dt at h ⊢;exact h
 | .list ds,v,h=>by
  unfold Dt at h ⊢
  obtain⟨a,xs,rfl,hq,hd⟩:=h
  refine⟨a,xs,rfl,?_,o8.same hs ds xs hd⟩
  rcases hq with(h | ⟨o,h⟩) | h
  ·exact .inl (.inl (hs _ _ h))
  ·exact .inl (.inr ⟨o,hs _ _ h⟩)
  ·exact .inr h
 | .tuple ds,v,h=>by
  unfold Dt at h ⊢
  obtain⟨a,xs,rfl,hq,hd⟩:=h
  refine⟨a,xs,rfl,?_,o8.same hs ds xs hd⟩
  rcases hq with(h | ⟨o,h⟩) | h
  ·exact .inl (.inl (hs _ _ h))
  ·exact .inl (.inr ⟨o,hs _ _ h⟩)
  ·exact .inr h
 | .dict _,v,h=>by unfold Dt at h;exact h.elim
theorem o8.same {K:W.Frag}{H H':Hp}(hs:∀ b o,H b=some o->H' b=some o):∀ (ds:List PyData) (xs:List V),o8 K H ds xs->o8 K H' ds xs
 | [],xs,h=>by unfold o8 at h ⊢;exact h
 | d::ds,xs,h=>by
  unfold o8 at h ⊢
  obtain⟨y,ys,rfl,h1,h2⟩:=h
  exact⟨y,ys,rfl,Dt.same hs d y h1,o8.same hs ds ys h2⟩
end
def dP (k:List Int):PyData:=.tuple (k.map .int)
theorem o8.ints {K:W.Frag}{H:Hp}:∀ (k:List Int),o8 K H (k.map PyData.int) (k.map V.int)
 | []=>by unfold o8;rfl
 | i::k=>by
  rw[j8,j8]
  unfold o8
  exact⟨_,_,rfl,by unfold Dt;rfl,o8.ints k⟩
theorem o8.tups {K:W.Frag}{H:Hp}:∀ {ys:List V} {ks:List (List Int)},t5 K H ys ks->o8 K H (ks.map dP) ys
 | _,_,.nil=>by unfold o8;rfl
 | _,_,.cons r t=>by
  obtain⟨a,rfl,h⟩:=r
  rw[j8]
  unfold o8
  refine⟨_,_,rfl,?_,o8.tups t⟩
  unfold dP Dt
  exact⟨a,_,rfl,h,o8.ints _⟩
theorem lay_ints:∀ k:List Int,PyData.canLayAll0 (k.map .int)=true
 | []=>by simp[PyData.canLayAll0]
 | i::k=>by rw[j8];simp[PyData.canLayAll0,PyData.canLay0,lay_ints k]
theorem ai6:∀ ks:List (List Int),PyData.canLayAll0 (ks.map dP)=true
 | []=>by simp[PyData.canLayAll0]
 | k::ks=>by rw[j8];simp[PyData.canLayAll0,PyData.canLay0,dP,lay_ints k,ai6 ks]
theorem ar8:∀ k k':List Int,PyData.eqvAll (k.map .int) (k'.map .int)=decide (k=k')
 | [],[]=>by simp[PyData.eqvAll]
 | [],_::_=>by simp[PyData.eqvAll]
 | _::_,[]=>by simp[PyData.eqvAll]
 | i::k,j::k'=>by
  rw[j8,j8]
  simp only[PyData.eqvAll,PyData.eqv,ar8 k k']
  by_cases h:i=j
  ·subst h;simp
  ·simp[h]
theorem aj0:∀ ks ks':List (List Int),PyData.eqvAll (ks.map dP) (ks'.map dP)=decide (ks=ks')
 | [],[]=>by simp[PyData.eqvAll]
 | [],_::_=>by simp[PyData.eqvAll]
 | _::_,[]=>by simp[PyData.eqvAll]
 | k::ks,k'::ks'=>by
  rw[j8,j8]
  simp only[PyData.eqvAll,PyData.eqv,dP,ar8 k k']
  rw[aj0 ks ks']
  by_cases h:k=k'
  ·subst h;simp
  ·simp[h]
theorem ar9:∀ k:List Int,PyData.depthAll (k.map .int)<=1
 | []=>by simp[PyData.depthAll]
 | i::k=>by
  have:=ar9 k
  rw[j8]
  simp only[PyData.depthAll,PyData.depth]
  omega
theorem aj1:∀ ks:List (List Int),PyData.depthAll (ks.map dP)<=2
 | []=>by simp[PyData.depthAll]
 | k::ks=>by
  have h1:=ar9 k
  have h2:=aj1 ks
  rw[j8]
  simp only[PyData.depthAll,PyData.depth,dP]at h2 ⊢
  omega
section
variable {X:Cx}
def aX1 (K:W.Frag)(A:Around)(neg:Bool):R2:=fun x y H Q=>∃ dx dy,Dt K H dx x/\Dt K H dy y/\dx.canLay0=true/\dy.canLay0=true/\A.units+min dx.depth dy.depth<cLine/\Q (.bl (if neg then !PyData.eqv dx dy else PyData.eqv dx dy)) H
theorem aX7:OpR X (compareOp .Eq) (aX1 X.K X.A false):=by
 intro pins s σ H x y v u Q I rx ry h
 obtain⟨dx,dy,h1,h2,h3,h4,h5,q⟩:=h
 obtain⟨as,ra⟩:=h1.reads I dx x v rx
 obtain⟨bs,rb⟩:=h2.reads I dy y u ry
 exact SeqAt.compareEq_reads ra rb h3 h4 h5 ⟨.bl _,H,I,rfl,q⟩
theorem aX4:OpR X (compareOp .NotEq) (aX1 X.K X.A true):=by
 intro pins s σ H x y v u Q I rx ry h
 obtain⟨dx,dy,h1,h2,h3,h4,h5,q⟩:=h
 obtain⟨as,ra⟩:=h1.reads I dx x v rx
 obtain⟨bs,rb⟩:=h2.reads I dy y u ry
 exact SeqAt.compareNe_reads ra rb h3 h4 h5 ⟨.bl _,H,I,rfl,q⟩
def bf0 (K:W.Frag)(A:Around)(neg:Bool):R2:=fun x y H Q=>∃ p xs dx ds,y=.ref p/\(SqL K H p xs\/SqT K H p xs)/\Dt K H dx x/\o8 K H ds xs/\dx.canLay0=true/\PyData.canLayAll0 ds=true/\A.units+1+dx.depth<cLine /\
 Q (.bl (if neg then !ds.any (fun d=>PyData.eqv d dx) else ds.any (fun d=>PyData.eqv d dx))) H
open Classical in
noncomputable def aE2 (h:Heap)(dx:PyData)(v:Value):Bool:=if q:∃ d as,d.canLay0=true/\Reads h v d as then PyData.eqv (Classical.choose q) dx else false
theorem aA0 {h:Heap}{dx d:PyData}{v:Value}{as:List Addr}(hl:d.canLay0=true)(r:Reads h v d as):aE2 h dx v=PyData.eqv d dx:=by
 unfold aE2
 have q:∃ d as,d.canLay0=true/\Reads h v d as:=⟨d,as,hl,r⟩
 rw[dif_pos q]
 obtain⟨as',h1,h2⟩:=Classical.choose_spec q
 rw[SeqAt.Reads.unique _ _ _ _ _ h1 h2 r]
theorem aw7 {h:Heap}{dx:PyData}:∀ {ds:List PyData} {us:List Value} {as:List Addr},PyData.canLayAll0 ds=true->ReadsAll h us ds as->us.any (aE2 h dx)=ds.any (fun d=>PyData.eqv d dx)
 | _,_,_,_,.nil=>rfl
 | d::ds,u::us,_,hl,.cons r t=>by
  have hl':d.canLay0=true/\PyData.canLayAll0 ds=true:=by simpa [PyData.canLayAll0] using hl
  rw[ag3,ag3,aA0 hl'.1 r,aw7 hl'.2 t]
theorem ai3 {h:Heap}:∀ {ds:List PyData} {us:List Value} {as:List Addr} {u:Value},PyData.canLayAll0 ds=true->ReadsAll h us ds as->u∈us->∃ d as,d.canLay0=true/\Reads h u d as
 | _,_,_,_,_,.nil,hu=>by cases hu
 | d::ds,_::us,_,u,hl,.cons r t,hu=>by
  have hl':d.canLay0=true/\PyData.canLayAll0 ds=true:=by simpa [PyData.canLayAll0] using hl
  rcases d7.mp hu with rfl | hu
  ·exact⟨d,_,hl'.1,r⟩
  ·exact ai3 hl'.2 t hu
theorem aX6:OpR X (compareOp .In) (bf0 X.K X.A false):=by
 intro pins s σ H x y v u Q I rx ry h
 obtain⟨p,xs,dx,ds,rfl,hq,h1,h2,h3,h4,h5,q⟩:=h
 cases ry
 obtain⟨bs,rb⟩:=h1.reads I dx x v rx
 have he:∀ (its:List Value) (as:List Addr),ReadsAll s.heap its ds as->∀ y,y∈its.toArray->SeqAt.EqAt X.A.in1 s y v (aE2 s.heap dx y):=fun its as ra y hy=>by
  obtain⟨d,cs,hl,rd⟩:=ai3 h4 ra (by simpa using hy)
  rw[aA0 hl rd]
  refine SeqAt.eqAt_reads d dx X.A.in1 s y v cs bs rd rb hl h3 ?_
  show X.A.units+1+min d.depth dx.depth<cLine
  omega
 rcases hq with hq | hq
 ·obtain⟨its,rv,pl,hz⟩:=I.list hq
  obtain⟨as,ra⟩:=h2.reads I ds xs its rv
  refine SeqAt.in_listAt (aE2 s.heap dx) pl.isList (he its as ra) ⟨.bl _,H,I,rfl,?_⟩
  rw[bc3,aw7 h4 ra]
  exact q
 ·obtain⟨its,rv,pl,hz⟩:=I.tuple hq
  obtain⟨as,ra⟩:=h2.reads I ds xs its rv
  refine SeqAt.in_tupleAt (aE2 s.heap dx) pl (he its as ra) ⟨.bl _,H,I,rfl,?_⟩
  rw[bc3,aw7 h4 ra]
  exact q
theorem aa9:G0 X (.builtin "isinstance") (fun xs H Q=>∃ x c t b,xs=[x,.ty c]/\V2 X.K H x t/\PySem.W.kitOne X.K t (.type c)=some b/\Q (.bl b) H):=by
 intro pins s σ H xs us Q I r h
 obtain⟨x,c,t,b,rfl,ty,e,q⟩:=h
 obtain⟨u,v,rfl,ru,rv⟩:=r.two
 cases (show v=Value.type c from rv)
 exact aD6 I ru ty e fun tk=>⟨.bl b,H,I.tok _,rfl,q⟩
end
end L2
namespace L2
open PySem PySem.Spec PyProof.Rows
theorem C8.there {P:Program}{w:World}{H:Hp}{h:Heap}{a:Addr}{o:HO}(x:C8 P w H h a o):∃ ob,h.get? a=some ob:=by
 cases o with
 | lst xs=>obtain⟨_,_,_,_,e⟩:=x;exact⟨_,e⟩
 | tup xs=>obtain⟨_,_,_,ob,e,_⟩:=x;exact⟨_,e⟩
 | dK kvs=>obtain⟨_,_,_,_,o,_,_,e,_⟩:=x;exact⟨_,e⟩
 | dT kvs=>obtain⟨_,_,_,_,o,_,_,e,_⟩:=x;exact⟨_,e⟩
 | set S n=>obtain⟨o,_,_,_,e,_⟩:=x;exact⟨_,e⟩
 | ins C dx fs=>obtain⟨_,_,_,e,_⟩:=x;exact⟨_,e⟩
 | own y=>obtain⟨ob,e⟩:=x;exact⟨ob,e⟩
 | xd fs=>obtain⟨_,⟨_,_,_,e,_⟩,_⟩:=x;exact⟨_,e⟩
 | rng lo hi=>obtain⟨_,_,_,e⟩:=x;exact⟨_,e⟩
 | frz ob u=>obtain⟨e,_⟩:=x;exact⟨_,e⟩
 | tbl ps=>exact⟨_,(show h.get? a=some _ from x)⟩
 | met f y=>exact⟨_,(show h.get? a=some _ from x)⟩
 | ext φ=>obtain⟨_,⟨ob,e⟩,_⟩:=x;exact⟨ob,e⟩
theorem HOk.stays {P:Program} {w:World} {H:Hp} {h h':Heap} (ok:HOk P w H h) (k:∀ b o,h.get? b=some o->H b≠none->h'.get? b=some o):HOk P w H h':=fun a o e =>
 (ok a o e).stay (fun b u hb q => k b u q (by
  rcases hb with z | z
  ·rw[z,e];simp
  ·rw[z];simp)) (fun _ q=>q) fun _ _ q=>q
def bh3 (outer:List Env)(x:Addr)(cls:Value)(h0:Heap)(H':Hp)(h':Heap):Prop:=
 ∃ (B:Heap) (a0:Value),Heap.FlyingW B outer x cls a0 h'/\∀ b o,h'.get? b=some o->(H' b≠none\/h0.get? b≠none)->b∉frs outer->B.get? b=some o
def CXE (P:Program)(w:World):CXT:=fun outer H s E e s' =>
 ∃ (x:Addr) (cls:Value) (H':Hp),e=.ref x/\s'.os=s.os/\AllBare s'.gens/\Un (frs outer) [] H H' s.heap s'.heap/\HOk P w H' s'.heap/\s.heap.get? x=none/\H' x=none/\bh3 outer x cls s.heap H' s'.heap/\E cls none H'
theorem Un.onto {fs:List Addr}{H H':Hp}{h h' h'':Heap}(u:Un fs [] H H' h h')(stay:∀ b o,h'.get? b=some o->h.get? b≠none->b∉fs->h''.get? b=some o)
  (slots:∀ b o,h'.get? b=some o->h.get? b≠none->b∈fs->∃ sl,h''.get? b=some { o with slots:=sl }):Un fs [] H H' h h'' where
 keep:=fun b o e n hb hx=>stay b o (u.keep b o e n hb hx) (by rw[e];simp) hb
 slot:=fun b o e n hb hx=>by
  obtain⟨sl,e1⟩:=u.slot b o e n hb hx
  obtain⟨sl2,e2⟩:=slots b _ e1 (by rw[e];simp) hb
  exact⟨sl2,e2⟩
 free:=u.free
 there:=fun b o e hx=>by
  obtain⟨o',e1⟩:=u.there b o e hx
  by_cases hb:b∈fs
  ·obtain⟨sl,e2⟩:=slots b o' e1 (by rw[e];simp) hb
   exact⟨_,e2⟩
  ·exact⟨o',stay b o' e1 (by rw[e];simp) hb⟩
 tups:=u.tups
 frzs:=u.frzs
 tbls:=u.tbls
theorem B0 {α:Type}{o:Option α}(h:o≠none):∃ x,o=some x:=by
 cases o with
 | none=>exact absurd rfl h
 | some x=>exact⟨x,rfl⟩
theorem af8 {env:Env}{outer:List Env}{L:Addr}(h:env.frame=some L):frs (env::outer)=L::frs outer:=by
 unfold frs
 rw[D5,h]
section
variable {P:Program} {w:World} {K:W.Frag} {mg:Str->Option Value} {base:Heap} {N:List Str} {qual:Str} {scope:Scope} {f:Addr} {cd:Value} {A:Around} {outer:List Env} {s:Shared} {H:Hp} {E:XK}
 {pins:List (Addr × Obj)} {σ:St} {H1:Hp} {s1:Shared}
theorem aM2 {e:Addr}{cls:Value}{vs:List Value}{h2:Heap}(I:Inv (O3 (CXE P w) P w K mg base N qual scope f cd A outer s H E) pins σ H1 s1)(hx:Heap.MadeExcOf s1.heap h2 e cls vs)(hE:E cls none H1) :
  (O3 (CXE P w) P w K mg base N qual scope f cd A outer s H E).xe (.ref e) { s1 with heap:=h2 }:=by
 have hst:=I.stack
 have hfr:=I.ok.frames
 have hlt:=I.lt
 have hL:=I.free
 have hab:=I.ok.above
 have hbs:Un (frs outer) [] H H1 s.heap s1.heap:=I.base
 change s1.heap.FunFrames base (envOfC qual scope s.heap.objs.size f cd::outer) at hst
 change (A.deeper (envOfC qual scope s.heap.objs.size f cd)).frames=some (envOfC qual scope s.heap.objs.size f cd::outer) at hfr
 change H1 s.heap.objs.size=none at hL
 have hff:frs (envOfC qual scope s.heap.objs.size f cd::outer)=s.heap.objs.size::frs outer:=af8 rfl
 have hin:∀ env∈(envOfC qual scope s.heap.objs.size f cd::outer),∀ b,env.frame=some b->b∈frs (envOfC qual scope s.heap.objs.size f cd::outer):=fun env he b hb=>J1.mpr ⟨env,he,hb⟩
 have old:∀ b,(H1 b≠none\/s.heap.get? b≠none)->b∉frs outer->∃ o,s1.heap.get? b=some o/\b∉frs (envOfC qual scope s.heap.objs.size f cd::outer):=fun b hb hno=>by
  have hne:b≠s.heap.objs.size:=by
   rcases hb with z | z
   ·intro q;rw[q]at z;exact z hL
   ·obtain⟨o,z⟩:=B0 z
    exact f9 (c3 z)
  have hex:∃ o,s1.heap.get? b=some o:=by
   rcases hb with z | z
   ·obtain⟨o,z⟩:=B0 z
    exact(I.hok b o z).there
   ·obtain⟨o,z⟩:=B0 z
    exact hbs.there b o z (by simp)
  obtain⟨o,ho⟩:=hex
  refine⟨o,ho,?_⟩
  rw[hff]
  intro hm
  rcases d7.mp hm with q | q
  ·exact hne q
  ·exact hno q
 have eNew:s.heap.get? e=none:=by
  cases q:s.heap.get? e with
  | none=>rfl
  | some o =>
   obtain⟨o',z⟩:=hbs.there e o q (by simp)
   rw[hx.new]at z
   cases z
 have eFree:H1 e=none:=by
  cases q:H1 e with
  | none=>rfl
  | some o =>
   obtain⟨o',z⟩:=(I.hok e o q).there
   rw[hx.new]at z
   cases z
 refine wpAny_leaves_madeW (base:=PySem.W.hideAll s1.heap (frs (envOfC qual scope s.heap.objs.size f cd::outer))) hfr rfl (fun b o q=>PySem.W.of_hideAll _ q) (PySem.W.funFrames_hide hst hin) hx fun h' t x1 x2 x3 x4=>?_
 have stay:∀ b o,s1.heap.get? b=some o->(H1 b≠none\/s.heap.get? b≠none)->b∉frs outer->h'.get? b=some o:=fun b o ho hb hno=>by
  obtain⟨o',ho',hm⟩:=old b hb hno
  rw[ho]at ho'
  cases ho'
  exact x1.1 b o (PySem.W.hideAll_get _ ho hm)
 have frNone:∀ b∈frs outer,H1 b=none:=fun b hb=>I.stkFree b (by
  show b∈frs (envOfC qual scope s.heap.objs.size f cd::outer)
  rw[hff]
  exact a7 _ hb)
 refine⟨e,cls,H1,rfl,I.os,I.bare,hbs.onto (fun b o ho hh hno=>stay b o ho (.inr hh) hno) (fun b o ho hh hm=>?_),I.hok.stays fun b o ho hh=>stay b o ho (.inl hh) fun hm=>hh (frNone b hm),eNew,eFree,⟨_,_,x1,fun b o ho hb hno=>?_⟩,hE⟩
 ·obtain⟨_,o',ho',hd⟩:=hst.mem (b:=b) (by
   show b∈frs (envOfC qual scope s.heap.objs.size f cd::outer)
   rw[hff]
   exact a7 _ hm)
  rw[ho]at ho'
  cases ho'
  exact x4 b o (hx.keeps b o ho) hd
 ·obtain⟨o',ho',hm⟩:=old b hb hno
  have:=stay b o' ho' hb hno
  rw[ho]at this
  cases this
  exact PySem.W.hideAll_get _ ho' hm
theorem aU1:Z8 (CXE P w) (O3 (CXE P w) P w K mg base N qual scope f cd A outer s H E) E:=by
 intro pins σ H1 s1 e s2 I hc
 obtain⟨x,cls,H2,rfl,hos,hb2,u,hok,new,hxn,⟨B,a0,fl,st⟩,hE⟩:=hc
 have hst:=I.stack
 have hfr:=I.ok.frames
 have hL:=I.free
 have hbs:Un (frs outer) [] H H1 s.heap s1.heap:=I.base
 change s1.heap.FunFrames base (envOfC qual scope s.heap.objs.size f cd::outer) at hst
 change (A.deeper (envOfC qual scope s.heap.objs.size f cd)).frames=some (envOfC qual scope s.heap.objs.size f cd::outer) at hfr
 change H1 s.heap.objs.size=none at hL
 change Un (frs (envOfC qual scope s.heap.objs.size f cd::outer)) [] H1 H2 s1.heap s2.heap at u
 change Heap.FlyingW B (envOfC qual scope s.heap.objs.size f cd::outer) x cls a0 s2.heap at fl
 have hff:frs (envOfC qual scope s.heap.objs.size f cd::outer)=s.heap.objs.size::frs outer:=af8 rfl
 have st':∀ b o,s2.heap.get? b=some o->(H2 b≠none\/s1.heap.get? b≠none)->b∉frs (envOfC qual scope s.heap.objs.size f cd::outer)->B.get? b=some o:=st
 rw[hff]at u st'
 have hLo:∃ o,s1.heap.get? s.heap.objs.size=some o:=by
  obtain⟨m,⟨o,_,_,ho,_⟩,_⟩:=I.loc
  exact⟨o,ho⟩
 have hL2:H2 s.heap.objs.size=none:=by
  obtain⟨o,ho⟩:=hLo
  exact u.free _ o ho hL (by simp)
 have old:∀ b,(H2 b≠none\/s.heap.get? b≠none)->b∉frs outer->∃ o,s2.heap.get? b=some o/\B.get? b=some o:=fun b hb hno=>by
  have hne:b≠s.heap.objs.size:=by
   rcases hb with z | z
   ·intro q;rw[q]at z;exact z hL2
   ·obtain⟨o,z⟩:=B0 z
    exact f9 (c3 z)
  have hm:b∉s.heap.objs.size::frs outer:=fun hm=>by
   rcases d7.mp hm with q | q
   ·exact hne q
   ·exact hno q
  rcases hb with z | z
  ·obtain⟨o,z'⟩:=B0 z
   obtain⟨o',ho⟩:=(hok b o z').there
   exact⟨o',ho,st' b o' ho (.inl z) hm⟩
  ·obtain⟨o,z⟩:=B0 z
   obtain⟨o1,h1⟩:=hbs.there b o z (by simp)
   obtain⟨o2,h2⟩:=u.there b o1 h1 (by simp)
   exact⟨o2,h2,st' b o2 h2 (.inr (by rw[h1];simp)) hm⟩
 have u2:Un (frs outer) [] H H2 s.heap s2.heap:=by
  refine⟨fun b o e n hb hx=>?_,fun b o e n hb hx=>?_,fun b o e n hx=>?_,fun b o e hx=>?_,fun b xs e=>u.tups b xs (hbs.tups b xs e),fun b o v e=>u.frzs b o v (hbs.frzs b o v e),fun b ps e=>?_⟩
  ·refine u.keep b o (hbs.keep b o e n hb hx) (hbs.free b o e n hx) (fun hm=>?_) hx
   rcases d7.mp hm with q | q
   ·exact f9 (c3 e) q
   ·exact hb q
  ·obtain⟨sl,e1⟩:=hbs.slot b o e n hb hx
   obtain⟨sl2,e2⟩:=u.slot b _ e1 (hbs.free b o e n hx) (a7 _ hb) hx
   exact⟨sl2,e2⟩
  ·obtain⟨o',e1⟩:=hbs.there b o e hx
   exact u.free b o' e1 (hbs.free b o e n hx) hx
  ·obtain⟨o',e1⟩:=hbs.there b o e hx
   exact u.there b o' e1 hx
  ·obtain⟨m1,e1⟩:=hbs.tbls b ps e
   obtain⟨m2,e2⟩:=u.tbls b _ e1
   exact⟨m1++m2,by rw[e2,ad3]⟩
 have frNone:∀ b∈frs outer,H2 b=none:=fun b hb=>by
  have h1:=I.stkFree b (by
   show b∈frs (envOfC qual scope s.heap.objs.size f cd::outer)
   rw[hff]
   exact a7 _ hb)
  obtain⟨_,o,ho,_⟩:=hst.mem (b:=b) (by
   show b∈frs (envOfC qual scope s.heap.objs.size f cd::outer)
   rw[hff]
   exact a7 _ hb)
  exact u.free b o ho h1 (by simp)
 refine wpAny_leaves_onW hfr rfl fl fun h' x1 x2=>?_
 have stay:∀ b o,s2.heap.get? b=some o->(H2 b≠none\/s.heap.get? b≠none)->b∉frs outer->h'.get? b=some o:=fun b o ho hb hno=>by
  obtain⟨o',ho',hB⟩:=old b hb hno
  rw[ho]at ho'
  cases ho'
  exact x1.1 b o hB
 refine⟨x,cls,H2,rfl,hos.trans I.os,hb2,u2.onto (fun b o ho hh hno=>stay b o ho (.inr hh) hno) (fun b o ho hh hm=>?_),hok.stays fun b o ho hh=>stay b o ho (.inl hh) fun hm=>hh (frNone b hm),?_,hxn,⟨B,a0,x1,fun b o ho hb hno=>?_⟩,hE⟩
 ·obtain⟨_,o',ho',hd⟩:=fl.2.2.1.mem (b:=b) (by
   show b∈frs (envOfC qual scope s.heap.objs.size f cd::outer)
   rw[hff]
   exact a7 _ hm)
  rw[ho]at ho'
  cases ho'
  exact x2 b o ho hd
 ·cases q:s.heap.get? x with
  | none=>rfl
  | some o =>
   obtain⟨o',z⟩:=hbs.there x o q (by simp)
   rw[new]at z
   cases z
 ·obtain⟨o',ho',hB⟩:=old b hb hno
  have:=stay b o' ho' hb hno
  rw[ho]at this
  cases this
  exact hB
end
theorem Fun.okX {P:Program} {w:World} {K:W.Frag} {mg:Str->Option Value} {base:Heap} {x qual:Str} {st:Stmt} {f:Addr} {fd:FuncData} {N ps:List Str} {k:Nat} {sp:Sp} (F:Fun K x qual st f fd) (S:t7 N ps (d8 st)) (len:∀ vs H Q E,sp vs H Q E->vs.length=ps.length)
  (hbody : ∀ (cdv : Value) (A : Around) (outer : List Env) (s : Shared) (H : Hp) (vs : List V) (Q : VK) (E : XK), M7 k (A.deeper (envOfC qual (d8 st) s.heap.objs.size f cdv)) -> sp vs H Q E ->
   ∃ t,PSs (O3 (CXE P w) P w K mg base N qual (d8 st) f cdv A outer s H E) (o9 st) t/\t { nx:=fun _ H'=>Q .non H',rt:=Q } (start N vs) H):p8 P w K mg base (CXE P w) (k+1) f fd ps sp:=by
 obtain⟨oc,od,kV,doc,pm,an,cdv,ct,osl,rfl,lk,hcd⟩:=F.ex
 exact aV0 lk hcd S len fun A outer s H vs Q E hr hsp=>hbody cdv A outer s H vs Q E hr hsp
structure am9 (K:W.Frag) (C:Addr):Prop where
 q:PySem.W.excIn K C [.type "ValueError",.type "Exception",.type "BaseException",.type "object"] "ValueError.__new__"=true
section
variable {X:Cx}
end
section
variable {X:Cx}
theorem am4:G0 X (.builtin "isinstance") (fun xs H Q=>∃ a ys c b,xs=[.ref a,.ty c]/\SqT X.K H a ys/\PySem.W.kitOne X.K (.type "tuple") (.type c)=some b/\Q (.bl b) H):=by
 intro pins s σ H xs us Q I r h
 obtain⟨a,ys,c,b,rfl,hq,e,q⟩:=h
 obtain⟨u,v,rfl,ru,rv⟩:=r.two
 cases (show v=Value.type c from rv)
 cases ru
 obtain⟨its,rt,⟨o,h1,h2,_⟩,hz⟩:=I.tuple hq
 exact PySem.W.kia_one PySem.W.kitx_tuple I.kIn ⟨o,h1,h2⟩ e (fun z=>nomatch z) fun tk=>⟨.bl b,H,I.tok _,rfl,q⟩
end
def LkL (X:Cx)(scope:Scope)(cl:List (Str × Addr)):List Str->List (Option Nat)->Prop
 | [],[]=>True
 | _::N,none::lk=>LkL X scope cl N lk
 | x::N,some j::lk=>(X.N[j]?=some x/\(X.env.scope.names.lookup x=some .cell\/X.env.scope.names.lookup x=some .free)/\(cl.lookup x).isSome=true /\
  ((compEnvC scope cl 0 X.env).kindOf x=some .cell\/(compEnvC scope cl 0 X.env).kindOf x=some .free))/\LkL X scope cl N lk
 | _,_=>False
theorem LkL.len {X:Cx}{scope:Scope}{cl:List (Str × Addr)}:∀ {N:List Str} {lk:List (Option Nat)},LkL X scope cl N lk->lk.length=N.length
 | [],[],_=>rfl
 | _::N,none::lk,h=>congrArg (·+1) (LkL.len (N:=N) (lk:=lk) h)
 | _::N,some _::lk,h=>congrArg (·+1) (LkL.len (N:=N) (lk:=lk) h.2)
 | [],_::_,h=>h.elim
 | _::_,[],h=>h.elim
theorem LkL.get {X:Cx}{scope:Scope}{cl:List (Str × Addr)}:∀ {N:List Str} {lk:List (Option Nat)},LkL X scope cl N lk->∀ (i j:Nat) (x:Str),N[i]?=some x->lk[i]?=some (some j) ->
  X.N[j]?=some x/\(X.env.scope.names.lookup x=some .cell\/X.env.scope.names.lookup x=some .free)/\(cl.lookup x).isSome=true/\((compEnvC scope cl 0 X.env).kindOf x=some .cell\/(compEnvC scope cl 0 X.env).kindOf x=some .free)
 | [],[],_,i,j,x,h1,_=>by simp at h1
 | _::N,none::lk,h,0,j,x,h1,h2=>by simp at h2
 | _::N,none::lk,h,i+1,j,x,h1,h2=>LkL.get (N:=N) (lk:=lk) h i j x (by simpa using h1) (by simpa using h2)
 | y::N,some k::lk,h,0,j,x,h1,h2=>by
  simp at h1 h2
  subst h1 h2
  exact h.1
 | _::N,some _::lk,h,i+1,j,x,h1,h2=>LkL.get (N:=N) (lk:=lk) h.2 i j x (by simpa using h1) (by simpa using h2)
 | [],_::_,h,_,_,_,_,_=>h.elim
 | _::_,[],h,_,_,_,_,_=>h.elim
theorem LkL.ok {X:Cx}{scope:Scope}{cl:List (Str × Addr)}{N:List Str}{lk:List (Option Nat)}(h:LkL X scope cl N lk):aF2 X N lk scope cl:=⟨h.len,h.get⟩
theorem P7 {σ:St}{H:Hp}{A B:Hp->Prop}(h:A H):aS8 σ H (fun b H3=>if b=true then A H3 else B H3):=by
 show if true=true then A H else B H
 exact A5 h
theorem E3 {i:Nat}{v:V}{σ:St}{H:Hp}{Q:St->Hp->Prop}(h:Q (σ.set i (some v)) H):ar5 i v σ H Q:=h
theorem SqT.updL {K:W.Frag}{H:Hp}{a l:Addr}{xs:List V}{ys zs:List V}(h:SqT K H a ys)(hl:H l=some (.lst xs)):SqT K (upd H l (.lst zs)) a ys:=by
 rcases h with(h | ⟨o,h⟩) | h
 ·exact .inl (.inl (by rw[q8 (aU4 h hl (by intro z;cases z))];exact h))
 ·exact .inl (.inr ⟨o,by rw[q8 (aU4 h hl (by intro z;cases z))];exact h⟩)
 ·exact .inr h
theorem t5.updL {K:W.Frag}{H:Hp}{l:Addr}{xs zs:List V}(hl:H l=some (.lst xs)):∀ {ys:List V} {ks:List (List Int)},t5 K H ys ks->t5 K (upd H l (.lst zs)) ys ks
 | _,_,.nil=>.nil
 | _,_,.cons r t=>by
  obtain⟨a,h1,h2⟩:=r
  exact .cons ⟨a,h1,h2.updL hl⟩ (t5.updL hl t)
theorem t5.one {K:W.Frag}{H:Hp}{a:Addr}{k:List Int}(h:SqT K H a (k.map V.int)):t5 K H [.ref a] [k]:=.cons ⟨a,rfl,h⟩ .nil
theorem n4.seqT {K:W.Frag}{H H':Hp}{a:Addr}{xs:List V}(e:n4 H H')(h:SqT K H a xs):SqT K H' a xs:=by
 rcases h with(h | ⟨o,h⟩) | h
 ·exact .inl (.inl (e _ _ h))
 ·exact .inl (.inr ⟨o,e _ _ h⟩)
 ·exact .inr h
theorem n4.tups {K:W.Frag}{H H':Hp}{ys:List V}{ks:List (List Int)}(e:n4 H H')(h:t5 K H ys ks):t5 K H' ys ks:=t5.same e h
theorem n4.upd {H H':Hp}{l:Addr}{o:HO}(e:n4 H H')(h:H l=none):n4 H (upd H' l o):=fun b u q=>by
 rw[q8 (r6 q h)]
 exact e b u q
end L2
namespace L2
open PySem
theorem aE4 (xs:List V)(k:Nat):am3 xs (some (k:Int)) none=xs.drop k:=by
 unfold am3
 rw[HT.aN7,HT.aH6]
 rcases Nat.le_total k xs.length with h | h
 ·rw[Nat.min_eq_left h]
  exact i9 (by rw[n9];omega)
 ·rw[Nat.min_eq_right h,aF6 h,aF6 (b4 _)]
  simp
theorem O4 {X:Cx}(K:W.Frag)(hK:X.K=K):G0 X (.builtin "isinstance") (fun xs H Q=>∃ x c t b,xs=[x,.ty c]/\V2 K H x t/\PySem.W.kitOne K t (.type c)=some b/\Q (.bl b) H):=by
 subst hK
 exact aa9
theorem aV6 {u d:Nat}(h:u+64<cLine)(hd:d<=60):u+1+d<cLine:=by omega
theorem aG1 {u d:Nat}(h:u+64<cLine)(hd:d<=64):u+d<cLine:=by omega
theorem Dt.mkInt {K:W.Frag}{H:Hp}{i:Int}:Dt K H (.int i) (.int i):=by unfold Dt;rfl
theorem Dt.mkL {K:W.Frag}{H:Hp}{a:Addr}{xs:List V}{ds:List PyData}(h:SqL K H a xs)(d:o8 K H ds xs):Dt K H (.list ds) (.ref a):=by unfold Dt;exact⟨a,xs,rfl,h,d⟩
theorem Dt.mkT {K:W.Frag}{H:Hp}{a:Addr}{xs:List V}{ds:List PyData}(h:SqT K H a xs)(d:o8 K H ds xs):Dt K H (.tuple ds) (.ref a):=by unfold Dt;exact⟨a,xs,rfl,h,d⟩
theorem o8.mkN {K:W.Frag}{H:Hp}:o8 K H [] []:=by unfold o8;rfl
theorem o8.mkC {K:W.Frag}{H:Hp}{d:PyData}{x:V}{ds:List PyData}{xs:List V}(h:Dt K H d x)(t:o8 K H ds xs):o8 K H (d::ds) (x::xs):=by unfold o8;exact⟨x,xs,rfl,h,t⟩
theorem B8 {i:Nat}{z:Int}{σ:St}{H:Hp}{Q:St->Hp->Prop}(h:∀ c:Int,c=z->ar5 i (.int c) σ H Q):ar5 i (.int z) σ H Q:=h z rfl
theorem int_at {ns:List Int}{i:Nat}{x:V}(h:(ns.map V.int)[i]?=some x):∃ z:Int,x=V.int z:=by
 rw[l9]at h
 cases e:ns[i]? with
 | none=>rw[e]at h;cases h
 | some z=>rw[e]at h;exact⟨z,(Option.some.inj h).symm⟩
theorem aE3 (ns:List Int)(lo hi:Option Int):∃ ms:List Int,am3 (ns.map V.int) lo hi=ms.map V.int/\ms.length<=ns.length:=by
 unfold am3
 rw[<- List.map_drop,<- List.map_take]
 exact⟨_,rfl,by rw[k9,n9];omega⟩
theorem ac5 {n j:Nat}(h:j<n):ixN n (j:Int)=some j:=by
 unfold ixN
 rw[if_pos (by omega),if_pos (by omega)]
 simp
theorem t5.dtAll {K:W.Frag}{H:Hp}{ys:List V}{ks:List (List Int)}(t:t5 K H ys ks):o8 K H (ks.map dP) ys:=o8.tups t
def dW (n:Int)(ks:List (List Int)):PyData:=.tuple [.int n,.tuple (ks.map dP)]
theorem aU5 (n:Int)(ks:List (List Int)):(dW n ks).canLay0=true:=by simp[dW,PyData.canLay0,PyData.canLayAll0,ai6]
theorem bg9 (n:Int)(ks:List (List Int)):(dW n ks).depth<=4:=by
 have:=aj1 ks
 simp only[dW,PyData.depth,PyData.depthAll]
 omega
theorem bg8 (n m:Int)(ks ls:List (List Int)):PyData.eqv (dW n ks) (dW m ls)=(decide (n=m) && decide (ks=ls)):=by
 simp only[dW,PyData.eqv,PyData.eqvAll,aj0,Bool.and_true]
 by_cases h:n=m
 ·subst h;simp
 ·simp[h]
def M7.around {k:Nat}{A:Around}(_:M7 k A):Around:=A
theorem az2 {X:Cx}(K:W.Frag)(A:Around)(hK:X.K=K)(hA:X.A=A):OpR X (compareOp .Eq) (aX1 K A false):=by subst hK hA;exact aX7
theorem aP0 {X:Cx}(K:W.Frag)(A:Around)(hK:X.K=K)(hA:X.A=A):OpR X (compareOp .In) (bf0 K A false):=by subst hK hA;exact aX6
end L2
namespace L2
open PySem PySem.Spec PyProof.Rows
abbrev bmV:List Value:=[.type "ValueError",.type "Exception",.type "BaseException",.type "object"]
theorem ba2 {K:W.Frag}{h:Heap}{C:Addr}(KI:K.In h)(c:am9 K C):∃ bm N nm q bs hd sn sub ab col dd k0 k1 k2 k3 k5 mN,h.get? C=some (excClassObj nm q C N bs bm hd sn sub ab col dd k0 k1 k2 k3 k5 "ValueError.__new__") /\
  h.Ns N mN/\mN "__init__"=none/\OwnTail h bmV bm:=by
 have z:=c.q
 revert z
 unfold PySem.W.excIn
 split
 ·rename_i d1 c1 s1 hl
  split
  ·rename_i D bm y0 y1 y2 y3 nn y5 e1 e2
   intro z
   rw[d9,d9,d9,d9,d9]at z
   obtain⟨⟨⟨⟨⟨z1,z2⟩,z3⟩,z4⟩,z5⟩,z6⟩:=z
   have z1':D=C:=beq_iff_eq.mp z1
   have z2':nn="ValueError.__new__":=beq_iff_eq.mp z2
   have z6':=beq_iff_eq.mp z6
   subst z1' z2'
   obtain⟨w1,w2,w3,w4,w5,w6,w7,w8,w9,w10,w11⟩:=c1
   dsimp only at e1 z3 z5 z6'
   subst e1
   have z3':w11=false:=by simpa using z3
   subst z3'
   have e3:s1=#[y0,y1,y2,y3,some (.builtin "ValueError.__new__"),y5]:=by
    obtain⟨l1⟩:=s1
    exact congrArg Array.mk e2
   subst e3
   exact⟨bm,w4,w1,w5,w2,w6,w7,w8,w9,w10,d1,y0,y1,y2,y3,y5,_,KI _ _ hl,.of_isNs (PySem.W.isNs_of_in KI z5),PySem.W.nsMap_none_of_in KI z5 z6',PySem.W.tail_of_in KI z4⟩
  ·intro z;cases z
 ·intro z;cases z
section
variable {P:Program} {w:World} {K:W.Frag} {mg:Str->Option Value} {base:Heap} {N:List Str} {qual:Str} {scope:Scope} {f:Addr} {cd:Value} {A:Around} {outer:List Env} {s:Shared} {H:Hp} {E:XK}
def aV7 (E:XK)(C:Addr):TS:=fun _ _ H=>E (.ref C) none H
theorem J0 {x txt:Str}{C:Addr}{j:Nat}{np cp ep pos:Pos}(hg:Gl (O3 (CXE P w) P w K mg base N qual scope f cd A outer s H E) x)(hm:mg x=some (.ref C))(c:am9 K C)(hd:(x == ("__debug__":Str))=false:=by decide) :
  PS (O3 (CXE P w) P w K mg base N qual scope f cd A outer s H E) (.Raise (some (.Call (.Name x np) [.Constant (.str txt) j cp] [] ep)) none pos) (aV7 E C):=by
 intro pins s1 σ H1 D I hE
 have hh:(O3 (CXE P w) P w K mg base N qual scope f cd A outer s H E).A.handled=none:=I.ok.hd rfl
 obtain⟨bm,N',nm,q,bs,hdc,sn,sub,ab,col,dd,k0,k1,k2,k3,k5,mN,hC,hN,hni,T⟩:=ba2 I.kIn c
 refine wpAny_Raise_call_subT (C:=C) (nm:=nm) (q:=q) (N:=N') (bs:=bs) (bm:=bm) (hdct:=hdc) (sn:=sn) (sub:=sub) (ab:=ab) (col:=col) (dd:=dd) (k0:=k0) (k1:=k1) (k2:=k2) (k3:=k3) (k5:=k5)
  PySem.F.excBase_ValueError (mN:=mN) (T.hasType (by decide +kernel)) hh rfl hni (S5 I hg hm ⟨rfl,?_⟩ hd)
 refine Calls.evalArgs_plain ?_
 refine PyProof.Rows.spliced_more (Calls.Constant_str ?_)
 refine PyProof.Rows.spliced_none ⟨rfl,by show 1<=sizeLine;decide,hC,hN,T,fun h' e hx=>?_⟩
 exact aM2 (I.tok _) hx hE
end
def ao2 (X:Cx)(pins:List (Addr × Obj))(E:St->XK):Cx:={ X with pn:=X.pn++pins,xe:=fun e s'=>∃ σ H s,Inv X pins σ H s/\CXE X.prog X.w X.stack H s (E σ) e s' }
def aQ9 (X:Cx)(v:Value):Cx:={ X with A:=X.A.mark (some v),calm:=false,xe:=fun _ _=>False }
section
variable {X:Cx} {pins pins':List (Addr × Obj)} {σ:St} {H:Hp} {s:Shared} {E:St->XK}
theorem Inv.toTry (I:Inv X pins σ H s):Inv (ao2 X pins E) [] σ H s:=
  ⟨⟨I.ok.mod, I.ok.kind, I.ok.glob, I.ok.blt, I.ok.above, I.ok.inj, I.ok.has, I.ok.cab, I.ok.hd, I.ok.frames, I.ok.stk, I.ok.exf, I.ok.bs, I.ok.bsz, I.ok.noex, I.ok.exfs, I.ok.funs, I.ok.frf⟩,
    I.os,I.bare,I.base,I.loc,I.cell,I.free,I.freeC,fun p hp=>I.pin p (by
      rcases l6.mp hp with z | z
      · exact z
      · cases z),I.hok,I.len⟩
theorem Inv.ofTry (I:Inv (ao2 X pins E) pins' σ H s):Inv X pins σ H s:=
  ⟨⟨I.ok.mod, I.ok.kind, I.ok.glob, I.ok.blt, I.ok.above, I.ok.inj, I.ok.has, I.ok.cab, I.ok.hd, I.ok.frames, I.ok.stk, I.ok.exf, I.ok.bs, I.ok.bsz, I.ok.noex, I.ok.exfs, I.ok.funs, I.ok.frf⟩,
    I.os,I.bare,I.base,I.loc,I.cell,I.free,I.freeC,fun p hp=>I.pin p (v9 _ hp),I.hok,I.len⟩
theorem Inv.toHd (I:Inv X pins σ H s) (v:Value):Inv (aQ9 X v) pins σ H s:=
  ⟨⟨I.ok.mod, I.ok.kind, I.ok.glob, I.ok.blt, I.ok.above, I.ok.inj, I.ok.has, I.ok.cab, (fun z => by cases z), I.ok.frames, I.ok.stk, I.ok.exf, I.ok.bs, I.ok.bsz, I.ok.noex, I.ok.exfs, I.ok.funs, I.ok.frf⟩,
    I.os,I.bare,I.base,I.loc,I.cell,I.free,I.freeC,I.pin,I.hok,I.len⟩
theorem Inv.ofHd {v:Value} (I:Inv (aQ9 X v) pins σ H s) (hd:X.calm=true->X.A.handled=none):Inv X pins σ H s:=
  ⟨⟨I.ok.mod, I.ok.kind, I.ok.glob, I.ok.blt, I.ok.above, I.ok.inj, I.ok.has, I.ok.cab, hd, I.ok.frames, I.ok.stk, I.ok.exf, I.ok.bs, I.ok.bsz, I.ok.noex, I.ok.exfs, I.ok.funs, I.ok.frf⟩,
    I.os,I.bare,I.base,I.loc,I.cell,I.free,I.freeC,I.pin,I.hok,I.len⟩
end
def aA8 (CX:CXT)(X:Cx)(E:St->XK):Prop:=∀ (pins:List (Addr × Obj)) (σ:St) (H:Hp) (s:Shared) (e:Value) (s':Shared),Inv X pins σ H s->CX X.stack H s (E σ) e s'->X.xe e s'
theorem al4 {X:Cx}{pins:List (Addr × Obj)}{E:St->XK}:aA8 (CXE X.prog X.w) (ao2 X pins E) E:=fun _ σ H s _ _ I h=>⟨σ,H,s,I.ofTry,h⟩
def aV9 (sp:Sp)(E:St->XK)(t:TA):TE:=fun σ H Q=>t σ H fun vs H1=>sp (vs++[]) H1 Q (E σ)
section
variable {X:Cx} {CX:CXT} {k:Nat} {f:Addr} {fd:FuncData} {ps:List Str} {sp:Sp} {E:St->XK} {x:Str} {p pos:Pos} {e:Expr} {es:List Expr} {t:TA}
theorem ae5 (F:p8 X.prog X.w X.K X.mg X.base CX k f fd ps sp)(hr:M7 k X.A)(hg:Gl X x)(hm:X.mg x=some (.ref f))(hk:g8 X.K (.ref f)=true)(hb:Binds X.K fd ps [])(hx:aA8 CX X E)
  (ha:PA X (e::es) t)(hdb:(x == ("__debug__":Str))=false:=by decide)(he:starEach (e::es) X.env=(false,eval e X.env)::starEach es X.env:=by rfl)(hpl:(backTo pos (starEach es X.env)).any (·.1)=false:=by rfl) :
  PE X (.Call (.Name x p) (e::es) [] pos) (aV9 sp E t):=by
 intro pins s σ H Q I h
 refine wpAny_Call_Name_kw (S5 I hg hm ?_ hdb)
 refine PySem.W.callWith_K (h₀:=X.base) I.ok.mod.kin hk (thn (ha pos pins s σ H _ I h) fun us s1 ⟨vs,H1,I1,r,q⟩=>⟨I1.kIn,?_⟩) he hpl
 have r2:o6 (vs++[]) (us++[]):=r.append .nil
 have hl:(us++[]).length=ps.length:=by rw[<- r2.length];exact F.len _ _ _ _ q
 refine wpAny_call (codeAny_mono (F.run X.A X.stack s1 H1 ⟨us,[]⟩ (us++[]) (vs++[]) Q (E σ) hr I1.env0 (hb s1 us I1.kIn hl) r2 q) fun r s' hq=>?_)
 cases r with
 | error e=>exact hx pins σ H1 s1 e s' I1 hq
 | ok fl =>
  cases fl with
  | ret u=>exact I1.after hq
  | next=>exact False.elim hq
  | brk=>exact False.elim hq
  | cont=>exact False.elim hq
end
def XO (x:Addr)(cls:Value):HO:=.ext fun h=>∃ o vs,h.get? x=some o/\o.cls=cls/\o.data=.fields vs
theorem XO.ok {P:Program}{w:World}{H:Hp}{h:Heap}{x:Addr}{cls:Value}(e:∃ o vs,h.get? x=some o/\o.cls=cls/\o.data=.fields vs):C8 P w H h x (XO x cls):=
 ⟨e,let ⟨o,_,h1,_⟩:=e;⟨o,h1⟩,fun _ _ ⟨o,vs,h1,h2,h3⟩ k=>⟨o,vs,k o h1,h2,h3⟩⟩
section
variable {X:Cx} {pins:List (Addr × Obj)} {σ:St} {H:Hp} {s:Shared}
theorem R9 {M:Model}{A:Around}{E:Value->Shared->Prop}{i:Nat}{n:Str}{pos:Pos}{Q:Unit->Shared->Prop}(I:Inv X pins σ H s)(hN:X.N.Nodup)(hi:X.N[i]?=some n)(hk:X.env.scope.names.lookup n=some .local)
  (h:∀ s',Inv X pins (σ.set i none) H s'->Q () s'):wpAny M A (do bindName X.env n .none;unbindBehindTheSuite X.env n pos) Q E s:=by
 obtain⟨m,hn,hl⟩:=id I.loc
 have hcls:(X.env.scope.kind == .class || (X.env.scope.kind == .module && X.env.locals != X.env.globals))=false:=by rw[I.ok.kind];rfl
 refine wpAny_nameGoes_keeps hk hn hcls fun h' v hn' hs=>h _ ?_
 obtain⟨oL,_,_,hoL,_⟩:=id hn
 have ne:∀ b o,X.s₀.heap.get? b=some o->b≠X.env.locals:=fun b o e=>f9 (j6 (c3 e) I.ok.above)
 refine⟨I.ok,I.os,I.bare,⟨fun b o e n hb hx=>(hs.2 b (ne b o e)).trans (I.base.keep b o e n hb hx),fun b o e n hb hx=>?_,I.base.free,fun b o e hx=>?_,I.base.tups,I.base.frzs,I.base.tbls⟩,⟨_,hn',fun j y v' e1 e2 e3=>?_⟩,fun y c e=>?_,I.free,I.freeC,fun p hp=>?_,I.hok.stays fun b o e hb=>(hs.2 b fun z=>hb (by rw[z];exact I.free)).trans e,by simpa using I.len⟩
 ·obtain⟨sl,e1⟩:=I.base.slot b o e n hb hx
  exact⟨sl,(hs.2 b (ne b o e)).trans e1⟩
 ·obtain⟨o',e1⟩:=I.base.there b o e hx
  exact⟨o',(hs.2 b (ne b o e)).trans e1⟩
 ·by_cases hj:j=i
  ·subst hj
   have hlt:j<σ.length:=by rw[I.len];exact(a8.mp hi).1
   rw[V3 hlt]at e2
   cases e2
  ·rw[aa1 (Ne.symm hj)]at e2
   obtain⟨u',r',q⟩:=hl j y v' e1 e2 e3
   refine⟨u',r',?_⟩
   rcases q with⟨k,e⟩ | ⟨k,c,e,z⟩
   ·refine .inl ⟨k,?_⟩
    have hyn:y≠n:=fun e=>hj (af0 hN e1 (e ▸ hi))
    simp[hyn,e]
   ·exact .inr ⟨k,c,e,z.sameBut hs (I.cne y c e)⟩
 ·obtain⟨w',z⟩:=I.cell y c e
  exact⟨w',z.sameBut hs (I.cne y c e)⟩
 ·obtain⟨e,nn,ne',nf,d⟩:=I.pin p hp
  exact⟨(hs.2 p.1 ne').trans e,nn,ne',nf,d⟩
end
def bh6 (K:W.Frag)(CT:Addr)(i:Nat)(tb:(St->XK)->TS)(th:TS):TS:=fun D σ H=>∃ E:St->XK,tb E D σ H/\∀ σ' cls H',E σ' cls none H'->PySem.W.exmOne K cls (.ref CT)=some true/\∀ x,H' x=none ->
 th { nx:=fun σ2 H2=>D.nx (σ2.set i none) H2,rt:=D.rt,bk:=fun σ2 H2=>D.bk (σ2.set i none) H2,ct:=fun σ2 H2=>D.ct (σ2.set i none) H2 } (σ'.set i (some (.ref x))) (upd H' x (XO x cls))
theorem aX2 {X:Cx}{body suite:List Stmt}{b0:Stmt}{tn n:Str}{np pos hpos:Pos}{CT:Addr}{i:Nat}{tb:(St->XK)->TS}{th:TS}(hN:X.N.Nodup)(hi:X.N[i]?=some n)(hk:X.env.scope.names.lookup n=some .local)
  (hg:Gl X tn)(hm:X.mg tn=some (.ref CT))(hst:X.stack=X.env::X.outer)(hfr:X.env.frame=some X.env.locals)(hbody:∀ pins E,PSs (ao2 X pins E) body (tb E))(hh:∀ v,PSs (aQ9 X v) (b0::suite) th)
  (hd:(tn == ("__debug__":Str))=false:=by decide) :
  PS X (.Try body [.ExceptHandler (some (.Name tn np)) (some n) (b0::suite) hpos] [] [] pos) (bh6 X.K CT i tb th):=by
 intro pins s σ H D I hw
 obtain⟨E,hb,hcatch⟩:=hw
 refine wpAny_Try_except (wpAny_mono (hbody pins E [] s σ H D I.toTry hb) (fun fl s1 q=>?_) fun e s1 hx=>?_)
 ·cases fl with
  | next =>
   obtain⟨σ',H',I',q⟩:=q
   exact wpAny_execs_nil ⟨σ',H',I'.ofTry,q⟩
  | brk=>obtain⟨σ',H',I',q⟩:=q;exact⟨σ',H',I'.ofTry,q⟩
  | cont=>obtain⟨σ',H',I',q⟩:=q;exact⟨σ',H',I'.ofTry,q⟩
  | ret u=>obtain⟨v,σ',H',I',r,q⟩:=q;exact⟨v,σ',H',I'.ofTry,r,q⟩
 ·obtain⟨σ1,H1,s0,I1,x,cls,H2,rfl,hos,hbare,u,hok,new,hxn,⟨B,a0,fl,st⟩,hE⟩:=hx
  obtain⟨hmat,hth⟩:=hcatch σ1 cls H2 hE
  have hfl:Heap.FlyingW B (X.env::X.outer) x cls a0 s1.heap:=by rw[hst]at fl;exact fl
  have frNone:∀ b∈frs X.stack,H2 b=none:=fun b hb=>by
   obtain⟨_,o,ho,_⟩:=I1.stack.mem hb
   exact u.free b o ho (I1.stkFree b hb) (by simp)
  have step:∀ h',B.StaysIn h'->s1.heap.UpToSlots h'->Un (frs X.stack) [] H1 H2 s0.heap h'/\HOk X.prog X.w H2 h':=fun h' hB hu=>by
   refine⟨u.onto (fun b o ho hh hno=>hB b o (st b o ho (.inr hh) hno)) fun b o ho hh hm'=>?_,hok.stays fun b o ho hh=>hB b o (st b o ho (.inl hh) fun hm'=>hh (frNone b hm'))⟩
   obtain⟨_,o',ho',hdd⟩:=hfl.2.2.1.mem (b:=b) (by rw[hst]at hm';exact hm')
   rw[ho]at ho'
   cases ho'
   exact hu b o ho hdd
  have inv:∀ h',B.StaysIn h'->s1.heap.UpToSlots h'->Inv X pins σ1 H2 { s1 with heap:=h' }:=fun h' hB hu=>by
   obtain⟨un,ok⟩:=step h' hB hu
   exact I1.call' (s':={ s1 with heap:=h' }) (ch:=[]) hos un ok hbare fun b hb=>by cases hb
  have hfrm:X.A.frames=some (X.env::X.outer):=by rw[<- hst];exact I1.ok.frames
  refine wpAny_looks_onW hfrm hfr hfl fun h4 held4 up4=>?_
  refine wpAny_landsW held4 fun h5 fl5 up5=>?_
  have up15:=up4.trans up5
  have I5:=inv h5 fl5.1 up15
  refine wpAny_handleBy_cons (codeAny_handlers_test ?_) (by intro q;cases q)
  refine S5 (I5.toHd (.ref x)) hg hm ?_ hd
  have LT:PySem.W.Looks (model X.prog X.w) h5 (typeOf (.ref x)) cls:=by
   obtain⟨ob,hob,hc⟩:=fl5.there
   subst hc
   exact(PySem.W.Looks.ld hob).andThen .now
  refine(PySem.W.exm_one (M:=model X.prog X.w) I5.kIn LT hmat).here ?_
  refine codeAny_handlers_suite_as ?_
  refine lands_againW fl5 fun h6 fl6 up6=>?_
  have up16:=up15.trans up6
  obtain⟨un6,ok6⟩:=step h6 fl6.1 up16
  obtain⟨oe,vs,hoe,hcl,hdt,_⟩:=fl6.first
  have xin:s0.heap.get? x=none:=new
  have un7:Un (frs X.stack) [] H1 (upd H2 x (XO x cls)) s0.heap h6:=by
   refine⟨un6.keep,un6.slot,fun b o e nn hx=>?_,un6.there,fun b xs e=>?_,fun b o v e=>?_,fun b ps e=>?_⟩
   ·rw[q8 (fun z=>by rw[z,xin]at e;cases e)]
    exact un6.free b o e nn hx
   ·have:=un6.tups b xs e
    rw[q8 (r6 this hxn)]
    exact this
   ·have:=un6.frzs b o v e
    rw[q8 (r6 this hxn)]
    exact this
   ·obtain⟨more,this⟩:=un6.tbls b ps e
    exact⟨more,by rw[q8 (r6 this hxn)];exact this⟩
  have ok7:HOk X.prog X.w (upd H2 x (XO x cls)) h6:=fun a o e=>by
   by_cases ha:a=x
   ·subst ha
    rw[b8]at e
    cases e
    exact XO.ok ⟨oe,vs,hoe,hcl,hdt⟩
   ·rw[q8 ha]at e
    exact(ok6 a o e).stay (fun _ _ _ q=>q) (fun b q=>by rw[q8 (r6 q hxn)];exact q) fun b xs q=>by rw[q8 (r6 q hxn)];exact q
  have I7:Inv X pins σ1 (upd H2 x (XO x cls)) { s1 with heap:=h6 }:=I1.call' (s':={ s1 with heap:=h6 }) (ch:=[]) hos un7 ok7 hbare fun b hb=>by cases hb
  refine ad8 (v:=.ref x) I7 hN hi (.inl hk) rfl (fun s8 I8=>?_) (.inr hk)
  refine wpAny_mono (hh (.ref x) pins s8 _ _ _ (I8.toHd _) (hth x hxn)) (fun fl' s9 q=>?_) (fun _ _ z=>False.elim z)
  have hdX:=I.ok.hd
  cases fl' with
  | next =>
   obtain⟨σ',H',I',q⟩:=q
   exact R9 (I'.ofHd hdX) hN hi hk fun s10 I10=>⟨_,H',I10,q⟩
  | brk =>
   obtain⟨σ',H',I',q⟩:=q
   exact R9 (I'.ofHd hdX) hN hi hk fun s10 I10=>⟨_,H',I10,q⟩
  | cont =>
   obtain⟨σ',H',I',q⟩:=q
   exact R9 (I'.ofHd hdX) hN hi hk fun s10 I10=>⟨_,H',I10,q⟩
  | ret u' =>
   obtain⟨v,σ',H',I',r,q⟩:=q
   exact R9 (I'.ofHd hdX) hN hi hk fun s10 I10=>⟨v,_,H',I10,r,q⟩
end L2
set_option maxRecDepth 100000
namespace L2
open PySem PySem.Spec PyProof.Rows PySem.W
structure am8 (K:W.Frag) (C:Addr):Prop where
 ga:findIn K (.ref C) "__getattribute__"=some (some (.builtin "BaseException.__getattribute__"))
 na:findIn K (.ref C) "__getattr__"=some none
 cl:findIn K (.ref C) "__class__"=some (some (.builtin "object.__class__"))
 sb:subIn K (.ref C) (.type "BaseException")=some true
 so:subIn K (.ref C) (.type "object")=some true
 cs:(clsIn K C).isSome=true
def ExcAt (x C:Addr)(h:Heap):Prop:=∃ o vs,h.get? x=some o/\o.cls=.ref C/\o.data=.fields vs
section
variable {prog:Program} {w:World} {A:Around} {E:Value->Shared->Prop} {h:Heap} {g:Array GenState} {d:Drawn} {t:Nat} {os:OsState} {a C:Addr} {o:Obj} {K:W.Frag}
theorem aR2 {R:Result->Shared->Prop}(KI:K.In h)(c:am8 K C)(hx:h.get? a=some o)(hc:o.cls=.ref C)(hq:R (.ok (.ret (.ref C))) ⟨h,g,d,t,os⟩) :
  codeAny (model prog w) A (.call (.builtin "getset_descriptor.__get__") ⟨[.builtin "object.__class__",.ref a,.ref C],[]⟩) R ⟨h,g,d,t,os⟩:=by
 have hT5:(⟨h,g,d,t,os⟩:Shared).TypeIs (.builtin "object.__class__") "getset_descriptor":=F.typeOf_object_class
 have LS:Looks (model prog w) h (isSubtype (.ref C) (.type (".".intercalate ("object.__class__".cutAt '.').dropLast))) true:=by rw[F.owner_object_class];exact looks_subIn KI c.so
 refine codeAny_call_builtin F.slot_gs_get.plain F.entry_gs_get (F.slot_gs_get.check _ _ _ _ _ _ _ _ hT5 (F.args_gs_get _ _ _) ?_)
 repeat (any_goals (first | assumption | (with_reducible refine wpAny_loadPart_at hx ?_;rw[hc]) | (with_reducible refine LS.at ?_) | wp_step))
 refine⟨Code.quiet_builtin _ (by decide +kernel),codeAny_builtin F.entry_object_class ?_⟩
 repeat (any_goals (first | assumption | (with_reducible refine wpAny_loadPart_at hx ?_;rw[hc]) | wp_step))
theorem aE1 {M:Model}{nameV:Value}{Q:Unit->Shared->Prop}(KI:K.In h)(c:am8 K C)(hx:h.get? a=some o)(hc:o.cls=.ref C)(hq:Q () ⟨h,g,d,t,os⟩) :
  wpAny M A (checkBuiltinCall "BaseException.__getattribute__" ⟨[.ref a,nameV],[]⟩) Q E ⟨h,g,d,t,os⟩:=by
 have k1:builtinKind "BaseException.__getattribute__"=some .slot:=by decide +kernel
 have k2:splitId "BaseException.__getattribute__"=some ("BaseException","__getattribute__"):=by decide +kernel
 have LS:Looks M h (isSubtype (.ref C) (.type "BaseException")) true:=looks_subIn KI c.sb
 have ha:=F.args_bexc_ga (.ref a) nameV
 simp only[checkBuiltinCall,k1,k2]
 refine wpAny_bind ?_
 ·unfold isInstance
  repeat (first | (with_reducible refine wpAny_loadPart_at hx ?_;rw[hc]) | (with_reducible refine LS.at ?_) | wp_step)
  exact hq
theorem aE0 {tk:Tok}{Q:Fin->Shared->Prop}(KI:K.In h)(c:am8 K C)(hx:h.get? a=some o)(hc:o.cls=.ref C)(hq:Q (.done (.ret (.ref C))) ⟨h,g,d,t,os⟩) :
  wpAny (model prog w) A (Builtin.«object.__getattribute__» ⟨[.ref a,.str "__class__" tk],[]⟩) Q E ⟨h,g,d,t,os⟩:=by
 have hT5:(⟨h,g,d,t,os⟩:Shared).TypeIs (.builtin "object.__class__") "getset_descriptor":=F.typeOf_object_class
 have L1:Looks (model prog w) h (typeLookup (.ref C) "__class__") (some (.builtin "object.__class__")):=looks_findIn KI c.cl
 have f5:=F.typeOf_object_class
 have f6:=F.slot_gs_get.lookup
 have f7:=F.slot_gs_set.lookup
 repeat (any_goals (first | assumption | (with_reducible refine wpAny_loadPart_at hx ?_;rw[hc]) | (with_reducible refine L1.at ?_) | wp_step))
 refine aR2 KI c hx hc ?_
 repeat (any_goals (first | assumption | wp_step))
theorem ba1 {tk:Tok}{Q:Value->Shared->Prop}(KI:K.In h)(c:am8 K C)(hx:h.get? a=some o)(hc:o.cls=.ref C)(hq:Q (.ref C) ⟨h,g,d,t,os⟩) :
  wpAny (model prog w) A (getAttrBy (.ref a) (.str "__class__" tk) false) Q E ⟨h,g,d,t,os⟩:=by
 have f3:=F.excAttr_ValueError.ga.bind (.ref a)
 have y2:(Value.builtin "BaseException.__getattribute__" == Value.builtin "object.__getattribute__")=false:=by decide +kernel
 have y1:(onTheHeap (Value.ref C) && Value.builtin "BaseException.__getattribute__" == Value.builtin "object.__getattribute__")=false:=by rw[y2];rfl
 have y0:(false && onTheHeap (Value.builtin "BaseException.__getattribute__"))=false:=rfl
 have L1:Looks (model prog w) h (typeLookup (.ref C) "__getattribute__") (some (.builtin "BaseException.__getattribute__")):=looks_findIn KI c.ga
 have L2:Looks (model prog w) h (typeLookup (.ref C) "__getattr__") none:=looks_findIn KI c.na
 repeat (any_goals (first | assumption | (with_reducible refine wpAny_loadPart_at hx ?_;rw[hc]) | (with_reducible refine L1.at ?_) | (with_reducible refine L2.at ?_) | wp_step))
 refine codeAny_call_builtin F.excAttr_ValueError.ga.plain F.entry_bexc_ga (aE1 KI c hx hc (aE0 KI c hx hc ?_))
 repeat (any_goals (first | assumption | wp_step))
theorem aR3 {Q:Option Value->Shared->Prop}(KI:K.In h)(c:am8 K C)(hx:h.get? a=some o)(hc:o.cls=.ref C)(hq:Q (some (.ref C)) ⟨h,g,d,t+1,os⟩):wpAny (model prog w) A (getAttr? (.ref a) "__class__") Q E ⟨h,g,d,t,os⟩:=by
 unfold getAttr? getAttrBy?
 repeat (any_goals (first | assumption | with_reducible apply ba1 KI c hx hc | wp_step))
end
theorem aq8 {K:W.Frag}{x C:Addr}(c:am8 K C):KitX K (.ref x) (.ref C) (ExcAt x C) where
 ty:=fun _ _ _ p=>by
  obtain⟨o,_,h1,h2,_⟩:=p
  rw[<- h2]
  exact(Looks.ld h1).andThen .now
 it:=fun _ _ KI _=>by
  obtain⟨cd,hcd⟩:=C5.mp c.cs
  unfold clsIn at hcd
  split at hcd
  ·rename_i ho
   intro A' Q' E' s' k q
   unfold isType loadHead
   exact wpAny_bind (wpAny_loadPart (k _ _ (KI _ _ ho)) (wpAny_pure q))
  ·cases hcd
 ne:=fun h tp dd its n sl KI htp=>by
  obtain⟨cd,hcd⟩:=C5.mp c.cs
  refine bb4.mpr fun q=>?_
  have e:C=tp:=Value.ref.inj (beq_iff_eq.mp q)
  subst e
  unfold clsIn at hcd
  split at hcd
  ·rename_i ho
   have z:=(KI _ _ ho).symm.trans htp
   cases z
  ·cases hcd
 ca:=fun {_ _ _ _ _ s} KI p k=>by
  obtain⟨o,_,h1,h2,_⟩:=p
  obtain⟨hh,g,d,t,os⟩:=s
  exact aR3 KI c h1 h2 k
def bk4:V->Value->Prop
 | .ty T,u=>u=.type T
 | .ref D,u=>u=.ref D
 | _,_=>False
theorem ay6:∀ {Ds:List Addr} {its:List Value},o6 (Ds.map V.ref) its->its=Ds.map Value.ref
 | [],_,.nil=>rfl
 | D::Ds,_,.cons r t=>by
  cases r
  rw[j8,ay6 t]
section
variable {X:Cx}
theorem X3 (K:W.Frag)(hK:X.K=K):G0 X (.builtin "isinstance") (fun xs H Q=>∃ x C v u b,xs=[.ref x,v]/\H x=some (XO x (.ref C))/\am8 K C/\bk4 v u/\kitOne K (.ref C) u=some b/\Q (.bl b) H):=by
 subst hK
 intro pins s σ H xs us Q I r h
 obtain⟨x,C,v,u,b,rfl,hx,c,hv,e,q⟩:=h
 obtain⟨u1,u2,rfl,r1,r2⟩:=r.two
 cases r1
 have e2:u2=u:=by
  cases v<;>first | exact hv.elim | exact(show u2=_ from r2).trans hv.symm
 subst e2
 obtain⟨hp,_⟩:=I.hok x _ hx
 exact kia_one (aq8 c) I.kIn hp e (fun z=>nomatch z) fun tk=>⟨.bl b,H,I.tok _,rfl,q⟩
theorem ah0 (K:W.Frag)(hK:X.K=K):G0 X (.builtin "isinstance") (fun xs H Q=>∃ (x C tp:Addr) (Ds:List Addr) (b:Bool),xs=[.ref x,.ref tp]/\H x=some (XO x (.ref C))/\am8 K C/\H tp=some (.tup (Ds.map V.ref))/\kitAny K (.ref C) (Ds.map Value.ref)=some b/\Q (.bl b) H):=by
 subst hK
 intro pins s σ H xs us Q I r h
 obtain⟨x,C,tp,Ds,b,rfl,hx,c,ht,e,q⟩:=h
 obtain⟨u1,u2,rfl,r1,r2⟩:=r.two
 cases r1
 cases r2
 obtain⟨hp,_⟩:=I.hok x _ hx
 obtain⟨its,rv,⟨o,ho,hc,n,hd⟩,_⟩:=I.tuple (SqT.of ht)
 have ei:its=Ds.map Value.ref:=ay6 rv
 subst ei
 obtain⟨oc,od,odt,osl⟩:=o
 dsimp only at hc hd
 subst hc hd
 exact kia_tup (aq8 c) I.kIn hp ho e (fun z=>nomatch z) fun tk=>⟨.bl b,H,I.tok _,rfl,q⟩
end
end L2
namespace L2
open PySem PySem.Spec PyProof.Rows
section
variable {X:Cx} {o e:Expr} {es:List Expr} {to:TE} {t:TA} {name:Str} {apos cpos:Pos} {T id:String} {r:V->List V->Hp->VK->Prop}
end
end L2
namespace HT
open PySem PyProof.Rows
section
variable {prog:Program} {w:World} {A:Around} {E:Value->Shared->Prop} {s:Shared}
end
end HT
namespace L2
open PySem PySem.Spec PyProof.Rows
section
variable {X:Cx} {e st:Expr} {te ts:TE} {pos p2:Pos}
def bi6 (t u:TS):TS:=fun D σ H=>∃ Mid:St->Hp->Prop,t { D with nx:=Mid } σ H/\∀ σ' H',Mid σ' H'->u D σ' H'
theorem D2 {stm:Stmt}{rest:List Stmt}{t u:TS}(h1:PS X stm t)(h2:PSs X rest u):PSs X (stm::rest) (bi6 t u):=by
 intro pins s σ H D I ⟨Mid,h,k⟩
 refine wpAny_execs_cons (thn (h1 pins s σ H { D with nx:=Mid } I h) fun f s1 q=>?_)
 cases f with
 | next =>
  obtain⟨σ',H',I',q⟩:=q
  exact h2 pins s1 σ' H' D I' (k _ _ q)
 | ret v=>exact q
 | brk=>exact q
 | cont=>exact q
end
def sgn (x:Str):List V:=x.cps.toList.map fun c=>V.str ⟨#[c]⟩
theorem v8 (x:Str):x.cps.toList.length=x.length:=d5
def Its (x:Str):It:=⟨fun i _=>i<x.length,fun i H y H'=>H'=H/\(sgn x)[i]?=some y,fun i _=>x.length<=i⟩
theorem au6 {x:Str}{i:Nat}(h:i<x.length):x.cps[i]?=some (x.cps.toList.getD i 0)/\(sgn x)[i]?=some (.str ⟨#[x.cps.toList.getD i 0]⟩):=by
 have hl:i<x.cps.toList.length:=by rw[v8];exact h
 have e:x.cps.toList[i]?=some (x.cps.toList.getD i 0):=by rw[u4,c5 hl];rfl
 refine⟨by rw[<- a6];exact e,?_⟩
 unfold sgn
 rw[l9,e]
 rfl
theorem aB3 {P:Program}{w:World}{K:W.Frag}{tg:Expr}(x:Str)(t:Tok)(it:Addr):Turn P w K tg (Its x) [it] it (fun i h=>h.IsStrIter it "str_ascii_iterator" x t i) where
 mem:=by simp
 obj:=fun i h st b hb=>by
  have e:b=it:=by simpa using hb
  subst e
  obtain⟨o,e,c,d⟩:=st
  exact⟨o,e,fun v z=>by rw[d]at z;cases z⟩
 keep:=fun i h h' st k=>let ⟨o,ho,r⟩:=st;⟨o,k it (by simp) o ho,r⟩
 item:=by
  intro X hP hw hK hc i pins s σ H E I hf st hg
  subst hP hw hK
  obtain⟨f0,f1,f2,f3,f4,f5⟩:=hf it (by simp)
  obtain⟨e1,e2⟩:=au6 (show i<x.length from hg)
  refine wpAny_pyNext_ascii_item st e1 fun h' st' sb=>?_
  have I1:Inv X pins σ H { s with heap:=h',toks:=s.toks+1 }:=I.turned (fun b o hb e=>sb.extBut b o hb e) f0 f1 f3 f4 f5
  obtain⟨o,e,c,d⟩:=id st'
  exact⟨_,rfl,ar3 (s:={ s with heap:=h',toks:=s.toks+1 }) e c d (by decide) ⟨.str ⟨#[x.cps.toList.getD i 0]⟩,H,I1,⟨_,rfl⟩,⟨rfl,e2⟩,st',fun b hb=>(hf b hb).1⟩⟩
 done:=by
  intro X hP hw hK hc i pins s σ H E I hf st hg
  subst hP hw hK
  obtain⟨f0,f1,f2,f3,f4,f5⟩:=hf it (by simp)
  have hg':x.cps.size<=i:=hg
  exact wpAny_pyNext_ascii_end (I.ok.hd hc) st (by simpa using hg') fun h' eb=>⟨rfl,I.turned (t':=s.toks) (fun b o hb e=>eb b o hb e) f0 f1 f3 f4 f5⟩
 self:=fun _ _ _ _ _ st h=>wpAny_pyIter_striter_ascii st h
theorem aB2 {P:Program}{w:World}{K:W.Frag}{tg:Expr}(x:Str)(t:Tok)(it:Addr):Turn P w K tg (Its x) [it] it (fun i h=>h.IsStrIter it "str_iterator" x t i) where
 mem:=by simp
 obj:=fun i h st b hb=>by
  have e:b=it:=by simpa using hb
  subst e
  obtain⟨o,e,c,d⟩:=st
  exact⟨o,e,fun v z=>by rw[d]at z;cases z⟩
 keep:=fun i h h' st k=>let ⟨o,ho,r⟩:=st;⟨o,k it (by simp) o ho,r⟩
 item:=by
  intro X hP hw hK hc i pins s σ H E I hf st hg
  subst hP hw hK
  obtain⟨f0,f1,f2,f3,f4,f5⟩:=hf it (by simp)
  obtain⟨e1,e2⟩:=au6 (show i<x.length from hg)
  refine wpAny_pyNext_wide_item st e1 fun h' st' sb=>?_
  have I1:Inv X pins σ H { s with heap:=h',toks:=s.toks+1 }:=I.turned (fun b o hb e=>sb.extBut b o hb e) f0 f1 f3 f4 f5
  obtain⟨o,e,c,d⟩:=id st'
  exact⟨_,rfl,ar3 (s:={ s with heap:=h',toks:=s.toks+1 }) e c d (by decide) ⟨.str ⟨#[x.cps.toList.getD i 0]⟩,H,I1,⟨_,rfl⟩,⟨rfl,e2⟩,st',fun b hb=>(hf b hb).1⟩⟩
 done:=by
  intro X hP hw hK hc i pins s σ H E I hf st hg
  subst hP hw hK
  obtain⟨f0,f1,f2,f3,f4,f5⟩:=hf it (by simp)
  have hg':x.cps.size<=i:=hg
  exact wpAny_pyNext_wide_end (I.ok.hd hc) st (by simpa using hg') fun h' eb=>⟨rfl,I.turned (t':=s.toks) (fun b o hb e=>eb b o hb e) f0 f1 f3 f4 f5⟩
 self:=fun _ _ _ _ _ st h=>wpAny_pyIter_striter_wide st h
section
variable {X:Cx}
def bj9 (tl:TE):TI:=fun σ H R=>tl σ H fun x H1=>∃ z,x=.str z/\R (Its z) H1
theorem aI3 {tg l:Expr}{tl:TE}(hl:PE X l tl):PI X tg l (bj9 tl):=by
 intro pins s σ H R I h
 refine thn (hl pins s σ H _ I h) fun v s1 ⟨x,H1,I1,r1,q1⟩=>?_
 obtain⟨z,rfl,q⟩:=q1
 obtain⟨t,rfl⟩:=r1
 have fp:∀ b∈[s1.heap.objs.size],P1 X pins H1 b:=fun b hb=>by
  have e:b=s1.heap.objs.size:=by simpa using hb
  subst e
  exact I1.fpOk (b4 _) (I1.hok.fresh (b4 _))
 cases ha:z.cps.all (·<128)
 ·exact wpAny_pyIter_wide ha ⟨s1.heap.objs.size,[s1.heap.objs.size],_,_,H1,rfl,I1.kept (t':=s1.toks) fun b o e=>a5 _ e,aB2 z t _,⟨_,j3 _ rfl,rfl,rfl⟩,fp,q⟩
 ·exact wpAny_pyIter_ascii ha ⟨s1.heap.objs.size,[s1.heap.objs.size],_,_,H1,rfl,I1.kept (t':=s1.toks) fun b o e=>a5 _ e,aB3 z t _,⟨_,j3 _ rfl,rfl,rfl⟩,fp,q⟩
def bj2:V->Option Int->Option Int->Hp->VK->Prop:=fun v lo hi H Q=>∃ x,v=.str x/\x.length<=sizeLine/\Q (.str (Txt.slice x lo hi)) H
theorem K8:SlR X bj2:=by
 intro pins s σ H x v vl vu lo hi sl Q I rx hs pl pu h
 obtain⟨z,rfl,hz,q⟩:=h
 obtain⟨t,rfl⟩:=rx
 refine⟨"str",_,F.slot_str_getitem.lookup,typeIs_str _ _ _,?_⟩
 have fin:∀ t' k,EP X pins σ Q (.str (Txt.slice z lo hi) t') { s with toks:=k }:=fun t' k=>⟨.str _,H,I.tok _,⟨_,rfl⟩,q⟩
 have hl:(Txt.slice z lo hi).length<=sizeLine:=o7 (Txt.slice_le z _ _) hz
 cases pl with
 | none =>
  cases pu with
  | none=>exact wpAny_getItem_str_slice (l:=none) (u:=none) (st:=none) hs rfl (post_val_or_str ⟨hl,fin⟩)
  | int j uj=>exact wpAny_getItem_str_slice (l:=none) (u:=some (j,uj)) (st:=none) hs rfl (post_val_or_str ⟨hl,fin⟩)
 | int i ui =>
  cases pu with
  | none=>exact wpAny_getItem_str_slice (l:=some (i,ui)) (u:=none) (st:=none) hs rfl (post_val_or_str ⟨hl,fin⟩)
  | int j uj=>exact wpAny_getItem_str_slice (l:=some (i,ui)) (u:=some (j,uj)) (st:=none) hs rfl (post_val_or_str ⟨hl,fin⟩)
def aO2:V->List V->Hp->VK->Prop:=fun x vs H Q=>∃ a b,x=.str a/\vs=[.str b]/\Q (.bl (Txt.startswith a b)) H
theorem aD0:MtR X "str.startswith" aO2:=by
 intro pins s σ H x vs v us Q I rx rv h
 obtain⟨a,b,rfl,rfl,q⟩:=h
 obtain⟨t,rfl⟩:=rx
 obtain⟨u,rfl,t',rfl⟩:=o6.one rv
 exact SC.startswith ⟨.bl _,H,I,rfl,q⟩
theorem T7:G0 X (.type "int") (fun xs H Q=>∃ x n,xs=[.str x]/\PySem.intText? x=some n/\x.length<=640/\Q (.int n) H):=by
 intro pins s σ H xs us Q I r h
 obtain⟨x,n,rfl,hn,hl,q⟩:=h
 obtain⟨u,rfl,t,rfl⟩:=vals1 r
 exact PySem.W.KIN.call_text hn hl ⟨.int n,H,I.tok _,⟨_,rfl⟩,q⟩
end
theorem as3 {x:Str}{D:Addr}{g:TG}{tt:TT}{te:TE}{Qd:Hp->Prop}{σ0:St}{H0:Hp}(Pv:Nat->List V->St->Hp->Prop)(h0:Pv 0 [] σ0 H0)(hz:x.length<=sizeLine)(hl:∀ i xs σ H,i<=x.length->Pv i xs σ H->H D=some (.lst xs)/\xs.length<=i)
  (hs:∀ i xs c σ H (N:List V->St->Hp->Prop),(∀ xs' σ' H',Pv (i+1) xs' σ' H'->N xs' σ' H')->x.cps.toList[i]?=some c->Pv i xs σ H->g (.str ⟨#[c]⟩) σ H fun σ2 H2=>tt σ2 H2 fun b H3=>if b=true then te σ2 H3 fun v H4=>H4 D=some (.lst xs)/\N (xs++[v]) σ2 (upd H4 D (.lst (xs++[v]))) else N xs σ2 H3)
  (hd:∀ xs σ H,Pv x.length xs σ H->Qd H) :
  ∃ W:Nat->Nat->List V->St->Hp->Prop,(∃ m,W 0 m [] σ0 H0)/\∀ i m xs σ' H',W i m xs σ' H'->H' D=some (.lst xs)/\(((Its x).stop i H'/\Qd H')\/((Its x).go i H'/\xs.length<sizeLine/\∀ y H'',(Its x).yld i H' y H''->g y σ' H'' fun σ2 H2=>tt σ2 H2 fun b H3 =>
   if b=true then te σ2 H3 fun v H4=>H4 D=some (.lst xs)/\∃ m',m'<m/\W (i+1) m' (xs++[v]) σ2 (upd H4 D (.lst (xs++[v]))) else ∃ m',m'<m/\W (i+1) m' xs σ2 H3)):=by
 refine⟨fun i m xs σ H=>m=x.length - i/\i<=x.length/\Pv i xs σ H,⟨x.length,by simp,j4 _,h0⟩,?_⟩
 rintro i m xs σ H ⟨rfl,hi,p⟩
 obtain⟨hD,hx⟩:=hl i xs σ H hi p
 refine⟨hD,?_⟩
 by_cases hlt:i<x.length
 ·refine .inr ⟨hlt,by omega,fun y H'' hy=>?_⟩
  obtain⟨e,hy⟩:=hy
  subst e
  obtain⟨e1,e2⟩:=au6 hlt
  rw[e2]at hy
  cases hy
  exact hs i xs _ σ _ (fun zs σ' H'=>∃ m',m'<x.length - i/\m'=x.length - (i+1)/\i+1<=x.length/\Pv (i+1) zs σ' H') (fun zs σ' H' r=>⟨_,by omega,rfl,hlt,r⟩) (by rw[a6];exact e1) p
 ·have e:i=x.length:=by omega
  subst e
  exact .inl ⟨b4 _,hd xs σ H p⟩
theorem ap0 (x:Str):(Txt.slice x (some 1) none).cps.toList=x.cps.toList.drop 1:=by
 by_cases h:1<=x.length
 ·rw[PyProof.Rows.slice_from_eq (x:=x) (i:=1) (b:=(x.length:Int)) (by decide) (by omega) rfl]
  show ((x.cps.toList.drop 1).take ((x.length:Int) - 1).toNat)=_
  rw[i9]
  rw[n9,v8]
  omega
 ·have e:x.cps.toList=[]:=E4 (by rw[v8];omega)
  have l:(Txt.slice x (some 1) none).length<=x.length:=Txt.slice_le x _ _
  rw[e]
  exact E4 (by rw[v8];omega)
theorem U1 (a b:Str):a=b↔a.cps.toList=b.cps.toList:=⟨fun e=>by rw[e],PyProof.Rows.ext_toList⟩
theorem au3 (x:Str)(c:Nat):Txt.startswith x ⟨#[c]⟩=decide (x.cps.toList.head?=some c):=by
 unfold Txt.startswith Builtin.Str.subAt
 have hb:(x.cps.extract 0 (0+(⟨#[c]⟩:Str).length) == (⟨#[c]⟩:Str).cps)=decide (x.cps.toList.take 1=[c]):=by
  rw[A0,beq_iff_eq,decide_eq_true_iff]
  have:(x.cps.extract 0 1).toList=x.cps.toList.take 1:=by simp
  show x.cps.extract 0 1=#[c]↔_
  rw[<- this]
  constructor
  ·intro e;rw[e]
  ·intro e;exact bb5.mp e
 rw[hb]
 have hl:(⟨#[c]⟩:Str).length=1:=rfl
 rw[hl]
 have e:=v8 x
 cases h:x.cps.toList with
 | nil =>
  rw[h]at e
  have:x.length=0:=e.symm
  rw[this];rfl
 | cons a l =>
  rw[h]at e
  have:0+1<=x.length:=by rw[<- e];simp
  rw[decide_eq_true this,M8]
  simp
def D4 (x:Str):Prop:=∀ c∈x.cps.toList,c<128
theorem D3 {a b:Str}(ha:D4 a)(hb:D4 b):D4 (a++b):=by
 intro c hc
 rw[PySem.W.KT.app_list,l6]at hc
 exact hc.elim (ha c) (hb c)
theorem D1 {x:Str}(h:D4 x)(lo hi:Option Int):D4 (Txt.slice x lo hi):=by
 intro c hc
 unfold Txt.slice at hc
 split at hc
 ·exact h c hc
 ·have hc':c∈(Builtin.Str.strSliceIndices lo hi 1 x.length).filterMap (x.cps[·]?):=hc
  obtain⟨k,_,hk⟩:=J1.mp hc'
  refine h c ?_
  rw[<- a6]at hk
  exact a9 hk
theorem aA5 {n:Int}(h0:0<=n):D4 (Str.ofString (toString n)):=by
 obtain⟨m,rfl⟩:=J5 h0
 intro c hc
 rw[PySem.W.KIN.signs_num]at hc
 obtain⟨ch,hch,e⟩:=m8.mp hc
 have r:=digit_range (at6 (by decide) (by decide) hch)
 rw[<- e]
 omega
theorem ba5 {x:Str}(h:D4 x):PyData.strOk x=true:=by
 unfold PyData.strOk
 rw[Array.all_eq_true_iff_forall_mem]
 intro c hc
 have:=h c (by simpa using hc)
 exact decide_eq_true (by omega)
theorem len_app (a b:Str):(a++b).length=a.length+b.length:=by
 rw[<- v8,<- v8 a,<- v8 b,PySem.W.KT.app_list,c6]
def ba0:List Nat:=[48,49,50,51,52,53,54,55,56,57]
theorem aZ9:("0123456789":Str).cps.toList=ba0:=by decide +kernel
def isD (c:Nat):Bool:=decide (c∈ba0)
theorem ac7 (c:Nat):isD c=true↔48<=c/\c<=57:=by
 unfold isD ba0
 rw[decide_eq_true_iff]
 simp only[d7,T8,or_false]
 omega
theorem aK6 (c:Nat):(!(Builtin.Str.occurrences ("0123456789":Str) ⟨#[c]⟩ 0 ("0123456789":Str).length 1).isEmpty)=isD c:=by
 rw[PySem.StrLaws.found_one,aZ9]
 rfl
def fgL (L:List Nat):List Nat:=if L.head?=some 45 then L.drop 1 else L
def okW (m:Int)(L:List Nat):Bool:=(decide (1<=((fgL L).length:Int)) && decide (((fgL L).length:Int)<=m)) && (fgL L).all isD && (decide (L=[48]) || !decide ((fgL L).head?=some 48))
theorem aP6 {m:Int}{x:Str}(hm:m<=100)(h:okW m x.cps.toList=true):∃ n,PySem.intText? x=some n:=by
 unfold okW at h
 rw[d9,d9,d9,decide_eq_true_iff,decide_eq_true_iff]at h
 obtain⟨⟨⟨h1,h2⟩,h3⟩,_⟩:=h
 have hd:∀ cs:List Nat,cs.all isD=true->PySem.NumText.AllDigits cs:=fun cs h c hc=>(ac7 c).mp (o3.mp h c hc)
 unfold fgL at h1 h2 h3
 by_cases hh:x.cps.toList.head?=some 45
 ·rw[if_pos hh]at h1 h2 h3
  obtain⟨cs,hx⟩:∃ cs,x.cps.toList=45::cs:=by
   cases e:x.cps.toList with
   | nil=>rw[e]at hh;cases hh
   | cons a l=>rw[e]at hh;cases hh;exact⟨l,rfl⟩
  have hl:=v8 x
  rw[hx]at h1 h2 h3 hl
  refine⟨_,PySem.intText_neg hx (hd _ h3) (fun z=>?_) ?_⟩
  ·rw[z]at h1;simp at h1
  ·have:(aL7 1 (45::cs)).length=cs.length:=rfl
   rw[this]at h2
   rw[d6]at hl
   omega
 ·rw[if_neg hh]at h1 h2 h3
  refine⟨_,PySem.intText_digits (hd _ h3) (fun z=>?_) ?_⟩
  ·rw[z]at h1;simp at h1
  ·rw[v8]at h2;omega
theorem fgS (x:Str):(if Txt.startswith x ⟨#[45]⟩=true then Txt.slice x (some 1) none else x).cps.toList=fgL x.cps.toList:=by
 rw[au3]
 unfold fgL
 by_cases h:x.cps.toList.head?=some 45
 ·rw[if_pos h,if_pos (decide_eq_true h),ap0]
 ·rw[if_neg h,if_neg (by rw[decide_eq_false h];exact b6)]
theorem dtS {K:W.Frag}{H:Hp}{a:Addr}{cs:List Nat}(h:SqL K H a (cs.map fun c=>V.str ⟨#[c]⟩)):Dt K H (.list (cs.map fun c=>.str ⟨#[c]⟩)) (.ref a):=by
 refine Dt.mkL h ?_
 clear h
 induction cs with
 | nil=>exact .mkN
 | cons c cs ih=>unfold o8;exact⟨_,_,rfl,by unfold Dt;rfl,ih⟩
theorem bj6 {cs:List Nat}(h:∀ c∈cs,c<128):(PyData.list (cs.map fun c=>.str ⟨#[c]⟩)).canLay0=true:=by
 show PyData.canLayAll0 _=true
 induction cs with
 | nil=>rfl
 | cons c cs ih =>
  show (PyData.canLay0 (.str ⟨#[c]⟩) && PyData.canLayAll0 _)=true
  rw[ih fun d hd=>h d (a7 _ hd),Bool.and_true]
  exact ba5 (x:=⟨#[c]⟩) fun d hd=>by
   have:d∈[c]:=hd
   rw[i7.mp this]
   exact h c b9
theorem bk2 (cs:List Nat):PyData.eqv (.list (cs.map fun c=>.str ⟨#[c]⟩)) (.list [])=cs.isEmpty:=by
 cases cs with
 | nil=>simp[PyData.eqv,PyData.eqvAll]
 | cons c cs=>simp[PyData.eqv,PyData.eqvAll]
theorem bk3 (cs:List Nat):(PyData.list (cs.map fun c=>.str ⟨#[c]⟩)).depth<=1:=by
 show PyData.depthAll _+1<=1
 have:PyData.depthAll (cs.map fun c=>PyData.str ⟨#[c]⟩)=0:=by
  induction cs with
  | nil=>rfl
  | cons c cs ih=>show max 0 _=0;rw[ih];rfl
 rw[this]
 exact b4 _
end L2
set_option Elab.async false
set_option maxRecDepth 100000
namespace L2
open PySem PySem.Spec PyProof.Rows
section
variable (P:Program) (w:World)
end
section
variable {P:Program} {w:World} {H H':Hp} {h h':Heap} {a:Addr} {o:HO}
end
section
variable {P:Program} {w:World} {H:Hp} {h h':Heap} {x e:Addr} {o':HO}
end
section
variable {fs fs' ex ex':List Addr} {H H1 H2:Hp} {h h1 h2 h':Heap} {a x e:Addr} {o:HO}
end
section
variable {X:Cx} {pins:List (Addr × Obj)} {σ:List (Option V)} {H H':Hp} {s:Shared} {h':Heap}
end
section
variable {X:Cx}
variable {a b:Expr} {ta tb:TE} {pos:Pos}
variable {tA tB':TT} {rest:List Expr}
end
section
variable {X:Cx} {pins:List (Addr × Obj)} {σ:St} {H:Hp} {s:Shared} {a:Addr} {xs ys:List V}
end
section
variable {X:Cx} {pins:List (Addr × Obj)} {σ:St} {H:Hp} {s:Shared} {E:Value->Shared->Prop}
end
section
variable {X:Cx} {st:Stmt} {rest:List Stmt} {t u:TS} {e:Expr} {te:TE} {pos:Pos}
end
section
variable {X:Cx} {pos:Pos}
end
section
variable {X:Cx} {pos:Pos}
end
section
variable {X:Cx} {tg:Expr}
end
section
variable {X:Cx} {a b c:Expr} {ta tb tc:TE} {pos:Pos}
end
section
variable {X:Cx} {a b c:Expr} {ta tb tc:TE} {pos:Pos}
end
section
variable {prog:Program} {w:World} {A:Around} {E:Value->Shared->Prop} {s:Shared} {K:W.Frag} {x dx C f:Addr} {mA:Str->Option Value} {name:Str} {v:Value}
end
section
variable {P:Program} {w:World} {H H':Hp} {h h':Heap} {a C dx:Addr} {fs fs':List (Str × V)}
end
section
variable {X:Cx} {pins:List (Addr × Obj)} {σ:St} {H:Hp} {s:Shared} {a C dx:Addr} {fs:List (Str × V)} {f:Str} {v:V} {A:Around} {E:Value->Shared->Prop}
end
section
variable {X:Cx} {o e value:Expr} {f:Str} {pos pos' tpos:Pos} {ta tv:TE}
end
section
variable {X:Cx} {pins:List (Addr × Obj)} {σ:St} {H:Hp} {s:Shared} {A:Around} {E:Value->Shared->Prop} {Q:Value->Shared->Prop} {c:Value} {b:Bool}
end
section
variable {X:Cx} {e:Expr} {es:List Expr} {te:TE} {t:TA} {pos:Pos}
end
section
variable {X:Cx} {pins:List (Addr × Obj)} {σ:St} {H:Hp} {s s':Shared}
end
section
variable {X:Cx} {CX:CXT} {k:Nat} {f C:Addr} {fd:FuncData} {ps:List Str} {sp:Sp} {dvs:List V} {ds:List Value} {E:XK} {x m:Str} {p pos apos:Pos} {e o:Expr} {es:List Expr} {ta:TE} {t:TA}
end
section
variable {X:Cx} {CX:CXT} {k:Nat} {f C:Addr} {fd:FuncData} {ps ks:List Str} {sp:Sp} {E:XK} {x m:Str} {p pos apos kpos:Pos} {e o:Expr} {es:List Expr} {kws:List Keyword} {te ta:TE} {t tk:TA} {nm:Option Str}
variable {g:List Value->List Value->List Value} {gV:List V->List V->List V}
end
section
variable {X:Cx} {x:Str} {p pos:Pos} {e:Expr} {es:List Expr} {t:TA} {id T:String} {r:List V->Hp->VK->Prop}
end
section
variable {κ:Type} [DecidableEq κ]
end
abbrev KT (H:Hp):List (List Key × V)->List (List Key × Addr × Value)->Prop:=Paired fun p q=>p.1=q.1/\H q.2.1=some (.tup (p.1.map kV))/\RelV p.2 q.2.2
section
variable {P:Program} {w:World} {H:Hp} {h:Heap} {a:Addr}
end
section
variable {X:Cx} {pins:List (Addr × Obj)} {σ:St} {H:Hp} {s:Shared} {a:Addr} {y v:V} {u r:Value} {o:Option V} {A:Around} {E:Value->Shared->Prop}
end
section
variable {X:Cx} {pins:List (Addr × Obj)} {σ:St} {H:Hp} {s:Shared} {a:Addr} {kvs:List (Key × V)} {k:Key} {u:Value} {A:Around} {E:Value->Shared->Prop}
end
section
variable {X:Cx} {o i e value:Expr} {pos pos' tpos:Pos} {td ty tv:TE}
end
section
variable {X:Cx} {pos:Pos}
end
structure M1 (X:Cx) (o:Expr) (m:Str) (apos:Pos) (e:Expr) (cpos:Pos):Prop where
 base:attributeBase o m X.env (eval o X.env)=eval o X.env
 few:((backTo cpos (starEach [e] X.env)).all (fun x=>!x.1) && (backToKw cpos (keywordEach [] X.env)).all (fun x=>x.1.isSome)
  && decide (([e]:List Expr).length+([]:List Keyword).length+(if ([]:List Keyword).isEmpty then 0 else 1)<30))=true
 line:(apos.endLine == cpos.line)=true
 trees:backTo cpos (starEach [e] X.env)=[(false,eval e X.env)]
structure M2 (X:Cx) (o:Expr) (m:Str) (apos:Pos) (e f:Expr) (cpos:Pos):Prop where
 base:attributeBase o m X.env (eval o X.env)=eval o X.env
 few:((backTo cpos (starEach [e,f] X.env)).all (fun x=>!x.1) && (backToKw cpos (keywordEach [] X.env)).all (fun x=>x.1.isSome)
  && decide (([e,f]:List Expr).length+([]:List Keyword).length+(if ([]:List Keyword).isEmpty then 0 else 1)<30))=true
 line:(apos.endLine == cpos.line)=true
 trees:backTo cpos (starEach [e,f] X.env)=[(false,eval e X.env),(false,eval f X.env)]
section
variable {X:Cx} {pins:List (Addr × Obj)} {σ:St} {H:Hp} {s:Shared} {a:Addr} {y d:V} {u r:Value} {o:Option V} {A:Around} {E:Value->Shared->Prop}
end
section
variable {X:Cx} {o e f:Expr} {apos cpos:Pos} {td ty tx:TE}
end
section
variable {X:Cx} {pins:List (Addr × Obj)} {σ:St} {H:Hp} {s:Shared} {a:Addr} {kvs:List (Key × V)} {A:Around} {E:Value->Shared->Prop}
end
section
variable {X:Cx} {pins:List (Addr × Obj)} {σ:St} {H:Hp} {s:Shared} {a:Addr} {y:V} {u:Value} {A:Around} {E:Value->Shared->Prop}
end
end L2
namespace Att
open PySem PySem.W PySem.Calls PyProof.Rows
section
variable {prog:Program} {w:World} {A:Around} {E:Value->Shared->Prop} {s:Shared} {K:Frag}
end
end Att
namespace L2
open PySem PySem.Spec PyProof.Rows
section
variable {P:Program} {w:World} {K:W.Frag} {mg:Str->Option Value} {base:Heap}
end
section
variable {X:Cx}
end
section
variable {κ:Type} [DecidableEq κ]
end
end L2
namespace L2
open PySem PySem.Spec PyProof.Rows PySem.Builtin PySem.Builtin.Str
section
variable {X:Cx}
theorem ah6:∀ l:List (Str × Tok),o6 ((l.map (·.1)).map V.str) (strValues l)
 | []=>.nil
 | (x,t)::l=>.cons ⟨t,rfl⟩ (ah6 l)
theorem Y3:∀ {xs:List Str} {vs:List Value},o6 (xs.map V.str) vs->∃ l:List (Str × Tok),l.map (·.1)=xs/\strValues l=vs
 | [],_,.nil=>⟨[],rfl,rfl⟩
 | x::xs,_,.cons ⟨t,rfl⟩ r=>let ⟨l,h1,h2⟩:=Y3 r;⟨(x,t)::l,by rw[j8,h1],by rw[<- h2];rfl⟩
def aW9:V->List V->Hp->VK->Prop:=fun v vs H Q=>∃ a b,v=.str a/\vs=[.str b]/\(b.length == 0)=false/\a.length<=100000/\(Txt.split a b).length<=sizeLine/\∀ l,H l=none->Q (.ref l) (upd H l (.lst ((Txt.split a b).map V.str)))
theorem Q8:MtR X "str.split" aW9:=by
 intro pins s σ H v vs u us Q I rx rv h
 obtain⟨x,y,rfl,rfl,hy,hx,hn,q⟩:=h
 obtain⟨t,rfl⟩:=rx
 obtain⟨_,rfl,t',rfl⟩:=o6.one rv
 have hsz:x.length<=sizeLine:=by rw[sizeLine_eq];omega
 have fin:∀ (l:List (Str × Tok)) (k:Nat),l.map (·.1)=Txt.split x y->EP X pins σ Q (.ref s.heap.objs.size) { s with heap:=s.heap.push { cls:=.type "list",data:=.seq (strValues l).toArray },toks:=k }:=fun l k e=>by
  have hv:=ah6 l
  rw[e]at hv
  exact⟨.ref s.heap.objs.size,_,I.laid (t':=k) (fun b o e=>a5 _ e) (b4 _) (show C8 X.prog X.w _ _ _ (.lst ((Txt.split x y).map V.str)) from ⟨by rw[b5];exact hn,strValues l,0,hv,j3 _ rfl⟩),rfl,q _ (I.hok.fresh (b4 _))⟩
 cases h1:(decide (x.length<y.length) || decide (strKind x<strKind y))
 ·cases hf:(occurrences x y 0 x.length (x.length+1)).isEmpty
  ·have es:Txt.split x y=partsBetween x (occurrences x y 0 x.length (x.length+1)) y.length:=(if_neg (ne_true_of_eq_false h1)).trans (if_neg (ne_true_of_eq_false hf))
   refine call_meets F.slot_str_split (typeIs_str _ _ _) F.entry_str_split (F.args_str_split_2 _ _) (meets_str_split_sep x y t t' h1 hy hf hsz (by rw[<- es];exact hn)) ?_
   show wants _ X.xe _ { s with toks:=_,heap:=s.heap.push { cls:=.type "list",data:=.seq (strsFrom s.toks (partsBetween x (occurrences x y 0 x.length (x.length+1)) y.length)).toArray } }
   rw[strsFrom_eq]
   exact fin (numbered s.toks _) _ ((numbered_texts _ _).trans es.symm)
  ·exact call_meets F.slot_str_split (typeIs_str _ _ _) F.entry_str_split (F.args_str_split_2 _ _) (meets_str_split_not_found x y t t' h1 hy hf) (fin [(x,t)] s.toks ((if_neg (ne_true_of_eq_false h1)).trans (if_pos hf)).symm)
 ·exact call_meets F.slot_str_split (typeIs_str _ _ _) F.entry_str_split (F.args_str_split_2 _ _) (meets_str_split_cannot_occur x y t t' h1) (fin [(x,t)] s.toks (if_pos h1).symm)
def rJoin (K:W.Frag):V->List V->Hp->VK->Prop:=fun v vs H Q=>∃ (x:Str) (l:Addr) (xs:List Str),v=.str x/\vs=[.ref l]/\SqL K H l (xs.map V.str)/\JoinOk x xs=true/\Q (.str (Txt.join x xs)) H
theorem az4:MtR X "str.join" (rJoin X.K):=by
 intro pins s σ H v vs u us Q I rx rv h
 obtain⟨x,l,xs,rfl,rfl,hq,hok,q⟩:=h
 obtain⟨t,rfl⟩:=rx
 obtain⟨_,rfl,e⟩:=o6.one rv
 cases e
 obtain⟨its,r,pl,hz⟩:=I.list hq
 obtain⟨ls,e1,e2⟩:=Y3 r
 subst e2
 exact SC.join pl.isList e1 hok fun t' k=>⟨.str _,H,I.tok k,⟨_,rfl⟩,q⟩
def be6:V->List V->Hp->VK->Prop:=fun v vs H Q=>∃ (x y:Str),v=.str x/\vs=[.str y]/\(y.length == 0)=false/\x.length<=100000/\∀ l,H l=none->Q (.ref l) (upd H l (.tup [.str (Txt.partition x y).1,.str (Txt.partition x y).2.1,.str (Txt.partition x y).2.2]))
theorem aP8:MtR X "str.partition" be6:=by
 intro pins s σ H v vs u us Q I rx rv h
 obtain⟨x,y,rfl,rfl,hy,hx,q⟩:=h
 obtain⟨t,rfl⟩:=rx
 obtain⟨_,rfl,t',rfl⟩:=o6.one rv
 have hsz:x.length<=sizeLine:=by rw[sizeLine_eq];omega
 have fin:∀ (ta tb tc:Tok) (k:Nat),EP X pins σ Q (.ref s.heap.objs.size) { s with heap:=s.heap.push { cls:=.type "tuple",data:=.seq [.str (Txt.partition x y).1 ta,.str (Txt.partition x y).2.1 tb,.str (Txt.partition x y).2.2 tc].toArray },toks:=k }:=fun ta tb tc k=>by
  have hv:o6 [V.str (Txt.partition x y).1,.str (Txt.partition x y).2.1,.str (Txt.partition x y).2.2] [.str (Txt.partition x y).1 ta,.str (Txt.partition x y).2.1 tb,.str (Txt.partition x y).2.2 tc]:=.cons ⟨ta,rfl⟩ (.cons ⟨tb,rfl⟩ (.cons ⟨tc,rfl⟩ .nil))
  exact⟨.ref s.heap.objs.size,_,I.laid (t':=k) (fun b o e=>a5 _ e) (b4 _) (show C8 X.prog X.w _ _ _ (.tup _) from ⟨by show 3<=sizeLine;rw[sizeLine_eq];decide,_,hv,_,j3 _ rfl,rfl,0,rfl⟩),rfl,q _ (I.hok.fresh (b4 _))⟩
 refine call_meets F.slot_str_partition (typeIs_str _ _ _) F.entry_str_partition (F.args_str_partition_2 _ _) (meets_str_partition x y t t' hy hsz) ?_
 have h':=fin
 unfold Txt.partition at h'
 revert h'
 cases occurrences x y 0 x.length 1 with
 | nil=>intro h';exact h' _ _ _ _
 | cons i r=>intro h';exact h' _ _ _ _
end
theorem sub_len (x:Str)(i j:Nat):(strSub x i j).length<=x.length:=by
 show (x.cps.extract i j).size<=x.cps.size
 rw[u5]
 omega
theorem aN3 {x:Str}(h:D4 x)(i j:Nat):D4 (strSub x i j):=fun c hc=>h c (by
 have hc':c∈(x.cps.extract i j).toList:=hc
 rw[C6]at hc'
 exact B2 (C7 hc'))
theorem K4 {x y p:Str}(h:p∈Txt.split x y):p.length<=x.length/\(D4 x->D4 p):=by
 unfold Txt.split at h
 split at h
 ·rw[i7.mp h];exact⟨b4 _,id⟩
 ·split at h
  ·rw[i7.mp h];exact⟨b4 _,id⟩
  ·obtain⟨⟨i,j⟩,_,rfl⟩:=m8.mp h
   exact⟨sub_len x i j,fun a=>aN3 a i j⟩
theorem split_len (x y:Str):1<=(Txt.split x y).length/\(Txt.split x y).length<=x.length+2:=by
 unfold Txt.split
 split
 ·exact⟨b4 _,Nat.le_add_left _ _⟩
 ·split
  ·exact⟨b4 _,Nat.le_add_left _ _⟩
  ·rw[PyProof.Rows.len_partsBetween]
   have:=PySem.StrLaws.occ_length_le x y 0 x.length (x.length+1)
   omega
theorem aI9 (x y:Str):(Txt.partition x y).1.length<=x.length/\(Txt.partition x y).2.2.length<=x.length:=by
 unfold Txt.partition
 split
 ·exact⟨sub_len _ _ _,sub_len _ _ _⟩
 ·exact⟨b4 _,j4 _⟩
theorem aG8 {m:Nat}:∀ {xs:List Str},(∀ x∈xs,x.length<=m)->(xs.map (·.length)).sum<=xs.length*m
 | [],_=>j4 _
 | x::xs,h=>by
  have h1:=aG8 (xs:=xs) fun y hy=>h y (a7 _ hy)
  have h2:=h x b9
  rw[j8,List.sum_cons,d6,Nat.succ_mul]
  omega
theorem az8 {y:Str}{xs:List Str}{m n:Nat}(h:∀ x∈xs,x.length<=m)(hn:xs.length<=n)(hb:n*m+n*y.length<=100000):JoinOk y xs=true/\(Txt.join y xs).length<=n*m+n*y.length:=by
 have h1:=aG8 h
 have h2:xs.length*m<=n*m:=aS6 _ hn
 have h3:xs.length*y.length<=n*y.length:=aS6 _ hn
 refine⟨?_,?_⟩
 ·unfold JoinOk
  rw[StrLaws.joinTotal]
  have:tooLong ((xs.map (·.length)).sum+xs.length*y.length)=false:=by
   unfold tooLong
   rw[decide_eq_false_iff_not,sizeLine_eq]
   omega
  rw[this];rfl
 ·show (glued y xs).length<=_
  rw[StrLaws.glued_eq_join]
  exact o7 (StrLaws.join_length_le y xs) (by omega)
theorem af7 {y:Str}(hy:D4 y){xs:List Str}(h:∀ x∈xs,D4 x):D4 (Txt.join y xs):=by
 show D4 (glued y xs)
 rw[StrLaws.glued_eq_join]
 induction xs with
 | nil=>intro c hc;cases hc
 | cons x xs ih =>
  cases xs with
  | nil=>exact h x b9
  | cons z r=>exact D3 (D3 (h x b9) hy) (ih fun u hu=>h u (a7 _ hu))
theorem ab9 (a b:Str):(a++b).cps.toList=a.cps.toList++b.cps.toList:=PySem.W.KT.app_list a b
theorem aq9 (c:Nat)(a:Str):∀ r:List Str,r≠[]->(Str.join ⟨#[c]⟩ (a::r)).cps.toList=a.cps.toList++c::(Str.join ⟨#[c]⟩ r).cps.toList
 | [],h=>absurd rfl h
 | b::r,_=>by
  show (a++⟨#[c]⟩++Str.join ⟨#[c]⟩ (b::r)).cps.toList=_
  rw[ab9,ab9,m7]
  rfl
theorem ai0 {x:Str}{c:Nat}{a:Str}{r:List Str}(h:Txt.split x ⟨#[c]⟩=a::r):c∉a.cps.toList/\(∀ p∈r,c∉p.cps.toList)/\(r=[]->x=a)/\(r≠[]->x.cps.toList=a.cps.toList++c::(Str.join ⟨#[c]⟩ r).cps.toList):=by
 have hf:=StrLaws.split_free x c
 have hj:=StrLaws.join_split x ⟨#[c]⟩
 rw[h]at hf hj
 refine⟨hf a b9,fun p hp=>hf p (a7 _ hp),fun e=>?_,fun e=>?_⟩
 ·subst e;exact hj.symm
 ·rw[<- hj];exact aq9 c a r e
theorem ak2 (x:Str)(i j:Nat):(strSub x i j).cps.toList=(x.cps.toList.drop i).take (j - i):=by
 show (x.cps.extract i j).toList=_
 rw[C6]
theorem av1 {x:Str}{c:Nat}{a:Str}{r:List Str}(h:Txt.split x ⟨#[c]⟩=a::r) :
  (r=[]->Txt.partition x ⟨#[c]⟩=(x,Str.empty,Str.empty))/\(r≠[]->(Txt.partition x ⟨#[c]⟩).1=a/\(Txt.partition x ⟨#[c]⟩).2.2=Str.join ⟨#[c]⟩ r):=by
 obtain⟨h1,h2,h3,h4⟩:=ai0 h
 have hw:=StrLaws.occ_head x ⟨#[c]⟩ 1 (b4 1)
 refine⟨fun e=>?_,fun e=>?_⟩
 ·have hx:=h3 e
  subst hx
  unfold Txt.partition
  rcases hw with⟨h0,_⟩ | ⟨i,q,h0,ha,_⟩
  ·rw[h0]
  ·have:=(StrLaws.subAt_one x c i).mp ha
   exact absurd (a9 this) h1
 ·have hx:=h4 e
  have hi:∀ i,StrLaws.At x ⟨#[c]⟩ x.length i↔x.cps.toList[i]?=some c:=fun i=>StrLaws.subAt_one x c i
  have ha:x.cps.toList[a.cps.toList.length]?=some c:=by rw[hx,t9 (b4 _),an3];rfl
  unfold Txt.partition
  rcases hw with⟨h0,hn⟩ | ⟨i,q,h0,hat,hn⟩
  ·exact absurd ((hi _).mpr ha) (hn _)
  ·have e1:i=a.cps.toList.length:=by
    rcases T4 i a.cps.toList.length with z | z | z
    ·have:=(hi i).mp hat
     rw[hx,G1 z]at this
     exact absurd (a9 this) h1
    ·exact z
    ·exact absurd ((hi _).mpr ha) (hn _ z)
   rw[h0]
   subst e1
   refine⟨?_,?_⟩
   ·rw[U1]
    show (strSub x 0 _).cps.toList=_
    rw[ak2,hx,ab1,Nat.sub_zero,List.take_left]
   ·rw[U1]
    show (strSub x _ x.length).cps.toList=_
    rw[ak2]
    have e2:(⟨#[c]⟩:Str).length=1:=rfl
    have e3:x.length=a.cps.toList.length+1+(Str.join ⟨#[c]⟩ r).cps.toList.length:=by
     rw[<- v8 x,hx,c6,d6];omega
    rw[e2,hx,<- P3,List.drop_left]
    show ag4 _ (Str.join ⟨#[c]⟩ r).cps.toList=_
    rw[i9 (by omega)]
def N3 (m:Nat)(L:List Nat):Bool:=(decide (1<=L.length) && decide (L.length<=m)) && L.all isD && (!decide (L.head?=some 48) || decide (L.length=1))
theorem aK7 {L:List Nat}(h:45∉L):fgL L=L:=by
 unfold fgL
 refine if_neg fun z=>h ?_
 cases L with
 | nil=>cases z
 | cons a l=>cases z;exact b9
theorem al7 {m:Nat}{L:List Nat}(h:45∉L):okW (m:Int) L=N3 m L:=by
 unfold okW N3
 rw[aK7 h]
 have e1:decide ((1:Int)<=(L.length:Int))=decide (1<=L.length):=decide_eq_decide.mpr (by omega)
 have e2:decide ((L.length:Int)<=(m:Int))=decide (L.length<=m):=decide_eq_decide.mpr (by omega)
 rw[e1,e2]
 congr 1
 cases L with
 | nil=>rfl
 | cons a l =>
  cases l with
  | nil =>
   show (decide ([a]=[48]) || !decide (some a=some 48))=(!decide (some a=some 48) || true)
   rw[aL9]
   by_cases e:a=48
   ·subst e;rfl
   ·have h1:decide (some a=some 48)=false:=decide_eq_false (fun z=>e (Option.some.inj z))
    rw[h1,ax1,aL9]
  | cons b l =>
   have h1:decide (a::b::l=[48])=false:=decide_eq_false (fun z=>by cases z)
   have h2:decide ((a::b::l).length=1)=false:=decide_eq_false (fun z=>by simp at z)
   rw[h1,h2,Bool.false_or,aF3]
theorem aR1 {m:Nat}{L:List Nat}(h:N3 m L=true):1<=L.length/\L.length<=m/\PySem.NumText.AllDigits L:=by
 unfold N3 at h
 rw[d9,d9,d9,decide_eq_true_iff,decide_eq_true_iff]at h
 exact⟨h.1.1.1,h.1.1.2,fun c hc=>(ac7 c).mp (o3.mp h.1.2 c hc)⟩
def L0 (L:List Nat):Nat:=PySem.NumText.digitsVal L
theorem ac9 {m:Nat}{x:Str}(h:N3 m x.cps.toList=true)(hm:m<=100):PySem.intText? x=some (L0 x.cps.toList:Int):=by
 obtain⟨h1,h2,h3⟩:=aR1 h
 exact PySem.intText_digits h3 (fun z=>by rw[z]at h1;exact absurd h1 (by decide)) (by rw[<- v8];omega)
theorem dash:("-":Str)=⟨#[45]⟩:=by decide +kernel
def D8 (x:Str):Option (Nat × Nat):=match Txt.split x "-" with
 | [a,b]=>if (N3 2 a.cps.toList && N3 2 b.cps.toList && decide (L0 a.cps.toList<L0 b.cps.toList))=true then some (L0 a.cps.toList,L0 b.cps.toList) else none
 | _=>none
theorem aY1 (m:Int):okW m []=false:=by
 unfold okW fgL
 simp
theorem aM8 (x:Str):(okW 2 (Txt.partition x "-").1.cps.toList=false->D8 x=none)/\(okW 2 (Txt.partition x "-").2.2.cps.toList=false->D8 x=none) /\
  (okW 2 (Txt.partition x "-").1.cps.toList = true -> okW 2 (Txt.partition x "-").2.2.cps.toList = true -> ∀ i j : Int, PySem.intText? (Txt.partition x "-").1 = some i -> PySem.intText? (Txt.partition x "-").2.2 = some j ->
   (i≥j->D8 x=none)/\(i<j->∃ a b:Nat,D8 x=some (a,b)/\i=a/\j=b)):=by
 unfold D8
 rw[dash]
 cases e:Txt.split x ⟨#[45]⟩ with
 | nil=>exact absurd (split_len x ⟨#[45]⟩).1 (by rw[e];decide)
 | cons a r =>
  obtain⟨p1,p2⟩:=av1 e
  obtain⟨f1,f2,_,_⟩:=ai0 e
  cases r with
  | nil =>
   rw[p1 rfl]
   refine⟨fun _=>rfl,fun _=>rfl,fun _ h=>?_⟩
   exact absurd ((aY1 2).symm.trans h) (by decide)
  | cons b r =>
   obtain⟨q1,q2⟩:=p2 (by simp)
   rw[q1,q2]
   cases r with
   | nil =>
    have fb:45∉b.cps.toList:=f2 b b9
    show (okW ((2:Nat):Int) a.cps.toList=false->_)/\(okW ((2:Nat):Int) b.cps.toList=false->_)/\(okW ((2:Nat):Int) a.cps.toList=true->okW ((2:Nat):Int) b.cps.toList=true->∀ i j:Int,PySem.intText? a=some i->PySem.intText? b=some j->_)
    rw[al7 f1,al7 fb]
    refine⟨fun h=>?_,fun h=>?_,fun h1 h2 i j hi hj=>?_⟩
    ·simp[h]
    ·simp[h]
    ·rw[ac9 h1 (by decide)]at hi
     rw[ac9 h2 (by decide)]at hj
     cases hi
     cases hj
     simp only[h1,h2,M8]
     refine⟨fun h=>if_neg ?_,fun h=>⟨_,_,if_pos ?_,rfl,rfl⟩⟩
     ·rw[decide_eq_true_iff];omega
     ·rw[decide_eq_true_iff];omega
   | cons c r =>
    refine⟨fun _=>rfl,fun _=>rfl,fun h1 h2 i j hi hj=>⟨fun _=>rfl,fun hlt=>?_⟩⟩
    exfalso
    have h1':okW ((2:Nat):Int) a.cps.toList=true:=h1
    rw[al7 f1]at h1'
    rw[ac9 h1' (by decide)]at hi
    cases hi
    have hj2:(Str.join ⟨#[45]⟩ (b::c::r)).cps.toList=b.cps.toList++45::(Str.join ⟨#[45]⟩ (c::r)).cps.toList:=aq9 45 b (c::r) (by simp)
    have hmem:45∈(Str.join ⟨#[45]⟩ (b::c::r)).cps.toList:=by rw[hj2];simp
    generalize Str.join ⟨#[45]⟩ (b::c::r)=y at h2 hj hmem
    unfold okW at h2
    rw[d9,d9,d9,decide_eq_true_iff,decide_eq_true_iff]at h2
    obtain⟨⟨⟨k1,k2⟩,k3⟩,_⟩:=h2
    by_cases hh:y.cps.toList.head?=some 45
    ·obtain⟨cs,hx⟩:∃ cs,y.cps.toList=45::cs:=by
      cases e:y.cps.toList with
      | nil=>rw[e]at hh;cases hh
      | cons a l=>rw[e]at hh;cases hh;exact⟨l,rfl⟩
     have ef:fgL y.cps.toList=cs:=by unfold fgL;rw[if_pos hh,hx];rfl
     rw[ef]at k1 k2 k3
     have:=PySem.intText_neg hx (fun c hc=>(ac7 c).mp (o3.mp k3 c hc)) (fun z=>by rw[z]at k1;exact absurd k1 (by decide)) (by rw[<- v8,hx,d6];omega)
     rw[this]at hj
     cases hj
     omega
    ·have ef:fgL y.cps.toList=y.cps.toList:=by unfold fgL;rw[if_neg hh]
     rw[ef]at k3
     have:=(ac7 45).mp (o3.mp k3 45 hmem)
     omega
end L2
namespace Web
open PySem L2
def P0 (i m:Nat):List (List Int):=(A6 m).map fun(d:Nat)=>([(i:Int),(i:Int)+1+(d:Int)]:List Int)
def J7 (n:Nat):List (List Int):=(A6 n).flatMap fun i=>P0 i (n - (i+1))
def Up (n:Nat)(k:List Int):Prop:=∃ i j:Nat,i<j/\j<n/\k=[(i:Int),(j:Int)]
theorem aD2 {n:Nat}{k:List Int}(h:k∈J7 n):Up n k:=by
 unfold J7 at h
 obtain⟨i,hi,hk⟩:=List.mem_flatMap.mp h
 unfold P0 at hk
 obtain⟨d,hd,rfl⟩:=m8.mp hk
 rw[B5]at hi hd
 exact⟨i,i+1+d,by omega,by omega,by simp⟩
def Asc (ks:List (List Int)):Prop:=ks.Pairwise fun a b=>Tim.B3 a b=true
theorem aR8 (i m:Nat):Asc (P0 i m):=by
 unfold Asc P0
 rw[K3]
 refine List.Pairwise.imp ?_ V4
 intro a b hab
 unfold Tim.B3
 rw[if_pos rfl]
 unfold Tim.B3
 rw[if_neg (by omega)]
 exact decide_eq_true (by omega)
theorem aE9 (n:Nat):Asc (J7 n):=by
 unfold Asc J7
 rw[List.pairwise_flatMap]
 refine⟨fun i _=>aR8 i _,?_⟩
 refine List.Pairwise.imp ?_ V4
 intro a b hab x hx y hy
 unfold P0 at hx hy
 obtain⟨d,hd,rfl⟩:=m8.mp hx
 obtain⟨e,he,rfl⟩:=m8.mp hy
 unfold Tim.B3
 rw[if_neg (by omega)]
 exact decide_eq_true (by omega)
theorem aD5:∀ n:Nat,n<=24->(J7 n).length<=276:=by decide +kernel
theorem ae8 (n i:Nat):((A6 (i+1)).flatMap fun j=>P0 j (n - (j+1)))=((A6 i).flatMap fun j=>P0 j (n - (j+1)))++P0 i (n - (i+1)):=by
 rw[List.range_succ,aS7]
 simp
theorem aC1 (i m:Nat):P0 i (m+1)=P0 i m++[[(i:Int),(i:Int)+1+(m:Int)]]:=by
 unfold P0
 rw[List.range_succ,g7]
 rfl
theorem aK0 (n:Nat):∀ i:Nat,i<=n->((A6 i).flatMap fun j=>P0 j (n - (j+1))).length<=(J7 n).length:=by
 intro i hi
 unfold J7
 obtain⟨d,rfl⟩:=Nat.exists_eq_add_of_le hi
 rw[List.range_add,aS7,c6]
 omega
theorem aF0 {ks:List (List Int)}(h:Asc ks):ks.Nodup:=by
 refine List.Pairwise.imp ?_ h
 intro a b hab e
 subst e
 rw[Tim.Q9]at hab
 cases hab
theorem aR7 {ks ls:List (List Int)}(h:ks.Sublist ls)(a:Asc ls):Asc ks:=List.Pairwise.sublist h a
theorem as8:∀ {ks ls:List (List Int)},Asc ks->ls.Perm ks->ls.Pairwise (fun a b=>Tim.B3 b a=false)->ls=ks
 | [],ls,_,p,_=>p.eq_nil
 | k::ks,[],_,p,_=>by
  have:=p.length_eq
  simp at this
 | k::ks,l::ls,h,p,q=>by
  have hkl:l=k:=by
   have h1:l∈k::ks:=p.mem_iff.mp b9
   have h2:k∈l::ls:=p.mem_iff.mpr b9
   rcases d7.mp h1 with e | e
   ·exact e
   ·rcases d7.mp h2 with e2 | e2
    ·exact e2.symm
    ·have a1:=(E9.mp h).1 l e
     have a2:=(E9.mp q).1 k e2
     rw[a1]at a2
     cases a2
  subst hkl
  rw[as8 (E9.mp h).2 ((List.perm_cons _).mp p) (E9.mp q).2]
def up:List Int->List Int
 | [a,b]=>[if b<a then b else a,if b > a then b else a]
 | k=>k
theorem bc5 {n:Nat}{k:List Int}(h:Up n k):up k=k:=by
 obtain⟨i,j,h1,h2,rfl⟩:=h
 show [if (j:Int)<i then (j:Int) else i,if (j:Int) > i then (j:Int) else i]=_
 rw[if_neg (by omega),if_pos (by omega)]
theorem Up.key {n:Nat}{k:List Int}(h:Up n k)(hn:n<=24):Sett.ab0 k:=by
 obtain⟨i,j,h1,h2,rfl⟩:=h
 exact⟨i,j,by omega,by omega,rfl⟩
theorem Up.len {n:Nat}{k:List Int}(h:Up n k):k.length=2:=by
 obtain⟨i,j,h1,h2,rfl⟩:=h
 rfl
def X5 (n:Nat)(k:List Int):Prop:=∃ i j:Nat,i<n/\j<n/\i≠j/\k=[(i:Int),(j:Int)]
theorem X5.up {n:Nat}{k:List Int}(h:X5 n k):Up n (up k):=by
 obtain⟨i,j,h1,h2,h3,rfl⟩:=h
 show Up n [if (j:Int)<i then (j:Int) else i,if (j:Int) > i then (j:Int) else i]
 by_cases h:i<j
 ·rw[if_neg (by omega),if_pos (by omega)]
  exact⟨i,j,h,h2,rfl⟩
 ·rw[if_pos (by omega),if_neg (by omega)]
  exact⟨j,i,by omega,h1,rfl⟩
theorem Up.ends {n:Nat}{k:List Int}(h:Up n k):X5 n k:=by
 obtain⟨i,j,h1,h2,rfl⟩:=h
 exact⟨i,j,by omega,h2,by omega,rfl⟩
end Web
namespace L2
open PySem PySem.Spec PyProof.Rows
section
variable {prog:Program} {w:World} {A:Around} {E:Value->Shared->Prop} {s:Shared}
end
section
variable {X:Cx} {pins:List (Addr × Obj)} {σ:St} {H:Hp} {s:Shared} {A:Around} {E:Value->Shared->Prop}
theorem Inv.turn {h':Heap}{t':Nat}{it:Addr}(I:Inv X pins σ H s)(f:P1 X pins H it)(k:∀ b o,b≠it->s.heap.get? b=some o->h'.get? b=some o):Inv X pins σ H { s with heap:=h',toks:=t' }:=
 I.turned k f.1 f.2.1 f.2.2.2.1 f.2.2.2.2.1 f.2.2.2.2.2
end
section
variable {X:Cx} {pins:List (Addr × Obj)} {σ:St} {H:Hp} {s:Shared} {A:Around} {E:Value->Shared->Prop}
end
section
variable {X:Cx} {pins:List (Addr × Obj)} {σ:St} {H:Hp} {s:Shared} {A:Around} {E:Value->Shared->Prop}
end
section
variable {X:Cx} {pins:List (Addr × Obj)} {σ:St} {H:Hp} {s:Shared} {A:Around}
end
structure bl3 (base:Heap) (mg:Str->Option Value) (c P:Addr):Prop where
 hd:PySem.W.CodeHd base c P
 blt:base.BuiltinsAt mg P
 ne:mainGlobals≠P
section
variable {X:Cx}
end
section
variable {X:Cx}
end
section
variable {X:Cx}
theorem aL2 {prog:Program}{w:World}{A:Around}{E:Value->Shared->Prop}{s:Shared}{l:Addr}{items:Array Value}{n:Nat}{x:Int}{t:Tok}{u:Value}{Q:Value->Shared->Prop}(e:s.heap.get? l=some { cls:=.type "list",data:=.seq items n })(hsz:items.size<=sizeLine)(h0:-(2 ^ 63)<=x)(h1:x<2 ^ 63)
  (h:Q .none { s with heap:=s.heap.update l (Obj.mapSeq fun xs=>have k:=if x<0 then (x+(xs.size:Int)).toNat else min x.toNat xs.size;(xs.extract 0 k).push u++xs.extract k),toks:=s.toks }) :
  wpAny (model prog w) A (call (.builtin "list.insert") [.ref l,.int x t,u]) Q E s :=
 call_meets F.slot_list_insert ⟨_,e,rfl⟩ F.entry_list_insert (F.args_list_insert_3 _ _ _) (PySem.AutoSeq1.list_insert_list_int_val_1 l items n x t u (by rw[show Builtin.List.listFitsIndex x=true from fitsIndex_both h0 h1];decide) hsz) ⟨e,h⟩
def aO3:V->List V->Hp->VK->Prop:=fun x vs H Q=>∃ l xs y,∃ i:Nat,x=.ref l/\vs=[.int i,y]/\H l=some (.lst xs)/\i<=xs.length/\xs.length<1000/\Q .non (upd H l (.lst (xs.take i++[y]++xs.drop i)))
theorem aD1:MtM X "list.insert" aO3:=by
 intro pins s σ H x vs v us Q I rx rv h
 obtain⟨l,xs,y,i,rfl,rfl,hH,hi,hz0,q⟩:=h
 cases rx
 cases rv with
 | cons r1 rr =>
  cases rr with
  | cons ru rr =>
   cases rr
   obtain⟨t,rfl⟩:=r1
   rename_i u
   obtain⟨z,its,n,r,hl,e⟩:=I.lstM hH
   have hsl:1000<sizeLine:=by decide
   have hsz:its.toArray.size<=sizeLine:=by rw[d3];omega
   refine aL2 (x:=(i:Int)) e hsz (Int.le_trans (show (-(2 ^ 63):Int)<=0 by decide) (Int.natCast_nonneg i)) (Int.lt_trans (show (i:Int)<1000 by omega) (by decide)) ?_
   refine⟨.non,_,I.lset (its':=its.take i++[u]++its.drop i) hH e ?_ ((r.take i).append (.cons ru .nil) |>.append (r.drop i)) ?_,rfl,q⟩
   ·have hk:(if (i:Int)<0 then ((i:Int)+(its.toArray.size:Int)).toNat else min (i:Int).toNat its.toArray.size)=i:=by
     rw[if_neg (by omega),d3,S7]
     omega
    show ((its.toArray.extract 0 (if (i:Int)<0 then ((i:Int)+(its.toArray.size:Int)).toNat else min (i:Int).toNat its.toArray.size)).push u++its.toArray.extract (if (i:Int)<0 then ((i:Int)+(its.toArray.size:Int)).toNat else min (i:Int).toNat its.toArray.size))=_
    rw[hk]
    apply bb5.mp
    simp
    exact i9 (by rw[n9];omega)
   ·rw[c6,c6,k9,n9,X8]
    omega
end
end L2
namespace L2
open PySem PySem.Spec PyProof.Rows PySem.SeqAt
theorem ax6:∀ {bs:List Bool} {its:List Value},o6 (bs.map V.bl) its->its=bs.map Value.bool
 | [],_,.nil=>rfl
 | b::bs,_,.cons r t=>by rw[ax6 t,show _=Value.bool b from r];rfl
section
variable {X:Cx}
end
theorem ac1 {X:Cx}{a b:Expr}{pos:Pos}{ta tb:TE}(K:W.Frag)(hK:X.K=K)(ha:PE X a ta)(hb:PE X b tb)(hs:aA7 b):PE X (.Subscript a b pos) (tOp (rIx K) ta tb):=by
 cases hK
 exact B4 aZ6 ha hb hs
end L2
namespace L2
open PySem PySem.Spec PyProof.Rows
section
variable {X:Cx} {pins:List (Addr × Obj)} {σ:St} {H:Hp} {s:Shared} {A:Around} {E:Value->Shared->Prop}
end
section
variable {X:Cx}
end
section
variable {prog:Program} {w:World} {A:Around} {E:Value->Shared->Prop} {s:Shared}
end
section
variable {prog:Program} {w:World} {A:Around} {E:Value->Shared->Prop} {s:Shared}
end
section
variable {X:Cx}
end
section
variable {X:Cx}
theorem bf1 {tg it:Expr}{w1 w2:TI}(h1:PI X tg it w1)(h2:PI X tg it w2):PI X tg it (fun σ H R=>w1 σ H R\/w2 σ H R):=
 fun pins s σ H R I h=>h.elim (h1 pins s σ H R I) (h2 pins s σ H R I)
end
theorem aO7 {X:Cx}(K:W.Frag)(hK:X.K=K){es:List Expr}{k:Nat}{pos:Pos}{t:TGs}{n:Nat}(hc:X.calm=true)(h:PGs X es t)
  (hn:(assignEach es X.env).length=n:=by rfl)(hst:(assignEach es X.env).findIdx? (·.1)=none:=by rfl):PG X (.Tuple es k pos) (bg6 K n t):=by
 subst hK
 exact aI4 hc h hn hst
theorem aE5 {K:W.Frag} {a:Addr} {ys:List V} {g:TG} {tt:TT} {te:TE} {Qd:Addr->Hp->Prop} {σ0:St} {H:Hp} (hS:SqL K H a ys\/SqT K H a ys) (hz:ys.length<=sizeLine)
  (Pv:Addr->Nat->List V->St->Hp->Prop) (h0:∀ D,H D=none->Pv D 0 [] σ0 (upd H D (.lst []))) (hl:∀ D i xs σ H',H D=none->i<=ys.length->Pv D i xs σ H'->n4 H H'/\H' D=some (.lst xs)/\xs.length<=i)
  (hs:∀ D i xs x σ H' (N:List V->St->Hp->Prop),H D=none->(∀ xs' σ' H'',Pv D (i+1) xs' σ' H''->N xs' σ' H'')->ys[i]?=some x->Pv D i xs σ H'->g x σ H' fun σ2 H2=>tt σ2 H2 fun b H3=>if b=true then te σ2 H3 fun v H4=>H4 D=some (.lst xs)/\N (xs++[v]) σ2 (upd H4 D (.lst (xs++[v]))) else N xs σ2 H3)
  (hd:∀ D xs σ H',H D=none->Pv D ys.length xs σ H'->Qd D H') :
  (∃ b, V.ref a = V.ref b /\ (∃ xs, SqL K H b xs) /\ ∀ D, H D = none -> ∃ W : Nat -> Nat -> List V -> St -> Hp -> Prop, (∃ m, W 0 m [] σ0 (upd H D (.lst []))) /\ ∀ i m xs σ' H', W i m xs σ' H' -> H' D = some (.lst xs) /\ (((Itl K b).stop i H' /\ Qd D H') \/ ((Itl K b).go i H' /\ xs.length < sizeLine /\ ∀ x H'', (Itl K b).yld i H' x H'' -> g x σ' H'' fun σ2 H2 => tt σ2 H2 fun b H3 =>
   if b=true then te σ2 H3 fun v H4=>H4 D=some (.lst xs)/\∃ m',m'<m/\W (i+1) m' (xs++[v]) σ2 (upd H4 D (.lst (xs++[v]))) else ∃ m',m'<m/\W (i+1) m' xs σ2 H3))) \/
  (∃ b, V.ref a = V.ref b /\ (∃ xs, SqT K H b xs) /\ ∀ D, H D = none -> ∃ W : Nat -> Nat -> List V -> St -> Hp -> Prop, (∃ m, W 0 m [] σ0 (upd H D (.lst []))) /\ ∀ i m xs σ' H', W i m xs σ' H' -> H' D = some (.lst xs) /\ (((Itt K b).stop i H' /\ Qd D H') \/ ((Itt K b).go i H' /\ xs.length < sizeLine /\ ∀ x H'', (Itt K b).yld i H' x H'' -> g x σ' H'' fun σ2 H2 => tt σ2 H2 fun b H3 =>
   if b=true then te σ2 H3 fun v H4=>H4 D=some (.lst xs)/\∃ m',m'<m/\W (i+1) m' (xs++[v]) σ2 (upd H4 D (.lst (xs++[v]))) else ∃ m',m'<m/\W (i+1) m' xs σ2 H3))):=by
 rcases hS with hS | hS
 ·exact .inl ⟨a,rfl,⟨_,hS⟩,fun D hD=>Z5 (K:=K) (a:=a) (ys:=ys) (Pv D) (h0 D hD) hz (fun i xs σ H' hi p=>let ⟨s,g,l⟩:=hl D i xs σ H' hD hi p;⟨s.seq hS,g,l⟩) (fun i xs x σ H' N kN hx p=>hs D i xs x σ H' N hD kN hx p) (fun xs σ H' p=>hd D xs σ H' hD p)⟩
 ·exact .inr ⟨a,rfl,⟨_,hS⟩,fun D hD=>as2 (K:=K) (a:=a) (ys:=ys) (Pv D) (h0 D hD) hz (fun i xs σ H' hi p=>let ⟨s,g,l⟩:=hl D i xs σ H' hD hi p;⟨s.seqT hS,g,l⟩) (fun i xs x σ H' N kN hx p=>hs D i xs x σ H' N hD kN hx p) (fun xs σ H' p=>hd D xs σ H' hD p)⟩
section
variable {X:Cx}
end
section
variable {X:Cx}
end
section
variable {X:Cx}
end
section
variable {X:Cx}
end
end L2
namespace L2
open PySem PySem.Spec PyProof.Rows PySem.SeqAt
section
variable {prog:Program} {w:World} {A:Around} {E:Value->Shared->Prop} {s:Shared}
end
section
variable {prog:Program} {w:World} {A:Around} {E:Value->Shared->Prop} {s:Shared}
end
section
variable {X:Cx}
end
section
variable {X:Cx}
theorem aE8 {bs:List Bool}{i:Nat}{v:Value}(h:(bs.map Value.bool)[i]?=some v):v=.bool (bs.getD i false):=by
 rw[l9]at h
 cases e:bs[i]? with
 | none=>rw[e]at h;cases h
 | some b=>rw[e]at h;cases h;rw[u4,e];rfl
theorem all_range (bs:List Bool):((A6 bs.length).all fun i=>bs.getD i false)=bs.all id:=by
 rw[A0,o3,o3]
 constructor
 ·intro h b hb
  obtain⟨i,hi,rfl⟩:=List.mem_iff_getElem.mp hb
  have:=h i (B5.mpr hi)
  rw[u4,c5 hi]at this
  exact this
 ·intro h i hi
  have hi:=B5.mp hi
  rw[u4,c5 hi]
  exact h _ (u9 hi)
theorem boot_all:bootBuiltins "all"=some (.builtin "all"):=by decide +kernel
theorem aE7 (hc:X.calm=true):G0 X (.builtin "all") (fun xs H Q=>∃ (l:Addr) (bs:List Bool),xs=[.ref l]/\H l=some (.lst (bs.map V.bl))/\Q (.bl (bs.all id)) H):=by
 intro pins s σ H xs us Q I r h
 obtain⟨l,bs,rfl,hH,q⟩:=h
 obtain⟨u,rfl,rx⟩:=vals1 r
 cases rx
 obtain⟨z,its,n,r,hl,e⟩:=I.lstM hH
 obtain rfl:=ax6 r
 have hl1:s.heap.IsList l (bs.map Value.bool).toArray:=⟨_,e,rfl,_,rfl⟩
 refine call_all_walkS (wpAny_pyIter_list hl1 ?_)
 have hlt:l<s.heap.objs.size:=c3 e
 have hh:X.A.in1.handled=none:=by simp[I.ok.hd hc]
 refine⟨_,_,_,_,_,_,_,fun i=>bs.getD i false,rfl,(Walks.list hh _ l (f9 hlt) (bs.map Value.bool).toArray).toS,⟨⟨_,j3 _ rfl,rfl,rfl⟩,hl1.push _⟩,?_,fun s' hm=>?_⟩
 ·intro i v s Q E hv hq
  have:=aE8 (bs:=bs) (i:=i) (v:=v) (by simpa using hv)
  subst this
  exact wpAny_pure hq
 ·refine⟨.bl (bs.all id),H,?_,?_,q⟩
  ·rw[Moved.eq_with hm]
   exact I.kept (t':=s'.toks) fun b o eo=>hm.heap b o (fun hb=>absurd (c3 eo) (by rw[i7.mp hb];exact p6 _)) (a5 _ eo)
  ·show _=Value.bool (bs.all id)
   rw[<- all_range]
   simp
end
section
variable {prog:Program} {w:World} {A:Around} {E:Value->Shared->Prop} {s:Shared}
end
section
variable {X:Cx}
end
end L2
namespace L2
open PySem PySem.Spec PyProof.Rows
section
variable {X:Cx}
theorem aE6 {elt iter tg:Expr} {ifs:List Expr} {scope:Scope} {pos ipos:Pos} {cl:List (Str × Addr)} {N':List Str} {lk:List (Option Nat)} {wi:TI} {g:TG} {tt:TT} {te:TE} {use:Option (Value->Sem Unit)} {R:Value->Shared->Prop} {Q:VK} {pins:List (Addr × Obj)} {s:Shared} {σ:St} {H:Hp}
  (hc:X.calm=true) (hi:PI X tg iter wi) (hclos:closureFor scope X.env=pure cl) (hkind:scope.kind=.function)
  (hnames:∀ y∈scope.names,y.2=.local->scope.names.lookup y.1=some .local) (hcl:an0 X.env cl) (hfr:am7 scope.names cl=true) (hlk:aF2 X N' lk scope cl)
  (hg:∀ s3 H3 fp,PG (n5 X scope cl N' s3 H3 fp fun _ _=>False) tg g) (ht:∀ s3 H3 fp,PTs (n5 X scope cl N' s3 H3 fp fun _ _=>False) ifs tt) (he:∀ s3 H3 fp,PE (n5 X scope cl N' s3 H3 fp fun _ _=>False) elt te)
  (hs:∀ x,foldedSetIterable iter X.env x=pure x) (I:Inv X pins σ H s) (h:ax9 wi lk g tt te σ H Q)
  (hend : ∀ (C D : Addr) (s' : Shared) (H' : Hp), Inv X pins σ H' s' -> Q (.ref D) H' -> H' C = none -> C ≠ X.env.locals -> X.s₀.heap.objs.size <= C -> (∀ x c, X.env.cells.lookup x = some c -> c ≠ C) -> (∀ p ∈ X.pn ++ pins, p.1 ≠ C) -> (∃ m, s'.heap.Ns C m) ->
   compPost (model X.prog X.w) X.A X.xe use R (.ref D) C (.ok .next) s') :
  wpAny (model X.prog X.w) X.A (comprehension (.ListComp elt [⟨tg,iter,ifs,0⟩] scope pos) scope X.env ipos (newList []) false (eval iter X.env) use) R X.xe s:=by
 have hcellN:∀ y∈scope.names,y.2≠.cell:=fun y hy=>by
  unfold am7 at hfr
  rw[o3]at hfr
  have:=hfr y hy
  rw[d9]at this
  simpa using this.1
 refine wpAny_comprehension_free (use:=use) rfl hs hclos hkind hnames (thn (hi pins s σ H _ I h) fun v s1 h1=>thn h1 fun itv s2 h2=>?_)
 obtain⟨it,fp,tn,J,H2,e,I2,T,st2,f2,q⟩:=h2
 subst e
 refine wpAny_newList ?_ (j4 _)
 have hD:H2 s2.heap.objs.size=none:=I2.hok.fresh (b4 _)
 have I3:=I2.lnew (ys:=[]) (its:=[]) (t':=s2.toks) .nil (j4 _)
 obtain⟨W,⟨m0,w0⟩,turn⟩:=q s2.heap.objs.size hD
 have fpl:∀ b∈fp,b<s2.heap.objs.size:=fun b hb=>by
  obtain⟨o,ho,_⟩:=T.obj 0 s2.heap st2 b hb
  exact c3 ho
 refine wpAny_newFunctionEnv hcellN (by intro y hy;cases hy) (fun h1 hns1 hsb1=>?_) hkind
 dsimp only at hns1 hsb1 ⊢
 have e3:s2.heap.push { cls:=.type "list",dict:=none,data:=.seq ([]:List Value).toArray }=s2.heap.push { cls:=.type "list",data:=.seq ([]:List Value).toArray }:=rfl
 generalize hh3:s2.heap.push { cls:=.type "list",dict:=none,data:=.seq ([]:List Value).toArray }=h3 at *
 have I3':Inv X pins σ (upd H2 s2.heap.objs.size (.lst [])) { s2 with heap:=h3,toks:=s2.toks }:=I3
 have size3:h3.objs.size=s2.heap.objs.size+1:=by rw[<- hh3,G3]
 have f3:∀ b∈fp,P1 X pins (upd H2 s2.heap.objs.size (.lst [])) b:=fun b hb=>by
  obtain⟨f0,fr⟩:=f2 b hb
  exact⟨by rw[q8 (f9 (fpl b hb))];exact f0,fr⟩
 have up:∀ b u,h3.get? b=some u->h1.get? b=some u:=fun b u eb=>by
  rw[hsb1.2 b (f9 (c3 eb))]
  exact a5 _ eb
 have I4:Inv (n5 X scope cl N' { s2 with heap:=h3,toks:=s2.toks } (upd H2 s2.heap.objs.size (.lst [])) fp fun _ _=>False) [] (ab5 lk σ) (upd H2 s2.heap.objs.size (.lst [])) { s2 with heap:=h1,toks:=s2.toks+([]:List (Str × Value)).length }:=
  V1 (s3:={ s2 with heap:=h3,toks:=s2.toks }) I3' f3 hkind hcl hfr hlk hns1 up fun b hb=>by show b<h3.objs.size;rw[size3];exact v7 (fpl b hb)
 have st4:tn 0 h1:=T.keep 0 s2.heap h1 st2 fun b hb o eb=>up b o (by rw[<- hh3];exact a5 _ eb)
 have hCs:h3.objs.size=(compEnvC scope cl h3.objs.size X.env).locals:=rfl
 have stat:∀ {H':Hp},(∀ b∈fp,H' b=none)->∀ b∈fp,P1 (n5 X scope cl N' { s2 with heap:=h3,toks:=s2.toks } (upd H2 s2.heap.objs.size (.lst [])) fp fun _ _=>False) [] H' b:=fun {H'} hn b hb=>by
  obtain⟨f0,f1,f2',f3',f4,f5⟩:=f3 b hb
  refine⟨hn b hb,?_,fun z=>?_,.inl hb,fun x c ex=>f4 x c (hcl.get ex),fun p hp=>nomatch hp⟩
  ·show b≠h3.objs.size
   rw[size3]
   exact f9 (v7 (fpl b hb))
  ·rcases d7.mp (I3'.stkSub b z) with q | q
   ·exact f1 q
   ·exact f2' q
 have fin:∀ (s':Shared) (σ':St) (H':Hp),Inv (n5 X scope cl N' { s2 with heap:=h3,toks:=s2.toks } (upd H2 s2.heap.objs.size (.lst [])) fp fun _ _=>False) [] σ' H' s'->Q (.ref s2.heap.objs.size) H' ->
   compPost (model X.prog X.w) X.A X.xe use R (.ref s2.heap.objs.size) h3.objs.size (.ok .next) s':=fun s' σ' H' I' q'=>by
  obtain⟨m,hm,_⟩:=id I'.loc
  have I5:Inv X pins σ H' s':=I3'.call' (ch:=fp) I'.os I'.base I'.hok I'.bare fun b hb=>by
   obtain⟨f0,f1,f2',f3',f4,f5⟩:=f3 b hb
   exact⟨f3',f1,f4,f5⟩
  exact hend h3.objs.size s2.heap.objs.size s' H' I5 q' I'.free (Y2 I3'.lt) I3'.sz (fun x c ex z=>by
   obtain⟨v',q2⟩:=I3'.cell x c ex
   exact absurd q2.lt (by rw[z];exact p6 _)) (fun p hp z=>absurd (c3 (I3'.pin p hp).1) (by rw[z];exact p6 _)) ⟨m,hm⟩
 have loop:∀ s5:Shared,s5={ s2 with heap:=h1,toks:=s2.toks+([]:List (Str × Value)).length } ->
   codeAny (model X.prog X.w) X.A (.compLoop (.ListComp elt [⟨tg,iter,ifs,0⟩] scope pos) 0 (.ref it) (.ref s2.heap.objs.size) (compEnvC scope cl h3.objs.size X.env)) (compPost (model X.prog X.w) X.A X.xe use R (.ref s2.heap.objs.size) h3.objs.size) s5:=by
  rintro s5 rfl
  refine codeAny_loop rfl (fun n s'=>∃ i xs σ' H',Inv (n5 X scope cl N' { s2 with heap:=h3,toks:=s2.toks } (upd H2 s2.heap.objs.size (.lst [])) fp fun _ _=>False) [] σ' H' s'/\tn i s'.heap/\(∀ b∈fp,H' b=none)/\W i n xs σ' H')
   (fun n s6 hI=>?_) m0 ⟨0,[],ab5 lk σ,_,I4,st4,fun b hb=>(f3 b hb).1,w0⟩
  obtain⟨i,xs,σ6,H6,I6,st6,fr6,w6⟩:=hI
  show wpAny _ X.A ((compTurn (.ListComp elt [⟨tg,iter,ifs,0⟩] scope pos) 0 (.ref it) (.ref s2.heap.objs.size) (compEnvC scope cl h3.objs.size X.env)).onRaise (fun x=>do noteFrame x (compEnvC scope cl h3.objs.size X.env);theTreesLotGoes x)) _ _ s6
  refine wpAny_noted ?_
  rw[compTurn_list]
  refine wpAny_bind (wpAny_standAt (wpAny_bind ?_))
  obtain⟨hD6,hw⟩:=turn i n xs σ6 H6 w6
  rcases hw with⟨stop,qn⟩ | ⟨go,hlen,step⟩
  ·refine thn (T.done (n5 X scope cl N' { s2 with heap:=h3,toks:=s2.toks } (upd H2 s2.heap.objs.size (.lst [])) fp fun _ _=>False) rfl rfl rfl hc i [] s6 σ6 H6 _ I6 (stat fr6) st6 stop) fun r s7 ⟨hr,I7⟩=>?_
   subst hr
   exact wpAny_pure (fin s7 σ6 H6 I7 qn)
  ·refine thn (T.item (n5 X scope cl N' { s2 with heap:=h3,toks:=s2.toks } (upd H2 s2.heap.objs.size (.lst [])) fp fun _ _=>False) rfl rfl rfl hc i [] s6 σ6 H6 _ I6 (stat fr6) st6 go) fun r s7 ⟨u,hr,h7⟩=>?_
   subst hr
   refine wpAny_bind (thn h7 fun _ s8 ⟨x,H8,I8,r8,y8,st8,fr8⟩=>?_)
   have I8':=I8.pinned (stat fr8) (T.obj _ _ st8)
   refine wpAny_bind (wpAny_mono (hg _ _ _ _ s8 σ6 H8 x u _ I8' r8 (step x H8 y8)) (fun _ s9 ⟨σ9,H9,I9,q9⟩=>?_) (fun _ _ z=>False.elim z))
   refine wpAny_bind (wpAny_mono (ht _ _ _ _ s9 σ9 H9 _ I9 q9) (fun ok s10 ⟨H10,I10,q10⟩=>?_) (fun _ _ z=>False.elim z))
   have again:∀ {σ':St} {H':Hp} {ys:List V} {s':Shared},Inv (n5 X scope cl N' { s2 with heap:=h3,toks:=s2.toks } (upd H2 s2.heap.objs.size (.lst [])) fp fun _ _=>False) ([]++U7 fp s8.heap) σ' H' s'->(∃ m',m'<n/\W (i+1) m' ys σ' H') ->
     ∃ m',m'<n/\∃ i xs σ' H',Inv (n5 X scope cl N' { s2 with heap:=h3,toks:=s2.toks } (upd H2 s2.heap.objs.size (.lst [])) fp fun _ _=>False) [] σ' H' s'/\tn i s'.heap/\(∀ b∈fp,H' b=none)/\W i m' xs σ' H':=fun {σ' H' ys s'} I' ⟨m',hm,w'⟩=>by
    refine⟨m',hm,i+1,ys,σ',H',I'.unpinned,T.keep _ _ _ st8 fun b hb o eb=>(I'.pin (b,o) (c7 _ (c7 _ (E2 hb eb)))).1,fun b hb=>?_,w'⟩
    obtain⟨o,eb,_⟩:=T.obj _ _ st8 b hb
    exact(I'.pin (b,o) (c7 _ (c7 _ (E2 hb eb)))).2.1
   cases ok with
   | false =>
    have q10':∃ m',m'<n/\W (i+1) m' xs σ9 H10:=by simpa using q10
    exact wpAny_pure ⟨rfl,again I10 q10'⟩
   | true =>
    rw[if_pos rfl]at q10
    refine wpAny_bind (wpAny_bind (wpAny_mono (he _ _ _ _ s10 σ9 H10 _ I10 q10) (fun y s11 ⟨v11,H11,I11,r11,hD11,q11⟩=>?_) (fun _ _ z=>False.elim z)))
    refine wpAny_bind (wpAny_mono (G7 (X:=n5 X scope cl N' { s2 with heap:=h3,toks:=s2.toks } (upd H2 s2.heap.objs.size (.lst [])) fp fun _ _=>False) _ s11 σ9 H11 (.ref s2.heap.objs.size) [v11] (.ref s2.heap.objs.size) [y] (fun _ H'=>∃ m',m'<n/\W (i+1) m' (xs++[v11]) σ9 H') I11 rfl (.cons r11 .nil) ⟨s2.heap.objs.size,xs,v11,rfl,rfl,hD11,hlen,q11⟩) (fun _ s12 ⟨_,H12,I12,_,q12⟩=>?_) (fun _ _ z=>False.elim z))
    exact wpAny_pure (wpAny_pure ⟨rfl,again I12 q12⟩)
 exact codeAny_compStart_list (loop _ rfl) (T.self X.A 0 _ _ _ st4 (loop _ rfl))
def bc8 (i:Nat)(t:TE):TS:=fun D σ H=>t σ H fun v H1=>D.nx (σ.set i (some v)) H1
theorem aO6 {i:Nat}{y:Str}{py:Pos}{elt iter tg:Expr}{ifs:List Expr}{scope:Scope}{pos spos:Pos}{cl:List (Str × Addr)}{N':List Str}{lk:List (Option Nat)}{wi:TI}{g:TG}{tt:TT}{te:TE}
  (hN:X.N.Nodup)(hy:X.N[i]?=some y)(hyl:X.env.scope.names.lookup y=some .local)
  (hsw:swapsWith (.ListComp elt [⟨tg,iter,ifs,0⟩] scope pos) (some (.Name y py)) spos.line X.env=pure true)
  (hc:X.calm=true)(hi:PI X tg iter wi)(hclos:closureFor scope X.env=pure cl)(hkind:scope.kind=.function)
  (hnames:∀ y∈scope.names,y.2=.local->scope.names.lookup y.1=some .local)(hcl:an0 X.env cl)(hfr:am7 scope.names cl=true)(hlk:aF2 X N' lk scope cl)
  (hg:∀ s3 H3 fp,PG (n5 X scope cl N' s3 H3 fp fun _ _=>False) tg g)(ht:∀ s3 H3 fp,PTs (n5 X scope cl N' s3 H3 fp fun _ _=>False) ifs tt)(he:∀ s3 H3 fp,PE (n5 X scope cl N' s3 H3 fp fun _ _=>False) elt te)
  (hs:∀ x,foldedSetIterable iter X.env x=pure x:=by intro _;rfl):PS X (.Assign [.Name y py] (.ListComp elt [⟨tg,iter,ifs,0⟩] scope pos) spos) (bc8 i (ax9 wi lk g tt te)):=by
 intro pins s σ H D I h
 rw[exec_Assign_Name_used _ _ _ _ hsw]
 refine wpAny_bind (wpAny_standAt (wpAny_bind ?_))
 show wpAny _ X.A (do let _ <- comprehension (.ListComp elt [⟨tg,iter,ifs,0⟩] scope pos) scope X.env _ (newList []) false (eval iter X.env) (some (assign (.Name y py) X.env))) _ _ s
 refine wpAny_bind (thn (aE6 (use:=some (assign (.Name y py) X.env)) (R:=fun _ s'=>SP X pins D .next s') hc hi hclos hkind hnames hcl hfr hlk hg ht he hs I h
  fun C Dd s' H' I' q' hC hCL hCs hCc hCp ⟨m,hm⟩=>?_) fun _ s' hq=>wpAny_pure (wpAny_pure hq))
 show wpAny _ X.A (assign (.Name y py) X.env (.ref Dd)) _ _ s'
 refine wpAny_assign_Name (ah8 (v:=.ref Dd) I' hN hy (.inl hyl) rfl (fun s2 I2 ⟨a,hsb,ha⟩=>?_) (.inr hyl))
 have hCa:C≠a:=by
  rcases ha with z | z
  ·rw[z];exact hCL
  ·exact(hCc y a z).symm
 refine⟨m,hm.sameBut hsb hCa,fun h' hs'=>?_⟩
 obtain⟨h0,g0,d0,t0,o0⟩:=s2
 exact⟨_,H',I2.turned (t':=t0) (it:=C) (fun b o hb eb=>(hs'.2 b hb).trans eb) hC hCL (.inr hCs) hCc hCp,q'⟩
end
section
variable {M:Model} {A:Around} {Er:Value->Shared->Prop} {s:Shared}
theorem av9 {B:Heap}{env:Env}{outer:List Env}{L e:Addr}{cls a0 fl:Value}{Q:Unit->Shared->Prop}(hfr:A.frames=some (env::outer))(hf:env.frame=some L)(h1:B.StaysIn s.heap)(h2:B.get? e=none)(h3:s.heap.FunFrames B (env::outer))(h4:s.heap.TracedAtW B e cls a0 fl)
  (hQ:∀ h',Heap.FlyingW B outer e cls a0 h'->s.heap.UpToSlots h'->Q () { s with heap:=h' }):wpAny M A (leaving env (.ref e)) Q Er s:=by
 by_cases hfl:fl=rawInt L
 ·subst hfl
  unfold leaving
  refine wpAny_bind (wpAny_noteFrame_againW hf h4 (wpAny_landsW (L:=L) ⟨h1,h2,h3,h4⟩ fun h' x1 x2=>hQ h' ⟨x1.1,x1.2.1,x1.2.2.1.2.2,x1.2.2.2⟩ x2))
 ·obtain⟨oe,vs,T,oT,ts,he,⟨hcl,h0⟩,hd,e1,nT,Te,hT,dT,e3⟩:=h4
  subst hcl
  have oth:∀ b,b≠T->(s.heap.update T (Obj.mapFields (·.setIfInBounds 3 Value.none))).get? b=s.heap.get? b:=fun b z=>u6 _ _ (Ne.symm z)
  have noT:∀ b o,s.heap.get? b=some o->(∀ vs,o.data≠.fields vs)->b≠T:=fun b o q n z=>by
   rw[z,hT]at q
   cases q
   exact n ts dT
  unfold leaving noteFrame
  rw[hf]
  refine wpAny_bind (wpAny_bind (wpAny_field he hd e1 ?_))
  rw[if_pos (by simp:(Value.ref T != Value.none)=true)]
  refine wpAny_bind (wpAny_field hT dT e3 ?_)
  rw[if_neg (by simpa using hfl)]
  refine wpAny_bind (wpAny_setField hT dT (N7.mp e3).1 ?_)
  refine wpAny_newEntryW hfr (h3.of_keeps fun b o q n=>⟨o,by rw[oth b (noT b o q n)];exact q,rfl⟩) hf (by rw[oth e (Ne.symm Te)];exact he) (fun b o q=>?_) h2 hd (N7.mp e1).1 h0 fun h' y=>?_
  ·rw[oth b (fun z=>by rw[z,nT]at q;cases q)]
   exact h1 b o q
  ·obtain⟨y1,y2,y3,y4⟩:=y
   exact hQ h' ⟨y1,h2,y2.2.2,y3⟩ fun b o q n=>y4 b o (by show (s.heap.update T _).get? b=_;rw[oth b (noT b o q n)];exact q) n
end
theorem aa7 {h h' B B':Heap}:∀ {l:List Env},(∀ b∈frs l,B.get? b=none->B'.get? b=none)->(∀ b∈frs l,∀ o,h.get? b=some o->(∀ vs,o.data≠.fields vs)->∃ o',h'.get? b=some o'/\∀ vs,o'.data≠.fields vs)->h.FunFrames B l->h'.FunFrames B' l
 | [],_,_,_=>trivial
 | env::r,k1,k2,⟨hk,⟨L,o,hf,hn,ho,hd⟩,hr⟩=>by
  have hL:L∈frs (env::r):=by unfold frs;rw[D5,hf];exact b9
  obtain⟨o',ho',hd'⟩:=k2 L hL o ho hd
  have up:∀ b∈frs r,b∈frs (env::r):=fun b hb=>by unfold frs;rw[D5,hf];exact a7 _ hb
  exact⟨hk,⟨L,o',hf,k1 L hL hn,ho',hd'⟩,aa7 (fun b hb=>k1 b (up b hb)) (fun b hb=>k2 b (up b hb)) hr⟩
def CXA (P:Program)(w:World)(stack:List Env)(H:Hp)(s:Shared)(E:XK)(e:Value)(s':Shared):Prop:=
 ∃ x cls H2 fl,e=.ref x/\s'.os=s.os/\AllBare s'.gens/\Un (frs stack) [] H H2 s.heap s'.heap/\HOk P w H2 s'.heap/\s.heap.get? x=none/\H2 x=none /\
  (∃ B a0,(B.StaysIn s'.heap/\B.get? x=none/\s'.heap.FunFrames B stack/\s'.heap.TracedAtW B x cls a0 fl)/\∀ b o,s'.heap.get? b=some o->(H2 b≠none\/s.heap.get? b≠none)->b∉frs stack->B.get? b=some o)/\E cls none H2
section
variable {P:Program} {w:World} {K:W.Frag} {mg:Str->Option Value} {base:Heap} {N:List Str} {qual:Str} {scope:Scope} {f:Addr} {cd:Value} {A:Around} {outer:List Env} {s:Shared} {H:Hp} {E:XK}
 {pins:List (Addr × Obj)} {σ:St} {H1:Hp} {s1:Shared}
theorem bf4 {e:Value}{s2:Shared}(I:Inv (O3 (CXE P w) P w K mg base N qual scope f cd A outer s H E) pins σ H1 s1)(hc:CXA P w (O3 (CXE P w) P w K mg base N qual scope f cd A outer s H E).stack H1 s1 E e s2):(O3 (CXE P w) P w K mg base N qual scope f cd A outer s H E).xe e s2:=by
 obtain⟨x,cls,H2,fly,rfl,hos,hb2,u,hok,new,hxn,⟨B,a0,⟨k1,k2,k3,k4⟩,st⟩,hE⟩:=hc
 have hst:=I.stack
 have hfr:=I.ok.frames
 have hL:=I.free
 have hbs:Un (frs outer) [] H H1 s.heap s1.heap:=I.base
 change s1.heap.FunFrames base (envOfC qual scope s.heap.objs.size f cd::outer) at hst
 change (A.deeper (envOfC qual scope s.heap.objs.size f cd)).frames=some (envOfC qual scope s.heap.objs.size f cd::outer) at hfr
 change H1 s.heap.objs.size=none at hL
 change Un (frs (envOfC qual scope s.heap.objs.size f cd::outer)) [] H1 H2 s1.heap s2.heap at u
 change s2.heap.FunFrames B (envOfC qual scope s.heap.objs.size f cd::outer) at k3
 have hff:frs (envOfC qual scope s.heap.objs.size f cd::outer)=s.heap.objs.size::frs outer:=af8 rfl
 have st':∀ b o,s2.heap.get? b=some o->(H2 b≠none\/s1.heap.get? b≠none)->b∉frs (envOfC qual scope s.heap.objs.size f cd::outer)->B.get? b=some o:=st
 rw[hff]at u st'
 have hLo:∃ o,s1.heap.get? s.heap.objs.size=some o:=by
  obtain⟨m,⟨o,_,_,ho,_⟩,_⟩:=I.loc
  exact⟨o,ho⟩
 have hL2:H2 s.heap.objs.size=none:=by
  obtain⟨o,ho⟩:=hLo
  exact u.free _ o ho hL (by simp)
 have old:∀ b,(H2 b≠none\/s.heap.get? b≠none)->b∉frs outer->∃ o,s2.heap.get? b=some o/\B.get? b=some o:=fun b hb hno=>by
  have hne:b≠s.heap.objs.size:=by
   rcases hb with z | z
   ·intro q;rw[q]at z;exact z hL2
   ·obtain⟨o,z⟩:=B0 z
    exact f9 (c3 z)
  have hm:b∉s.heap.objs.size::frs outer:=fun hm=>by
   rcases d7.mp hm with q | q
   ·exact hne q
   ·exact hno q
  rcases hb with z | z
  ·obtain⟨o,z'⟩:=B0 z
   obtain⟨o',ho⟩:=(hok b o z').there
   exact⟨o',ho,st' b o' ho (.inl z) hm⟩
  ·obtain⟨o,z⟩:=B0 z
   obtain⟨o1,h1⟩:=hbs.there b o z (by simp)
   obtain⟨o2,h2⟩:=u.there b o1 h1 (by simp)
   exact⟨o2,h2,st' b o2 h2 (.inr (by rw[h1];simp)) hm⟩
 have u2:Un (frs outer) [] H H2 s.heap s2.heap:=by
  refine⟨fun b o e n hb hx=>?_,fun b o e n hb hx=>?_,fun b o e n hx=>?_,fun b o e hx=>?_,fun b xs e=>u.tups b xs (hbs.tups b xs e),fun b o v e=>u.frzs b o v (hbs.frzs b o v e),fun b ps e=>?_⟩
  ·refine u.keep b o (hbs.keep b o e n hb hx) (hbs.free b o e n hx) (fun hm=>?_) hx
   rcases d7.mp hm with q | q
   ·exact f9 (c3 e) q
   ·exact hb q
  ·obtain⟨sl,e1⟩:=hbs.slot b o e n hb hx
   obtain⟨sl2,e2⟩:=u.slot b _ e1 (hbs.free b o e n hx) (a7 _ hb) hx
   exact⟨sl2,e2⟩
  ·obtain⟨o',e1⟩:=hbs.there b o e hx
   exact u.free b o' e1 (hbs.free b o e n hx) hx
  ·obtain⟨o',e1⟩:=hbs.there b o e hx
   exact u.there b o' e1 hx
  ·obtain⟨m1,e1⟩:=hbs.tbls b ps e
   obtain⟨m2,e2⟩:=u.tbls b _ e1
   exact⟨m1++m2,by rw[e2,ad3]⟩
 have frNone:∀ b∈frs outer,H2 b=none:=fun b hb=>by
  have h1:=I.stkFree b (by
   show b∈frs (envOfC qual scope s.heap.objs.size f cd::outer)
   rw[hff]
   exact a7 _ hb)
  obtain⟨_,o,ho,_⟩:=hst.mem (b:=b) (by
   show b∈frs (envOfC qual scope s.heap.objs.size f cd::outer)
   rw[hff]
   exact a7 _ hb)
  exact u.free b o ho h1 (by simp)
 refine av9 hfr rfl k1 k2 k3 k4 fun h' x1 x2=>?_
 have stay:∀ b o,s2.heap.get? b=some o->(H2 b≠none\/s.heap.get? b≠none)->b∉frs outer->h'.get? b=some o:=fun b o ho hb hno=>by
  obtain⟨o',ho',hB⟩:=old b hb hno
  rw[ho]at ho'
  cases ho'
  exact x1.1 b o hB
 refine⟨x,cls,H2,rfl,hos.trans I.os,hb2,u2.onto (fun b o ho hh hno=>stay b o ho (.inr hh) hno) (fun b o ho hh hm=>?_),hok.stays fun b o ho hh=>stay b o ho (.inl hh) fun hm=>hh (frNone b hm),?_,hxn,⟨B,a0,x1,fun b o ho hb hno=>?_⟩,hE⟩
 ·obtain⟨_,o',ho',hd⟩:=k3.mem (b:=b) (by
   show b∈frs (envOfC qual scope s.heap.objs.size f cd::outer)
   rw[hff]
   exact a7 _ hm)
  rw[ho]at ho'
  cases ho'
  exact x2 b o ho hd
 ·cases q:s.heap.get? x with
  | none=>rfl
  | some o =>
   obtain⟨o',z⟩:=hbs.there x o q (by simp)
   rw[new]at z
   cases z
 ·obtain⟨o',ho',hB⟩:=old b hb hno
  have:=stay b o' ho' hb hno
  rw[ho]at this
  cases this
  exact hB
end
theorem aC9 {e:Value}{env env':Env}(h:env.frame=env'.frame):noteFrame e env=noteFrame e env':=by
 unfold noteFrame PySem.frameOf
 rw[h]
def XeC (X:Cx)(E:XK)(pins:List (Addr × Obj))(σ:St)(C:Addr)(e:Value)(s':Shared):Prop:=
 ∃ s1 H1 m,Inv X pins σ H1 s1/\P1 X pins H1 C/\s1.heap.Ns C m/\CXE X.prog X.w X.stack H1 s1 E e s'
section
variable {P:Program} {w:World} {K:W.Frag} {mg:Str->Option Value} {base:Heap} {N:List Str} {qual:Str} {scope:Scope} {f:Addr} {cd:Value} {A:Around} {outer:List Env} {s:Shared} {H:Hp} {E:XK}
 {pins:List (Addr × Obj)} {σ:St}
theorem X1 {X:Cx}(eX:X=O3 (CXE P w) P w K mg base N qual scope f cd A outer s H E){C:Addr}{cenv:Env}(hcf:cenv.frame=X.env.frame){e:Value}{s':Shared}{Q:Value->Shared->Prop}{acc:Value}(h:XeC X E pins σ C e s') :
  notedBy (model X.prog X.w) X.A cenv (fun x s''=>compPost (model X.prog X.w) X.A X.xe none Q acc C (.error x) s'') e s':=by
 obtain⟨s1,H1,m,I1,fC,hn,x,cls,H2,rfl,hos,hb2,u,hok,new,hxn,⟨B,a0,fl,st⟩,hE⟩:=h
 have hstk:X.stack=X.env::X.outer:=by rw[eX];rfl
 have hf:X.env.frame=some X.env.locals:=by rw[eX];rfl
 have hfr:X.A.frames=some (X.env::X.outer):=by rw[<- hstk];exact I1.ok.frames
 rw[hstk]at fl
 have nC:C∉frs X.stack:=fun z=>by
  rcases d7.mp (I1.stkSub C z) with q | q
  ·exact fC.2.1 q
  ·exact fC.2.2.1 q
 obtain⟨oC,es,ep,hC,dC,rC⟩:=hn
 have hC':s'.heap.get? C=some oC:=u.keep C oC hC fC.1 nC (by simp)
 have hC2:H2 C=none:=u.free C oC hC fC.1 (by simp)
 have frN:∀ b∈frs X.stack,H2 b=none:=fun b hb=>by
  obtain⟨_,o,ho,_⟩:=I1.stack.mem hb
  exact u.free b o ho (I1.stkFree b hb) (by simp)
 unfold notedBy
 rw[aC9 hcf]
 refine wpAny_looks_onW hfr hf fl fun h4 held up=>?_
 obtain⟨k1,k2,k3,oe,vs,T,oT,ts,he,hcl,hd,e1,nT,Te,hT,dT,e3⟩:=held
 have hsz3:3<ts.size:=(N7.mp e3).1
 have hn4:h4.Ns C m:=up.ns ⟨oC,es,ep,hC',dC,rC⟩
 obtain⟨oC4,es4,ep4,hC4,dC4,_⟩:=id hn4
 have xC:x≠C:=fun z=>by
  rw[z,hC4]at he
  cases he
  rw[dC4]at hd
  cases hd
 have TC:T≠C:=fun z=>by
  rw[z,hC4]at hT
  cases hT
  rw[dC4]at dT
  cases dT
 refine⟨m,hn4,fun h5 hsb cenv' _=>?_⟩
 have g5:∀ b,b≠C->h5.get? b=h4.get? b:=fun b hb=>hsb.2 b hb
 have he5:=(g5 x xC).trans he
 have hT5:=(g5 T TC).trans hT
 unfold PySem.passOn
 refine wpAny_bind (wpAny_field he5 hd e1 ?_)
 rw[if_neg (by simp:¬ ((Value.ref T == Value.none)=true))]
 refine wpAny_bind ?_
 unfold setFlight
 refine wpAny_bind (wpAny_field he5 hd e1 ?_)
 rw[if_pos (by simp:(Value.ref T != Value.none)=true)]
 refine wpAny_setField hT5 dT hsz3 (wpAny_throw ?_)
 generalize hfv:(cenv'.frame.elim Value.none fun f=>rawInt f)=fv
 have oth:∀ b,b≠T->(h5.update T (Obj.mapFields (·.setIfInBounds 3 fv))).get? b=h5.get? b:=fun b z=>u6 _ _ (Ne.symm z)
 have inB:∀ b o,B.get? b=some o->b≠C->(h5.update T (Obj.mapFields (·.setIfInBounds 3 fv))).get? b=some o:=fun b o q z=>by
  rw[oth b (fun z'=>by rw[z',nT]at q;cases q),g5 b z]
  exact k1 b o q
 have frO:∀ b∈frs X.stack,∀ o,s'.heap.get? b=some o->∃ sl,(h5.update T (Obj.mapFields (·.setIfInBounds 3 fv))).get? b=some { o with slots:=sl }:=fun b hb o q=>by
  obtain⟨_,o',q',nf⟩:=fl.2.2.1.mem (b:=b) (by rw[hstk]at hb;exact hb)
  rw[q]at q'
  cases q'
  obtain⟨sl,q4⟩:=up b o q nf
  refine⟨sl,?_⟩
  rw[oth b (fun z=>by rw[z,hT]at q4;cases q4;exact nf _ dT),g5 b (fun z=>nC (by rw[<- z];exact hb))]
  exact q4
 generalize hh6:h5.update T (Obj.mapFields (·.setIfInBounds 3 fv))=h6 at oth inB frO
 have I1':Inv X pins σ H1 { s1 with heap:=PySem.W.hideAll s1.heap [C],toks:=s1.toks }:=I1.turn fC fun b o hb q=>PySem.W.hideAll_get _ q (by simpa using hb)
 have nh:∀ {g:Heap} {b:Addr} {o:Obj},(PySem.W.hideAll g [C]).get? b=some o->b≠C:=fun {g b o} q z=>by
  rw[z,PySem.W.hideAll_none _ (i7.mpr rfl)]at q
  cases q
 subst eX
 refine bf4 (s1:={ s1 with heap:=PySem.W.hideAll s1.heap [C],toks:=s1.toks }) I1' ⟨x,cls,H2,fv,rfl,hos,hb2,?_,?_,?_,hxn,⟨PySem.W.hideAll B [C],a0,⟨?_,?_,?_,?_⟩,?_⟩,hE⟩
 ·refine⟨fun b o q n hb hx=>?_,fun b o q n hb hx=>?_,fun b o q n hx=>u.free b o (PySem.W.of_hideAll _ q) n hx,fun b o q hx=>?_,u.tups,u.frzs,u.tbls⟩
  ·have q1:=PySem.W.of_hideAll _ q
   exact inB b o (st b o (u.keep b o q1 n hb hx) (.inr (by rw[q1];simp)) hb) (nh q)
  ·obtain⟨sl,q1⟩:=u.slot b o (PySem.W.of_hideAll _ q) n hb hx
   obtain⟨sl',q2⟩:=frO b hb _ q1
   exact⟨sl',q2⟩
  ·have q1:=PySem.W.of_hideAll _ q
   obtain⟨o',q2⟩:=u.there b o q1 hx
   by_cases hb:b∈frs (O3 (CXE P w) P w K mg base N qual scope f cd A outer s H E).stack
   ·obtain⟨sl,q3⟩:=frO b hb _ q2
    exact⟨_,q3⟩
   ·exact⟨o',inB b o' (st b o' q2 (.inr (by rw[q1];simp)) hb) (nh q)⟩
 ·refine hok.stays fun b o q hh=>inB b o (st b o q (.inl hh) fun z=>hh (frN b z)) fun z=>hh (by rw[z];exact hC2)
 ·cases q:(PySem.W.hideAll s1.heap [C]).get? x with
  | none=>rfl
  | some o =>
   rw[PySem.W.of_hideAll _ q]at new
   cases new
 ·exact fun b o q=>inB b o (PySem.W.of_hideAll _ q) (nh q)
 ·cases q:(PySem.W.hideAll B [C]).get? x with
  | none=>rfl
  | some o =>
   rw[PySem.W.of_hideAll _ q]at k2
   cases k2
 ·refine aa7 (fun b hb n=>?_) (fun b hb o q nf=>?_) fl.2.2.1
  ·cases q:(PySem.W.hideAll B [C]).get? b with
   | none=>rfl
   | some o =>
    rw[PySem.W.of_hideAll _ q]at n
    cases n
  ·obtain⟨sl,q2⟩:=frO b hb o q
   exact⟨_,q2,nf⟩
 ·refine⟨oe,vs,T,_,_,(oth x (Ne.symm Te)).trans he5,hcl,hd,e1,?_,Te,by rw[<- hh6];exact X7 _ hT5 (Obj.isFreed_of_fields (Obj.data_mapFields dT _)),Obj.data_mapFields dT _,by simp[hsz3]⟩
  cases q:(PySem.W.hideAll B [C]).get? T with
  | none=>rfl
  | some o =>
   rw[PySem.W.of_hideAll _ q]at nT
   cases nT
 ·intro b o q hh hb
  have bC:b≠C:=fun z=>by
   rcases hh with z' | z'
   ·exact z' (by rw[z];exact hC2)
   ·exact z' (by rw[z];exact PySem.W.hideAll_none _ (i7.mpr rfl))
  have hin:∃ o',s'.heap.get? b=some o'/\B.get? b=some o':=by
   rcases hh with z' | z'
   ·obtain⟨ho,q'⟩:=B0 z'
    obtain⟨o',q2⟩:=(hok b ho q').there
    exact⟨o',q2,st b o' q2 (.inl z') hb⟩
   ·obtain⟨o1,q'⟩:=B0 z'
    have q1:=PySem.W.of_hideAll _ q'
    obtain⟨o',q2⟩:=u.there b o1 q1 (by simp)
    exact⟨o',q2,st b o' q2 (.inr (by rw[q1];simp)) hb⟩
  obtain⟨o',q2,qB⟩:=hin
  have:=inB b o' qB bC
  have q':h6.get? b=some o:=q
  rw[this]at q'
  cases q'
  exact PySem.W.hideAll_get _ qB (by simpa using bC)
end
theorem aU2 {X:Cx}{pins:List (Addr × Obj)}{σ:St}{E:XK}{scope:Scope}{cl:List (Str × Addr)}{N':List Str}{s3:Shared}{H3:Hp}{fp:List Addr}(I3:Inv X pins σ H3 s3)(f3:∀ b∈fp,P1 X pins H3 b) :
  Z8 (CXE X.prog X.w) (n5 X scope cl N' s3 H3 fp (XeC X E pins σ s3.heap.objs.size)) E:=by
 intro pins' σ' H1 s1 e s' I' hc
 obtain⟨m,hm,_⟩:=I'.loc
 refine⟨s1,H1,m,I3.call' (ch:=fp) I'.os I'.base I'.hok I'.bare fun b hb=>?_,I3.fpOk (b4 _) I'.free,hm,hc⟩
 obtain⟨f0,f1,f2',f3',f4,f5⟩:=f3 b hb
 exact⟨f3',f1,f4,f5⟩
section
variable {P:Program} {w:World} {K:W.Frag} {mg:Str->Option Value} {base:Heap} {N:List Str} {qual:Str} {scope0:Scope} {f:Addr} {cd:Value} {A:Around} {outer:List Env} {s0:Shared} {H0:Hp} {E:XK} {X:Cx}
theorem aq0 (eX:X=O3 (CXE P w) P w K mg base N qual scope0 f cd A outer s0 H0 E){elt iter tg:Expr}{ifs:List Expr}{scope:Scope}{pos:Pos}{cl:List (Str × Addr)}{N':List Str}{lk:List (Option Nat)}{wi:TI}{g:TG}{tt:TT}{te:TE}(hc:X.calm=true)(hi:PI X tg iter wi)(hclos:closureFor scope X.env=pure cl)(hkind:scope.kind=.function)
  (hnames:∀ y∈scope.names,y.2=.local->scope.names.lookup y.1=some .local)(hcl:an0 X.env cl)(hfr:am7 scope.names cl=true)(hlk:aF2 X N' lk scope cl)
  (hg:∀ pins σ s3 H3 fp,PG (n5 X scope cl N' s3 H3 fp (XeC X E pins σ s3.heap.objs.size)) tg g)(ht:∀ pins σ s3 H3 fp,PTs (n5 X scope cl N' s3 H3 fp (XeC X E pins σ s3.heap.objs.size)) ifs tt)(he:∀ pins σ s3 H3 fp,Inv X pins σ H3 s3->(∀ b∈fp,P1 X pins H3 b)->PE (n5 X scope cl N' s3 H3 fp (XeC X E pins σ s3.heap.objs.size)) elt te)
  (hs:∀ x,foldedSetIterable iter X.env x=pure x:=by intro _;rfl):PE X (.ListComp elt [⟨tg,iter,ifs,0⟩] scope pos) (ax9 wi lk g tt te):=by
 intro pins s σ H Q I h
 rw[eval_ListComp]
 have hcellN:∀ y∈scope.names,y.2≠.cell:=fun y hy=>by
  unfold am7 at hfr
  rw[o3]at hfr
  have:=hfr y hy
  rw[d9]at this
  simpa using this.1
 refine wpAny_comprehension_free (use:=none) rfl hs hclos hkind hnames (thn (hi pins s σ H _ I h) fun v s1 h1=>thn h1 fun itv s2 h2=>?_)
 obtain⟨it,fp,tn,J,H2,e,I2,T,st2,f2,q⟩:=h2
 subst e
 refine wpAny_newList ?_ (j4 _)
 have hD:H2 s2.heap.objs.size=none:=I2.hok.fresh (b4 _)
 have I3:=I2.lnew (ys:=[]) (its:=[]) (t':=s2.toks) .nil (j4 _)
 obtain⟨W,⟨m0,w0⟩,turn⟩:=q s2.heap.objs.size hD
 have fpl:∀ b∈fp,b<s2.heap.objs.size:=fun b hb=>by
  obtain⟨o,ho,_⟩:=T.obj 0 s2.heap st2 b hb
  exact c3 ho
 refine wpAny_newFunctionEnv hcellN (by intro y hy;cases hy) (fun h1 hns1 hsb1=>?_) hkind
 dsimp only at hns1 hsb1 ⊢
 have e3:s2.heap.push { cls:=.type "list",dict:=none,data:=.seq ([]:List Value).toArray }=s2.heap.push { cls:=.type "list",data:=.seq ([]:List Value).toArray }:=rfl
 generalize hh3:s2.heap.push { cls:=.type "list",dict:=none,data:=.seq ([]:List Value).toArray }=h3 at *
 have I3':Inv X pins σ (upd H2 s2.heap.objs.size (.lst [])) { s2 with heap:=h3,toks:=s2.toks }:=I3
 have size3:h3.objs.size=s2.heap.objs.size+1:=by rw[<- hh3,G3]
 have f3:∀ b∈fp,P1 X pins (upd H2 s2.heap.objs.size (.lst [])) b:=fun b hb=>by
  obtain⟨f0,fr⟩:=f2 b hb
  exact⟨by rw[q8 (f9 (fpl b hb))];exact f0,fr⟩
 have up:∀ b u,h3.get? b=some u->h1.get? b=some u:=fun b u eb=>by
  rw[hsb1.2 b (f9 (c3 eb))]
  exact a5 _ eb
 have I4:Inv (n5 X scope cl N' { s2 with heap:=h3,toks:=s2.toks } (upd H2 s2.heap.objs.size (.lst [])) fp (XeC X E pins σ h3.objs.size)) [] (ab5 lk σ) (upd H2 s2.heap.objs.size (.lst [])) { s2 with heap:=h1,toks:=s2.toks+([]:List (Str × Value)).length }:=
  V1 (s3:={ s2 with heap:=h3,toks:=s2.toks }) I3' f3 hkind hcl hfr hlk hns1 up fun b hb=>by show b<h3.objs.size;rw[size3];exact v7 (fpl b hb)
 have st4:tn 0 h1:=T.keep 0 s2.heap h1 st2 fun b hb o eb=>up b o (by rw[<- hh3];exact a5 _ eb)
 have hCs:h3.objs.size=(compEnvC scope cl h3.objs.size X.env).locals:=rfl
 have stat:∀ {H':Hp},(∀ b∈fp,H' b=none)->∀ b∈fp,P1 (n5 X scope cl N' { s2 with heap:=h3,toks:=s2.toks } (upd H2 s2.heap.objs.size (.lst [])) fp (XeC X E pins σ h3.objs.size)) [] H' b:=fun {H'} hn b hb=>by
  obtain⟨f0,f1,f2',f3',f4,f5⟩:=f3 b hb
  refine⟨hn b hb,?_,fun z=>?_,.inl hb,fun x c ex=>f4 x c (hcl.get ex),fun p hp=>nomatch hp⟩
  ·show b≠h3.objs.size
   rw[size3]
   exact f9 (v7 (fpl b hb))
  ·rcases d7.mp (I3'.stkSub b z) with q | q
   ·exact f1 q
   ·exact f2' q
 have fin:∀ (s':Shared) (σ':St) (H':Hp),Inv (n5 X scope cl N' { s2 with heap:=h3,toks:=s2.toks } (upd H2 s2.heap.objs.size (.lst [])) fp (XeC X E pins σ h3.objs.size)) [] σ' H' s'->Q (.ref s2.heap.objs.size) H' ->
   compPost (model X.prog X.w) X.A X.xe none (EP X pins σ Q) (.ref s2.heap.objs.size) h3.objs.size (.ok .next) s':=fun s' σ' H' I' q'=>by
  obtain⟨m,hm,_⟩:=id I'.loc
  have I5:Inv X pins σ H' s':=I3'.call' (ch:=fp) I'.os I'.base I'.hok I'.bare fun b hb=>by
   obtain⟨f0,f1,f2',f3',f4,f5⟩:=f3 b hb
   exact⟨f3',f1,f4,f5⟩
  refine⟨m,hm,fun h' hsb=>?_⟩
  refine⟨.ref s2.heap.objs.size,H',?_,rfl,q'⟩
  have hfc:H' h3.objs.size=none:=I'.free
  have hcl1:∀ b o,h3.get? b=some o->b≠h3.objs.size:=fun b o eb=>f9 (c3 eb)
  obtain⟨h0',g0,d0,t0,o0⟩:=s'
  refine I5.turned (t':=t0) (it:=h3.objs.size) (fun b o hb eb=>(hsb.2 b hb).trans eb) hfc ?_ (.inr I3'.sz) (fun x c ex z=>?_) (fun p hp z=>?_)
  ·exact Y2 I3'.lt
  ·obtain⟨v',q2⟩:=I3'.cell x c ex
   exact absurd q2.lt (by rw[z];exact p6 _)
  ·exact absurd (c3 (I3'.pin p hp).1) (by rw[z];exact p6 _)
 have loop:∀ s5:Shared,s5={ s2 with heap:=h1,toks:=s2.toks+([]:List (Str × Value)).length } ->
   codeAny (model X.prog X.w) X.A (.compLoop (.ListComp elt [⟨tg,iter,ifs,0⟩] scope pos) 0 (.ref it) (.ref s2.heap.objs.size) (compEnvC scope cl h3.objs.size X.env)) (compPost (model X.prog X.w) X.A X.xe none (EP X pins σ Q) (.ref s2.heap.objs.size) h3.objs.size) s5:=by
  rintro s5 rfl
  refine codeAny_loop rfl (fun n s'=>∃ i xs σ' H',Inv (n5 X scope cl N' { s2 with heap:=h3,toks:=s2.toks } (upd H2 s2.heap.objs.size (.lst [])) fp (XeC X E pins σ h3.objs.size)) [] σ' H' s'/\tn i s'.heap/\(∀ b∈fp,H' b=none)/\W i n xs σ' H')
   (fun n s6 hI=>?_) m0 ⟨0,[],ab5 lk σ,_,I4,st4,fun b hb=>(f3 b hb).1,w0⟩
  obtain⟨i,xs,σ6,H6,I6,st6,fr6,w6⟩:=hI
  show wpAny _ X.A ((compTurn (.ListComp elt [⟨tg,iter,ifs,0⟩] scope pos) 0 (.ref it) (.ref s2.heap.objs.size) (compEnvC scope cl h3.objs.size X.env)).onRaise (fun x=>do noteFrame x (compEnvC scope cl h3.objs.size X.env);theTreesLotGoes x)) _ _ s6
  refine wpAny_noted ?_
  rw[compTurn_list]
  refine wpAny_bind (wpAny_standAt (wpAny_bind ?_))
  obtain⟨hD6,hw⟩:=turn i n xs σ6 H6 w6
  rcases hw with⟨stop,qn⟩ | ⟨go,hlen,step⟩
  ·refine thn (T.done (n5 X scope cl N' { s2 with heap:=h3,toks:=s2.toks } (upd H2 s2.heap.objs.size (.lst [])) fp (XeC X E pins σ h3.objs.size)) rfl rfl rfl hc i [] s6 σ6 H6 _ I6 (stat fr6) st6 stop) fun r s7 ⟨hr,I7⟩=>?_
   subst hr
   exact wpAny_pure (fin s7 σ6 H6 I7 qn)
  ·refine thn (T.item (n5 X scope cl N' { s2 with heap:=h3,toks:=s2.toks } (upd H2 s2.heap.objs.size (.lst [])) fp (XeC X E pins σ h3.objs.size)) rfl rfl rfl hc i [] s6 σ6 H6 _ I6 (stat fr6) st6 go) fun r s7 ⟨u,hr,h7⟩=>?_
   subst hr
   refine wpAny_bind (thn h7 fun _ s8 ⟨x,H8,I8,r8,y8,st8,fr8⟩=>?_)
   have I8':=I8.pinned (stat fr8) (T.obj _ _ st8)
   refine wpAny_bind (wpAny_mono (hg pins σ _ _ _ _ s8 σ6 H8 x u _ I8' r8 (step x H8 y8)) (fun _ s9 ⟨σ9,H9,I9,q9⟩=>?_) (fun _ _ z=>X1 eX rfl z))
   refine wpAny_bind (wpAny_mono (ht pins σ _ _ _ _ s9 σ9 H9 _ I9 q9) (fun ok s10 ⟨H10,I10,q10⟩=>?_) (fun _ _ z=>X1 eX rfl z))
   have again:∀ {σ':St} {H':Hp} {ys:List V} {s':Shared},Inv (n5 X scope cl N' { s2 with heap:=h3,toks:=s2.toks } (upd H2 s2.heap.objs.size (.lst [])) fp (XeC X E pins σ h3.objs.size)) ([]++U7 fp s8.heap) σ' H' s'->(∃ m',m'<n/\W (i+1) m' ys σ' H') ->
     ∃ m',m'<n/\∃ i xs σ' H',Inv (n5 X scope cl N' { s2 with heap:=h3,toks:=s2.toks } (upd H2 s2.heap.objs.size (.lst [])) fp (XeC X E pins σ h3.objs.size)) [] σ' H' s'/\tn i s'.heap/\(∀ b∈fp,H' b=none)/\W i m' xs σ' H':=fun {σ' H' ys s'} I' ⟨m',hm,w'⟩=>by
    refine⟨m',hm,i+1,ys,σ',H',I'.unpinned,T.keep _ _ _ st8 fun b hb o eb=>(I'.pin (b,o) (c7 _ (c7 _ (E2 hb eb)))).1,fun b hb=>?_,w'⟩
    obtain⟨o,eb,_⟩:=T.obj _ _ st8 b hb
    exact(I'.pin (b,o) (c7 _ (c7 _ (E2 hb eb)))).2.1
   cases ok with
   | false =>
    have q10':∃ m',m'<n/\W (i+1) m' xs σ9 H10:=by simpa using q10
    exact wpAny_pure ⟨rfl,again I10 q10'⟩
   | true =>
    rw[if_pos rfl]at q10
    refine wpAny_bind (wpAny_bind (wpAny_mono (he pins σ _ _ _ I3' f3 _ s10 σ9 H10 _ I10 q10) (fun y s11 ⟨v11,H11,I11,r11,hD11,q11⟩=>?_) (fun _ _ z=>X1 eX rfl z)))
    refine wpAny_bind (wpAny_mono (G7 (X:=n5 X scope cl N' { s2 with heap:=h3,toks:=s2.toks } (upd H2 s2.heap.objs.size (.lst [])) fp (XeC X E pins σ h3.objs.size)) _ s11 σ9 H11 (.ref s2.heap.objs.size) [v11] (.ref s2.heap.objs.size) [y] (fun _ H'=>∃ m',m'<n/\W (i+1) m' (xs++[v11]) σ9 H') I11 rfl (.cons r11 .nil) ⟨s2.heap.objs.size,xs,v11,rfl,rfl,hD11,hlen,q11⟩) (fun _ s12 ⟨_,H12,I12,_,q12⟩=>?_) (fun _ _ z=>X1 eX rfl z))
    exact wpAny_pure (wpAny_pure ⟨rfl,again I12 q12⟩)
 exact codeAny_compStart_list (loop _ rfl) (T.self X.A 0 _ _ _ st4 (loop _ rfl))
end
section
variable {P:Program} {w:World} {K:W.Frag} {mg:Str->Option Value} {base:Heap} {N:List Str} {qual:Str} {scope0:Scope} {f:Addr} {cd:Value} {A:Around} {outer:List Env} {s0:Shared} {H0:Hp} {E:XK} {X:Cx}
end
def bc7 (K:W.Frag)(CT:Addr)(tb:(St->XK)->TS)(th:TS):TS:=fun D σ H=>∃ E:St->XK,tb E D σ H/\∀ σ' cls H',E σ' cls none H'->PySem.W.exmOne K cls (.ref CT)=some true/\th D σ' H'
theorem aO5 {X:Cx}{body suite:List Stmt}{b0:Stmt}{tn:Str}{np pos hpos:Pos}{CT:Addr}{tb:(St->XK)->TS}{th:TS}
  (hg:Gl X tn)(hm:X.mg tn=some (.ref CT))(hst:X.stack=X.env::X.outer)(hfr:X.env.frame=some X.env.locals)(hbody:∀ pins E,PSs (ao2 X pins E) body (tb E))(hh:∀ v,PSs (aQ9 X v) (b0::suite) th)
  (hd:(tn == ("__debug__":Str))=false:=by decide) :
  PS X (.Try body [.ExceptHandler (some (.Name tn np)) none (b0::suite) hpos] [] [] pos) (bc7 X.K CT tb th):=by
 intro pins s σ H D I hw
 obtain⟨E,hb,hcatch⟩:=hw
 refine wpAny_Try_except (wpAny_mono (hbody pins E [] s σ H D I.toTry hb) (fun fl s1 q=>?_) fun e s1 hx=>?_)
 ·cases fl with
  | next =>
   obtain⟨σ',H',I',q⟩:=q
   exact wpAny_execs_nil ⟨σ',H',I'.ofTry,q⟩
  | brk=>obtain⟨σ',H',I',q⟩:=q;exact⟨σ',H',I'.ofTry,q⟩
  | cont=>obtain⟨σ',H',I',q⟩:=q;exact⟨σ',H',I'.ofTry,q⟩
  | ret u=>obtain⟨v,σ',H',I',r,q⟩:=q;exact⟨v,σ',H',I'.ofTry,r,q⟩
 ·obtain⟨σ1,H1,s0,I1,x,cls,H2,rfl,hos,hbare,u,hok,new,hxn,⟨B,a0,fl,st⟩,hE⟩:=hx
  obtain⟨hmat,hth⟩:=hcatch σ1 cls H2 hE
  have hfl:Heap.FlyingW B (X.env::X.outer) x cls a0 s1.heap:=by rw[hst]at fl;exact fl
  have frNone:∀ b∈frs X.stack,H2 b=none:=fun b hb=>by
   obtain⟨_,o,ho,_⟩:=I1.stack.mem hb
   exact u.free b o ho (I1.stkFree b hb) (by simp)
  have step:∀ h',B.StaysIn h'->s1.heap.UpToSlots h'->Un (frs X.stack) [] H1 H2 s0.heap h'/\HOk X.prog X.w H2 h':=fun h' hB hu=>by
   refine⟨u.onto (fun b o ho hh hno=>hB b o (st b o ho (.inr hh) hno)) fun b o ho hh hm'=>?_,hok.stays fun b o ho hh=>hB b o (st b o ho (.inl hh) fun hm'=>hh (frNone b hm'))⟩
   obtain⟨_,o',ho',hdd⟩:=hfl.2.2.1.mem (b:=b) (by rw[hst]at hm';exact hm')
   rw[ho]at ho'
   cases ho'
   exact hu b o ho hdd
  have inv:∀ h',B.StaysIn h'->s1.heap.UpToSlots h'->Inv X pins σ1 H2 { s1 with heap:=h' }:=fun h' hB hu=>by
   obtain⟨un,ok⟩:=step h' hB hu
   exact I1.call' (s':={ s1 with heap:=h' }) (ch:=[]) hos un ok hbare fun b hb=>by cases hb
  have hfrm:X.A.frames=some (X.env::X.outer):=by rw[<- hst];exact I1.ok.frames
  refine wpAny_looks_onW hfrm hfr hfl fun h4 held4 up4=>?_
  refine wpAny_landsW held4 fun h5 fl5 up5=>?_
  have up15:=up4.trans up5
  have I5:=inv h5 fl5.1 up15
  refine wpAny_handleBy_cons (codeAny_handlers_test ?_) (by intro q;cases q)
  refine S5 (I5.toHd (.ref x)) hg hm ?_ hd
  have LT:PySem.W.Looks (model X.prog X.w) h5 (typeOf (.ref x)) cls:=by
   obtain⟨ob,hob,hc⟩:=fl5.there
   subst hc
   exact(PySem.W.Looks.ld hob).andThen .now
  refine(PySem.W.exm_one (M:=model X.prog X.w) I5.kIn LT hmat).here ?_
  refine codeAny_handlers_suite ?_
  refine lands_againW fl5 fun h6 fl6 up6=>?_
  have up16:=up15.trans up6
  have I7:=inv h6 fl6.1 up16
  refine wpAny_mono (hh (.ref x) pins { s1 with heap:=h6 } σ1 H2 D (I7.toHd _) hth) (fun fl' s9 q=>?_) (fun _ _ z=>False.elim z)
  have hdX:=I.ok.hd
  cases fl' with
  | next =>
   obtain⟨σ',H',I',q⟩:=q
   exact⟨σ',H',I'.ofHd hdX,q⟩
  | brk =>
   obtain⟨σ',H',I',q⟩:=q
   exact⟨σ',H',I'.ofHd hdX,q⟩
  | cont =>
   obtain⟨σ',H',I',q⟩:=q
   exact⟨σ',H',I'.ofHd hdX,q⟩
  | ret u' =>
   obtain⟨v,σ',H',I',r,q⟩:=q
   exact⟨v,σ',H',I'.ofHd hdX,r,q⟩
end L2
namespace Web
open PySem L2
def bh1 (ks:List (List Int))(p:Nat):Nat:=ks.countP fun k=>decide ((p:Int)∈k)
end Web
namespace Grf
def S:Nat->(Nat->Int)->Int
 | 0,_=>0
 | n+1,f=>S n f+f n
def b2 (b:Bool):Int:=if b then 1 else 0
structure Gph (g:Nat->Nat->Bool):Prop where
 sym:∀ i j,g i j=g j i
 irr:∀ i,g i i=false
def deg (n:Nat)(g:Nat->Nat->Bool)(i:Nat):Int:=S n fun j=>b2 (g i j)
def bi8 (g:Nat->Nat->Bool)(a b:Nat)(v:Bool):Nat->Nat->Bool:=fun i j=>if (i=a/\j=b)\/(i=b/\j=a) then v else g i j
end Grf
namespace Grf
structure Ex (g:Nat->Nat->Bool) (a b c d:Nat):Prop where
 ab:a≠b
 ac:a≠c
 ad:a≠d
 bc:b≠c
 bd:b≠d
 cd:c≠d
 t1:g a b=true
 t2:g c d=true
 n1:g a d=false
 n2:g c b=false
end Grf
namespace Grf
def cnt (n:Nat)(a:Nat->Bool):Int:=S n fun i=>b2 (a i)
def sm (n:Nat)(a:Nat->Bool)(d:Nat->Int):Int:=S n fun i=>if a i=true then d i else 0
def put (a:Nat->Bool)(j:Nat)(v:Bool):Nat->Bool:=fun i=>if i=j then v else a i
end Grf
namespace Grf
end Grf
namespace Grf
def mnf (r x:Int):Int:=if r<x then r else x
def roomF (n:Nat)(d:Nat->Int)(A:Nat->Bool):Int:=cnt n A*(cnt n A - 1)+S n (fun i=>if A i=true then 0 else mnf (cnt n A) (d i)) - sm n A d
def Top (n:Nat)(d:Nat->Int)(A:Nat->Bool):Prop:=∀ i j,i<n->j<n->A i=true->A j=false->d j<=d i
end Grf
namespace Web
end Web
namespace Web
inductive Wl where
 | below (p:Nat) | odd | wall (r:Nat) | free
 deriving DecidableEq
end Web
namespace Web
open L2
def rng (n:Nat):List Int:=(List.range' 0 n).map fun k:Nat=>(k:Int)
def rest (zs:List Int)(p:Int):List Int:=zs.filter fun x=>decide (x≠p)
open Grf (S b2 Gph deg cnt sm Top roomF)
end Web
namespace Web
open L2
open Grf (S b2 Gph deg bi8)
end Web
namespace Web
open L2
open Grf (S b2 Gph deg cnt sm Top roomF)
end Web
namespace Web
open L2
structure bl2 (ns ps left:List Int) (ks:List (List Int)):Prop where
 len:left.length=ps.length
 nd:ps.Nodup
 inn:∀ q∈ps,0<=q/\q<ns.length
 ends:∀ k∈ks,X5 ns.length k
 nodup:(ks.map up).Nodup
 out:∀ a b:Int,[a,b]∈ks->¬ (a∈ps/\b∈ps)
 cnt:∀ i q:Nat,ps[i]?=some (q:Int)->(bh1 ks q:Int)+left.getD i 0=ns.getD q 0
 done:∀ q:Nat,q<ns.length->(q:Int)∉ps->(bh1 ks q:Int)=ns.getD q 0
end Web
namespace Web
open PySem L2
def top (i:Nat):Stmt:=PySem.Challenge.pw_tallyweb_k61_rows_of_webs.main.body.getD i (.Pass ⟨0,0,0,0⟩)
abbrev al2:Stmt:=top 7
abbrev sUp:Stmt:=top 8
abbrev aa5:Stmt:=top 9
abbrev L8:Stmt:=top 10
abbrev ap5:Stmt:=top 14
abbrev sNW:Stmt:=top 15
abbrev N9:Stmt:=top 16
abbrev ae1:Stmt:=top 17
abbrev Q3:Stmt:=top 18
abbrev ae3:Stmt:=top 20
abbrev Q1:Stmt:=top 21
abbrev Q4:Stmt:=top 22
abbrev ap4:Stmt:=top 23
abbrev ae2:Stmt:=top 24
abbrev U5:Stmt:=top 25
abbrev ap6:Stmt:=top 26
abbrev al0:Stmt:=top 27
abbrev Q2:Stmt:=top 28
abbrev aa4:Stmt:=top 29
abbrev U4:Stmt:=top 30
abbrev U3:Stmt:=top 31
abbrev al1:Stmt:=top 32
structure Bn (mg:Str->Option Value):Prop where
 len:mg "len"=none
 range:mg "range"=none
 enum:mg "enumerate"=none
 list:mg "list"=none
 tuple:mg "tuple"=none
 sorted:mg "sorted"=none
 set:mg "set"=none
 isin:mg "isinstance"=none
 int:mg "int"=none
 bool:mg "bool"=none
 min:mg "min"=none
 max:mg "max"=none
 sum:mg "sum"=none
 str:mg "str"=none
 ve:mg "ValueError"=none
 rev:mg "reversed"=none
 all:mg "all"=none
theorem ak8:5000<=sizeLine:=by decide
theorem g6 {H:Hp}{l:Addr}{o:HO}(h:H l=none):n4 H (upd H l o):=fun b u e=>by
 rw[q8 (r6 e h)]
 exact e
section
variable {P:Program} {w:World} {K:W.Frag} {mg:Str->Option Value} {base:Heap}
def aT5:Sp:=fun vs H Q _=>∃ (x:Str) (m:Int),vs=[.str x,.int m]/\x.length<=5000/\∀ H',n4 H H'->Q (.bl (okW m x.cps.toList)) H'
theorem aT7:t7 ["word","most","figures"] ["word","most"] (d8 ap5):=⟨rfl,rfl,rfl,by decide +kernel,rfl,by decide +kernel,by decide +kernel⟩
theorem zero_eq (x:Str):decide ((V.str x:V)=.str "0")=decide (x.cps.toList=[48]):=by
 rw[A0,decide_eq_true_iff,decide_eq_true_iff,V.str.injEq,U1]
 rfl
theorem aq1 (c:Nat):decide ((V.str ⟨#[c]⟩:V)=.str "0")=decide (c=48):=by
 rw[zero_eq,A0,decide_eq_true_iff,decide_eq_true_iff]
 show [c]=[48]↔_
 simp
theorem aY5 {f:Addr} {fd:FuncData} {tF:Tok} (F:Fun K "is_number" "is_number" ap5 f fd) (B:Bn mg) (mF:mg "FIGURES"=some (.str "0123456789" tF)):p8 P w K mg base CX0 1 f fd ["word","most"] aT5:=by
 refine F.ok aT7 (fun vs H Q E h=>?_) (fun cdv A outer s H vs Q E hr h=>?_)
 ·obtain⟨x,m,rfl,_⟩:=h
  rfl
 ·obtain⟨x,m,rfl,hx,q⟩:=h
  have hsl:=ak8
  have nd1:(["sign"]:List Str).Nodup:=by decide +kernel
  refine⟨_,D2 (m6 (i:=2) aT7.nd rfl (Or.inl rfl) (aI7 (D9 (J8 PySem.F.plainAttrs_str PySem.F.slot_str_startswith PySem.F.type_str_startswith aD0 (pv 0) (a4 y9 b7))) (B9 K8 (pv 0) (C2 c4) E6) (pv 0)))
   (c8 (u7 (PW.pt (W2 (F0 (ae4 ae9 ae9 c4 (k8 X2 (by rfl) B.len PySem.boot_len (a4 (pv 2) b7)) (pv 1)))
     (O0 (F0 (D9 (k8 (aE7 rfl) (by rfl) B.all boot_all (a4
      (ac2 (N' := ["sign"]) (lk := [none]) rfl (aI3 (pv 2)) (by rfl) rfl (by decide +kernel) (by exact trivial) (by rfl) (by exact LkL.ok trivial)
       (fun _ _ _=>A3 (i:=0) nd1 rfl (Or.inl rfl)) (fun _ _ _=>W3) (fun _ _ _=>K0 aC5 (pv 0) (O1 (v:=.str "0123456789") (by rfl) mF ⟨tF,rfl⟩) (by rfl))) b7))))))) (d4 (o4 ae6)) l8)
   (d4 (o4 (bf2 (K0 F6 (pv 0) y9 (n6 _)) (Y8 (K0 ai1 (Q6 (pv 2) c4 (fun _ _=>rfl)) y9 (n6 _))))))),?_⟩
  have hF:=fgS x
  refine⟨fun σ H2=>∃ y:Str,σ=[some (.str x),some (.int m),some (.str y)]/\H=H2/\y.length<=x.length/\y.cps.toList=fgL x.cps.toList,?_,?_⟩
  ·refine⟨_,rfl,rfl,x,⟨#[45]⟩,rfl,rfl,_,rfl,?_⟩
   by_cases hs:Txt.startswith x ⟨#[45]⟩=true
   ·rw[if_pos hs]at hF
    rw[hs]
    exact A5 ⟨_,rfl,_,rfl,x,rfl,by omega,_,rfl,rfl,Txt.slice_le x _ _,hF⟩
   ·rw[if_neg hs]at hF
    rw[bc1]at hs
    rw[hs]
    exact A8 ⟨_,rfl,_,rfl,rfl,b4 _,hF⟩
  rintro σ H2 ⟨y,rfl,rfl,hy,eY⟩
  have lY:y.length=(fgL x.cps.toList).length:=by rw[<- v8,eY]
  have fin:∀ b:Bool,okW m x.cps.toList=b->∀ H',n4 H H'->Q (.bl b) H':=fun b e H' s'=>by
   rw[<- e]
   exact q H' s'
  refine⟨_,rfl,_,_,rfl,⟨by omega,rfl⟩,_,_,rfl,rfl,_,rfl,?_⟩
  by_cases h1:(1:Int)<=(y.length:Int)
  ·rw[decide_eq_true h1]
   refine A5 ⟨_,rfl,_,_,rfl,rfl,_,rfl,?_⟩
   by_cases h2:(y.length:Int)<=m
   ·rw[decide_eq_true h2]
    refine A8 ⟨_,rfl,y,rfl,fun D hD=>as3 (x:=y) (D:=D) (fun i xs σ' H'=>(∃ v,σ'=[v])/\n4 H H'/\H' D=some (.lst xs)/\xs=((y.cps.toList.take i).map isD).map V.bl)
     ⟨⟨none,rfl⟩,g6 hD,b8,by rw[P5];rfl⟩ (by omega) (fun i xs σ' H' hi ⟨_,s2,g2,e2⟩=>⟨g2,by rw[e2,b5,b5,k9];omega⟩) ?_ ?_⟩
    ·rintro i xs c σ' H' N kN hc ⟨⟨v,rfl⟩,s2,g2,rfl⟩
     refine E3 (P7 ?_)
     refine⟨_,rfl,_,_,rfl,rfl,?_⟩
     refine⟨g2,kN _ _ _ ⟨⟨_,rfl⟩,s2.upd hD,b8,?_⟩⟩
     rw[aK6,t8,hc,g7,g7]
     rfl
    ·rintro xs σ' H1 ⟨⟨v,rfl⟩,s1,g1,rfl⟩
     rw[<- v8,T9]at g1
     refine⟨D,_,rfl,g1,_,rfl,?_⟩
     have ea:((y.cps.toList.map isD).all id)=(fgL x.cps.toList).all isD:=by rw[List.all_map,eY];rfl
     rw[ea]
     cases e3:(fgL x.cps.toList).all isD with
     | false =>
      refine A5 (fin false ?_ H1 s1)
      unfold okW
      rw[e3,ax2,p9]
     | true =>
      refine A8 ⟨_,rfl,rfl,_,rfl,?_⟩
      rw[zero_eq]
      have e12:okW m x.cps.toList=(decide (x.cps.toList=[48]) || !decide ((fgL x.cps.toList).head?=some 48)):=by
       unfold okW
       rw[e3,<- lY,decide_eq_true h1,decide_eq_true h2]
       rfl
      cases e4:decide (x.cps.toList=[48]) with
      | true =>
       refine A5 (fin true ?_ H1 s1)
       rw[e12,e4,Bool.true_or]
      | false =>
       have hl:0<y.cps.toList.length:=by rw[v8];omega
       obtain⟨c,l,ec⟩:∃ c l,y.cps.toList=c::l:=by
        cases e:y.cps.toList with
        | nil=>rw[e]at hl;exact absurd hl (by decide)
        | cons c l=>exact⟨c,l,rfl⟩
       refine A8 ⟨_,rfl,y,0,c,rfl,rfl,by decide,by decide,(by show (0:Int)<(y.length:Int);omega),?_,rfl,?_⟩
       ·rw[<- a6,ec];rfl
       ·rw[aq1]
        refine fin _ ?_ H1 s1
        rw[e12,e4,Bool.false_or,<- eY,ec]
        show (!decide (some c=some 48))=_
        congr 1
        rw[A0,decide_eq_true_iff,decide_eq_true_iff,Option.some.injEq]
   ·rw[decide_eq_false h2]
    refine A5 (fin false ?_ H (n4.refl H))
    unfold okW
    rw[<- lY,decide_eq_false h2,ax2,p9,p9]
  ·rw[decide_eq_false h1]
   refine A8 ⟨_,rfl,A5 (fin false ?_ H (n4.refl H))⟩
   unfold okW
   rw[<- lY,decide_eq_false h1,p9,p9,p9]
def aW2 (CN:Addr):Sp:=fun vs H Q E=>∃ (x:Str) (m:Int),vs=[.str x,.int m]/\x.length<=5000/\m<=100/\(okW m x.cps.toList=true->∀ n H',n4 H H'->PySem.intText? x=some n->Q (.int n) H')/\(okW m x.cps.toList=false->∀ H',n4 H H'->E (.ref CN) none H')
theorem bj1:t7 ["word","most"] ["word","most"] (d8 sNW):=⟨rfl,rfl,rfl,by decide +kernel,rfl,by decide +kernel,by decide +kernel⟩
theorem aC7 {m:Int}{x:Str}(hm:m<=100)(h:okW m x.cps.toList=true):x.length<=640:=by
 unfold okW at h
 rw[d9,d9,d9,decide_eq_true_iff,decide_eq_true_iff]at h
 obtain⟨⟨⟨h1,h2⟩,h3⟩,_⟩:=h
 rw[<- v8]
 unfold fgL at h2
 split at h2
 ·rw[n9]at h2;omega
 ·omega
theorem bg1 {f fI CN:Addr}{fd fdI:FuncData}{tF:Tok}(F:Fun K "number_within" "number_within" sNW f fd)(B:Bn mg)(FI:Fun K "is_number" "is_number" ap5 fI fdI)(bI:Binds K fdI ["word","most"] [])(mI:mg "is_number"=some (.ref fI))(mF:mg "FIGURES"=some (.str "0123456789" tF))
  (mN:mg "NoText"=some (.ref CN))(cN:am9 K CN):p8 P w K mg base (CXE P w) 2 f fd ["word","most"] (aW2 CN):=by
 have GI:p8 P w K mg base CX0 1 fI fdI ["word","most"] aT5:=aY5 FI B mF
 refine F.okX bj1 (fun vs H Q E h=>?_) (fun cdv A outer s H vs Q E hr h=>?_)
 ·obtain⟨x,m,rfl,_⟩:=h
  rfl
 ·obtain⟨x,m,rfl,hx,hm,h1,h2⟩:=h
  refine⟨_,c8 (u7 (F0 (D9 (p0 GI hr rfl mI FI.kp bI .nil E1 (a4 (pv 0) (a4 (pv 1) b7))))) (d4 (J0 (by rfl) mN cN)) l8)
   (d4 (o4 (A7 T7 (by rfl) B.int (by rfl) (a4 (pv 0) b7)))),?_⟩
  refine⟨_,rfl,_,rfl,x,m,rfl,hx,fun H1 s1=>⟨_,rfl,?_⟩⟩
  cases e:okW m x.cps.toList with
  | false=>exact A5 (h2 e H1 s1)
  | true =>
   obtain⟨n,hn⟩:=aP6 hm e
   exact A8 ⟨_,rfl,x,n,rfl,hn,aC7 hm e,h1 e n H1 s1 hn⟩
def aT4:Sp:=fun vs H Q _=>∃ a b:Int,vs=[.int a,.int b]/\Q (.bl (decide (0<=b) && decide (b<a))) H
theorem be3:t7 ["places","number"] ["places","number"] (d8 al2):=⟨rfl,rfl,rfl,by decide +kernel,rfl,by decide +kernel,by decide +kernel⟩
theorem aY4 {f:Addr}{fd:FuncData}(F:Fun K "is_place" "is_place" al2 f fd):p8 P w K mg base CX0 1 f fd ["places","number"] aT4:=by
 refine F.ok be3 (fun vs H Q E h=>?_) (fun cdv A outer s H vs Q E hr h=>?_)
 ·obtain⟨a,b,rfl,_⟩:=h
  rfl
 ·obtain⟨a,b,rfl,k⟩:=h
  refine⟨_,d4 (o4 (aI8 ae9 az1 c4 (pv 1) (pv 0))),?_⟩
  refine⟨_,rfl,_,_,rfl,rfl,_,rfl,?_⟩
  cases e:decide ((0:Int)<=b) with
  | true =>
   refine A5 ⟨_,rfl,_,_,rfl,rfl,?_⟩
   rw[e,M8]at k
   exact k
  | false =>
   refine A8 ?_
   rw[e,p9]at k
   exact k
theorem bj0:t7 ["places","tie"] ["places","tie"] (d8 sUp):=⟨rfl,rfl,rfl,by decide +kernel,rfl,by decide +kernel,by decide +kernel⟩
theorem aH4:t7 ["places","ties","ascending"] ["places","ties"] (d8 aa5):=⟨rfl,rfl,rfl,by decide +kernel,rfl,by decide +kernel,by decide +kernel⟩
end
theorem aQ3 {n:Nat}{a b:List Int}(ha:Up n a)(hb:Up n b)(hne:a≠b)(h:Tim.B3 b a=false):Tim.B3 a b=true:=by
 obtain⟨i,j,_,_,rfl⟩:=ha
 obtain⟨u,v,_,_,rfl⟩:=hb
 unfold Tim.B3 Tim.B3 at h ⊢
 by_cases e1:(u:Int)=i
 ·rw[if_pos e1]at h
  rw[if_pos e1.symm]
  by_cases e2:(v:Int)=j
  ·exact absurd (by rw[e1,e2]) hne
  ·rw[if_neg e2]at h
   rw[if_neg (Ne.symm e2)]
   have:=of_decide_eq_false h
   exact decide_eq_true (by omega)
 ·rw[if_neg e1]at h
  rw[if_neg (Ne.symm e1)]
  have:=of_decide_eq_false h
  exact decide_eq_true (by omega)
theorem ba6 {n:Nat}{ks:List (List Int)}(ups:∀ k∈ks,Up n k)(nd:ks.Nodup)(so:ks.Pairwise (fun a b=>Tim.B3 b a=false)):Asc ks:=by
 have h2:=at7.mp nd
 have h3:=so.and h2
 exact List.Pairwise.imp_of_mem (fun {a b} ha hb h=>aQ3 (ups a ha) (ups b hb) h.2 h.1) h3
theorem ak1 {n:Nat}:∀ {ks:List (List Int)},(∀ k∈ks,Up n k)->ks.map up=ks
 | [],_=>rfl
 | k::ks,h=>by
  rw[j8,ak1 fun x hx=>h x (a7 _ hx)]
  rw[bc5 (h k b9)]
structure Tld (n:Nat) (ks:List (List Int)):Prop where
 ups:∀ k∈ks,Up n k
 nd:ks.Nodup
 srt:ks.Pairwise (fun a b=>Tim.B3 b a=false)
def GoodW (n:Int)(hs:List (List Int)):Prop:=∃ m:Nat,n=m/\1<=m/\m<=24/\(∀ k∈hs,X5 m k)/\(hs.map up).Nodup
def Wx (K:W.Frag)(H:Hp)(p:Addr)(z:Int)(ks:List (List Int)):Prop:=(∃ t zs,SqT K H p [.int z,.ref t]/\SqT K H t zs/\t5 K H zs ks)/\(∀ k∈ks,∃ a b,k=[a,b])/\ks.length<300
structure Tl (z:Int) (n:Nat) (ks:List (List Int)):Prop where
 z:z=n
 n1:1<=n
 n2:n<=24
 t:Tld n ks
theorem aG3 {z:Int}{hs ks:List (List Int)}(h:GoodW z hs)(pm:ks.Perm (hs.map up))(so:ks.Pairwise (fun a b=>Tim.B3 b a=false)):ks=hs↔∃ n:Nat,Tl z n hs:=by
 obtain⟨m,rfl,m1,m2,hE,hN⟩:=h
 constructor
 ·intro e
  subst e
  have hup:∀ k∈ks,Up m k:=fun k hk=>by
   obtain⟨k0,h0,rfl⟩:=m8.mp (pm.mem_iff.mp hk)
   exact(hE k0 h0).up
  exact⟨m,rfl,m1,m2,⟨hup,pm.nodup_iff.mpr hN,so⟩⟩
 ·rintro⟨n,e,_,_,T⟩
  have:n=m:=by omega
  subst this
  rw[ak1 T.ups]at pm
  exact as8 (ba6 T.ups T.nd T.srt) pm so
theorem ax7 {z:Int}{n:Nat}{hs:List (List Int)}(h:Tl z n hs):GoodW z hs:=⟨n,h.z,h.n1,h.n2,fun k hk=>(h.t.ups k hk).ends,by rw[ak1 h.t.ups];exact h.t.nd⟩
seal L2.PE L2.PA L2.PS L2.PSs L2.PT
section
variable {P:Program} {w:World} {K:W.Frag} {mg:Str->Option Value} {base:Heap}
def aT1 (K:W.Frag)(CW:Addr):Sp:=fun vs H Q E=>∃ (n:Nat) (a:Addr) (p q:Int),vs=[.int n,.ref a]/\SqT K H a (([p,q]:List Int).map V.int) /\
 (X5 n [p,q]->∀ t,H t=none->Q (.ref t) (upd H t (.tup ((up [p,q]).map V.int))))/\(¬ X5 n [p,q]->E (.ref CW) none H)
theorem aJ8 {n:Nat}{p:Int}(h:¬ (0<=p/\p<(n:Int))):(decide ((0:Int)<=p) && decide (p<(n:Int)))=false:=by
 rw[Bool.and_eq_false_iff]
 by_cases z:(0:Int)<=p
 ·exact .inr (decide_eq_false fun z'=>h ⟨z,z'⟩)
 ·exact .inl (decide_eq_false z)
theorem X0 {n:Nat}{p q:Int}:X5 n [p,q]↔(0<=p/\p<(n:Int))/\(0<=q/\q<(n:Int))/\p≠q:=by
 constructor
 ·rintro⟨i,j,h1,h2,h3,e⟩
  injection e with e1 e2
  injection e2 with e2 _
  subst e1 e2
  exact⟨⟨by omega,by omega⟩,⟨by omega,by omega⟩,by omega⟩
 ·rintro⟨⟨a,b⟩,⟨c,d⟩,e⟩
  exact⟨p.toNat,q.toNat,by omega,by omega,by omega,by congr 1;omega;congr 1;omega⟩
theorem aX8 {f fI CW:Addr} {fd fdI:FuncData} (F:Fun K "turned_up" "turned_up" sUp f fd) (B:Bn mg) (FI:Fun K "is_place" "is_place" al2 fI fdI) (bI:Binds K fdI ["places","number"] []) (mI:mg "is_place"=some (.ref fI)) (mW:mg "BadWeb"=some (.ref CW)) (cW:am9 K CW) :
  p8 P w K mg base (CXE P w) 2 f fd ["places","tie"] (aT1 K CW):=by
 have GI:p8 P w K mg base CX0 1 fI fdI ["places","number"] aT4:=aY4 FI
 refine F.okX bj0 (fun vs H Q E h=>?_) (fun cdv A outer s H vs Q E hr h=>?_)
 ·obtain⟨n,a,p,q,rfl,_⟩:=h
  rfl
 ·obtain⟨n,a,p,q,rfl,hS,h1,h2⟩:=h
  refine⟨_,c8 (u7 (PW.pt (W2 (F0 (D9 (p0 GI hr rfl mI FI.kp bI .nil E1 (a4 (pv 0) (a4 (B4 C4 (pv 1) c4 (fun _ _=>rfl)) b7)))))
     (O0 (F0 (D9 (p0 GI hr rfl mI FI.kp bI .nil E1 (a4 (pv 0) (a4 (B4 C4 (pv 1) c4 (fun _ _=>rfl)) b7)))))))) (d4 (J0 (by rfl) mW cW)) l8)
   (c8 (u7 (m5 F6 (B4 C4 (pv 1) c4 (fun _ _=>rfl)) (B4 C4 (pv 1) c4 (fun _ _=>rfl)) (n6 _)) (d4 (J0 (by rfl) mW cW)) l8)
   (d4 (o4 (Q5 (a4 (k8 (aj2 rfl) (by rfl) B.min (by rfl) (a4 (B4 C4 (pv 1) c4 (fun _ _ => rfl)) (a4 (B4 C4 (pv 1) c4 (fun _ _ => rfl)) b7)))
    (a4 (k8 (aj3 rfl) (by rfl) B.max (by rfl) (a4 (B4 C4 (pv 1) c4 (fun _ _=>rfl)) (a4 (B4 C4 (pv 1) c4 (fun _ _=>rfl)) b7))) b7)))))),?_⟩
  have a0:atI (([p,q]:List Int).map V.int) 0=some (.int p):=o5 (j:=0) rfl
  have a1:atI (([p,q]:List Int).map V.int) 1=some (.int q):=o5 (j:=1) rfl
  refine⟨_,rfl,_,rfl,a,_,_,_,rfl,rfl,hS,a0,_,_,rfl,?_⟩
  by_cases hp:0<=p/\p<(n:Int)
  ·rw[decide_eq_true hp.1,decide_eq_true hp.2]
   refine⟨_,rfl,A8 ?_⟩
   refine⟨_,rfl,_,rfl,a,_,_,_,rfl,rfl,hS,a1,_,_,rfl,?_⟩
   by_cases hq:0<=q/\q<(n:Int)
   ·rw[decide_eq_true hq.1,decide_eq_true hq.2]
    refine⟨_,rfl,A8 ?_⟩
    refine⟨_,rfl,a,_,_,_,rfl,rfl,hS,a0,_,rfl,a,_,_,_,rfl,rfl,hS,a1,rfl,_,rfl,?_⟩
    by_cases hpq:p=q
    ·rw[decide_eq_true (by rw[hpq])]
     exact A5 (h2 fun z=>(X0.mp z).2.2 hpq)
    ·rw[decide_eq_false (show ¬ V.int p=V.int q by intro z;injection z;exact hpq ‹_›)]
     refine A8 ?_
     refine⟨_,rfl,a,_,_,_,rfl,rfl,hS,a0,_,rfl,a,_,_,_,rfl,rfl,hS,a1,_,_,rfl,?_⟩
     refine⟨_,rfl,a,_,_,_,rfl,rfl,hS,a0,_,rfl,a,_,_,_,rfl,rfl,hS,a1,_,_,rfl,(by show 2<=sizeLine;decide),fun t ht=>?_⟩
     exact h1 (X0.mpr ⟨hp,hq,hpq⟩) t ht
   ·rw[aJ8 hq]
    exact⟨_,rfl,A5 (h2 fun z=>hq (X0.mp z).2.1)⟩
  ·rw[aJ8 hp]
   exact⟨_,rfl,A5 (A5 (h2 fun z=>hp (X0.mp z).1))⟩
def ac0 (K:W.Frag)(CW:Addr):Sp:=fun vs H Q E=>∃ (n:Int) (a:Addr) (ys:List V) (hs:List (List Int)),vs=[.int n,.ref a]/\(SqL K H a ys\/SqT K H a ys)/\t5 K H ys hs/\(∀ k∈hs,∃ p q,k=[p,q])/\hs.length<300 /\
 (GoodW n hs->∀ (p t:Addr) (zs:List V) (ks:List (List Int)) (H':Hp),n4 H H'->H' p=some (.tup [.int n,.ref t])->H' t=some (.tup zs)->t5 K H' zs ks->ks.Perm (hs.map up)->ks.Pairwise (fun a b=>Tim.B3 b a=false)->Q (.ref p) H')/\(¬ GoodW n hs->∀ H',n4 H H'->E (.ref CW) none H')
theorem aJ5 {f fI fU CW:Addr} {fd fdI fdU:FuncData} {tk:Tok} (F:Fun K "made" "made" aa5 f fd) (B:Bn mg) (FI:Fun K "is_place" "is_place" al2 fI fdI) (bI:Binds K fdI ["places","number"] []) (mI:mg "is_place"=some (.ref fI))
  (FU:Fun K "turned_up" "turned_up" sUp fU fdU) (bU:Binds K fdU ["places","tie"] []) (mU:mg "turned_up"=some (.ref fU)) (mM:mg "MOST_PLACES"=some (.int 24 tk)) (mW:mg "BadWeb"=some (.ref CW)) (cW:am9 K CW) :
  p8 P w K mg base (CXE P w) 3 f fd ["places","ties"] (ac0 K CW):=by
 have GU:p8 P w K mg base (CXE P w) 2 fU fdU ["places","tie"] (aT1 K CW):=aX8 FU B FI bI mI mW cW
 refine F.okX aH4 (fun vs H Q E h=>?_) (fun cdv A outer s H vs Q E hr h=>?_)
 ·obtain⟨n,a,ys,hs,rfl,_⟩:=h
  rfl
 ·obtain⟨n,a,ys,hs,rfl,hS,hT,h2,hL,q,qE⟩:=h
  have hu8:=bb6 (G5 (by decide:8<=64) _) hr.units
  have hyl:=hT.len
  have nd2:(["tie","places"]:List Str).Nodup:=by decide +kernel
  refine⟨_,c8 (u7 (F0 (ae4 ae9 ae9 c4 (pv 0) (O1 (v:=.int 24) rfl mM ⟨_,rfl⟩))) (d4 (J0 (by rfl) mW cW)) l8)
    (c8 (m6 (i := 2) aH4.nd rfl (Or.inl rfl) (k8 as6 (by rfl) B.sorted (by rfl) (a4
     (aq0 (E := E) rfl (N' := ["tie", "places"]) (lk := [none, some 0]) rfl (bf1 (S2 (pv 1)) (av0 (pv 1))) (by rfl) rfl (by decide +kernel) (by exact ⟨rfl, trivial⟩) (by rfl) (by exact LkL.ok ⟨⟨rfl, Or.inl rfl, rfl, Or.inl rfl⟩, trivial⟩)
      (fun _ _ _ _ _=>A3 (i:=0) nd2 rfl (Or.inl rfl)) (fun _ _ _ _ _=>W3) (fun _ _ _ _ _ I3 f3=>p0 GU hr (by rfl) mU FU.kp bU .nil (aU2 I3 f3) (a4 (pv 1) (a4 (pv 0) b7)))) b7)))
    (c8 (u7 (m5 az1 (k8 call_len_set (by rfl) B.len PySem.boot_len (a4 (A7 (aL1 rfl hu8) (by rfl) B.set (by rfl) (a4 (pv 2) b7)) b7)) (k8 x6 (by rfl) B.len PySem.boot_len (a4 (pv 2) b7)) (n6 _)) (d4 (J0 (by rfl) mW cW)) l8)
    (d4 (o4 (Q5 (a4 (pv 0) (a4 (A7 G9 (by rfl) B.tuple (by rfl) (a4 (pv 2) b7)) b7))))))),?_⟩
  refine⟨_,rfl,_,_,rfl,rfl,_,rfl,?_⟩
  by_cases n1:(1:Int)<=n
  ·rw[decide_eq_true n1]
   refine A5 ⟨_,_,rfl,rfl,_,rfl,?_⟩
   by_cases n2:n<=24
   ·rw[decide_eq_true n2]
    refine A8 ?_
    obtain⟨m,rfl⟩:∃ m:Nat,n=(m:Int):=⟨n.toNat,by omega⟩
    have m1:1<=m:=by omega
    have m2:m<=24:=by omega
    refine Or.imp (fun h=>⟨_,rfl,h⟩) (fun h=>⟨_,rfl,h⟩) (aE5 (K:=K) (a:=a) (ys:=ys) hS (by have:=ak8;omega) (fun D i xs σ' H'=>∃ v,σ'=[v,some (.int m)]/\n4 H H'/\H' D=some (.lst xs)/\t5 K H' xs ((hs.take i).map up)/\∀ k∈hs.take i,X5 m k) (fun D hD=>⟨none,rfl,g6 hD,b8,.nil,(fun k hk=>by simp at hk)⟩)
     (fun D i xs σ' H' hD hi ⟨_,_,s1,h1,h2,_⟩=>⟨s1,h1,by have:=h2.len;simp at this;omega⟩) ?_ ?_)
    ·rintro D i xs x σ' H' N hD kN hx ⟨v,rfl,s1,hd,ht,hE⟩
     refine E3 ?_
     refine P7 ?_
     obtain⟨b,kk,rfl,hk,hq⟩:=hT.get hx
     obtain⟨p,pq,rfl⟩:=h2 kk (a9 hk)
     refine⟨_,rfl,_,rfl,m,b,p,pq,rfl,s1.seqT hq,fun hend t htn=>?_,fun hbad=>qE (fun⟨m',em,_,_,g,_⟩=>hbad ?_) _ s1⟩
     ·have npd:D≠t:=r6 hd htn
      have hd':(upd H' t (.tup ((up [p,pq]).map V.int))) D=some (.lst xs):=by rw[q8 npd];exact hd
      have ek:hs.take (i+1)=hs.take i++[[p,pq]]:=by rw[t8,hk];rfl
      refine⟨hd',kN _ _ _ ⟨_,rfl,(s1.trans (g6 htn)).upd hD,b8,?_,fun k hk'=>?_⟩⟩
      ·rw[ek,g7]
       exact t5.updL hd' (t5.append (n4.tups (g6 htn) ht) (t5.one (SqT.of b8)))
      ·rw[ek]at hk'
       rcases l6.mp hk' with z | z
       ·exact hE k z
       ·rw[i7.mp z];exact hend
     ·have em':m'=m:=by omega
      subst em'
      exact g _ (a9 hk)
    ·rintro D xs σ' H1 hD ⟨v,rfl,s1,h1,h2',hE⟩
     rw[i9 (by omega)]at h2' hE
     have hup:∀ k∈hs.map up,Up m k:=fun k hk=>by
      obtain⟨k0,h0,rfl⟩:=m8.mp hk
      exact(hE k0 h0).up
     refine⟨D,xs,_,rfl,SqL.of h1,h2',(fun k hk z=>by have:=(hup k hk).len;rw[z]at this;cases this),fun l zs ks hl pk hs1 ht1=>?_⟩
     have hkl:ks.length=hs.length:=by rw[pk.length_eq,b5]
     have hzl:=ht1.len
     have s2:n4 H (upd H1 l (.lst zs)):=s1.trans (g6 hl)
     refine⟨_,rfl,l,zs,ks,rfl,SqL.of b8,ht1,(fun k hk=>(hup k (pk.mem_iff.mp hk)).key m2),by omega,fun S hSn=>?_⟩
     have hlS:l≠S:=r6 b8 hSn
     have s3:=s2.trans (g6 (o:=aF1 P w S (ks.foldl Sett.K1 []).length) hSn)
     have l3:(upd (upd H1 l (.lst zs)) S (aF1 P w S (ks.foldl Sett.K1 []).length)) l=some (.lst zs):=by rw[q8 hlS,b8]
     refine⟨S,_,rfl,b8,_,rfl,l,zs,rfl,.inl (SqL.of l3),_,_,rfl,rfl,_,rfl,?_⟩
     by_cases hN:(hs.map up).Nodup
     ·have hfold:(ks.foldl Sett.K1 []).length=zs.length:=by
       have:=(Sett.Z3 ks []).mpr ⟨(pk.nodup_iff).mpr hN,fun x _=>by simp⟩
       simp at this
       omega
      rw[decide_eq_false (by omega)]
      refine A8 ?_
      refine⟨_,rfl,_,rfl,l,zs,rfl,.inl ⟨SqL.of l3,fun t ht=>⟨(by show 2<=sizeLine;decide),fun p hp=>?_⟩⟩⟩
      have st:=g6 (o:=.tup zs) ht
      have sp:=g6 (o:=.tup [.int (m:Int),.ref t]) hp
      exact q ⟨m,rfl,m1,m2,hE,hN⟩ p t zs ks _ ((s3.trans st).trans sp) b8 (sp _ _ b8) (((g6 (o:=aF1 P w S (ks.foldl Sett.K1 []).length) hSn).trans (st.trans sp)).tups ht1) pk hs1
     ·have hfold:(ks.foldl Sett.K1 []).length<zs.length:=by
       have h1:=Sett.W9 ks []
       have h3:(ks.foldl Sett.K1 []).length≠([]:List (List Int)).length+ks.length:=fun z=>hN ((pk.nodup_iff).mp ((Sett.Z3 ks []).mp z).1)
       simp at h1 h3
       omega
      rw[decide_eq_true (by omega)]
      refine A5 (qE (fun⟨m',em,_,_,_,g⟩=>hN g) _ s3)
   ·rw[decide_eq_false n2]
    exact A5 (qE (fun⟨m',em,_,z,_,_⟩=>n2 (by omega)) _ (n4.refl H))
  ·rw[decide_eq_false n1]
   exact A8 ⟨_,rfl,A5 (qE (fun⟨m',em,z,_,_,_⟩=>n1 (by omega)) _ (n4.refl H))⟩
def ak3 (K:W.Frag):Sp:=fun vs H Q _=>∃ (p:Addr) (z:Int) (ks:List (List Int)),vs=[.ref p]/\Wx K H p z ks/\∀ (b:Bool) (H':Hp),n4 H H'->(b=true↔∃ n:Nat,Tl z n ks)->Q (.bl b) H'
theorem aW4:t7 ["web"] ["web"] (d8 L8):=⟨rfl,rfl,rfl,by decide +kernel,rfl,by decide +kernel,by decide +kernel⟩
theorem aJ4 {f fV CX:Addr}{fd fdV:FuncData}(F:Fun K "is_told" "is_told" L8 f fd)(FV:Fun K "made" "made" aa5 fV fdV)(bV:Binds K fdV ["places","ties"] [])(mV:mg "made"=some (.ref fV))(GV:p8 P w K mg base (CXE P w) 3 fV fdV ["places","ties"] (ac0 K CX))(mX:mg "BadWeb"=some (.ref CX))(xX:PySem.W.exmOne K (.ref CX) (.ref CX)=some true):p8 P w K mg base CX0 4 f fd ["web"] (ak3 K):=by
 refine F.ok aW4 (fun vs H Q E h=>?_) (fun cdv A outer s H vs Q E hr h=>?_)
 ·obtain⟨p,z,ks,rfl,_⟩:=h
  rfl
 ·obtain⟨p,z,ks,rfl,⟨⟨t,zs,h1,h2,h3⟩,hp2,hkl⟩,q⟩:=h
  have hun:=hr.units
  refine⟨_,d4 (aO5 (by rfl) mX rfl rfl (fun _ _=>d4 (o4 (K0 (az2 K hr.around rfl rfl) (ae5 GV hr (by rfl) mV FV.kp bV al4 (a4 (ac1 K rfl (pv 0) c4 (fun _ _=>rfl)) (a4 (ac1 K rfl (pv 0) c4 (fun _ _=>rfl)) b7))) (pv 0) (n6 _)))) (fun _=>d4 (o4 ae6))),?_⟩
  have a0:atI ([.int z,.ref t]:List V) 0=some (.int z):=o5 (j:=0) rfl
  have a1:atI ([.int z,.ref t]:List V) 1=some (.ref t):=o5 (j:=1) rfl
  refine⟨fun σ' cls _ H'=>n4 H H'/\cls=.ref CX/\¬ GoodW z ks,?_,?_⟩
  ·refine⟨_,rfl,.inr (.inl ⟨p,_,_,_,rfl,rfl,h1,a0,_,rfl,.inr (.inl ⟨p,_,_,_,rfl,rfl,h1,a1,?_⟩)⟩)⟩
   refine⟨z,t,zs,ks,rfl,.inr h2,h3,hp2,hkl,fun hg r t' zs2 ks2 H' s' k1 k2 tt pm so=>?_,fun hg H' s'=>⟨s',rfl,hg⟩⟩
   have hw:Dt K H' (dW z ks) (.ref p):=Dt.mkT (s'.seqT h1) (.mkC .mkInt (.mkC (Dt.mkT (s'.seqT h2) (s'.tups h3).dtAll) .mkN))
   have hw2:Dt K H' (dW z ks2) (.ref r):=Dt.mkT (SqT.of k1) (.mkC .mkInt (.mkC (Dt.mkT (SqT.of k2) tt.dtAll) .mkN))
   refine⟨_,rfl,_,_,hw2,hw,aU5 _ _,aU5 _ _,?_,?_⟩
   ·refine aG1 hun (o7 (at8 _ _) ?_)
    have:=bg9 z ks2
    omega
   ·rw[if_neg b6,bg8,decide_eq_true rfl,M8]
    refine q _ H' s' ?_
    rw[decide_eq_true_iff]
    exact aG3 hg pm so
  ·rintro σ' cls H' ⟨s',rfl,hg⟩
   exact⟨xX,q false H' s' ⟨fun h=>(by cases h),fun⟨n,h⟩=>absurd (ax7 h) hg⟩⟩
end
end Web
namespace Web
open PySem L2
theorem p60:(0:Int)<10 ^ (Int.toNat 60):=Int.pow_pos (by decide)
theorem ba4 {ns:List Int}{j:Nat}(h:j<ns.length):atI (ns.map V.int) (j:Int)=some (.int (ns.getD j 0)):=o5 (j:=j) (by simp[h])
theorem az5 (c:Int){n:Nat}(h:0<n):∃ j:Nat,c % (n:Int)=(j:Int)/\j<n:=by
 have h1:=N6 c (show (n:Int)≠0 by omega)
 have h2:=J4 c (show (0:Int)<(n:Int) by omega)
 exact⟨(c % (n:Int)).toNat,by omega,by omega⟩
section
variable {P:Program} {w:World} {K:W.Frag} {mg:Str->Option Value} {base:Heap}
def aH1 (K:W.Frag):Sp:=fun vs H Q _=>∃ (a:Addr) (ns:List Int) (k:Nat),vs=[.ref a,.int k]/\SqL K H a (ns.map V.int)/\∀ r:Int,Q (.int r) H
theorem aW5:t7 ["script","k"] ["script","k"] (d8 ae3):=⟨rfl,rfl,rfl,by decide +kernel,rfl,by decide +kernel,by decide +kernel⟩
theorem aP5 {f:Addr}{fd:FuncData}(F:Fun K "_law_cell_at" "_law_cell_at" ae3 f fd)(B:Bn mg):p8 P w K mg base CX0 1 f fd ["script","k"] (aH1 K):=by
 refine F.ok aW5 (fun vs H Q E h=>?_) (fun cdv A outer s H vs Q E hr h=>?_)
 ·obtain⟨a,ns,k,rfl,_⟩:=h
  rfl
 ·obtain⟨a,ns,k,rfl,hS,q⟩:=h
  refine⟨_,c8 (u7 (m5 az1 (pv 1) (k8 x6 (by rfl) B.len PySem.boot_len (a4 (pv 0) b7)) (n6 _)) (d4 (o4 (B4 F3 (pv 0) (pv 1) (fun _ _=>rfl)))) l8)
   (d4 (o4 c4)),?_⟩
  refine⟨_,rfl,_,rfl,a,_,rfl,.inl hS,_,_,rfl,rfl,_,rfl,?_⟩
  refine R1 (fun h=>?_) (fun h=>?_)
  ·have hl:k<ns.length:=by
    have:=of_decide_eq_true h
    rw[b5]at this
    omega
   refine⟨_,rfl,_,rfl,a,_,_,_,rfl,rfl,hS,o5 (j:=k) (v:=.int ns[k]) (by simp[hl]),?_⟩
   exact q _
  ·exact q _
def aT2 (K:W.Frag):Sp:=fun vs H Q _=>∃ (c:Int) (m z:Nat),vs=[.int c,.int m,.int z]/\m<=300/\1<=z/\z<=100000000/\∀ (l:Addr) (ts:List Int) (H':Hp),ts.length=m->n4 H H'->H l=none->H' l=some (.lst (ts.map V.int))->Q (.ref l) H'
theorem T6:t7 ["cell","many","size","rest","stir","row","k"] ["cell","many","size"] (d8 ap4):=⟨rfl,rfl,rfl,by decide +kernel,rfl,by decide +kernel,by decide +kernel⟩
theorem aY0 {f:Addr} {fd:FuncData} (F:Fun K "_law_row" "_law_row" ap4 f fd) (B:Bn mg):p8 P w K mg base CX0 1 f fd ["cell","many","size"] (aT2 K):=by
 refine F.ok T6 (fun vs H Q E h=>?_) (fun cdv A outer s H vs Q E hr h=>?_)
 ·obtain⟨c,m,z,rfl,_⟩:=h
  rfl
 ·obtain⟨c,m,z,rfl,hm,hz1,hz2,q⟩:=h
  have hsl:=ak8
  have hz0:(0:Int)<(z:Int):=by omega
  refine⟨_,c8 (m6 (i:=0) T6.nd rfl (Or.inl rfl) (k7 B1 (pv 0) (k7 al5 c4 c4)))
   (c8 (m6 (i:=3) T6.nd rfl (Or.inl rfl) (k7 C3 (pv 0) c4))
   (c8 (m6 (i:=4) T6.nd rfl (Or.inl rfl) (pv 0))
   (c8 (m6 (i:=5) T6.nd rfl (Or.inl rfl) (M5 b7))
   (c8 (M4 PassesOwn.never rfl (K5 rfl B.range (a4 (pv 1) b7)) (A3 (i := 6) T6.nd rfl (Or.inl rfl))
    (d4 (u7 (m5 F6 (k7 B1 (pv 0) c4) c4 (n6 _))
     (c8 (S1 (J8 PySem.F.plainAttrs_list PySem.F.slot_list_append PySem.F.type_list_append G7 (pv 5) (a4 (k7 B1 (pv 3) (pv 2)) b7)))
     (d4 (m6 (i:=3) T6.nd rfl (Or.inl rfl) (k7 C3 (pv 3) (pv 2)))))
     (c8 (m6 (i:=4) T6.nd rfl (Or.inl rfl) (k7 B1 (k7 M6 (k7 B1 (pv 4) c4) (k7 av2 c4 (k7 M6 (pv 6) c4))) c4))
     (c8 (m6 (i:=4) T6.nd rfl (Or.inl rfl) (k7 B1 (k7 av2 (pv 4) (pv 4)) c4))
     (c8 (m6 (i:=4) T6.nd rfl (Or.inl rfl) (k7 B1 (k7 av2 (pv 4) c4) c4))
     (d4 (S1 (J8 PySem.F.plainAttrs_list PySem.F.slot_list_append PySem.F.type_list_append G7 (pv 5) (a4 (k7 B1 (k7 C3 (pv 4) c4) (pv 2)) b7))))))))))
   (d4 (o4 (pv 5))))))),?_⟩
  refine⟨_,rfl,_,_,rfl,rfl,⟨by decide,by decide,by decide⟩,_,_,rfl,rfl,p60,?_⟩
  refine B8 fun c1 _=>?_
  refine⟨_,rfl,_,_,rfl,rfl,⟨by decide,by decide⟩,?_⟩
  refine B8 fun r0 _=>?_
  refine⟨_,rfl,?_⟩
  refine⟨by show 0<=sizeLine;omega,fun l hl=>?_⟩
  have s0:=g6 (o:=.lst []) hl
  refine⟨_,rfl,m,rfl,by omega,by omega,K6 (lo:=0) (n:=m) (fun i σ H1=>∃ (ts:List Int) (r st:Int) (e6:Option V),σ=[some (.int c1),some (.int m),some (.int z),some (.int r),some (.int st),some (.ref l),e6]/\n4 H H1/\H1 l=some (.lst (ts.map V.int))/\ts.length=i)
   ⟨[],r0,c1,none,rfl,s0,b8,rfl⟩ ?_ ?_⟩
  ·rintro i σ H1 hi ⟨ts,r,st,e6,rfl,s1,g1,hl1⟩
   have e0:((0:Int)+(i:Int))=(i:Int):=by omega
   rw[e0]
   refine E3 ?_
   refine⟨_,rfl,_,_,rfl,rfl,(by show (0:Int)<2;decide),rfl,_,rfl,?_⟩
   refine R1 (fun h=>?_) (fun h=>?_)
   ·refine⟨_,rfl,.inl ⟨rfl,_,SqL.of g1⟩,_,rfl,_,rfl,_,_,rfl,rfl,hz0,l,_,_,rfl,rfl,g1,by rw[b5];omega,?_⟩
    refine⟨_,rfl,_,rfl,_,_,rfl,rfl,⟨hz0,by omega⟩,?_⟩
    exact⟨ts++[r % (z:Int)],_,_,_,rfl,s1.upd hl,by rw[b8,g7];rfl,by rw[c6,hl1];rfl⟩
   ·refine⟨_,rfl,_,_,rfl,rfl,(by show (0:Int)<998244353;decide),_,rfl,_,_,rfl,rfl,_,_,rfl,rfl,.inl ⟨by decide,by decide⟩,_,_,rfl,rfl,_,_,rfl,rfl,(by show (0:Int)<2147483647;decide),?_⟩
    refine B8 fun k1 hk1=>?_
    have k10:0<=k1:=by rw[hk1];exact N6 _ (by decide)
    have k11:k1<2147483647:=by rw[hk1];exact J4 _ (by decide)
    clear hk1
    refine⟨_,rfl,_,rfl,_,_,rfl,rfl,.inl ⟨by omega,by omega⟩,_,_,rfl,rfl,(by show (0:Int)<2147483629;decide),?_⟩
    refine B8 fun k2 _=>?_
    refine⟨_,rfl,_,_,rfl,rfl,.inr ⟨by decide,by decide⟩,_,_,rfl,rfl,(by show (0:Int)<2147483647;decide),?_⟩
    refine B8 fun k3 _=>?_
    refine⟨_,rfl,.inl ⟨rfl,_,SqL.of g1⟩,_,rfl,_,_,rfl,rfl,⟨by decide,by decide⟩,_,rfl,_,_,rfl,rfl,hz0,l,_,_,rfl,rfl,g1,by rw[b5];omega,?_⟩
    exact⟨ts++[k3 / 7 % (z:Int)],_,_,_,rfl,s1.upd hl,by rw[b8,g7];rfl,by rw[c6,hl1];rfl⟩
  ·rintro σ H1 ⟨ts,r,st,e6,rfl,s1,g1,hl1⟩
   exact⟨_,rfl,q l ts H1 hl1 s1 hl g1⟩
end
end Web
namespace L2
open PySem PySem.Spec PyProof.Rows PySem.Builtin PySem.Builtin.Str
section
variable {X:Cx}
def bi5 (c:Str)(ta tb:TE):TE:=fun σ H Q=>ta σ H fun x H1=>∃ i:Int,x=.int i/\i.natAbs.log2<1920/\(Str.ofString (toString i)).length<=1000/\tb σ H1 fun y H2=>∃ j:Int,y=.int j/\j.natAbs.log2<1920/\(Str.ofString (toString j)).length<=1000/\Q (.str (Str.ofString (toString i)++c++Str.ofString (toString j))) H2
theorem aR4 (x:Str):Str.empty++x=x:=PyProof.Rows.ext_toList (by rw[PySem.W.KT.app_list];rfl)
theorem aO9 {a b:Expr}{ta tb:TE}{c:Str}{k:Nat}{p1 p2 p3 pos:Pos}(ha:PE X a ta)(hb:PE X b tb)(hc:c.length<=1000):PE X (.JoinedStr [.FormattedValue a (-1) none p1,.Constant (.str c) k p2,.FormattedValue b (-1) none p3] pos) (bi5 c ta tb):=by
 intro pins s σ H Q I h
 have hsl:sizeLine=16777216:=sizeLine_eq
 refine JoinedStr_many (joinParts_cons (FormattedValue_plain (thn (ha pins s σ H _ I h) fun v s1 ⟨x,H1,I1,r1,q1⟩=>?_)))
 obtain⟨i,rfl,hd,hl,q1⟩:=q1
 obtain⟨t,rfl⟩:=r1
 refine formatField_int_small hd ?_
 show (Str.empty++Str.ofString (toString i)).length<=sizeLine/\_
 rw[aR4]
 refine⟨by omega,joinParts_cons (thn (y9 (X:=X) (x:=c) (j:=k) (pos:=p2) pins _ σ H1 (fun v H2=>v=.str c/\H2=H1) (I1.tok _) ⟨rfl,rfl⟩) fun v2 s2 ⟨x2,H2,I2,r2,e2,e3⟩=>?_)⟩
 subst e2 e3
 obtain⟨t2,rfl⟩:=r2
 refine⟨by rw[len_app];omega,?_⟩
 refine joinParts_cons (FormattedValue_plain (thn (hb pins s2 σ H2 _ I2 q1) fun v3 s3 ⟨y,H3,I3,r3,q3⟩=>?_))
 obtain⟨j,rfl,hd2,hl2,q3⟩:=q3
 obtain⟨t3,rfl⟩:=r3
 refine formatField_int_small hd2 ?_
 show (Str.ofString (toString i)++c++Str.ofString (toString j)).length<=sizeLine/\_
 have hz:(Str.ofString (toString i)++c++Str.ofString (toString j)).length<=sizeLine:=by rw[len_app,len_app];omega
 refine⟨hz,joinParts_nil ?_ hz⟩
 exact⟨.str _,H3,I3.tok _,⟨_,rfl⟩,q3⟩
end
end L2
namespace HT
open PySem PyProof.Rows
section
variable {prog:Program} {w:World} {A:Around} {E:Value->Shared->Prop} {s:Shared}
end
end HT
namespace L2
open PySem PySem.Spec PyProof.Rows
section
variable {X:Cx} {e st:Expr} {te ts:TE} {pos p2:Pos}
end
end L2
namespace Web
open PySem L2
theorem Z6:((" ":Str).length == 0)=false:=by decide +kernel
theorem as0:(("-":Str).length == 0)=false:=by decide +kernel
theorem ad6 (x y:Str):∃ v r,Txt.split x y=v::r:=by
 have:=(split_len x y).1
 cases e:Txt.split x y with
 | nil=>rw[e]at this;exact absurd this (by decide)
 | cons v r=>exact⟨v,r,rfl⟩
theorem ah5 {x y v:Str}{r:List Str}(e:Txt.split x y=v::r)(hx:x.length<=5000):v.length<=5000/\(∀ u∈r,u.length<=5000)/\r.length<=5001:=by
 have h:∀ u∈v::r,u.length<=5000:=fun u hu=>o7 (K4 (x:=x) (y:=y) (by rw[e];exact hu)).1 hx
 have h2:=(split_len x y).2
 rw[e,d6]at h2
 exact⟨h v b9,fun u hu=>h u (a7 _ hu),by omega⟩
theorem au2 {ws:List Str}{i:Nat}{x:V}(h:(ws.map V.str)[i]?=some x):∃ u∈ws,ws[i]?=some u/\x=.str u:=by
 rw[l9]at h
 cases e:ws[i]? with
 | none=>rw[e]at h;cases h
 | some u=>rw[e]at h;cases h;exact⟨u,a9 e,rfl,rfl⟩
theorem bh0 (v:Str)(r:List Str):am3 ((v::r).map V.str) (some 1) none=r.map V.str:=aE4 ((v::r).map V.str) 1
theorem ay0 {a b:Str}{c:Bool}(h:decide ((V.str a:V)=.str b)=c):(c=true↔a=b):=by
 rw[<- h,decide_eq_true_iff,V.str.injEq]
def ab3 (q:Nat × Nat):List Int:=[(q.1:Int),(q.2:Int)]
def F8 (r:List Str)(ks:List (List Int)):Prop:=∃ qs:List (Nat × Nat),r.map D8=qs.map some/\ks=qs.map ab3
theorem F8.len {r:List Str}{ks:List (List Int)}(h:F8 r ks):ks.length=r.length:=by
 obtain⟨qs,h1,rfl⟩:=h
 have:=congrArg N4 h1
 rw[b5,b5]at this
 rw[b5,this]
theorem F8.nil:F8 [] []:=⟨[],rfl,rfl⟩
theorem F8.snoc {r:List Str}{ks:List (List Int)}{u:Str}{q:Nat × Nat}(h:F8 r ks)(e:D8 u=some q):F8 (r++[u]) (ks++[ab3 q]):=by
 obtain⟨qs,h1,rfl⟩:=h
 exact⟨qs++[q],by rw[g7,g7,h1,O9,O9,e],by rw[g7,O9]⟩
theorem F8.uniq {r:List Str}{ks js:List (List Int)}(h:F8 r ks)(g:F8 r js):ks=js:=by
 obtain⟨qs,h1,rfl⟩:=h
 obtain⟨ps,g1,rfl⟩:=g
 rw[h1]at g1
 have:qs=ps:=by
  clear h1
  induction qs generalizing ps with
  | nil=>cases ps with
   | nil=>rfl
   | cons p ps=>cases g1
  | cons q qs ih=>cases ps with
   | nil=>cases g1
   | cons p ps =>
    rw[j8,j8]at g1
    injection g1 with e1 e2
    injection e1 with e1
    rw[e1,ih ps e2]
 rw[this]
theorem F8.none {r:List Str}{ks:List (List Int)}{u:Str}(h:F8 r ks)(hu:u∈r)(e:D8 u=none):False:=by
 obtain⟨qs,h1,_⟩:=h
 have:D8 u∈r.map D8:=m8.mpr ⟨u,hu,rfl⟩
 rw[h1,e]at this
 obtain⟨q,_,z⟩:=m8.mp this
 cases z
theorem F8.two {r:List Str}{ks:List (List Int)}(h:F8 r ks):∀ k∈ks,∃ a b,k=[a,b]:=by
 obtain⟨qs,_,rfl⟩:=h
 intro k hk
 obtain⟨q,_,rfl⟩:=m8.mp hk
 exact⟨_,_,rfl⟩
def Z7 (x:Str)(n:Nat)(ks:List (List Int)):Prop:=∃ r,Txt.split x " "=("web":Str)::r/\F8 r ks/\Tl n n ks
seal L2.PE L2.PA L2.PS L2.PSs L2.PT
section
variable {P:Program} {w:World} {K:W.Frag} {mg:Str->Option Value} {base:Heap}
def ak4 (CN:Addr):Sp:=fun vs H Q E=>∃ (x:Str),vs=[.str x]/\x.length<=5000/\(∀ q,D8 x=some q->∀ (t:Addr) (H':Hp),n4 H H'->H' t=some (.tup ((ab3 q).map V.int))->Q (.ref t) H')/\(D8 x=none->∀ H',n4 H H'->E (.ref CN) none H')
theorem aH3:t7 ["word","parts","tie"] ["word"] (d8 N9):=⟨rfl,rfl,rfl,by decide +kernel,rfl,by decide +kernel,by decide +kernel⟩
theorem aX9 {f fW CN:Addr}{fd fdW:FuncData}{tE:Tok}(F:Fun K "tie_in" "tie_in" N9 f fd)(FW:Fun K "number_within" "number_within" sNW fW fdW)(bW:Binds K fdW ["word","most"] [])(mW:mg "number_within"=some (.ref fW))(GW:p8 P w K mg base (CXE P w) 2 fW fdW ["word","most"] (aW2 CN))(mE:mg "MOST_FIGURES_OF_END"=some (.int 2 tE))
  (mN:mg "NoText"=some (.ref CN))(cN:am9 K CN):p8 P w K mg base (CXE P w) 3 f fd ["word"] (ak4 CN):=by
 refine F.okX aH3 (fun vs H Q E h=>?_) (fun cdv A outer s H vs Q E hr h=>?_)
 ·obtain⟨x,rfl,_⟩:=h
  rfl
 ·obtain⟨x,rfl,hx,q,qE⟩:=h
  refine⟨_,c8 (m6 (i:=1) aH3.nd rfl (Or.inl rfl) (J8 PySem.F.plainAttrs_str PySem.F.slot_str_partition PySem.F.type_str_partition aP8 (pv 0) (a4 y9 b7)))
   (c8 (m6 (i:=2) aH3.nd rfl (Or.inl rfl) (Q5 (a4 (p0 GW hr (by rfl) mW FW.kp bW .nil aU1 (a4 (B4 C4 (pv 1) c4 (fun _ _=>rfl)) (a4 (O1 (v:=.int 2) (by rfl) mE ⟨tE,rfl⟩) b7))) (a4 (p0 GW hr (by rfl) mW FW.kp bW .nil aU1 (a4 (B4 C4 (pv 1) c4 (fun _ _=>rfl)) (a4 (O1 (v:=.int 2) (by rfl) mE ⟨tE,rfl⟩) b7))) b7))))
   (c8 (u7 (m5 aU3 (B4 C4 (pv 2) c4 (fun _ _=>rfl)) (B4 C4 (pv 2) c4 (fun _ _=>rfl)) (n6 _)) (d4 (J0 (by rfl) mN cN)) l8)
   (d4 (o4 (pv 2))))),?_⟩
  have hp:=aI9 x ("-":Str)
  obtain⟨t1,t2,t3⟩:=aM8 x
  refine⟨_,rfl,rfl,x,_,rfl,rfl,by decide +kernel,by omega,fun l fl=>?_⟩
  generalize Txt.partition x "-"=pp at hp t1 t2 t3
  have s1:=g6 (o:=.tup [.str pp.1,.str pp.2.1,.str pp.2.2]) fl
  have g1:(upd H l (.tup [.str pp.1,.str pp.2.1,.str pp.2.2])) l=some (.tup [.str pp.1,.str pp.2.1,.str pp.2.2]):=b8
  generalize upd H l (.tup [.str pp.1,.str pp.2.1,.str pp.2.2])=H1 at s1 g1
  refine⟨_,rfl,l,_,_,_,rfl,rfl,SqT.of g1,o5 (j:=0) rfl,_,_,rfl,by omega,by decide,fun o1 i H2 s2 hi=>?_,fun o1 H2 s2=>qE (t1 o1) H2 (s1.trans s2)⟩
  refine⟨_,rfl,l,_,_,_,rfl,rfl,SqT.of (s2 _ _ g1),o5 (j:=2) rfl,_,_,rfl,by omega,by decide,fun o2 j H3 s3 hj=>?_,fun o2 H3 s3=>qE (t2 o2) H3 ((s1.trans s2).trans s3)⟩
  obtain⟨u1,u2⟩:=t3 o1 o2 i j hi hj
  refine⟨(by show 2<=sizeLine;decide),fun t ft=>?_⟩
  have s4:=g6 (o:=.tup [.int i,.int j]) ft
  have s5:=((s1.trans s2).trans s3).trans s4
  refine⟨_,rfl,t,_,_,_,rfl,rfl,SqT.of b8,o5 (j:=0) rfl,_,rfl,t,_,_,_,rfl,rfl,SqT.of b8,o5 (j:=1) rfl,_,_,rfl,rfl,_,rfl,?_⟩
  refine R1 (fun h=>qE (u1 (of_decide_eq_true h)) _ s5) (fun h=>⟨_,rfl,?_⟩)
  have hlt:i<j:=by
   have:¬ (i≥j):=fun z=>h (decide_eq_true z)
   omega
  obtain⟨a,b,e,rfl,rfl⟩:=u2 hlt
  exact q (a,b) e t _ s5 b8
def aW1 (K:W.Frag)(CN:Addr):Sp:=fun vs H Q E=>∃ (x:Str) (n:Nat),vs=[.str x,.int n]/\x.length<=5000/\(Txt.split x " ").length<=300/\(∀ ks,Z7 x n ks->∀ (p t:Addr) (zs:List V) (H':Hp),n4 H H'->H' p=some (.tup [.int n,.ref t])->H' t=some (.tup zs)->t5 K H' zs ks->Q (.ref p) H')/\((¬ ∃ ks,Z7 x n ks)->∀ H',n4 H H'->E (.ref CN) none H')
theorem aW3:t7 ["row","places","words","web"] ["row","places"] (d8 Q3):=⟨rfl,rfl,rfl,by decide +kernel,rfl,by decide +kernel,by decide +kernel⟩
theorem bf8 {f fT fI CN:Addr} {fd fdT fdI:FuncData} (F:Fun K "web_in" "web_in" Q3 f fd) (B:Bn mg) (FT:Fun K "tie_in" "tie_in" N9 fT fdT) (bT:Binds K fdT ["word"] []) (mT:mg "tie_in"=some (.ref fT)) (GT:p8 P w K mg base (CXE P w) 4 fT fdT ["word"] (ak4 CN))
  (FI:Fun K "is_told" "is_told" L8 fI fdI) (bI:Binds K fdI ["web"] []) (mI:mg "is_told"=some (.ref fI)) (GI:p8 P w K mg base CX0 4 fI fdI ["web"] (ak3 K)) (mN:mg "NoText"=some (.ref CN)) (cN:am9 K CN):p8 P w K mg base (CXE P w) 5 f fd ["row","places"] (aW1 K CN):=by
 refine F.okX aW3 (fun vs H Q E h=>?_) (fun cdv A outer s H vs Q E hr h=>?_)
 ·obtain⟨x,n,rfl,_⟩:=h
  rfl
 ·obtain⟨x,n,rfl,hx,hb,q,qE⟩:=h
  have hsl:sizeLine=16777216:=sizeLine_eq
  have nd1:(["word"]:List Str).Nodup:=by decide +kernel
  refine⟨_,c8 (m6 (i:=2) aW3.nd rfl (Or.inl rfl) (J8 PySem.F.plainAttrs_str PySem.F.slot_str_split PySem.F.type_str_split Q8 (pv 0) (a4 y9 b7)))
   (c8 (u7 (m5 ai1 (B4 F3 (pv 2) c4 (fun _ _=>rfl)) y9 (n6 _)) (d4 (J0 (by rfl) mN cN)) l8)
   (c8 (m6 (i:=3) aW3.nd rfl (Or.inl rfl) (Q5 (a4 (pv 1) (a4 (A7 G9 (by rfl) B.tuple (by rfl) (a4
     (aq0 (E := E) rfl (N' := ["word"]) (lk := [none]) rfl (S2 (B9 ak7 (pv 2) (C2 c4) E6)) (by rfl) rfl (by decide +kernel) (by exact trivial) (by rfl) (by exact LkL.ok trivial)
      (fun _ _ _ _ _=>A3 (i:=0) nd1 rfl (Or.inl rfl)) (fun _ _ _ _ _=>W3) (fun _ _ _ _ _ I3 f3=>p0 GT hr (by rfl) mT FT.kp bT .nil (aU2 I3 f3) (a4 (pv 0) b7))) b7)) b7))))
   (c8 (u7 (F0 (D9 (p0 GI hr (by rfl) mI FI.kp bI .nil E1 (a4 (pv 3) b7)))) (d4 (J0 (by rfl) mN cN)) l8)
   (d4 (o4 (pv 3)))))),?_⟩
  obtain⟨v,r,ew⟩:=ad6 x " "
  obtain⟨hv,hr',hrl⟩:=ah5 ew hx
  rw[ew,d6]at hb
  refine⟨_,rfl,rfl,x,_,rfl,rfl,Z6,by omega,by rw[ew,d6];omega,fun l fl=>?_⟩
  rw[ew]
  have s1:=g6 (o:=.lst ((v::r).map V.str)) fl
  have g1:(upd H l (.lst ((v::r).map V.str))) l=some (.lst ((v::r).map V.str)):=b8
  generalize upd H l (.lst ((v::r).map V.str))=H1 at s1 g1
  refine⟨_,rfl,l,_,_,_,rfl,rfl,SqL.of g1,o5 (j:=0) rfl,rfl,_,rfl,R1 (fun hc=>?_) (fun hc=>?_)⟩
  ·refine qE (fun⟨ks,r',e',_⟩=>?_) _ s1
   rw[ew]at e'
   cases e'
   exact absurd hc (by decide +kernel)
  have hvw:v="web":=by
   cases e:decide ((V.str v:V)=.str "web") with
   | true=>exact(ay0 e).mp rfl
   | false=>rw[e]at hc;exact absurd rfl hc
  subst hvw
  refine⟨_,rfl,_,rfl,_,rfl,l,_,rfl,SqL.of g1,fun l2 f2=>?_⟩
  rw[bh0]
  have s2:=g6 (o:=.lst (r.map V.str)) f2
  have g2:(upd H1 l2 (.lst (r.map V.str))) l2=some (.lst (r.map V.str)):=b8
  generalize upd H1 l2 (.lst (r.map V.str))=H2 at s2 g2
  refine⟨l2,rfl,⟨_,SqL.of g2⟩,fun D hD=>Z5 (K:=K) (a:=l2) (D:=D) (ys:=r.map V.str) (fun i xs σ' H'=>(∃ v,σ'=[v])/\n4 H2 H'/\H' D=some (.lst xs)/\∃ ks,F8 (r.take i) ks/\t5 K H' xs ks) ⟨⟨none,rfl⟩,g6 hD,b8,[],by rw[P5];exact .nil,.nil⟩ (by rw[b5];omega)
   (fun i xs σ' H' hi ⟨_,s3,g3,ks,e3,t3⟩=>⟨SqL.of (s3 _ _ g2),g3,by have:=e3.len;have:=t3.len;rw[k9]at *;omega⟩) ?_ ?_⟩
  ·rintro i xs y σ' H' N kN hy ⟨⟨_,rfl⟩,s3,g3,ks,e3,t3⟩
   obtain⟨u,hu,eu,rfl⟩:=au2 hy
   refine E3 (P7 ?_)
   refine⟨_,rfl,u,rfl,hr' u hu,fun qq eq t H4 s4 gt=>?_,fun en H4 s4=>qE (fun⟨ks,r',e',hR,_⟩=>?_) H4 (((s1.trans s2).trans s3).trans s4)⟩
   ·have g4:=s4 _ _ g3
    have htk:r.take (i+1)=r.take i++[u]:=by rw[t8,eu];rfl
    refine⟨g4,kN _ _ _ ⟨⟨_,rfl⟩,(s3.trans s4).upd hD,b8,ks++[ab3 qq],by rw[htk];exact e3.snoc eq,?_⟩⟩
    exact t5.updL g4 (t5.append (s4.tups t3) (t5.one (SqT.of gt)))
   ·rw[ew]at e'
    cases e'
    exact hR.none hu en
  ·rintro xs σ' H3 ⟨⟨_,rfl⟩,s3,g3,ks,e3,t3⟩
   rw[b5,T9]at e3
   refine⟨D,xs,rfl,.inl ⟨SqL.of g3,fun t ft=>⟨by show 2<=sizeLine;omega,fun p fp=>?_⟩⟩⟩
   have s4:=g6 (o:=.tup xs) ft
   have s5:=g6 (o:=.tup [.int n,.ref t]) fp
   have s6:=(((s1.trans s2).trans s3).trans s4).trans s5
   have hkl:=e3.len
   refine⟨_,rfl,p,n,ks,rfl,⟨⟨t,xs,SqT.of b8,SqT.of (s5 _ _ b8),s5.tups (s4.tups t3)⟩,e3.two,by omega⟩,fun b H6 s7 hb'=>⟨_,rfl,?_⟩⟩
   cases b with
   | true =>
    refine A8 ⟨_,rfl,?_⟩
    obtain⟨m,hT⟩:=hb'.mp rfl
    have hm:m=n:=by have:=hT.z;omega
    subst hm
    exact q ks ⟨r,ew,e3,hT⟩ p t xs H6 (s6.trans s7) (s7 _ _ b8) (s7 _ _ (s5 _ _ b8)) (s7.tups (s5.tups (s4.tups t3)))
   | false =>
    refine A5 (qE (fun⟨ks',r',e',hR,hT⟩=>?_) H6 (s6.trans s7))
    rw[ew]at e'
    cases e'
    have:ks'=ks:=hR.uniq e3
    subst this
    exact absurd (hb'.mpr ⟨n,hT⟩) (by decide)
end
end Web
namespace L2
open PySem PySem.Spec PyProof.Rows
section
variable {X:Cx}
end
theorem aw5 {lo:Int}{n:Nat}{D:Addr}{g:TG}{tt:TT}{te:TE}{Qd:Hp->Prop}{σ0:St}{H0:Hp}(Pv:Nat->List V->St->Hp->Prop)(h0:Pv 0 [] σ0 H0)(hz:n<=sizeLine)(hl:∀ i xs σ H,i<=n->Pv i xs σ H->H D=some (.lst xs)/\xs.length<=i)
  (hs:∀ i xs σ H (N:List V->St->Hp->Prop),(∀ xs' σ' H',Pv (i+1) xs' σ' H'->N xs' σ' H')->i<n->Pv i xs σ H->g (.int (lo+i)) σ H fun σ2 H2=>tt σ2 H2 fun b H3=>if b=true then te σ2 H3 fun v H4=>H4 D=some (.lst xs)/\N (xs++[v]) σ2 (upd H4 D (.lst (xs++[v]))) else N xs σ2 H3)
  (hd:∀ xs σ H,Pv n xs σ H->Qd H) :
  ∃ W:Nat->Nat->List V->St->Hp->Prop,(∃ m,W 0 m [] σ0 H0)/\∀ i m xs σ' H',W i m xs σ' H'->H' D=some (.lst xs)/\(((Itr lo n).stop i H'/\Qd H')\/((Itr lo n).go i H'/\xs.length<sizeLine/\∀ x H'',(Itr lo n).yld i H' x H''->g x σ' H'' fun σ2 H2=>tt σ2 H2 fun b H3 =>
   if b=true then te σ2 H3 fun v H4=>H4 D=some (.lst xs)/\∃ m',m'<m/\W (i+1) m' (xs++[v]) σ2 (upd H4 D (.lst (xs++[v]))) else ∃ m',m'<m/\W (i+1) m' xs σ2 H3)):=by
 refine⟨fun i m xs σ H=>m=n - i/\i<=n/\Pv i xs σ H,⟨n,by simp,j4 _,h0⟩,?_⟩
 rintro i m xs σ H ⟨rfl,hi,p⟩
 obtain⟨hD,hx⟩:=hl i xs σ H hi p
 refine⟨hD,?_⟩
 by_cases hlt:i<n
 ·refine .inr ⟨hlt,by omega,fun x H'' y=>?_⟩
  obtain⟨e,y⟩:=y
  subst e y
  exact hs i xs σ _ (fun zs σ' H'=>∃ m',m'<n - i/\m'=n - (i+1)/\i+1<=n/\Pv (i+1) zs σ' H') (fun zs σ' H' r=>⟨_,by omega,rfl,hlt,r⟩) hlt p
 ·obtain rfl:i=n:=by omega
  exact .inl ⟨b4 _,hd xs σ H p⟩
end L2
namespace Web
open PySem L2
theorem aN0 (z:Int)(h:0<=z/\z<4):∃ v:Nat,atI ([.int 2,.int 2,.int 3,.int 5]:List V) z=some (.int (v:Int))/\1<=v/\v<=5:=by
 have:z=0\/z=1\/z=2\/z=3:=by omega
 rcases this with h | h | h | h<;>rw[h]
 ·exact⟨2,o5 (j:=0) rfl,by decide,by decide⟩
 ·exact⟨2,o5 (j:=1) rfl,by decide,by decide⟩
 ·exact⟨3,o5 (j:=2) rfl,by decide,by decide⟩
 ·exact⟨5,o5 (j:=3) rfl,by decide,by decide⟩
theorem sub_snoc {α:Type}{l m:List α}{i:Nat}{x:α}(h:l.Sublist (m.take i))(hx:m[i]?=some x):(l++[x]).Sublist (m.take (i+1)):=by
 rw[t8,hx]
 exact List.Sublist.append h (List.Sublist.refl _)
theorem aG9 {α:Type}{l m:List α}{i:Nat}(h:l.Sublist (m.take i)):l.Sublist (m.take (i+1)):=by
 rw[t8]
 exact h.trans (List.sublist_append_left _ _)
section
variable {P:Program} {w:World} {K:W.Frag} {mg:Str->Option Value} {base:Heap}
def aH0 (K:W.Frag):Sp:=fun vs H Q _=>∃ (c:Int) (n:Nat),vs=[.int c,.int n]/\n<=24/\∀ (l:Addr) (zs:List V) (ks:List (List Int)) (H':Hp),n4 H H'->H l=none->H' l=some (.tup zs)->t5 K H' zs ks->ks.Sublist (J7 n)->Q (.ref l) H'
theorem U2:t7 ["cell","places","thin","pairs","one","other","row"] ["cell","places"] (d8 ae2):=⟨rfl,rfl,rfl,by decide +kernel,rfl,by decide +kernel,by decide +kernel⟩
set_option maxHeartbeats 1000000 in
theorem aP3 {f fR:Addr} {fd fdR:FuncData} (F:Fun K "_law_ties" "_law_ties" ae2 f fd) (B:Bn mg) (FR:Fun K "_law_row" "_law_row" ap4 fR fdR) (bR:Binds K fdR ["cell","many","size"] []) (mR:mg "_law_row"=some (.ref fR)):p8 P w K mg base CX0 2 f fd ["cell","places"] (aH0 K):=by
 have GR:p8 P w K mg base CX0 1 fR fdR ["cell","many","size"] (aT2 K):=aY0 FR B
 refine F.ok U2 (fun vs H Q E h=>?_) (fun cdv A outer s H vs Q E hr h=>?_)
 ·obtain⟨c,n,rfl,_⟩:=h
  rfl
 ·obtain⟨c,n,rfl,hn,q⟩:=h
  have hsl:=ak8
  have hlen:=aD5 n hn
  have nd3:(["k","pairs","row"]:List Str).Nodup:=by decide +kernel
  refine⟨_,c8 (m6 (i:=0) U2.nd rfl (Or.inl rfl) (k7 B1 (pv 0) (k7 al5 c4 c4)))
   (c8 (m6 (i:=2) U2.nd rfl (Or.inl rfl) (B4 F3 (M5 (a4 c4 (a4 c4 (a4 c4 (a4 c4 b7))))) (k7 B1 (pv 0) c4) (fun _ _=>rfl)))
   (c8 (m6 (i:=3) U2.nd rfl (Or.inr rfl) (M5 b7))
   (c8 (M4 PassesOwn.never rfl (K5 rfl B.range (a4 (pv 1) b7)) (A3 (i := 4) U2.nd rfl (Or.inl rfl))
    (d4 (M4 PassesOwn.never rfl (aC3 rfl B.range (a4 (k7 M6 (pv 4) c4) (a4 (pv 1) b7))) (A3 (i := 5) U2.nd rfl (Or.inl rfl))
     (d4 (S1 (J8 PySem.F.plainAttrs_list PySem.F.slot_list_append PySem.F.type_list_append G7 (pv 3) (a4 (Q5 (a4 (pv 4) (a4 (pv 5) b7))) b7)))))))
   (c8 (m6 (i:=6) U2.nd rfl (Or.inr rfl) (p0 GR hr (by rfl) mR FR.kp bR .nil E1 (a4 (k7 C3 (pv 0) c4) (a4 (k8 x6 (by rfl) B.len PySem.boot_len (a4 (pv 3) b7)) (a4 (pv 2) b7)))))
   (d4 (o4 (A7 G9 (by rfl) B.tuple (by rfl) (a4 (ac2 (N':=["k","pairs","row"]) (lk:=[none,some 3,some 6]) rfl (K5 rfl B.range (a4 (k8 x6 (by rfl) B.len PySem.boot_len (a4 (pv 3) b7)) b7)) (by rfl) rfl (by decide +kernel) (by exact⟨rfl,rfl,trivial⟩) (by rfl) (by exact LkL.ok ⟨⟨rfl,Or.inl rfl,rfl,Or.inl rfl⟩,⟨rfl,Or.inl rfl,rfl,Or.inl rfl⟩,trivial⟩)
     (fun _ _ _=>A3 (i:=0) nd3 rfl (Or.inl rfl)) (fun _ _ _=>ay8 (m5 F6 (ac1 K rfl (pv 2) (pv 0) (fun _ _=>rfl)) c4 (n6 _))) (fun _ _ _=>ac1 K rfl (pv 1) (pv 0) (fun _ _=>rfl))) b7)))))))),?_⟩
  refine⟨_,rfl,_,_,rfl,rfl,⟨by decide,by decide,by decide⟩,_,_,rfl,rfl,p60,?_⟩
  refine B8 fun c1 _=>?_
  obtain⟨v,hv,hv1,hv2⟩:=aN0 (c1 % 4) ⟨N6 _ (by decide),J4 _ (by decide)⟩
  refine⟨(by show 4<=sizeLine;decide),fun l3 f3=>?_⟩
  have s3:=g6 (o:=.lst [.int 2,.int 2,.int 3,.int 5]) f3
  refine⟨_,rfl,_,_,rfl,rfl,(by show (0:Int)<4;decide),l3,_,_,_,rfl,rfl,SqL.of b8,hv,?_⟩
  refine⟨by show 0<=sizeLine;omega,fun l hl'=>?_⟩
  have hl:H l=none:=s3.free hl'
  have s03:=s3.trans (g6 (o:=.lst []) hl')
  have gl0:(upd (upd H l3 (.lst [.int 2,.int 2,.int 3,.int 5])) l (.lst [])) l=some (.lst []):=b8
  generalize upd (upd H l3 (.lst [.int 2,.int 2,.int 3,.int 5])) l (.lst [])=H0 at s03 gl0
  refine⟨_,rfl,n,rfl,by omega,by omega,K6 (lo:=0) (n:=n) (fun i σ H1=>∃ a b zs,σ=[some (.int c1),some (.int n),some (.int v),some (.ref l),a,b,none]/\n4 H H1/\H1 l=some (.lst zs)/\t5 K H1 zs ((A6 i).flatMap fun j=>P0 j (n - (j+1))))
   ⟨none,none,[],rfl,s03,gl0,.nil⟩ ?_ ?_⟩
  ·rintro i σ H1 hi ⟨a,b,zs,rfl,s1,h1,t1⟩
   refine⟨_,rfl,_,_,rfl,rfl,_,rfl,_,_,rfl,⟨by omega,by omega,by omega,by omega⟩,K6 (lo:=0+(i:Int)+1) (fun d σ H2=>∃ b zs,σ=[some (.int c1),some (.int n),some (.int v),some (.ref l),some (.int (0+i)),b,none]/\n4 H H2/\H2 l=some (.lst zs)/\t5 K H2 zs (((A6 i).flatMap fun j=>P0 j (n - (j+1)))++P0 i d))
    ⟨b,zs,rfl,s1,h1,by simpa [P0] using t1⟩ ?_ ?_⟩
   ·rintro d σ H2 hd ⟨b,zs,rfl,s2,h2,t2⟩
    have hlz:=t2.len
    have hpart:=aK0 n (i+1) (by omega)
    rw[ae8,c6]at hpart
    have hrow:∀ m,(P0 i m).length=m:=fun m=>by simp[P0]
    rw[c6,hrow]at hlz
    rw[hrow]at hpart
    refine⟨_,rfl,.inl ⟨rfl,_,SqL.of h2⟩,_,rfl,_,rfl,(by show 2<=sizeLine;decide),fun p hp=>?_⟩
    have hlp:l≠p:=r6 h2 hp
    have h2':(upd H2 p (.tup [.int (0+(i:Int)),.int (0+(i:Int)+1+(d:Int))])) l=some (.lst zs):=by rw[q8 hlp];exact h2
    refine⟨l,zs,_,rfl,rfl,h2',by omega,?_⟩
    refine⟨_,_,rfl,(s2.trans (g6 hp)).upd hl,b8,?_⟩
    rw[aC1,<- m7]
    refine t5.updL h2' (t5.append (n4.tups (g6 hp) t2) (t5.one (SqT.of ?_)))
    rw[b8]
    simp
   ·rintro σ H2 ⟨b,zs,rfl,s2,h2,t2⟩
    refine⟨_,_,zs,rfl,s2,h2,?_⟩
    rw[ae8]
    have e:((n:Int) - (0+(i:Int)+1)).toNat=n - (i+1):=by omega
    rw[e]at t2
    exact t2
  ·rintro σ H1 ⟨a,b,zs,rfl,s1,h1,t1⟩
   replace t1:t5 K H1 zs (J7 n):=t1
   have hzl:=t1.len
   refine⟨_,rfl,_,_,rfl,rfl,⟨by decide,by decide⟩,_,rfl,l,_,rfl,.inl (SqL.of h1),_,rfl,c1 / 4,zs.length,v,rfl,by omega,hv1,by omega,fun rl ts H4 htl s4 fr g4=>?_⟩
   have t4:=s4.tups t1
   have g4l:=s4 _ _ h1
   have s04:=s1.trans s4
   refine⟨_,rfl,l,_,rfl,.inl (SqL.of g4l),(zs.length:Int),rfl,by omega,by omega,fun D hD=>?_⟩
   rw[S7]
   refine aw5 (lo:=0) (n:=zs.length) (D:=D) (fun i xs σ' H'=>(∃ v,σ'=[v,some (.ref l),some (.ref rl)])/\n4 H4 H'/\H' D=some (.lst xs)/\xs.length<=i/\∃ ks,t5 K H' xs ks/\ks.Sublist ((J7 n).take i))
    ⟨⟨none,rfl⟩,g6 hD,b8,b4 _,[],.nil,List.nil_sublist _⟩ (by omega) (fun i xs σ' H' hi ⟨_,_,g,l',_⟩=>⟨g,l'⟩) ?_ ?_
   ·rintro i xs σ' H' N kN hi ⟨⟨v',rfl⟩,s6,h6,hxl,ks,t6,sb⟩
    have e0:((0:Int)+(i:Int))=(i:Int):=by omega
    rw[e0]
    refine E3 ?_
    have hti:i<ts.length:=by omega
    refine⟨_,rfl,_,rfl,.inl ⟨rl,_,_,_,rfl,rfl,SqL.of (s6 _ _ g4),ba4 hti,rfl,_,rfl,?_⟩⟩
    refine R1 (fun h=>?_) (fun h=>?_)
    ·obtain⟨y,hy⟩:∃ y,zs[i]?=some y:=⟨_,c5 hi⟩
     obtain⟨pa,pk,rfl,hk',hq⟩:=t4.get hy
     refine⟨_,rfl,_,rfl,.inl ⟨l,_,_,_,rfl,rfl,SqL.of (s6 _ _ g4l),o5 hy,h6,kN _ _ _ ⟨⟨_,rfl⟩,s6.upd hD,b8,by rw[c6,X8];omega,ks++[pk],t5.updL h6 (t5.append t6 (t5.one (s6.seqT hq))),sub_snoc sb hk'⟩⟩⟩
    ·exact kN _ _ _ ⟨⟨_,rfl⟩,s6,h6,by omega,ks,t6,aG9 sb⟩
   ·rintro xs σ' H5 ⟨⟨v',rfl⟩,s6,h6,hxl,ks,t6,sb⟩
    refine⟨D,_,rfl,.inl ⟨SqL.of h6,fun tl ft=>?_⟩⟩
    have s7:=g6 (o:=.tup xs) ft
    exact q tl xs ks _ ((s04.trans s6).trans s7) ((s04.trans s6).free ft) b8 (s7.tups t6) (sb.trans (R4 _ _))
end
def F7 (z:Int):Str:=Str.ofString (toString z)
def V7:List Int->Str
 | [a,b]=>F7 a++"-"++F7 b
 | _=>Str.empty
def U6 (ks:List (List Int)):Str:=Str.join " " (("web":Str)::ks.map V7)
theorem K7 (a b c:Str):a++b++c=a++(b++c):=PyProof.Rows.ext_toList (by rw[PySem.W.KT.app_list,PySem.W.KT.app_list,PySem.W.KT.app_list,PySem.W.KT.app_list,m7])
theorem join_snoc (s u:Str):∀ (x:Str) (xs:List Str),Str.join s (x::xs++[u])=Str.join s (x::xs)++s++u
 | x,[]=>rfl
 | x,y::xs=>by
  show x++s++Str.join s (y::xs++[u])=(x++s++Str.join s (y::xs))++s++u
  rw[join_snoc s u y xs,K7 (x++s),K7 (x++s),K7]
theorem aH7 (ks:List (List Int))(a b:Int):U6 (ks++[[a,b]])=U6 ks++" "++F7 a++"-"++F7 b:=by
 unfold U6
 rw[g7,O9]
 show Str.join " " (("web":Str)::ks.map V7++[F7 a++"-"++F7 b])=_
 rw[join_snoc,K7 (_++_++F7 a),K7 (_++_),K7 (F7 a)]
theorem ai2 {z:Int}(h:0<=z/\z<100):z.natAbs.log2<1920/\(F7 z).length<=2/\D4 (F7 z):=by
 refine⟨?_,PyProof.Rows.toString_length_le h.1 (by decide) (by show z<10 ^ 2;omega),aA5 h.1⟩
 by_cases h0:z.natAbs=0
 ·rw[h0];decide
 ·exact(Nat.log2_lt h0).mpr (j6 (m:=128) (by omega) (by decide +kernel))
theorem z0:("-":Str).length=1:=by decide +kernel
theorem B7:(" ":Str).length=1:=by decide +kernel
theorem az7:("web":Str).length=3:=by decide +kernel
theorem aA6 {s:Str}(h:(s.cps.toList.all fun c=>decide (c<128))=true):D4 s:=fun c hc=>of_decide_eq_true (o3.mp h c hc)
theorem aj8:D4 (" ":Str):=aA6 (by decide +kernel)
theorem X4:D4 ("-":Str):=aA6 (by decide +kernel)
theorem aR6:D4 ("web":Str):=aA6 (by decide +kernel)
def SmK (ks:List (List Int)):Prop:=∀ k∈ks,∃ a b:Int,k=[a,b]/\(0<=a/\a<100)/\0<=b/\b<100
theorem ax8 {k:List Int}(h:∃ a b:Int,k=[a,b]/\(0<=a/\a<100)/\0<=b/\b<100):(V7 k).length<=5/\D4 (V7 k):=by
 obtain⟨a,b,rfl,ha,hb⟩:=h
 obtain⟨_,a1,a2⟩:=ai2 ha
 obtain⟨_,b1,b2⟩:=ai2 hb
 refine⟨?_,D3 (D3 a2 X4) b2⟩
 show (F7 a++"-"++F7 b).length<=5
 rw[len_app,len_app,z0]
 omega
theorem aH8 {ks:List (List Int)}(h:SmK ks)(hl:ks.length<=300):(U6 ks).length<=2000/\D4 (U6 ks):=by
 have hall:∀ u∈(("web":Str)::ks.map V7),u.length<=5/\D4 u:=fun u hu=>by
  rcases d7.mp hu with e | e
  ·rw[e];exact⟨by rw[az7];decide,aR6⟩
  ·obtain⟨k,hk,rfl⟩:=m8.mp e
   exact ax8 (h k hk)
 have h1:=az8 (y:=" ") (xs:=("web":Str)::ks.map V7) (m:=5) (n:=301) (fun u hu=>(hall u hu).1) (by rw[d6,b5];omega) (by rw[B7];decide)
 have e:Txt.join " " (("web":Str)::ks.map V7)=U6 ks:=PySem.StrLaws.glued_eq_join _ _
 rw[B7,e]at h1
 refine⟨by have:=h1.2;omega,?_⟩
 rw[<- e]
 exact af7 aj8 fun u hu=>(hall u hu).2
seal L2.PE L2.PA L2.PS L2.PSs L2.PT
section
variable {P:Program} {w:World} {K:W.Frag} {mg:Str->Option Value} {base:Heap}
def bd8 (K:W.Frag):Sp:=fun vs H Q _=>∃ (p t:Addr) (n:Int) (zs:List V) (ks:List (List Int)),vs=[.ref p]/\H p=some (.tup [.int n,.ref t])/\H t=some (.tup zs)/\t5 K H zs ks/\SmK ks/\ks.length<=300/\∀ H',n4 H H'->Q (.str (U6 ks)) H'
theorem bi9:t7 ["web"] ["web"] (d8 ae1):=⟨rfl,rfl,rfl,by decide +kernel,rfl,by decide +kernel,by decide +kernel⟩
theorem bf6 {f:Addr} {fd:FuncData} (F:Fun K "web_text" "web_text" ae1 f fd) (B:Bn mg):p8 P w K mg base CX0 1 f fd ["web"] (bd8 K):=by
 refine F.ok bi9 (fun vs H Q E h=>?_) (fun cdv A outer s H vs Q E hr h=>?_)
 ·obtain⟨p,t,n,zs,ks,rfl,_⟩:=h
  rfl
 ·obtain⟨p,t,n,zs,ks,rfl,gp,gt,tt,hs,hl,q⟩:=h
  have hsl:sizeLine=16777216:=sizeLine_eq
  have nd2:(["one","other"]:List Str).Nodup:=by decide +kernel
  have hzl:=tt.len
  refine⟨_,d4 (o4 (J8 PySem.F.plainAttrs_str PySem.F.slot_str_join PySem.F.type_str_join az4 y9 (a4 (k7 aJ2 (M5 (a4 y9 b7))
    (ac2 (N' := ["one", "other"]) (lk := [none, none]) rfl (av0 (B4 C4 (pv 0) c4 (fun _ _ => rfl))) (by rfl) rfl (by decide +kernel) (by exact trivial) (by rfl) (by exact LkL.ok trivial)
     (fun _ _ _=>aO7 (n:=2) K rfl rfl (W4 (A3 (i:=0) nd2 rfl (Or.inl rfl)) (W4 (A3 (i:=1) nd2 rfl (Or.inl rfl)) ay9))) (fun _ _ _=>W3) (fun _ _ _=>aO9 (pv 0) (pv 1) (by rw[z0];decide)))) b7))),?_⟩
  refine⟨rfl,(by show 1<=sizeLine;decide),fun l2 f2=>?_⟩
  have s2:=g6 (o:=.lst [.str "web"]) f2
  have g2:(upd H l2 (.lst [.str "web"])) l2=some (.lst [.str "web"]):=b8
  generalize upd H l2 (.lst [.str "web"])=H2 at s2 g2
  have gt2:=s2 _ _ gt
  have tt2:=s2.tups tt
  refine⟨_,rfl,p,_,_,_,rfl,rfl,SqT.of (s2 _ _ gp),o5 (j:=1) rfl,t,rfl,⟨_,SqT.of gt2⟩,fun D hD=>as2 (K:=K) (a:=t) (D:=D) (ys:=zs) (fun i xs σ' H'=>(∃ v u,σ'=[v,u])/\n4 H2 H'/\H' D=some (.lst xs)/\xs=((ks.take i).map V7).map V.str) ⟨⟨none,none,rfl⟩,g6 hD,b8,by rw[P5];rfl⟩ (by omega)
   (fun i xs σ' H' hi ⟨_,s3,g3,e3⟩=>⟨SqT.of (s3 _ _ gt2),g3,by rw[e3,b5,b5,k9];omega⟩) ?_ ?_⟩
  ·rintro i xs y σ' H' N kN hy ⟨⟨_,_,rfl⟩,s3,g3,rfl⟩
   obtain⟨a,k,rfl,hk,hq⟩:=tt2.get hy
   obtain⟨u,v,rfl,hu,hv⟩:=hs k (a9 hk)
   obtain⟨u1,u2,_⟩:=ai2 hu
   obtain⟨v1,v2,_⟩:=ai2 hv
   have u3:(Str.ofString (toString u)).length<=2:=u2
   have v3:(Str.ofString (toString v)).length<=2:=v2
   refine⟨a,_,rfl,s3.seqT hq,rfl,_,_,rfl,_,_,rfl,rfl,P7 ?_⟩
   refine⟨_,rfl,u,rfl,u1,by omega,_,rfl,v,rfl,v1,by omega,g3,kN _ _ _ ⟨⟨_,_,rfl⟩,s3.upd hD,b8,?_⟩⟩
   rw[t8,hk,g7,g7]
   rfl
  ·rintro xs σ' H3 ⟨⟨_,_,rfl⟩,s3,g3,rfl⟩
   rw[i9 (by omega)]at g3
   refine⟨l2,D,_,_,rfl,rfl,s3 _ _ g2,g3,by rw[b5,b5];show 1+ks.length<=sizeLine;omega,fun l4 f4=>?_⟩
   have s4:=g6 (o:=.lst ([.str "web"]++(ks.map V7).map V.str)) f4
   have h1:=az8 (y:=" ") (xs:=("web":Str)::ks.map V7) (m:=5) (n:=301) (fun u hu=>by
    rcases d7.mp hu with e | e
    ·rw[e,az7];decide
    ·obtain⟨k,hk,rfl⟩:=m8.mp e
     exact(ax8 (hs k hk)).1) (by rw[d6,b5];omega) (by rw[B7];decide)
   refine⟨" ",l4,("web":Str)::ks.map V7,rfl,rfl,SqL.of (by rw[b8];rfl),h1.1,?_⟩
   rw[show Txt.join " " (("web":Str)::ks.map V7)=U6 ks from PySem.StrLaws.glued_eq_join _ _]
   exact q _ ((s2.trans s3).trans s4)
def aT3 (K:W.Frag):Sp:=fun vs H Q _=>∃ (t:Addr) (zs:List V) (ks:List (List Int)),vs=[.ref t]/\H t=some (.tup zs)/\t5 K H zs ks/\SmK ks/\ks.length<=300/\∀ H',n4 H H'->Q (.str (U6 ks)) H'
theorem ap3:t7 ["ties","text","one","other"] ["ties"] (d8 U5):=⟨rfl,rfl,rfl,by decide +kernel,rfl,by decide +kernel,by decide +kernel⟩
theorem aY2 {f:Addr} {fd:FuncData} (F:Fun K "_law_web_text" "_law_web_text" U5 f fd) (B:Bn mg):p8 P w K mg base CX0 1 f fd ["ties"] (aT3 K):=by
 refine F.ok ap3 (fun vs H Q E h=>?_) (fun cdv A outer s H vs Q E hr h=>?_)
 ·obtain⟨t,zs,ks,rfl,_⟩:=h
  rfl
 ·obtain⟨t,zs,ks,rfl,gt,tt,hs,hl,q⟩:=h
  have hsl:sizeLine=16777216:=sizeLine_eq
  have hzl:=tt.len
  refine⟨_,c8 (m6 (i:=1) ap3.nd rfl (Or.inl rfl) y9)
   (c8 (M4 PassesOwn.never rfl (av0 (pv 0)) (aI4 rfl (W4 (A3 (i := 2) ap3.nd rfl (Or.inl rfl)) (W4 (A3 (i := 3) ap3.nd rfl (Or.inl rfl)) ay9)))
    (d4 (m6 (i:=1) ap3.nd rfl (Or.inl rfl) (k7 v5 (k7 v5 (k7 v5 (k7 v5 (pv 1) y9) (A7 E7 (by rfl) B.str (by rfl) (a4 (pv 2) b7))) y9) (A7 E7 (by rfl) B.str (by rfl) (a4 (pv 3) b7))))))
   (d4 (o4 (pv 1)))),?_⟩
  refine⟨_,rfl,t,rfl,⟨_,SqT.of gt⟩,aR0 (K:=K) (a:=t) (xs:=zs) (fun i σ H2=>∃ e2 e3,σ=[some (.ref t),some (.str (U6 (ks.take i))),e2,e3]/\H2=H) ⟨none,none,rfl,rfl⟩ (fun i σ H2 _ ⟨_,_,_,e⟩=>by rw[e];exact SqT.of gt) ?_ ?_⟩
  ·rintro i y σ H2 hy ⟨e2,e3,rfl,rfl⟩
   obtain⟨a,k,rfl,hk,hq⟩:=tt.get hy
   obtain⟨u,v,rfl,hu,hv⟩:=hs k (a9 hk)
   obtain⟨u1,u2,_⟩:=ai2 hu
   obtain⟨v1,v2,_⟩:=ai2 hv
   have hr:=(aH8 (ks:=ks.take i) (fun k hk=>hs k (C7 hk)) (by rw[k9];omega)).1
   have u3:(Str.ofString (toString u)).length<=2:=u2
   have v3:(Str.ofString (toString v)).length<=2:=v2
   have eb:=B7
   have ed:=z0
   refine⟨a,_,rfl,hq,rfl,_,_,rfl,_,_,rfl,rfl,?_⟩
   refine⟨_,rfl,_,_,rfl,rfl,by rw[B7];omega,_,rfl,_,rfl,u1,_,_,rfl,rfl,by rw[len_app,B7];omega,_,_,rfl,rfl,by rw[len_app,len_app,B7,z0];omega,_,rfl,_,rfl,v1,_,_,rfl,rfl,by rw[len_app,len_app,len_app,B7,z0];omega,?_⟩
   refine⟨some (.int u),some (.int v),?_,rfl⟩
   have e:U6 (ks.take (i+1))=U6 (ks.take i)++" "++F7 u++"-"++F7 v:=by
    rw[t8,hk]
    exact aH7 _ u v
   rw[e]
   rfl
  ·rintro σ H2 ⟨e2,e3,rfl,rfl⟩
   rw[i9 (by omega)]
   exact⟨_,rfl,q _ (n4.refl _)⟩
end
end Web
namespace Web
open PySem L2
theorem aQ0 {a b c d:Int}(h:Tim.B3 [c,d] [a,b]=false)(hne:([a,b]:List Int)≠[c,d]):HT.lexLt [a,b] [c,d]=true:=by
 unfold Tim.B3 Tim.B3 at h
 rw[HT.O2]
 by_cases e1:c=a
 ·rw[if_pos e1]at h
  rw[if_pos e1.symm,HT.O2]
  by_cases e2:d=b
  ·exact absurd (by rw[e1,e2]) hne
  ·rw[if_neg e2]at h
   rw[if_neg (Ne.symm e2)]
   have:=of_decide_eq_false h
   exact decide_eq_true (by omega)
 ·rw[if_neg e1]at h
  rw[if_neg (Ne.symm e1)]
  have:=of_decide_eq_false h
  exact decide_eq_true (by omega)
theorem aD4 {c d:Int}(h:0<=c):HT.lexLt [-1,-1] [c,d]=true:=by
 rw[HT.O2,if_neg (by omega)]
 exact decide_eq_true (by omega)
def ai7 (ks:List (List Int)):Nat->List Int
 | 0=>[-1,-1]
 | i+1=>ks.getD i []
theorem aQ5 {n:Nat}{ks:List (List Int)}(T:Tld n ks){i:Nat}{k:List Int}(h:ks[i]?=some k):HT.lexLt (ai7 ks i) k=true/\(ai7 ks i).length=2:=by
 obtain⟨u,v,_,_,rfl⟩:=T.ups k (a9 h)
 cases i with
 | zero=>exact⟨aD4 (by omega),rfl⟩
 | succ i =>
  have hil:i+1<ks.length:=(a8.mp h).1
  have e1:ks[i]?=some ks[i]:=c5 (by omega)
  have el:ai7 ks (i+1)=ks[i]:=by show ks.getD i []=_;rw[u4,e1];rfl
  have e2:ks[i+1]=[(u:Int),(v:Int)]:=by
   have:=c5 hil
   rw[h]at this
   exact(Option.some.inj this).symm
  have p1:=j0.mp T.srt i (i+1) (by omega) hil (by omega)
  have p2:=j0.mp T.nd i (i+1) (by omega) hil (by omega)
  obtain⟨a,b,_,_,e3⟩:=T.ups ks[i] (u9 _)
  rw[el]
  rw[e2]at p1 p2
  rw[e3]at p1 p2 ⊢
  exact⟨aQ0 p1 p2,rfl⟩
theorem bg2 (a b c d:Int):HT.lexLt [a,b] [c,d]=Tim.B3 [a,b] [c,d]:=by
 unfold HT.lexLt Tim.B3 HT.lexLt Tim.B3
 by_cases h:a=c
 ·rw[if_pos h,if_pos h]
  by_cases g:b=d
  ·rw[if_pos g,if_pos g]
   rfl
  ·rw[if_neg g,if_neg g]
 ·rw[if_neg h,if_neg h]
theorem aI1 {α:Type}{R:α->α->Prop}(tr:∀ a b c,R a b->R b c->R a c):∀ l:List α,(∀ (m:Nat) (a b:α),l[m]?=some a->l[m+1]?=some b->R a b)->l.Pairwise R
 | [],_=>.nil
 | x::l,h=>by
  have ih:=aI1 tr l fun m a b e1 e2=>h (m+1) a b (by simpa using e1) (by simpa using e2)
  refine E9.mpr ⟨?_,ih⟩
  cases l with
  | nil=>intro y hy;cases hy
  | cons y l =>
   have hxy:=h 0 x y rfl rfl
   intro z hz
   rcases d7.mp hz with e | e
   ·rw[e];exact hxy
   ·exact tr _ _ _ hxy ((E9.mp ih).1 z e)
theorem aM7 {n:Nat}{ks:List (List Int)}(hu:∀ k∈ks,Up n k)(h:∀ (m:Nat) (a b:List Int),ks[m]?=some a->ks[m+1]?=some b->HT.lexLt a b=true):Tld n ks:=by
 have hA:Asc ks:=aI1 (fun a b c=>Tim.W8 a b c) ks fun m a b e1 e2=>by
  have hl:=h m a b e1 e2
  obtain⟨i,j,_,_,rfl⟩:=hu a (a9 e1)
  obtain⟨u,v,_,_,rfl⟩:=hu b (a9 e2)
  rw[bg2]at hl
  exact hl
 refine⟨hu,aF0 hA,List.Pairwise.imp (fun {a b} e=>?_) hA⟩
 cases g:Tim.B3 b a with
 | false=>rfl
 | true =>
  have:=Tim.W8 _ _ _ e g
  rw[Tim.Q9]at this
  cases this
theorem aM9 {x:Str}{q:Nat × Nat}(h:D8 x=some q):q.1<q.2:=by
 unfold D8 at h
 split at h
 ·split at h
  ·next e =>
   cases h
   rw[d9,decide_eq_true_iff]at e
   exact e.2
  ·cases h
 ·cases h
theorem aG5 {x a b:Str}(e:Txt.split x "-"=[a,b]):D8 x=if (N3 2 a.cps.toList && N3 2 b.cps.toList && decide (L0 a.cps.toList<L0 b.cps.toList))=true then some (L0 a.cps.toList,L0 b.cps.toList) else none:=by
 unfold D8
 rw[e]
theorem aG6 {x:Str}(e:(Txt.split x "-").length≠2):D8 x=none:=by
 unfold D8
 split
 ·next e'=>rw[e']at e;exact absurd rfl e
 ·rfl
theorem F8.lt {r:List Str}{ks:List (List Int)}(h:F8 r ks):∀ k∈ks,∃ i j:Nat,i<j/\k=[(i:Int),(j:Int)]:=by
 obtain⟨qs,h1,rfl⟩:=h
 intro k hk
 obtain⟨q,hq,rfl⟩:=m8.mp hk
 have:some q∈r.map D8:=by rw[h1];exact m8.mpr ⟨q,hq,rfl⟩
 obtain⟨u,_,e⟩:=m8.mp this
 exact⟨q.1,q.2,aM9 e,rfl⟩
inductive OTs (K:W.Frag) (H:Hp):List V->List (Option (Nat × Nat))->Prop
 | nil:OTs K H [] []
 | no {zs os}:OTs K H zs os->OTs K H (zs++[.non]) (os++[none])
 | yes {zs os a q}:OTs K H zs os->SqT K H a ((ab3 q).map V.int)->OTs K H (zs++[.ref a]) (os++[some q])
theorem OTs.same {K:W.Frag}{H H':Hp}{zs:List V}{os:List (Option (Nat × Nat))}(h:OTs K H zs os)(s:n4 H H'):OTs K H' zs os:=by
 induction h with
 | nil=>exact .nil
 | no _ ih=>exact .no ih
 | yes _ hq ih=>exact .yes ih (s.seqT hq)
theorem OTs.len {K:W.Frag}{H:Hp}{zs:List V}{os:List (Option (Nat × Nat))}(h:OTs K H zs os):zs.length=os.length:=by
 induction h with
 | nil=>rfl
 | no _ ih=>rw[c6,c6,ih];rfl
 | yes _ _ ih=>rw[c6,c6,ih];rfl
def oD:Option (Nat × Nat)->PyData
 | none=>.none
 | some q=>.tuple [.int (q.1:Int),.int (q.2:Int)]
theorem Z4 {K:W.Frag}{H:Hp}:∀ {ds es:List PyData} {zs ys:List V},o8 K H ds zs->o8 K H es ys->o8 K H (ds++es) (zs++ys)
 | [],es,zs,ys,h,g=>by
  have:zs=[]:=by simpa [o8] using h
  subst this
  exact g
 | d::ds,es,zs,ys,h,g=>by
  unfold o8 at h
  obtain⟨z,zs',rfl,hz,hr⟩:=h
  show o8 K H (d::(ds++es)) (z::(zs'++ys))
  exact .mkC hz (Z4 hr g)
theorem OTs.dt {K:W.Frag}{H:Hp}{zs:List V}{os:List (Option (Nat × Nat))}(h:OTs K H zs os):o8 K H (os.map oD) zs:=by
 induction h with
 | nil=>exact .mkN
 | no _ ih=>rw[g7];exact Z4 ih (.mkC (by unfold Dt;rfl) .mkN)
 | yes _ hq ih=>rw[g7];exact Z4 ih (.mkC (Dt.mkT hq (.mkC .mkInt (.mkC .mkInt .mkN))) .mkN)
theorem av5:∀ os:List (Option (Nat × Nat)),PyData.canLayAll0 (os.map oD)=true
 | []=>by simp[PyData.canLayAll0]
 | none::os=>by simp[PyData.canLayAll0,oD,PyData.canLay0,av5 os]
 | some q::os=>by simp[PyData.canLayAll0,oD,PyData.canLay0,av5 os]
theorem aY8 (os:List (Option (Nat × Nat))):((os.map oD).any fun d=>PyData.eqv d .none)=os.any ax3:=by
 rw[List.any_map]
 congr 1
 funext o
 cases o with
 | none=>simp[oD,PyData.eqv]
 | some q=>simp[oD,PyData.eqv]
theorem OTs.ties {K:W.Frag}{H:Hp}{zs:List V}{os:List (Option (Nat × Nat))}(h:OTs K H zs os)(hn:os.any ax3=false):∃ qs:List (Nat × Nat),os=qs.map some/\t5 K H zs (qs.map ab3):=by
 induction h with
 | nil=>exact⟨[],rfl,.nil⟩
 | no _ _=>rw[List.any_append]at hn;simp at hn
 | @yes zs os a q _ hq ih =>
  rw[List.any_append,aM1]at hn
  obtain⟨qs,rfl,ht⟩:=ih hn.1
  refine⟨qs++[q],by rw[g7];rfl,?_⟩
  rw[g7]
  exact t5.append ht (t5.one hq)
seal L2.PE L2.PA L2.PS L2.PSs L2.PT
section
variable {P:Program} {w:World} {K:W.Frag} {mg:Str->Option Value} {base:Heap}
def aT6:Sp:=fun vs H Q _=>∃ (x:Str),vs=[.str x,.int 2]/\x.length<=5000/\D4 x/\(N3 2 x.cps.toList=true->∀ H',n4 H H'->Q (.int (L0 x.cps.toList:Int)) H')/\(N3 2 x.cps.toList=false->∀ H',n4 H H'->Q .non H')
theorem be4:t7 ["word","most"] ["word","most"] (d8 ap6):=⟨rfl,rfl,rfl,by decide +kernel,rfl,by decide +kernel,by decide +kernel⟩
set_option maxHeartbeats 1000000 in
theorem aY6 {f:Addr}{fd:FuncData}(F:Fun K "_law_figures" "_law_figures" ap6 f fd)(B:Bn mg):p8 P w K mg base CX0 1 f fd ["word","most"] aT6:=by
 refine F.ok be4 (fun vs H Q E h=>?_) (fun cdv A outer s H vs Q E hr h=>?_)
 ·obtain⟨x,rfl,_⟩:=h
  rfl
 ·obtain⟨y,rfl,hx,aY,q1,q2⟩:=h
  have hsl:sizeLine=16777216:=sizeLine_eq
  have hun:=hr.units
  have nd1:(["sign"]:List Str).Nodup:=by decide +kernel
  refine⟨_,c8 (u7 (PW.pt (W2 (F0 (ae4 ae9 ae9 c4 (k8 X2 (by rfl) B.len PySem.boot_len (a4 (pv 0) b7)) (pv 1)))
     (O0 (m5 aX4 (ac2 (N':=["sign"]) (lk:=[none]) rfl (aI3 (pv 0)) (by rfl) rfl (by decide +kernel) (by exact trivial) (by rfl) (by exact LkL.ok trivial)
       (fun _ _ _=>A3 (i:=0) nd1 rfl (Or.inl rfl)) (fun _ _ _=>ay8 (m5 al6 (pv 0) y9 (by rfl))) (fun _ _ _=>pv 0)) (M5 b7) (n6 _))))) (d4 (o4 J6)) l8)
   (c8 (u7 (PW.pt (aI0 (m5 F6 (Q6 (pv 0) c4 (fun _ _=>rfl)) y9 (n6 _)) (ay7 (m5 aJ1 (k8 X2 (by rfl) B.len PySem.boot_len (a4 (pv 0) b7)) c4 (n6 _))))) (d4 (o4 J6)) l8)
   (d4 (o4 (A7 T7 (by rfl) B.int (by rfl) (a4 (pv 0) b7))))),?_⟩
  have lY:=v8 y
  refine⟨_,rfl,_,_,rfl,⟨by omega,rfl⟩,_,_,rfl,rfl,_,rfl,?_⟩
  by_cases h1:(1:Int)<=(y.length:Int)
  ·rw[decide_eq_true h1]
   refine A5 ⟨_,rfl,_,_,rfl,rfl,_,rfl,?_⟩
   by_cases h2:(y.length:Int)<=2
   ·rw[decide_eq_true h2]
    refine A8 ⟨_,rfl,y,rfl,fun D hD=>as3 (x:=y) (D:=D) (fun i xs σ' H'=>(∃ v,σ'=[v])/\n4 H H'/\H' D=some (.lst xs)/\xs=((y.cps.toList.take i).filter fun c=>!isD c).map fun c=>V.str ⟨#[c]⟩)
     ⟨⟨none,rfl⟩,g6 hD,b8,by rw[P5];rfl⟩ (by omega) (fun i xs σ' H' hi ⟨_,s2,g2,e2⟩=>⟨g2,by rw[e2,b5];exact o7 (List.length_filter_le ..) (by rw[k9];omega)⟩) ?_ ?_⟩
    ·rintro i xs c σ' H' N kN hc ⟨⟨v,rfl⟩,s2,g2,rfl⟩
     refine⟨_,rfl,_,_,rfl,rfl,_,rfl,?_⟩
     have e5:(y.cps.toList.take (i+1))=y.cps.toList.take i++[c]:=by rw[t8,hc];rfl
     have e6:(!(!(Builtin.Str.occurrences ("0123456789":Str) ⟨#[c]⟩ 0 ("0123456789":Str).length 1).isEmpty))=!isD c:=by rw[aK6]
     rw[e6]
     cases e:isD c with
     | true =>
      refine A8 (kN _ _ _ ⟨⟨_,rfl⟩,s2,g2,?_⟩)
      rw[e5,aV4,List.filter_cons_of_neg (by rw[e];decide),List.filter_nil,X6]
     | false =>
      refine A5 ⟨_,rfl,g2,kN _ _ _ ⟨⟨_,rfl⟩,s2.upd hD,b8,?_⟩⟩
      rw[e5,aV4,List.filter_cons_of_pos (by rw[e];rfl),List.filter_nil,g7]
      rfl
    ·rintro xs σ' H1 ⟨⟨v,rfl⟩,s1,g1,rfl⟩
     rw[<- v8,T9]at g1
     refine⟨by show 0<=sizeLine;omega,fun l4 f4=>?_⟩
     have s4:=g6 (o:=.lst []) f4
     refine⟨_,.list [],dtS (SqL.of (s4 _ _ g1)),Dt.mkL (SqL.of b8) .mkN,bj6 (fun c hc=>aY c ((at0.mp hc).1)),by simp[PyData.canLay0,PyData.canLayAll0],?_,_,rfl,?_⟩
     ·exact aG1 hun (o7 (at8 _ _) (o7 (bk3 _) (by decide)))
     have s14:=s1.trans s4
     show if (!PyData.eqv _ _)=true then _ else _
     rw[bk2]
     have e0:N3 2 y.cps.toList=(y.cps.toList.all isD && (!decide (y.cps.toList.head?=some 48) || decide (y.cps.toList.length=1))):=by
      unfold N3
      rw[decide_eq_true (show 1<=y.cps.toList.length by omega),decide_eq_true (show y.cps.toList.length<=2 by omega)]
      rfl
     by_cases e3:y.cps.toList.all isD=true
     ·have ef:(y.cps.toList.filter fun c=>!isD c)=[]:=by
       rw[aF7]
       intro c hc
       rw[o3.mp e3 c hc]
       decide
      rw[ef]
      refine A8 ?_
      rw[e3,M8]at e0
      have hl:0<y.cps.toList.length:=by omega
      obtain⟨c,l',ec⟩:∃ c l,y.cps.toList=c::l:=by
       cases e:y.cps.toList with
       | nil=>rw[e]at hl;exact absurd hl (by decide)
       | cons c l=>exact⟨c,l,rfl⟩
      have fin:N3 2 y.cps.toList=true->∃ n,PySem.intText? y=some n/\y.length<=640/\Q (.int n) (upd H1 l4 (.lst [])):=fun e=>⟨_,ac9 e (by decide),by omega,q1 e _ s14⟩
      refine⟨_,rfl,y,0,c,rfl,rfl,by decide,by decide,(by show (0:Int)<(y.length:Int);omega),(by rw[<- a6,ec];rfl),rfl,_,rfl,?_⟩
      rw[aq1]
      have eh:decide (y.cps.toList.head?=some 48)=decide (c=48):=by
       rw[ec,A0,decide_eq_true_iff,decide_eq_true_iff]
       exact Option.some.injEq ..  |>.to_iff
      rw[eh]at e0
      by_cases h48:c=48
      ·rw[decide_eq_true h48]at e0 ⊢
       refine A5 ⟨_,rfl,_,_,rfl,⟨by omega,rfl⟩,_,_,rfl,rfl,_,rfl,?_⟩
       by_cases h3:(1:Int)<(y.length:Int)
       ·rw[decide_eq_true h3]
        refine A5 (q2 ?_ _ s14)
        rw[e0,decide_eq_false (show ¬ y.cps.toList.length=1 by omega)]
        rfl
       ·rw[decide_eq_false h3]
        obtain⟨n,hn,hl,hq⟩:=fin (by rw[e0,decide_eq_true (show y.cps.toList.length=1 by omega),aL9])
        exact A8 ⟨_,rfl,y,n,rfl,hn,hl,hq⟩
      ·rw[decide_eq_false h48]at e0 ⊢
       obtain⟨n,hn,hl,hq⟩:=fin (by rw[e0];rfl)
       exact A8 (A8 ⟨_,rfl,y,n,rfl,hn,hl,hq⟩)
     ·have ef:(y.cps.toList.filter fun c=>!isD c).isEmpty=false:=by
       rw[List.isEmpty_eq_false_iff]
       intro z
       refine e3 (o3.mpr fun c hc=>?_)
       rw[aF7]at z
       have:=z c hc
       revert this
       cases isD c<;>simp
      rw[ef]
      refine A5 (q2 ?_ _ s14)
      rw[e0,bb4.mpr e3,p9]
   ·rw[decide_eq_false h2]
    refine A5 (q2 ?_ H (n4.refl H))
    unfold N3
    rw[decide_eq_false (show ¬ y.cps.toList.length<=2 by omega),ax2,p9,p9]
  ·rw[decide_eq_false h1]
   refine A8 ⟨_,rfl,A5 (q2 ?_ H (n4.refl H))⟩
   unfold N3
   rw[decide_eq_false (show ¬ 1<=y.cps.toList.length by omega),p9,p9,p9]
end
end Web
namespace Web
open PySem L2
theorem av4 {X:Cx}(K:W.Frag)(hK:X.K=K):OpR X (compareOp .In) (rIn K false):=by subst hK;exact aC6
seal L2.PE L2.PA L2.PS L2.PSs L2.PT
section
variable {P:Program} {w:World} {K:W.Frag} {mg:Str->Option Value} {base:Heap}
def ak5:Sp:=fun vs H Q _=>∃ (x:Str),vs=[.str x]/\x.length<=5000/\D4 x/\(∀ q,D8 x=some q->∀ (t:Addr) (H':Hp),n4 H H'->H' t=some (.tup ((ab3 q).map V.int))->Q (.ref t) H')/\(D8 x=none->∀ H',n4 H H'->Q .non H')
theorem au8:t7 ["word","parts","ends"] ["word"] (d8 al0):=⟨rfl,rfl,rfl,by decide +kernel,rfl,by decide +kernel,by decide +kernel⟩
theorem aP4 {f fG:Addr}{fd fdG:FuncData}(F:Fun K "_law_tie" "_law_tie" al0 f fd)(B:Bn mg)(FG:Fun K "_law_figures" "_law_figures" ap6 fG fdG)(bG:Binds K fdG ["word","most"] [])(mG:mg "_law_figures"=some (.ref fG)):p8 P w K mg base CX0 2 f fd ["word"] ak5:=by
 have GG:p8 P w K mg base CX0 1 fG fdG ["word","most"] aT6:=aY6 FG B
 refine F.ok au8 (fun vs H Q E h=>?_) (fun cdv A outer s H vs Q E hr h=>?_)
 ·obtain⟨x,rfl,_⟩:=h
  rfl
 ·obtain⟨x,rfl,hx,hA,q1,q2⟩:=h
  have hsl:sizeLine=16777216:=sizeLine_eq
  refine⟨_,c8 (m6 (i:=1) au8.nd rfl (Or.inl rfl) (J8 PySem.F.plainAttrs_str PySem.F.slot_str_split PySem.F.type_str_split Q8 (pv 0) (a4 y9 b7)))
   (c8 (u7 (m5 ai1 (k8 x6 (by rfl) B.len PySem.boot_len (a4 (pv 1) b7)) c4 (n6 _)) (d4 (o4 J6)) l8)
   (c8 (m6 (i:=2) au8.nd rfl (Or.inl rfl) (Q5 (a4 (p0 GG hr (by rfl) mG FG.kp bG .nil E1 (a4 (B4 F3 (pv 1) c4 (fun _ _=>rfl)) (a4 c4 b7))) (a4 (p0 GG hr (by rfl) mG FG.kp bG .nil E1 (a4 (B4 F3 (pv 1) c4 (fun _ _=>rfl)) (a4 c4 b7))) b7))))
   (c8 (u7 (PW.pt (W2 (m5 (av4 K rfl) J6 (pv 2) (by rfl)) (O0 (F0 (m5 az1 (B4 C4 (pv 2) c4 (fun _ _=>rfl)) (B4 C4 (pv 2) c4 (fun _ _=>rfl)) (n6 _)))))) (d4 (o4 J6)) l8)
   (d4 (o4 (pv 2)))))),?_⟩
  have h2:=split_len x "-"
  refine⟨_,rfl,rfl,x,_,rfl,rfl,as0,by omega,by omega,fun l fl=>?_⟩
  have s1:=g6 (o:=.lst ((Txt.split x "-").map V.str)) fl
  have g1:(upd H l (.lst ((Txt.split x "-").map V.str))) l=some (.lst ((Txt.split x "-").map V.str)):=b8
  generalize upd H l (.lst ((Txt.split x "-").map V.str))=H1 at s1 g1
  refine⟨_,rfl,l,_,rfl,.inl (SqL.of g1),rfl,_,rfl,?_⟩
  by_cases e2:(Txt.split x "-").length=2
  ·have hd:decide ((V.int (((Txt.split x "-").map V.str).length:Nat):V)=.int 2)=true:=by rw[decide_eq_true_iff,b5,e2];rfl
   rw[hd]
   refine A8 ?_
   obtain⟨a,b,eab⟩:∃ a b,Txt.split x "-"=[a,b]:=by
    match h:Txt.split x "-",e2 with
    | [a,b],_=>exact⟨a,b,rfl⟩
   have ha:=K4 (x:=x) (y:="-") (p:=a) (by rw[eab];simp)
   have hb:=K4 (x:=x) (y:="-") (p:=b) (by rw[eab];simp)
   have eW:=aG5 eab
   rw[eab]at g1
   have no:(N3 2 a.cps.toList && N3 2 b.cps.toList && decide (L0 a.cps.toList<L0 b.cps.toList))≠true->∀ H',n4 H1 H'->Q .non H':=fun h H' s'=>q2 (by rw[eW,if_neg h]) H' (s1.trans s')
   have n2:(2:Nat)<=sizeLine:=by omega
   have no1:N3 2 a.cps.toList=false->∀ H',n4 H1 H'->Q .non H':=fun f H' s'=>no (by rw[f];simp) H' s'
   have no2:N3 2 b.cps.toList=false->∀ H',n4 H1 H'->Q .non H':=fun f H' s'=>no (by rw[f];simp) H' s'
   have hb':b.length<=5000:=by omega
   refine⟨_,rfl,l,_,_,_,rfl,rfl,SqL.of g1,o5 (j:=0) rfl,a,rfl,by omega,ha.2 hA,fun fa H2 s2=>?_,fun fa H2 s2=>?_⟩
   ·refine⟨_,rfl,l,_,_,_,rfl,rfl,SqL.of (s2 _ _ g1),o5 (j:=1) rfl,b,rfl,hb',hb.2 hA,fun fb H3 s3=>⟨n2,fun t ft=>?_⟩,fun fb H3 s3=>⟨n2,fun t ft=>?_⟩⟩
    ·have s4:=g6 (o:=.tup [.int (L0 a.cps.toList:Int),.int (L0 b.cps.toList:Int)]) ft
     have s14:=(s2.trans s3).trans s4
     refine⟨_,rfl,t,_,rfl,.inr (SqT.of b8),rfl,rfl,_,rfl,A8 ?_⟩
     refine⟨_,rfl,t,_,_,_,rfl,rfl,SqT.of b8,o5 (j:=0) rfl,_,rfl,t,_,_,_,rfl,rfl,SqT.of b8,o5 (j:=1) rfl,_,_,rfl,rfl,_,rfl,?_⟩
     by_cases hlt:L0 a.cps.toList<L0 b.cps.toList
     ·rw[decide_eq_true (show (L0 a.cps.toList:Int)<(L0 b.cps.toList:Int) by omega)]
      exact A8 ⟨_,rfl,q1 (L0 a.cps.toList,L0 b.cps.toList) (by rw[eW,if_pos (by rw[fa,fb,decide_eq_true hlt];rfl)]) t _ (s1.trans s14) b8⟩
     ·rw[decide_eq_false (show ¬ (L0 a.cps.toList:Int)<(L0 b.cps.toList:Int) by omega)]
      exact A5 (no (by rw[decide_eq_false hlt];simp) _ s14)
    ·exact⟨_,rfl,t,_,rfl,.inr (SqT.of b8),rfl,rfl,_,rfl,A5 (A5 (no2 fb _ ((s2.trans s3).trans (g6 ft))))⟩
   ·refine⟨_,rfl,l,_,_,_,rfl,rfl,SqL.of (s2 _ _ g1),o5 (j:=1) rfl,b,rfl,hb',hb.2 hA,fun fb H3 s3=>⟨n2,fun t ft=>?_⟩,fun fb H3 s3=>⟨n2,fun t ft=>?_⟩⟩
    ·exact⟨_,rfl,t,_,rfl,.inr (SqT.of b8),rfl,rfl,_,rfl,A5 (A5 (no1 fa _ ((s2.trans s3).trans (g6 ft))))⟩
    ·exact⟨_,rfl,t,_,rfl,.inr (SqT.of b8),rfl,rfl,_,rfl,A5 (A5 (no1 fa _ ((s2.trans s3).trans (g6 ft))))⟩
  ·have hd:decide ((V.int (((Txt.split x "-").map V.str).length:Nat):V)=.int 2)=false:=by
    rw[decide_eq_false_iff_not,b5]
    intro z
    rw[V.int.injEq]at z
    omega
   rw[hd]
   exact A5 (q2 (aG6 e2) _ s1)
end
end Web
namespace Web
open PySem L2
theorem OTs.updL {K:W.Frag}{H:Hp}{D:Addr}{ws ys zs:List V}{os:List (Option (Nat × Nat))}(h:OTs K H zs os)(g:H D=some (.lst ws)):OTs K (upd H D (.lst ys)) zs os:=by
 induction h with
 | nil=>exact .nil
 | no _ ih=>exact .no ih
 | yes _ hq ih=>exact .yes ih (hq.updL g)
seal L2.PE L2.PA L2.PS L2.PSs L2.PT
section
variable {P:Program} {w:World} {K:W.Frag} {mg:Str->Option Value} {base:Heap}
def aW0 (K:W.Frag):Sp:=fun vs H Q _=>∃ (x:Str) (n:Nat),vs=[.str x,.int n]/\1<=n/\n<=24/\x.length<=5000/\D4 x/\(∀ ks,Z7 x n ks->∀ (p t:Addr) (zs:List V) (H':Hp),n4 H H'->H' p=some (.tup [.int n,.ref t])->H' t=some (.tup zs)->t5 K H' zs ks->Q (.ref p) H')/\((¬ ∃ ks,Z7 x n ks)->∀ H',n4 H H'->Q .non H')
theorem aN4:t7 ["row","places","words","ties","k"] ["row","places"] (d8 Q2):=⟨rfl,rfl,rfl,by decide +kernel,rfl,by decide +kernel,by decide +kernel⟩
set_option maxHeartbeats 1000000 in
theorem bf7 {f fT:Addr} {fd fdT:FuncData} (F:Fun K "_law_web_of" "_law_web_of" Q2 f fd) (B:Bn mg) (FT:Fun K "_law_tie" "_law_tie" al0 fT fdT) (bT:Binds K fdT ["word"] []) (mT:mg "_law_tie"=some (.ref fT)) (GT:p8 P w K mg base CX0 2 fT fdT ["word"] ak5):p8 P w K mg base CX0 3 f fd ["row","places"] (aW0 K):=by
 refine F.ok aN4 (fun vs H Q E h=>?_) (fun cdv A outer s H vs Q E hr h=>?_)
 ·obtain⟨x,n,rfl,_⟩:=h
  rfl
 ·obtain⟨x,n,rfl,n1,n2,hx,hA,q,qn⟩:=h
  have hsl:sizeLine=16777216:=sizeLine_eq
  have hun:=hr.units
  have hu8:=bb6 (V5 _ 64) hr.units
  have nd1:(["word"]:List Str).Nodup:=by decide +kernel
  refine⟨_,c8 (m6 (i:=2) aN4.nd rfl (Or.inl rfl) (J8 PySem.F.plainAttrs_str PySem.F.slot_str_split PySem.F.type_str_split Q8 (pv 0) (a4 y9 b7)))
   (c8 (aO6 (i := 3) aN4.nd rfl rfl (by rfl) (N' := ["word"]) (lk := [none]) rfl (S2 (B9 ak7 (pv 2) (C2 c4) E6)) (by rfl) rfl (by decide +kernel) (by exact trivial) (by rfl) (by exact LkL.ok trivial)
    (fun _ _ _=>A3 (i:=0) nd1 rfl (Or.inl rfl)) (fun _ _ _=>W3) (fun _ _ _=>p0 GT hr (by rfl) mT FT.kp bT .nil E1 (a4 (pv 0) b7)))
   (c8 (u7 (PW.pt (W2 (m5 ai1 (B4 F3 (pv 2) c4 (fun _ _=>rfl)) y9 (n6 _)) (O0 (m5 (aP0 K hr.around rfl rfl) J6 (pv 3) (by rfl))))) (d4 (o4 J6)) l8)
   (c8 (M4 PassesOwn.never rfl (K5 rfl B.range (a4 (k8 x6 (by rfl) B.len PySem.boot_len (a4 (pv 3) b7)) b7)) (A3 (i := 4) aN4.nd rfl (Or.inl rfl))
    (d4 (u7 (PW.pt (W2 (m5 aU3 (B4 C4 (B4 F3 (pv 3) (pv 4) (fun _ _=>rfl)) c4 (fun _ _=>rfl)) (pv 1) (n6 _)) (O0 (PW.pt (aI0 (m5 aJ1 (pv 4) c4 (n6 _)) (ay7 (F0 (m5 (aX5 hu8) (B4 F3 (pv 3) (k7 aJ0 (pv 4) c4) (fun _ _=>rfl)) (B4 F3 (pv 3) (pv 4) (fun _ _=>rfl)) (n6 _))))))))) (d4 (o4 J6)) l8)))
   (d4 (o4 (Q5 (a4 (pv 1) (a4 (A7 G9 (by rfl) B.tuple (by rfl) (a4 (pv 3) b7)) b7)))))))),?_⟩
  obtain⟨v,r,ew⟩:=ad6 x " "
  obtain⟨hv,hr',hrl⟩:=ah5 ew hx
  have hrA:∀ u∈r,D4 u:=fun u hu=>(K4 (x:=x) (y:=" ") (by rw[ew];exact a7 _ hu)).2 hA
  refine⟨_,rfl,rfl,x,_,rfl,rfl,Z6,by omega,by rw[ew,d6];omega,fun l fl=>?_⟩
  rw[ew]
  have s1:=g6 (o:=.lst ((v::r).map V.str)) fl
  have g1:(upd H l (.lst ((v::r).map V.str))) l=some (.lst ((v::r).map V.str)):=b8
  generalize upd H l (.lst ((v::r).map V.str))=H1 at s1 g1
  have a0:atI ((v::r).map V.str) 0=some (.str v):=o5 (j:=0) rfl
  refine⟨_,rfl,_,rfl,l,_,rfl,SqL.of g1,fun l2 f2=>?_⟩
  rw[bh0]
  have s2:=g6 (o:=.lst (r.map V.str)) f2
  have g2:(upd H1 l2 (.lst (r.map V.str))) l2=some (.lst (r.map V.str)):=b8
  generalize upd H1 l2 (.lst (r.map V.str))=H2 at s2 g2
  refine⟨l2,rfl,⟨_,SqL.of g2⟩,fun D hD=>Z5 (K:=K) (a:=l2) (D:=D) (ys:=r.map V.str) (fun i xs σ' H'=>(∃ v,σ'=[v])/\n4 H2 H'/\H' D=some (.lst xs)/\OTs K H' xs ((r.take i).map D8)) ⟨⟨none,rfl⟩,g6 hD,b8,by rw[P5];exact .nil⟩ (by rw[b5];omega)
   (fun i xs σ' H' hi ⟨_,s3,g3,t3⟩=>⟨SqL.of (s3 _ _ g2),g3,by have:=t3.len;rw[b5,k9]at this;omega⟩) ?_ ?_⟩
  ·rintro i xs y σ' H' N kN hy ⟨⟨_,rfl⟩,s3,g3,t3⟩
   obtain⟨u,hu,eu,rfl⟩:=au2 hy
   have htk:(r.take (i+1)).map D8=(r.take i).map D8++[D8 u]:=by rw[t8,eu,g7];rfl
   refine E3 (P7 ?_)
   refine⟨_,rfl,u,rfl,hr' u hu,hrA u hu,fun qq eq t H4 s4 gt=>?_,fun en H4 s4=>?_⟩
   ·have g4:=s4 _ _ g3
    refine⟨g4,kN _ _ _ ⟨⟨_,rfl⟩,(s3.trans s4).upd hD,b8,?_⟩⟩
    rw[htk,eq]
    have hDt:D≠t:=fun z=>by rw[z,gt]at g4;cases g4
    have t4:=t3.same s4
    exact .yes (t4.updL g4) (SqT.of (by rw[q8 (Ne.symm hDt)];exact gt))
   ·have g4:=s4 _ _ g3
    refine⟨g4,kN _ _ _ ⟨⟨_,rfl⟩,(s3.trans s4).upd hD,b8,?_⟩⟩
    rw[htk,en]
    exact .no ((t3.same s4).updL g4)
  ·rintro xs σ' H3 ⟨⟨_,rfl⟩,s3,g3,t3⟩
   rw[b5,T9]at t3
   have s13:=(s1.trans s2).trans s3
   have g1':=(s2.trans s3) _ _ g1
   refine⟨_,rfl,l,_,_,_,rfl,rfl,SqL.of g1',a0,rfl,_,rfl,R1 (fun hc=>?_) (fun hc=>?_)⟩
   ·refine A5 (qn (fun⟨ks,r',e',_⟩=>?_) _ s13)
    rw[ew]at e'
    cases e'
    exact absurd hc (by decide +kernel)
   have hvw:v="web":=by
    cases e:decide ((V.str v:V)=.str "web") with
    | true=>exact(ay0 e).mp rfl
    | false=>rw[e]at hc;exact absurd rfl hc
   subst hvw
   refine⟨_,rfl,D,_,.none,_,rfl,.inl (SqL.of g3),by unfold Dt;rfl,t3.dt,by simp[PyData.canLay0],av5 _,aV6 hun (by simp[PyData.depth]),_,rfl,?_⟩
   show if (((r.map D8).map oD).any fun d=>PyData.eqv d .none)=true then _ else _
   rw[aY8]
   cases eN:(r.map D8).any ax3 with
   | true =>
    refine A5 (qn (fun⟨ks,r',e',hR,_⟩=>?_) _ s13)
    rw[ew]at e'
    cases e'
    obtain⟨o,ho,eo⟩:=List.any_eq_true.mp eN
    obtain⟨u,hu,rfl⟩:=m8.mp ho
    exact hR.none hu (Option.isNone_iff_eq_none.mp eo)
   | false =>
    obtain⟨qs,eqs,tt⟩:=t3.ties eN
    have hR:F8 r (qs.map ab3):=⟨qs,eqs,rfl⟩
    generalize qs.map ab3=ks at tt hR
    have hlt:=hR.lt
    have hkl:=tt.len
    have hno:(¬ Tl n n ks)->∀ H',n4 H3 H'->Q .non H':=fun hT H' s'=>qn (fun⟨ks',r',e',hR',hT'⟩=>by
     rw[ew]at e'
     cases e'
     rw[hR'.uniq hR]at hT'
     exact hT hT') H' (s13.trans s')
    refine A8 ⟨_,rfl,D,_,rfl,.inl (SqL.of g3),ks.length,by rw[hkl],by omega,by have:=hR.len;omega,K6 (lo:=0) (n:=ks.length) (fun i σ H2=>∃ e4,σ=[some (.str x),some (.int n),some (.ref l),some (.ref D),e4]/\H2=H3/\∀ (m:Nat) (k:List Int),m<i->ks[m]?=some k->Up n k/\(0<m->HT.lexLt (ai7 ks m) k=true)) ⟨none,rfl,rfl,fun m k h=>absurd h (by omega)⟩ ?_ ?_⟩
    ·rintro i σ H4 hi ⟨e4,rfl,rfl,hm⟩
     have e0:((0:Int)+(i:Int))=(i:Int):=by omega
     rw[e0]
     refine E3 ?_
     have ek:ks[i]?=some ks[i]:=c5 hi
     obtain⟨b,kk,hb1,hb2,hb3⟩:∃ b kk,xs[i]?=some (.ref b)/\ks[i]?=some kk/\SqT K H4 b (kk.map V.int):=by
      have hxi:xs[i]?=some xs[i]:=c5 (by omega)
      obtain⟨b,kk,e1,e2,e3⟩:=tt.get hxi
      exact⟨b,kk,by rw[hxi,e1],e2,e3⟩
     rw[ek]at hb2
     obtain⟨p,j,hpj,ekk⟩:=hlt _ (u9 hi)
     have hb2:kk=[(p:Int),(j:Int)]:=by rw[<- ekk];exact(Option.some.inj hb2).symm
     subst hb2
     have ek':ks[i]?=some [(p:Int),(j:Int)]:=by rw[ek,ekk]
     refine⟨_,rfl,_,rfl,D,_,_,_,rfl,rfl,SqL.of g3,o5 hb1,b,_,_,_,rfl,rfl,hb3,o5 (j:=1) rfl,_,rfl,_,_,rfl,rfl,_,rfl,?_⟩
     by_cases hjn:(n:Int)<=(j:Int)
     ·rw[decide_eq_true hjn]
      refine A5 (A5 (hno (fun hT=>?_) _ (n4.refl _)))
      obtain⟨i',j',_,hj',e⟩:=hT.t.ups _ (a9 ek')
      injection e with _ e
      injection e with e _
      omega
     ·rw[decide_eq_false hjn]
      have hUp:Up n [(p:Int),(j:Int)]:=⟨p,j,hpj,by omega,rfl⟩
      refine A8 ⟨_,rfl,_,_,rfl,rfl,_,rfl,?_⟩
      by_cases hi0:(0:Int)<(i:Int)
      ·rw[decide_eq_true hi0]
       obtain⟨c,mm,hc1,hc2,hc3⟩:∃ c mm,xs[i - 1]?=some (.ref c)/\ks[i - 1]?=some mm/\SqT K H4 c (mm.map V.int):=by
        have hxi:xs[i - 1]?=some xs[i - 1]:=c5 (by omega)
        obtain⟨b,kk,e1,e2,e3⟩:=tt.get hxi
        exact⟨b,kk,by rw[hxi,e1],e2,e3⟩
       have el:ai7 ks i=mm:=by
        obtain⟨i',rfl⟩:∃ i',i=i'+1:=⟨i - 1,by omega⟩
        show ks.getD i' []=mm
        rw[u4,show ks[i']?=some mm from hc2]
        rfl
       have e9:((i:Int) - 1)=((i - 1:Nat):Int):=by omega
       refine A5 ⟨_,rfl,_,rfl,_,_,rfl,rfl,D,_,_,_,rfl,rfl,SqL.of g3,by rw[e9];exact o5 hc1,_,rfl,_,rfl,D,_,_,_,rfl,rfl,SqL.of g3,o5 hb1,c,b,_,_,rfl,rfl,hc3,hb3,_,rfl,?_⟩
       cases hL:HT.lexLt mm [(p:Int),(j:Int)] with
       | true =>
        refine A8 ⟨_,rfl,rfl,fun m k hmi hk=>?_⟩
        rcases an2 m i with z | z
        ·exact hm m k z hk
        ·have:m=i:=by omega
         subst this
         rw[ek']at hk
         cases hk
         exact⟨hUp,fun _=>by rw[el];exact hL⟩
       | false =>
        refine A5 (hno (fun hT=>?_) _ (n4.refl _))
        have:=(aQ5 hT.t ek').1
        rw[el,hL]at this
        cases this
      ·rw[decide_eq_false hi0]
       refine A8 (A8 ⟨_,rfl,rfl,fun m k hmi hk=>?_⟩)
       have hm0:m=0:=by omega
       have hii:i=0:=by omega
       subst hm0
       subst hii
       rw[ek']at hk
       cases hk
       exact⟨hUp,fun h=>absurd h (by omega)⟩
    ·rintro σ H4 ⟨e4,rfl,rfl,hm⟩
     have hUps:∀ k∈ks,Up n k:=fun k hk=>by
      obtain⟨m,hm',e⟩:=List.getElem_of_mem hk
      exact(hm m k hm' (by rw[c5 hm',e])).1
     have hT:Tl n n ks:=⟨rfl,n1,n2,aM7 hUps fun m a b ea eb=>by
      have h:=(hm (m+1) b (a8.mp eb).1 eb).2 (by omega)
      have:ai7 ks (m+1)=a:=by show ks.getD m []=a;rw[u4,ea];rfl
      rw[this]at h
      exact h⟩
     refine⟨_,rfl,_,rfl,D,_,rfl,.inl ⟨SqL.of g3,fun t ft=>⟨by show 2<=sizeLine;omega,fun p fp=>?_⟩⟩⟩
     have s4:=g6 (o:=.tup xs) ft
     have s5:=g6 (o:=.tup [.int n,.ref t]) fp
     exact q ks ⟨r,ew,hR,hT⟩ p t xs _ ((s13.trans s4).trans s5) b8 (s5 _ _ b8) (s5.tups (s4.tups tt))
end
end Web
namespace Web
open PySem L2
def Sca (x y:V):Prop:=(∃ z:Int,x=.int z/\y=.int z)\/(∃ t:Str,x=.str t/\y=.str t)
def Alk (K:W.Frag)(H:Hp):Nat->V->V->Prop
 | 0,_,_=>False
 | n+1,x,y=>∃ (p q:Addr) (xs ys:List V),x=.ref p/\y=.ref q/\SqT K H p xs/\SqT K H q ys/\xs.length=ys.length/\xs.length<=300/\∀ (i:Nat) (u v:V),xs[i]?=some u->ys[i]?=some v->Sca u v\/Alk K H n u v
theorem C1 {X:Cx}(K:W.Frag)(hK:X.K=K):G0 X (.builtin "isinstance") (fun xs H Q=>∃ x c t b,xs=[x,.ty c]/\(V2 K H x t\/∃ a ys,x=.ref a/\t=.type "tuple"/\SqT K H a ys)/\PySem.W.kitOne K t (.type c)=some b/\Q (.bl b) H):=by
 subst hK
 intro pins s σ H xs us Q I r h
 obtain⟨x,c,t,b,rfl,h | ⟨a,ys,rfl,rfl,h⟩,e,q⟩:=h
 ·exact aa9 pins s σ H _ us Q I r ⟨x,c,t,b,rfl,h,e,q⟩
 ·exact am4 pins s σ H _ us Q I r ⟨a,ys,c,b,rfl,h,e,q⟩
seal L2.PE L2.PA L2.PS L2.PSs L2.PT
section
variable {P:Program} {w:World} {K:W.Frag} {mg:Str->Option Value} {base:Heap}
def ay1:Sp:=fun vs H Q _=>∃ z:Int,vs=[.int z]/\Q (.bl true) H
theorem aN5:t7 ["found"] ["found"] (d8 Q1):=⟨rfl,rfl,rfl,by decide +kernel,rfl,by decide +kernel,by decide +kernel⟩
theorem aJ3 {f:Addr}{fd:FuncData}(F:Fun K "_law_whole" "_law_whole" Q1 f fd)(B:Bn mg):p8 P w K mg base CX0 1 f fd ["found"] ay1:=by
 refine F.ok aN5 (fun vs H Q E h=>?_) (fun cdv A outer s H vs Q E hr h=>?_)
 ·obtain⟨z,rfl,_⟩:=h
  rfl
 ·obtain⟨z,rfl,q⟩:=h
  refine⟨_,d4 (o4 (ae7 (k8 (O4 K rfl) (by rfl) B.isin (by rfl) (a4 (pv 0) (a4 (F2 (v:=.ty "int") (by rfl) B.int (by rfl) rfl) b7)))
    (Y8 (aI6 (k8 (O4 K rfl) (by rfl) B.isin (by rfl) (a4 (pv 0) (a4 (F2 (v:=.ty "bool") (by rfl) B.bool (by rfl) rfl) b7))))))),?_⟩
  refine⟨_,rfl,_,_,_,true,rfl,.int z,rfl,true,rfl,A5 ?_⟩
  exact⟨_,rfl,_,_,_,false,rfl,.int z,rfl,false,rfl,q⟩
def aH2 (K:W.Frag)(n:Nat):Sp:=fun vs H Q _=>∃ x y:V,vs=[x,y]/\(Sca x y\/Alk K H n x y)/\Q (.bl true) H
theorem ak9:t7 ["found","due","k"] ["found","due"] (d8 Q4):=⟨rfl,rfl,rfl,by decide +kernel,rfl,by decide +kernel,by decide +kernel⟩
set_option maxHeartbeats 4000000 in
theorem aY7 {f fH:Addr} {fd fdH:FuncData} (F:Fun K "_law_alike" "_law_alike" Q4 f fd) (bF:Binds K fd ["found","due"] []) (mF:mg "_law_alike"=some (.ref f)) (B:Bn mg) (FH:Fun K "_law_whole" "_law_whole" Q1 fH fdH) (bH:Binds K fdH ["found"] []) (mH:mg "_law_whole"=some (.ref fH)):∀ n:Nat,p8 P w K mg base CX0 (n+2) f fd ["found","due"] (aH2 K n):=by
 have GW:p8 P w K mg base CX0 1 fH fdH ["found"] ay1:=aJ3 FH B
 intro n
 induction n with
 | zero =>
  refine F.ok ak9 (fun vs H Q E h=>?_) (fun cdv A outer s H vs Q E hr h=>?_)
  ·obtain⟨x,y,rfl,_⟩:=h
   rfl
  ·obtain⟨x,y,rfl,hA,q⟩:=h
   replace hA:Sca x y:=hA.elim id False.elim
   refine⟨_,c8 (u7 (m5 av3 (pv 1) J6 (n6 _)) E5 l8)
    (c8 (u7 (D9 (k8 (C1 K rfl) (by rfl) B.isin (by rfl) (a4 (pv 1) (a4 (F2 (v:=.ty "str") (by rfl) B.str (by rfl) rfl) b7)))) (d4 (o4 (ae7 (k8 (C1 K rfl) (by rfl) B.isin (by rfl) (a4 (pv 0) (a4 (F2 (v:=.ty "str") (by rfl) B.str (by rfl) rfl) b7))) (Y8 (K0 F6 (pv 0) (pv 1) (n6 _)))))) l8)
    (c8 (u7 (D9 (k8 (C1 K rfl) (by rfl) B.isin (by rfl) (a4 (pv 1) (a4 (F2 (v:=.ty "int") (by rfl) B.int (by rfl) rfl) b7)))) (d4 (o4 (ae7 (p0 (GW.mono (by omega)) hr (by rfl) mH FH.kp bH .nil E1 (a4 (pv 0) b7)) (Y8 (K0 F6 (pv 0) (pv 1) (n6 _)))))) l8)
    E5)),?_⟩
   rcases hA with⟨z,rfl,rfl⟩ | ⟨t,rfl,rfl⟩
   ·refine⟨_,rfl,rfl,_,rfl,?_⟩
    rw[decide_eq_false (by intro h;cases h)]
    refine A8 ⟨_,rfl,_,_,_,false,rfl,.inl (.int z),rfl,_,rfl,A8 ?_⟩
    refine⟨_,rfl,_,_,_,true,rfl,.inl (.int z),rfl,_,rfl,A5 ?_⟩
    refine⟨_,rfl,z,rfl,true,rfl,A5 ?_⟩
    refine⟨_,rfl,_,rfl,rfl,?_⟩
    rw[decide_eq_true rfl]
    exact q
   ·refine⟨_,rfl,rfl,_,rfl,?_⟩
    rw[decide_eq_false (by intro h;cases h)]
    refine A8 ⟨_,rfl,_,_,_,true,rfl,.inl (.str t),rfl,_,rfl,A5 ?_⟩
    refine⟨_,rfl,_,_,_,true,rfl,.inl (.str t),rfl,true,rfl,A5 ?_⟩
    refine⟨_,rfl,_,rfl,rfl,?_⟩
    rw[decide_eq_true rfl]
    exact q
 | succ n ih =>
  refine F.ok ak9 (fun vs H Q E h=>?_) (fun cdv A outer s H vs Q E hr h=>?_)
  ·obtain⟨x,y,rfl,_⟩:=h
   rfl
  ·obtain⟨x,y,rfl,hA,q⟩:=h
   refine⟨_,c8 (u7 (m5 av3 (pv 1) J6 (n6 _)) E5 l8)
    (c8 (u7 (D9 (k8 (C1 K rfl) (by rfl) B.isin (by rfl) (a4 (pv 1) (a4 (F2 (v:=.ty "str") (by rfl) B.str (by rfl) rfl) b7)))) (d4 (o4 (ae7 (k8 (C1 K rfl) (by rfl) B.isin (by rfl) (a4 (pv 0) (a4 (F2 (v:=.ty "str") (by rfl) B.str (by rfl) rfl) b7))) (Y8 (K0 F6 (pv 0) (pv 1) (n6 _)))))) l8)
    (c8 (u7 (D9 (k8 (C1 K rfl) (by rfl) B.isin (by rfl) (a4 (pv 1) (a4 (F2 (v:=.ty "int") (by rfl) B.int (by rfl) rfl) b7)))) (d4 (o4 (ae7 (p0 (GW.mono (by omega)) hr (by rfl) mH FH.kp bH .nil E1 (a4 (pv 0) b7)) (Y8 (K0 F6 (pv 0) (pv 1) (n6 _)))))) l8)
    (c8 (u7 (D9 (k8 (C1 K rfl) (by rfl) B.isin (by rfl) (a4 (pv 1) (a4 (F2 (v:=.ty "list") (by rfl) B.list (by rfl) rfl) b7)))) E5 (d4 (u7 (PW.pt (W2 (F0 (D9 (k8 (C1 K rfl) (by rfl) B.isin (by rfl) (a4 (pv 0) (a4 (F2 (v:=.ty "tuple") (by rfl) B.tuple (by rfl) rfl) b7))))) (O0 (m5 ai1 (k8 x6 (by rfl) B.len PySem.boot_len (a4 (pv 0) b7)) (k8 x6 (by rfl) B.len PySem.boot_len (a4 (pv 1) b7)) (n6 _))))) E5 l8)))
    (c8 (M4 PassesOwn.never rfl (K5 rfl B.range (a4 (k8 x6 (by rfl) B.len PySem.boot_len (a4 (pv 1) b7)) b7)) (A3 (i := 2) ak9.nd rfl (Or.inl rfl))
      (d4 (u7 (F0 (D9 (p0 ih hr (by rfl) mF F.kp bF .nil E1 (a4 (B4 C4 (pv 0) (pv 2) (fun _ _=>rfl)) (a4 (B4 C4 (pv 1) (pv 2) (fun _ _=>rfl)) b7))))) E5 l8)))
     (d4 (o4 ae6)))))),?_⟩
   rcases hA with(⟨z,rfl,rfl⟩ | ⟨t,rfl,rfl⟩) | hA
   ·refine⟨_,rfl,rfl,_,rfl,?_⟩
    rw[decide_eq_false (by intro h;cases h)]
    refine A8 ⟨_,rfl,_,_,_,false,rfl,.inl (.int z),rfl,_,rfl,A8 ?_⟩
    refine⟨_,rfl,_,_,_,true,rfl,.inl (.int z),rfl,_,rfl,A5 ?_⟩
    refine⟨_,rfl,z,rfl,true,rfl,A5 ?_⟩
    refine⟨_,rfl,_,rfl,rfl,?_⟩
    rw[decide_eq_true rfl]
    exact q
   ·refine⟨_,rfl,rfl,_,rfl,?_⟩
    rw[decide_eq_false (by intro h;cases h)]
    refine A8 ⟨_,rfl,_,_,_,true,rfl,.inl (.str t),rfl,_,rfl,A5 ?_⟩
    refine⟨_,rfl,_,_,_,true,rfl,.inl (.str t),rfl,true,rfl,A5 ?_⟩
    refine⟨_,rfl,_,rfl,rfl,?_⟩
    rw[decide_eq_true rfl]
    exact q
   ·obtain⟨a,b,xs,ys,rfl,rfl,ga,gb,hl,hn,hA⟩:=hA
    refine⟨_,rfl,rfl,_,rfl,?_⟩
    rw[decide_eq_false (by intro h;cases h)]
    refine A8 ⟨_,rfl,_,_,_,false,rfl,.inr ⟨_,_,rfl,rfl,gb⟩,rfl,_,rfl,A8 ?_⟩
    refine⟨_,rfl,_,_,_,false,rfl,.inr ⟨_,_,rfl,rfl,gb⟩,rfl,_,rfl,A8 ?_⟩
    refine⟨_,rfl,_,_,_,false,rfl,.inr ⟨_,_,rfl,rfl,gb⟩,rfl,_,rfl,A8 ?_⟩
    refine⟨_,rfl,_,_,_,true,rfl,.inr ⟨_,_,rfl,rfl,ga⟩,rfl,_,rfl,A8 ?_⟩
    refine⟨_,rfl,a,_,rfl,.inr (ga),_,rfl,b,_,rfl,.inr (gb),rfl,_,rfl,aU8 (by rw[hl]) ?_⟩
    refine⟨_,rfl,b,_,rfl,.inr (gb),(ys.length:Int),rfl,by omega,by omega,?_⟩
    rw[S7]
    refine K6 (lo:=0) (n:=ys.length) (fun _ σ H1=>∃ e2,σ=[some (.ref a),some (.ref b),e2]/\H1=H) ⟨none,rfl,rfl⟩ ?_ ?_
    ·rintro i σ H1 hi ⟨e2,rfl,rfl⟩
     have e0:((0:Int)+(i:Int))=(i:Int):=by omega
     rw[e0]
     refine E3 ?_
     have hx:xs[i]?=some (xs[i]'(by omega)):=c5 (by omega)
     have hy:ys[i]?=some (ys[i]'hi):=c5 hi
     have hA':=hA i _ _ hx hy
     refine⟨_,rfl,_,rfl,a,_,_,_,rfl,rfl,ga,o5 hx,_,rfl,_,rfl,b,_,_,_,rfl,rfl,gb,o5 hy,_,_,rfl,hA',_,rfl,A8 ?_⟩
     exact⟨_,rfl,rfl⟩
    ·rintro σ H1 ⟨e2,rfl,rfl⟩
     exact q
end
end Web
namespace Web
open PySem L2
structure bh4 (K:W.Frag) (mg:Str->Option Value) (CT CN CX CP:Addr):Prop where
 mT:mg "TallyError"=some (.ref CT)
 mN:mg "NoText"=some (.ref CN)
 mX:mg "BadWeb"=some (.ref CX)
 mP:mg "NoPlace"=some (.ref CP)
 c:am9 K CN
 k:am8 K CN
 x:PySem.W.exmOne K (.ref CN) (.ref CT)=some true
 n:PySem.W.kitOne K (.ref CN) (.ref CN)=some true
 v:PySem.W.kitOne K (.ref CN) (.type "ValueError")=some true
 a:PySem.W.kitAny K (.ref CN) [.ref CX,.ref CP]=some false
theorem as9 {K:W.Frag}{H:Hp}{p q:Addr}{k:List Int}{n:Nat}(h:SqT K H p (k.map V.int))(g:SqT K H q (k.map V.int))(hl:k.length<=300):Alk K H (n+1) (.ref p) (.ref q):=by
 refine⟨p,q,_,_,rfl,rfl,h,g,rfl,by rw[b5];exact hl,fun i u v eu ev=>.inl (.inl ?_)⟩
 rw[eu]at ev
 cases ev
 obtain⟨z,rfl⟩:=int_at eu
 exact⟨z,rfl,rfl⟩
theorem aL4 {K:W.Frag}{H:Hp}{p q:Addr}{zs ys:List V}{ks:List (List Int)}(h:SqT K H p zs)(g:SqT K H q ys)(th:t5 K H zs ks)(tg:t5 K H ys ks)(hl:ks.length<=300)(h2:∀ k∈ks,∃ a b,k=[a,b]):Alk K H 2 (.ref p) (.ref q):=by
 have l1:=th.len
 have l2:=tg.len
 refine⟨p,q,zs,ys,rfl,rfl,h,g,by omega,by omega,fun i u v eu ev=>.inr ?_⟩
 obtain⟨a,k,rfl,ek,ha⟩:=th.get eu
 obtain⟨b,k',rfl,ek',hb⟩:=tg.get ev
 rw[ek]at ek'
 cases ek'
 obtain⟨c,d,rfl⟩:=h2 k (a9 ek)
 exact as9 ha hb (by show 2<=300;decide)
theorem aS0 {K:W.Frag}{H:Hp}{p q s t:Addr}{n:Int}{zs ys:List V}{ks:List (List Int)}(h:H p=some (.tup [.int n,.ref s]))(g:H q=some (.tup [.int n,.ref t]))(hs:H s=some (.tup zs))(ht:H t=some (.tup ys))(th:t5 K H zs ks)(tg:t5 K H ys ks)(hl:ks.length<=300)(h2:∀ k∈ks,∃ a b,k=[a,b]):Alk K H 3 (.ref p) (.ref q):=by
 refine⟨p,q,_,_,rfl,rfl,SqT.of h,SqT.of g,rfl,by show 2<=300;decide,fun i u v eu ev=>?_⟩
 match i,eu,ev with
 | 0,eu,ev=>cases eu;cases ev;exact .inl (.inl ⟨n,rfl,rfl⟩)
 | 1,eu,ev=>cases eu;cases ev;exact .inr (aL4 (SqT.of hs) (SqT.of ht) th tg hl h2)
 | (i+2),eu,ev=>cases eu
theorem aw8 {K:W.Frag}{H:Hp}{x y:V}:∀ {n:Nat},Alk K H n x y->Alk K H (n+1) x y
 | n+1,⟨p,q,xs,ys,e1,e2,h1,h2,h3,h4,h5⟩=>⟨p,q,xs,ys,e1,e2,h1,h2,h3,h4,fun i u v eu ev=>(h5 i u v eu ev).imp id aw8⟩
theorem aF9 {x:Str}{n:Nat}{ks:List (List Int)}(h:Z7 x n ks)(hb:(Txt.split x " ").length<=300):ks.length<=300/\∀ k∈ks,∃ a b,k=[a,b]:=by
 obtain⟨r,e,hR,_⟩:=h
 rw[e,d6]at hb
 exact⟨by rw[hR.len];omega,hR.two⟩
theorem aB1 {x:Str}{n:Nat}{ks js:List (List Int)}(h:Z7 x n ks)(g:Z7 x n js):ks=js:=by
 obtain⟨r,e,hR,_⟩:=h
 obtain⟨r',e',hR',_⟩:=g
 rw[e]at e'
 cases e'
 exact hR.uniq hR'
seal L2.PE L2.PA L2.PS L2.PSs L2.PT
section
variable {P:Program} {w:World} {K:W.Frag} {mg:Str->Option Value} {base:Heap}
def bk6 (K:W.Frag)(x:Str)(n:Nat)(H:Hp)(Q:VK):Prop:=
 (n=0->∀ q,D8 x=some q->∀ (t:Addr) (H':Hp),n4 H H'->H' t=some (.tup ((ab3 q).map V.int))->Q (.ref t) H') /\
 (1<=n->∀ ks,Z7 x n ks->∀ (p t:Addr) (zs:List V) (H':Hp),n4 H H'->H' p=some (.tup [.int n,.ref t])->H' t=some (.tup zs)->t5 K H' zs ks->Q (.ref p) H') /\
 ((n=0->D8 x=none)->(1<=n->¬ ∃ ks,Z7 x n ks)->∀ (l:Addr) (H':Hp),n4 H H'->H' l=some (.lst [.bl true,.bl true,.bl true])->Q (.ref l) H')
def au4 (K:W.Frag):Sp:=fun vs H Q _=>∃ (x:Str) (n:Nat),vs=[.str x,.int n]/\x.length<=5000/\(1<=n->(Txt.split x " ").length<=300)/\bk6 K x n H Q
theorem Y6:t7 ["row","places","found","e"] ["row","places"] (d8 aa4):=⟨rfl,rfl,rfl,by decide +kernel,rfl,by decide +kernel,by decide +kernel⟩
set_option maxHeartbeats 1000000 in
theorem aP2 {f fT fW CT CN CX CP:Addr}{fd fdT fdW:FuncData}(F:Fun K "_law_told" "_law_told" aa4 f fd)(B:Bn mg)(FT:Fun K "tie_in" "tie_in" N9 fT fdT)(bT:Binds K fdT ["word"] [])(mT:mg "tie_in"=some (.ref fT))(GT:p8 P w K mg base (CXE P w) 5 fT fdT ["word"] (ak4 CN))
  (FW:Fun K "web_in" "web_in" Q3 fW fdW)(bW:Binds K fdW ["row","places"] [])(mW:mg "web_in"=some (.ref fW))(GW:p8 P w K mg base (CXE P w) 5 fW fdW ["row","places"] (aW1 K CN))(L:bh4 K mg CT CN CX CP):p8 P w K mg base CX0 6 f fd ["row","places"] (au4 K):=by
 refine F.ok Y6 (fun vs H Q E h=>?_) (fun cdv A outer s H vs Q E hr h=>?_)
 ·obtain⟨x,n,rfl,_⟩:=h
  rfl
 ·obtain⟨x,n,rfl,hx,hb,q0,q1,qE⟩:=h
  refine⟨_,c8 (m6 (i:=2) Y6.nd rfl (Or.inl rfl) J6)
   (D2 (aX2 (i:=3) Y6.nd rfl rfl (by rfl) L.mT rfl rfl
     (fun _ _=>d4 (u7 (m5 F6 (pv 1) c4 (n6 _)) (d4 (m6 (i:=2) Y6.nd rfl (Or.inl rfl) (ae5 GT hr (by rfl) mT FT.kp bT al4 (a4 (pv 0) b7)))) (d4 (m6 (i:=2) Y6.nd rfl (Or.inl rfl) (ae5 GW hr (by rfl) mW FW.kp bW al4 (a4 (pv 0) (a4 (pv 1) b7)))))))
     (fun _=>d4 (m6 (i:=2) Y6.nd rfl (Or.inl rfl) (M5 (a4 (k8 (X3 K rfl) (by rfl) B.isin (by rfl) (a4 (pv 3) (a4 (O1 (v:=.ref CN) (by rfl) L.mN rfl) b7)))
       (a4 (k8 (X3 K rfl) (by rfl) B.isin (by rfl) (a4 (pv 3) (a4 (F2 (v:=.ty "ValueError") (by rfl) B.ve (by rfl) rfl) b7)))
       (a4 (aI6 (k8 (ah0 K rfl) (by rfl) B.isin (by rfl) (a4 (pv 3) (a4 (Q5 (a4 (O1 (v:=.ref CX) (by rfl) L.mX rfl) (a4 (O1 (v:=.ref CP) (by rfl) L.mP rfl) b7))) b7)))) b7)))))))
   (d4 (o4 (pv 2)))),?_⟩
  have bad:Prop:=(n=0->D8 x=none)/\(1<=n->¬ ∃ ks,Z7 x n ks)
  refine⟨fun σ' H3=>∃ (v:V) (e:Option V),σ'=[some (.str x),some (.int n),some v,e]/\Q v H3,?_,?_⟩
  ·refine⟨fun σ' cls _ H'=>σ'=[some (.str x),some (.int n),some .non,none]/\cls=.ref CN/\n4 H H'/\(n=0->D8 x=none)/\(1<=n->¬ ∃ ks,Z7 x n ks),?_,?_⟩
   ·refine⟨_,rfl,rfl,_,rfl,R1 (fun hc=>?_) (fun hc=>?_)⟩
    ·have hn:n=0:=by
      have:=of_decide_eq_true hc
      rw[V.int.injEq]at this
      omega
     refine⟨_,rfl,x,rfl,hx,fun qq eq t H' s' gt=>?_,fun en H' s'=>⟨rfl,rfl,s',fun _=>en,fun h=>absurd h (by omega)⟩⟩
     exact⟨_,_,rfl,q0 hn qq eq t H' s' gt⟩
    ·have hn:1<=n:=by
      refine Nat.pos_of_ne_zero fun z=>hc (decide_eq_true ?_)
      rw[z]
      rfl
     refine⟨_,rfl,_,rfl,x,n,rfl,hx,hb hn,fun ks hW p t zs H' s' gp gt tt=>?_,fun en H' s'=>⟨rfl,rfl,s',fun h=>absurd h (by omega),fun _=>en⟩⟩
     exact⟨_,_,rfl,q1 hn ks hW p t zs H' s' gp gt tt⟩
   ·rintro σ' cls H' ⟨rfl,rfl,sH,b1,b2⟩
    refine⟨L.x,fun x' hx'=>?_⟩
    have s1':=g6 (o:=XO x' (.ref CN)) hx'
    have gx:(upd H' x' (XO x' (.ref CN))) x'=some (XO x' (.ref CN)):=b8
    refine⟨_,rfl,x',CN,.ref CN,_,true,rfl,gx,L.k,rfl,L.n,_,rfl,x',CN,.ty "ValueError",_,true,rfl,gx,L.k,rfl,L.v,_,rfl,(by show 2<=sizeLine;decide),fun tp htp=>?_⟩
    have s3:=g6 (o:=.tup [.ref CX,.ref CP]) htp
    refine⟨x',CN,tp,[CX,CP],false,rfl,s3 _ _ gx,L.k,b8,L.a,_,rfl,(by show 3<=sizeLine;decide),fun l2 hl2=>?_⟩
    have s4:=g6 (o:=.lst [.bl true,.bl true,.bl true]) hl2
    exact⟨_,_,rfl,qE b1 b2 l2 _ (((sH.trans s1').trans s3).trans s4) b8⟩
  ·rintro σ' H3 ⟨v,e,rfl,q⟩
   exact⟨_,rfl,q⟩
def be0:Sp:=fun vs H Q _=>∃ (x:Str) (n:Nat),vs=[.str x,.int n]/\n<=24/\x.length<=5000/\D4 x/\(1<=n->(Txt.split x " ").length<=300)/\∀ H',n4 H H'->Q (.bl true) H'
theorem aN6:t7 ["row","places","due","found"] ["row","places"] (d8 U4):=⟨rfl,rfl,rfl,by decide +kernel,rfl,by decide +kernel,by decide +kernel⟩
set_option maxHeartbeats 1000000 in
theorem bg0 {f fI fO fT fA:Addr}{fd fdI fdO fdT fdA:FuncData}(F:Fun K "_law_right" "_law_right" U4 f fd)(FI:Fun K "_law_tie" "_law_tie" al0 fI fdI)(bI:Binds K fdI ["word"] [])(mI:mg "_law_tie"=some (.ref fI))(GI:p8 P w K mg base CX0 6 fI fdI ["word"] ak5)
  (FO:Fun K "_law_web_of" "_law_web_of" Q2 fO fdO)(bO:Binds K fdO ["row","places"] [])(mO:mg "_law_web_of"=some (.ref fO))(GO:p8 P w K mg base CX0 6 fO fdO ["row","places"] (aW0 K))
  (FT:Fun K "_law_told" "_law_told" aa4 fT fdT)(bT:Binds K fdT ["row","places"] [])(mT:mg "_law_told"=some (.ref fT))(GT:p8 P w K mg base CX0 6 fT fdT ["row","places"] (au4 K))
  (FA:Fun K "_law_alike" "_law_alike" Q4 fA fdA)(bA:Binds K fdA ["found","due"] [])(mA:mg "_law_alike"=some (.ref fA))(GA:p8 P w K mg base CX0 6 fA fdA ["found","due"] (aH2 K 3)):p8 P w K mg base CX0 7 f fd ["row","places"] be0:=by
 refine F.ok aN6 (fun vs H Q E h=>?_) (fun cdv A outer s H vs Q E hr h=>?_)
 ·obtain⟨x,n,rfl,_⟩:=h
  rfl
 ·obtain⟨x,n,rfl,hn,hx,hA,hb,q⟩:=h
  have hun:=hr.units
  refine⟨_,D2 (m6 (i:=2) aN6.nd rfl (Or.inl rfl) (p0 GI hr (by rfl) mI FI.kp bI .nil E1 (a4 (pv 0) b7)))
   (D2 (u7 (m5 aJ1 (pv 1) c4 (n6 _)) (d4 (m6 (i:=2) aN6.nd rfl (Or.inl rfl) (p0 GO hr (by rfl) mO FO.kp bO .nil E1 (a4 (pv 0) (a4 (pv 1) b7))))) l8)
   (c8 (m6 (i:=3) aN6.nd rfl (Or.inl rfl) (p0 GT hr (by rfl) mT FT.kp bT .nil E1 (a4 (pv 0) (a4 (pv 1) b7))))
   (c8 (u7 (m5 av3 (pv 2) J6 (n6 _)) (d4 (o4 (K0 (az2 K hr.around rfl rfl) (pv 3) (M5 (a4 ae6 (a4 ae6 (a4 ae6 b7)))) (n6 _)))) l8)
   (d4 (o4 (p0 GA hr (by rfl) mA FA.kp bA .nil E1 (a4 (pv 3) (a4 (pv 2) b7)))))))),?_⟩
  refine⟨fun σ H1=>∃ (v:V) (e3:Option V),σ=[some (.str x),some (.int n),some v,e3]/\n4 H H1/\(n=0->(v=.non/\D8 x=none)\/∃ (t:Addr) (qq:Nat × Nat),v=.ref t/\D8 x=some qq/\H1 t=some (.tup ((ab3 qq).map V.int))),?_,?_⟩
  ·refine⟨_,rfl,x,rfl,hx,hA,fun qq eq t H1 s1 gt=>?_,fun en H1 s1=>?_⟩
   ·exact⟨_,_,rfl,s1,fun _=>.inr ⟨t,qq,rfl,eq,gt⟩⟩
   ·exact⟨_,_,rfl,s1,fun _=>.inl ⟨rfl,en⟩⟩
  rintro σ H1 ⟨v,e3,rfl,s1,hv⟩
  refine⟨fun σ H2=>∃ (v:V) (e3:Option V),σ=[some (.str x),some (.int n),some v,e3]/\n4 H H2/\((v=.non/\(n=0->D8 x=none)/\(1<=n->¬ ∃ ks,Z7 x n ks))\/(n=0/\∃ (t:Addr) (qq:Nat × Nat),v=.ref t/\D8 x=some qq/\H2 t=some (.tup ((ab3 qq).map V.int)))\/(1<=n/\∃ (p t:Addr) (zs:List V) (ks:List (List Int)),v=.ref p/\Z7 x n ks/\H2 p=some (.tup [.int n,.ref t])/\H2 t=some (.tup zs)/\t5 K H2 zs ks)),?_,?_⟩
  ·refine⟨_,rfl,_,_,rfl,rfl,_,rfl,R1 (fun hc=>?_) (fun hc=>?_)⟩
   ·have hn1:1<=n:=by have:=of_decide_eq_true hc;omega
    refine⟨_,rfl,_,rfl,x,n,rfl,hn1,hn,hx,hA,fun ks hW p t zs H2 s2 gp gt tt=>?_,fun en H2 s2=>?_⟩
    ·exact⟨_,_,rfl,s1.trans s2,.inr (.inr ⟨hn1,p,t,zs,ks,rfl,hW,gp,gt,tt⟩)⟩
    ·exact⟨_,_,rfl,s1.trans s2,.inl ⟨rfl,fun h=>absurd h (by omega),fun _=>en⟩⟩
   ·have hn0:n=0:=by
     have:¬ ((0:Int)<(n:Int)):=fun z=>hc (decide_eq_true z)
     omega
    rcases hv hn0 with⟨rfl,e⟩ | ⟨t,qq,rfl,e,gt⟩
    ·exact⟨_,_,rfl,s1,.inl ⟨rfl,fun _=>e,fun h=>absurd h (by omega)⟩⟩
    ·exact⟨_,_,rfl,s1,.inr (.inl ⟨hn0,t,qq,rfl,e,gt⟩)⟩
  clear hv s1
  rintro σ H2 ⟨v,e3,rfl,s2,hv⟩
  rcases hv with⟨rfl,b1,b2⟩ | ⟨hn0,t,qq,rfl,eq,gt⟩ | ⟨hn1,p,t,zs,ks,rfl,hW,gp,gt,tt⟩
  ·refine⟨_,rfl,_,rfl,x,n,rfl,hx,hb,fun h q' e=>absurd (b1 h) (by rw[e];simp),fun h ks hW=>absurd ⟨ks,hW⟩ (b2 h),fun _ _ l H3 s3 gl=>?_⟩
   refine⟨_,rfl,rfl,_,rfl,A5 ?_⟩
   refine⟨_,rfl,(by show 3<=sizeLine;decide),fun l2 f2=>?_⟩
   have s5:=g6 (o:=.lst [.bl true,.bl true,.bl true]) f2
   have dk:∀ {H5:Hp} {l:Addr},H5 l=some (.lst [.bl true,.bl true,.bl true])->Dt K H5 (.list [.bool true,.bool true,.bool true]) (.ref l):=fun h=>Dt.mkL (SqL.of h) (by simp[o8,Dt])
   refine⟨.list [.bool true,.bool true,.bool true],.list [.bool true,.bool true,.bool true],dk (s5 _ _ gl),dk b8,by simp[PyData.canLay0,PyData.canLayAll0],by simp[PyData.canLay0,PyData.canLayAll0],?_,?_⟩
   ·exact aG1 hun (o7 (at8 _ _) (by simp[PyData.depth,PyData.depthAll]))
   ·have eE:PyData.eqv (.list [.bool true,.bool true,.bool true]) (.list [.bool true,.bool true,.bool true])=true:=by simp[PyData.eqv,PyData.eqvAll]
    rw[if_neg b6,eE]
    exact q _ ((s2.trans s3).trans s5)
  ·refine⟨_,rfl,_,rfl,x,n,rfl,hx,hb,fun _ q' e t' H3 s3 gt'=>?_,fun h=>absurd h (by omega),fun h=>absurd (h hn0) (by rw[eq];simp)⟩
   rw[eq]at e
   cases e
   refine⟨_,rfl,rfl,_,rfl,A8 ?_⟩
   exact⟨_,rfl,_,rfl,_,_,rfl,.inr (aw8 (aw8 (as9 (n:=0) (SqT.of gt') (SqT.of (s3 _ _ gt)) (by show 2<=300;decide)))),q _ (s2.trans s3)⟩
  ·refine⟨_,rfl,_,rfl,x,n,rfl,hx,hb,fun h=>absurd h (by omega),fun _ ks' hW' p' t' zs' H3 s3 gp' gt' tt'=>?_,fun _ h=>absurd ⟨ks,hW⟩ (h hn1)⟩
   have:=aB1 hW' hW
   subst this
   obtain⟨w1,w2⟩:=aF9 hW (hb hn1)
   refine⟨_,rfl,rfl,_,rfl,A8 ?_⟩
   exact⟨_,rfl,_,rfl,_,_,rfl,.inr (aS0 gp' (s3 _ _ gp) gt' (s3 _ _ gt) tt' (s3.tups tt) w1 w2),q _ (s2.trans s3)⟩
end
end Web
namespace L2
open PySem PySem.Spec PyProof.Rows
theorem aB9:typeLookup (.type "list_reverseiterator") "__len__"=pure none:=by rw[typeLookup_type,builtinLookup_eq_fast];kernel_rfl
theorem aO1:typeLookup (.type "list_reverseiterator") "__length_hint__"=pure (some (.builtin "list_reverseiterator.__length_hint__")):=by rw[typeLookup_type,builtinLookup_eq_fast];kernel_rfl
section
variable {prog:Program} {w:World} {A:Around} {E:Value->Shared->Prop} {s:Shared}
theorem aN8 {I:Addr}{Q:Bool->Shared->Prop}(hT:s.TypeIs (.ref I) "list_reverseiterator")(h:Q false s):wpAny (model prog w) A (Builtin.List.listLengthHint (.ref I)) Q E s:=by
 unfold Builtin.List.listLengthHint
 refine wpAny_bind (wpAny_specialOf hT aB9 ?_)
 show wpAny _ A (specialOf (Value.ref I) (Str.ofString "__length_hint__") >>= _) _ _ _
 refine wpAny_bind (wpAny_specialOf hT aO1 ?_)
 generalize hid:("list_reverseiterator.__length_hint__":String)=id0
 wp_delta
 rw[show splitId id0=some ("list_reverseiterator","__length_hint__") from by subst hid;decide +kernel]
 subst hid
 refine wpAny_bind (wpAny_isInstance (T:="list_reverseiterator") (b:=true) hT (by rw[isSubtype_type];kernel_rfl) ?_)
 refine wpAny_ite_split (fun hab=>absurd hab (by decide)) (fun _=>?_)
 refine wpAny_ite_split (fun _=>?_) (fun hab=>absurd hab (by decide +kernel))
 refine wpAny_ite_split (fun hab=>absurd hab (by decide +kernel)) (fun _=>?_)
 exact wpAny_pure h
end
section
variable {prog:Program} {w:World} {A:Around} {s:Shared} {R:Result->Shared->Prop}
variable {I:Addr} {fp wr:List Addr} {G:Array GenState->Array GenState->Prop} {n:Nat} {P:Nat->Value->Prop} {St:Nat->Shared->Prop}
theorem aC0 (W:WalksS prog w A.in1 I fp wr G n P St)(hT:∀ i s,St i s->s.TypeIs (.ref I) "list_reverseiterator")(S:Addr)(res:Value)(c₀:Nat)(hst:St 0 s)(hSf:S∉fp)(hI:I∈fp)
  (hS:s.heap.get? S=some { cls:=.type "list",data:=.seq #[] c₀ })
  (hR:∀ s' acc' c',Moved (S::wr) G s s'->s'.heap.get? S=some { cls:=.type "list",dict:=none,data:=.seq acc' c',slots:=#[] }->ItemsOf P acc' n->R (.ok (.ret res)) s')(hn:n<=sizeLine) :
  wpAny (model prog w) A.in1 (Builtin.List.listExtendWith (.ref S) (.ref I) res)
   (fun fin s'=>match fin with | .done f=>R (.ok f) s' | .again c'=>c'.quiet=true/\codeAny (model prog w) A c' R s') (fun e s'=>R (.error e) s') s:=by
 have hSI:S≠I:=fun e=>hSf (e ▸ hI)
 unfold Builtin.List.listExtendWith
 refine wpAny_bind (wpAny_typeOf (hT 0 _ hst) ?_)
 have h1:Builtin.List.listSameRef (.ref S) (.ref I)=false:=by simp[Builtin.List.listSameRef,hSI]
 have h2:(Value.type "list_reverseiterator" == Value.type "list")=false:=by decide
 have h3:(Value.type "list_reverseiterator" == Value.type "tuple")=false:=by decide
 simp only[h1,h2,h3,aF3,g9,if_false]
 refine wpAny_bind (W.self 0 _ _ _ hst ?_)
 refine wpAny_bind (wpAny_holding (aN8 (hT 0 _ hst) ?_))
 refine wpAny_ite_split (fun hab=>absurd hab (by decide +kernel)) (fun _=>?_)
 refine wpAny_pure ⟨plainId_quiet F.plain_extend_loop _,codeAny_extend_loopS W hn _ hSf _ n 0 _ _ _ rfl (j4 _) hst hS (ItemsOf.nil P) fun s' acc' c' hm hS' hacc=>?_⟩
 exact hR s' acc' c' hm hS' hacc
end
section
variable {prog:Program} {w:World} {A:Around} {E:Value->Shared->Prop} {s:Shared}
variable {I:Addr} {fp wr:List Addr} {G:Array GenState->Array GenState->Prop} {n:Nat} {P:Nat->Value->Prop} {St:Nat->Shared->Prop}
end
section
variable {X:Cx}
end
end L2
namespace L2
open PySem PySem.Spec PyProof.Rows PySem.Builtin PySem.Builtin.Str
theorem aq6 {v:Value}:∀ {ls:List (Str × Tok)},v∈strValues ls->∃ y u,v=Value.str y u
 | [],h=>by cases h
 | (y,u)::ls,h=>by
  rcases d7.mp h with e | e
  ·exact⟨y,u,e⟩
  ·exact aq6 e
theorem ao8:∀ (a b:List (Str × Tok)),strValues (a++b)=strValues a++strValues b
 | [],b=>rfl
 | (y,u)::a,b=>by
  show Value.str y u::strValues (a++b)=_
  rw[ao8 a b]
  rfl
theorem ao6:∀ ls:List (Str × Tok),(strValues ls).reverse=strValues ls.reverse
 | []=>rfl
 | (y,u)::ls=>by
  show (Value.str y u::strValues ls).reverse=_
  rw[bb7,bb7,ao8,ao6 ls]
  rfl
theorem ao7:∀ {a b:List (Str × Tok)},strValues a=strValues b->a=b
 | [],[],_=>rfl
 | [],(y,u)::b,h=>by cases h
 | (y,u)::a,[],h=>by cases h
 | (y,u)::a,(z,v)::b,h=>by
  injection h with h1 h2
  injection h1 with e1 e2
  have e1:y=z:=e1
  have e2:u=v:=e2
  rw[e1,e2,ao7 h2]
section
variable {prog:Program} {w:World} {A:Around} {E:Value->Shared->Prop} {s:Shared}
variable {I:Addr} {fp wr:List Addr} {G:Array GenState->Array GenState->Prop} {n:Nat} {P:Nat->Value->Prop} {St:Nat->Shared->Prop}
theorem aO0 {R:Result->Shared->Prop}(W:WalksS prog w A.in1 I fp wr G n P St)(hT:∀ i s,St i s->s.TypeIs (.ref I) "list_reverseiterator")(S:Addr)(c₀:Nat)(hst:St 0 s)(hSf:S∉fp)(hI:I∈fp)
  (hS:s.heap.get? S=some { cls:=.type "list",data:=.seq #[] c₀ })
  (hR:∀ s' acc' c',Moved (S::wr) G s s'->s'.heap.get? S=some { cls:=.type "list",dict:=none,data:=.seq acc' c',slots:=#[] }->ItemsOf P acc' n->R (.ok (.ret (.ref S))) s')(hn:n<=sizeLine) :
  codeAny (model prog w) A (.builtin "list.__iadd__" ⟨[.ref S,.ref I],[]⟩) R s:=by
 refine codeAny_builtin PySem.F.entry_list_iadd ?_
 rw[Around.under_plainId PySem.F.plain_list_iadd _]
 exact aC0 W hT S (.ref S) c₀ hst hSf hI hS hR hn
theorem au9 {Q:List Value->Shared->Prop}(W:WalksS prog w A.in1 I fp wr G n P St)(hT:∀ i s,St i s->s.TypeIs (.ref I) "list_reverseiterator")(hst:St 0 s)(hfp:∀ b∈fp,b<s.heap.objs.size)(hI:I∈fp)
  (hQ:∀ s' acc,Moved wr G s s'->ItemsOf P acc n->Q acc.toList s')(hn:n<=sizeLine):wpAny (model prog w) A (collect (.ref I)) Q E s:=by
 have hSf:s.heap.objs.size∉fp:=fun hm=>p6 _ (hfp _ hm)
 unfold collect
 refine wpAny_bind (wpAny_runValue (codeAny_builtin PySem.F.entry_proto_collect ?_))
 rw[Around.under_plainId PySem.F.plain_proto_collect _]
 show wpAny _ A.in1 (newList [] >>= fun l=>again (.builtin "list.__iadd__" ⟨[l,.ref I],[]⟩)) _ _ s
 refine wpAny_bind (wpAny_newObj_type ?_)
 have hst₁:=W.frame 0 s (s.heap.push { cls:=.type "list",data:=.seq ([]:List Value).toArray }) s.toks hst (b4 _) fun b _ o e=>a5 _ e
 have hS₁:(s.heap.push { cls:=.type "list",data:=.seq ([]:List Value).toArray }).get? s.heap.objs.size=some { cls:=.type "list",data:=.seq ([]:List Value).toArray }:=j3 _ rfl
 refine wpAny_pure ⟨plainId_quiet PySem.F.plain_list_iadd _,aO0 W hT _ 0 hst₁ hSf hI hS₁ (fun s' acc' c' hm hS' hacc=>?_) hn⟩
 show wpAny _ A (load s.heap.objs.size >>= _) _ _ s'
 refine wpAny_bind (wpAny_load hS' ?_)
 exact wpAny_pure (hQ s' acc' (Moved.drop_new (o:={ cls:=.type "list",data:=.seq ([]:List Value).toArray }) (tk:=s.toks) hm (b4 _)) hacc)
theorem aN9 {x:Str}{t:Tok}{Q:Value->Shared->Prop}(W:WalksS prog w A.in1.in1 I fp wr G n P St)(hT:∀ i s,St i s->s.TypeIs (.ref I) "list_reverseiterator")(hst:St 0 s)(hfp:∀ b∈fp,b<s.heap.objs.size)(hI:I∈fp)
  (hstr:∀ i v,P i v->∃ y u,v=Value.str y u)
  (hq:∀ s' (l:List (Str × Tok)),Moved wr G s s'->ItemsOf P (strValues l).toArray n->JoinOk x (l.map (·.1))=true/\∀ t' k,Q (.str (Txt.join x (l.map (·.1))) t') { s' with toks:=k })
  (hsz:n<=sizeLine):wpAny (model prog w) A (call (.builtin "str.join") [.str x t,.ref I]) Q E s:=by
 refine wpAny_call (codeAny_call_builtin PySem.F.slot_str_join.plain PySem.F.entry_str_join (PySem.F.slot_str_join.check _ _ _ _ _ _ _ _ (typeIs_str _ _ _) (PySem.F.args_str_join_2 _ _) ?_))
 rw[join_tree_other]
 refine wpAny_bind (wpAny_typeOf (hT 0 s hst) ?_)
 show wpAny _ A.in1 ((pyIter (.ref I)).tryCatch _ >>= fun it=>collect it >>= fun items=>joinTail x items) _ _ s
 refine wpAny_bind (wpAny_tryCatch (W.of_in1.self 0 s _ _ hst ?_))
 refine wpAny_bind (au9 W hT hst hfp hI (fun s' acc hm hacc=>?_) hsz)
 obtain⟨l,hl⟩:=exists_strValues acc.toList fun v hv=>by
  obtain⟨j,hj,rfl⟩:=Array.mem_iff_getElem.mp (L3.mp hv)
  exact hstr j _ (hacc.2 j _ (Array.getElem?_eq_getElem hj))
 rw[<- hl]
 have hacc':ItemsOf P (strValues l).toArray n:=by rw[hl];simpa using hacc
 obtain⟨hok,hpost⟩:=hq s' l hm hacc'
 unfold JoinOk at hok
 rw[ah1]at hok
 have g:Gives (joinTail x (strValues l)) (joinMade x l):=by
  have g0:=gives_joinTail x l hok
  cases l with
  | nil=>exact g0
  | cons p r=>cases r with
   | nil=>exact g0
   | cons q r'=>exact g0
 exact g prog w A (wants Q E) s' (post_join l ⟨joinFit_length hok,hpost⟩)
end
section
variable {X:Cx}
def bd2 (K:W.Frag)(x:Str)(ta:TA):TE:=fun σ H Q=>ta σ H fun xs H1=>∃ (l:Addr) (ws:List Str),xs=[.ref l]/\SqL K H1 l (ws.map V.str)/\JoinOk x ws.reverse=true/\Q (.str (Txt.join x ws.reverse)) H1
theorem aO8 {T:String} {name:Str} {id:String} {o e:Expr} {ta:TA} {x:Str} {p2 apos cpos pos2:Pos} (pa:PlainAttrs T) (slot:Slot T name id) (hty:typeOf (.builtin id)=pure (.type "method_descriptor")) (ho:PE X o (tC (.str x))) (hty0:∀ H,tyV X.K T (.str x) H) (hid:id="str.join") (hc:X.calm=true) (hgR:Gl X "reversed") (hmR:X.mg "reversed"=none) (ha:PA X [e] ta)
  (hs:starEach [e] X.env=(false,eval e X.env)::starEach [] X.env:=by rfl) (hpl:(backTo pos2 (starEach [] X.env)).any (·.1)=false:=by rfl)
  (hbase:attributeBase o name X.env (eval o X.env)=eval o X.env:=by rfl)
  (hfew : ((backTo cpos (starEach [.Call (.Name "reversed" p2) [e] [] pos2] X.env)).all (fun x => !x.1) && (backToKw cpos (keywordEach [] X.env)).all (fun x => x.1.isSome)
   && decide (([.Call (.Name "reversed" p2) [e] [] pos2]:List Expr).length+([]:List Keyword).length+(if ([]:List Keyword).isEmpty then 0 else 1)<30))=true:=by rfl)
  (hline:(apos.endLine == cpos.line)=true:=by rfl) (hs2:starEach [.Call (.Name "reversed" p2) [e] [] pos2] X.env=(false,eval (.Call (.Name "reversed" p2) [e] [] pos2) X.env)::starEach [] X.env:=by rfl) (hplain:(backTo cpos (starEach [] X.env)).any (·.1)=false:=by rfl) :
  PE X (.Call (.Attribute o name apos) [.Call (.Name "reversed" p2) [e] [] pos2] [] cpos) (bd2 X.K x ta):=by
 intro pins s σ H Q I h
 refine wpAny_Call_method_late hbase hfew hline rfl (thn (ho pins s σ H (fun v H2=>v=.str x/\H2=H) I ⟨rfl,rfl⟩) fun v s1 ⟨x1,H1,I1,r1,ex,eH⟩=>?_)
 subst ex eH
 obtain⟨h1,h2⟩:=aG2 I1 r1 (hty0 _)
 refine⟨T,id,pa,slot,hty,h1,h2,?_⟩
 rw[hs2]
 refine Calls.callWith_builtin (by show (false || (backTo cpos (starEach [] X.env)).any (·.1))=false;rw[hplain]<;>rfl) (Calls.evalArgs_plain ?_)
 refine Calls.spliced_cons ?_
 refine wpAny_Call_Name_kw (Z0 I1 hgR hmR (show bootBuiltins "reversed"=some (.type "reversed") from rfl) ?_ (by decide) (by decide))
 refine callWith_type1 (thn (ha pos2 pins s1 σ H1 _ I1 h) fun us s2 ⟨vs,H2,I2,r2,q2⟩=>?_) hs hpl
 obtain⟨l,ws,rfl,hq,hok,q⟩:=q2
 obtain⟨u,rfl,ru⟩:=vals1 r2
 cases ru
 obtain⟨its,rr,pl,hz⟩:=I2.list hq
 obtain⟨ls,e1,e2⟩:=Y3 rr
 have hl:=pl.isList
 have hls:l<s2.heap.objs.size:=by
  obtain⟨o,ho,_⟩:=hl
  exact c3 ho
 have hne:l≠s2.heap.objs.size:=f9 hls
 refine call_reversed_list hl ?_
 refine Calls.spliced_nil ?_
 subst hid
 obtain⟨t,rfl⟩:=r1
 have W:=(Walks.listRev (prog:=X.prog) (w:=X.w) (A:=X.A.in1.in1) (I2.ok.hd hc) s2.heap.objs.size l hne its.toArray).toS
 refine aN9 W (fun i s' x=>x.2.1.typeIs) ⟨j4 _,?_,?_⟩ (fun b hb=>?_) b9 (fun i v hv=>?_) (fun s' ll hm hacc=>?_) ?_
 ·have e0:((its.toArray.size:Int) - 1 - ((0:Nat):Int))=(its.toArray.size:Int) - 1:=by omega
  rw[e0]
  exact⟨_,j3 _ rfl,rfl,rfl⟩
 ·exact hl.at fun o e=>a5 _ e
 ·show b<(s2.heap.push _).objs.size
  rw[show (s2.heap.push (revObj l ((its.toArray.size:Int) - 1))).objs.size=s2.heap.objs.size+1 from l7 _]
  rcases d7.mp hb with e | hb
  ·rw[e];exact Nat.lt_succ_self _
  ·rw[i7.mp hb];exact v7 hls
 ·have:v∈its:=by
   have:=Array.mem_of_getElem? (show its.toArray[its.toArray.size - 1 - i]?=some v from hv)
   simpa using this
  rw[<- e2]at this
  exact aq6 this
 ·have es:(s2.heap.push (revObj l ((its.toArray.size:Int) - 1))).objs.size=s2.heap.objs.size+1:=l7 _
  have hsz:(strValues ll).length=its.length:=by have:=hacc.1;simpa using this
  have ea:strValues ll=its.reverse:=by
   apply R6
   intro j
   rcases an2 j its.length with hj | hj
   ·have h3:(strValues ll)[j]?=some ((strValues ll)[j]'(by omega)):=c5 (by omega)
    have h1:(strValues ll).toArray[j]?=some ((strValues ll)[j]'(by omega)):=by rw[<- h3];simp
    have h2:=hacc.2 j _ h1
    rw[h3,List.getElem?_reverse hj,<- h2]
    simp
   ·rw[Y1 (by omega),Y1 (by rw[ab8];omega)]
  have el:ll.map (·.1)=ws.reverse:=by
   rw[<- e2,ao6]at ea
   rw[ao7 ea,bc4,e1]
  rw[el]
  refine⟨hok,fun t' k=>?_⟩
  have kp:∀ b u,s2.heap.get? b=some u->s'.heap.get? b=some u:=fun b u e=>by
   have hb:=c3 e
   refine hm.heap b u (fun mm=>?_) (a5 _ e)
   have z2:=i7.mp mm
   rw[z2]at hb
   exact p6 _ hb
  have I3:=I2.kept (t':=k) kp
  rw[PySem.Moved.eq_with hm]
  exact⟨.str _,H2,I3,⟨_,rfl⟩,q⟩
 ·rw[d3,<- rr.length];exact hz
end
end L2
namespace Web
open PySem L2
theorem p30:(0:Int)<10 ^ (Int.toNat 30):=Int.pow_pos (by decide)
def nb (x:Str):Nat:=x.cps.toList.count 32
theorem aT0:(" ":Str)=⟨#[32]⟩:=by decide +kernel
theorem U9 (a b:Str):nb (a++b)=nb a+nb b:=by
 unfold nb
 rw[ab9,bb8]
theorem az3 {x:Str}(h:32∉x.cps.toList):nb x=0:=List.count_eq_zero.mpr h
theorem ac3:∀ (a:Str) (r:List Str),(∀ u∈a::r,32∉u.cps.toList)->nb (Str.join " " (a::r))=r.length
 | a,[],h=>az3 (h a b9)
 | a,b::r,h=>by
  have ih:=ac3 b r fun u hu=>h u (a7 _ hu)
  show nb (a++" "++Str.join " " (b::r))=_
  rw[U9,U9,ih,az3 (h a b9),d6]
  have:nb " "=1:=by decide +kernel
  omega
theorem ad9 (x:Str):(Txt.split x " ").length=nb x+1:=by
 cases e:Txt.split x " " with
 | nil=>exact absurd (split_len x " ").1 (by rw[e];decide)
 | cons a r =>
  have hj:=StrLaws.join_split x " "
  have hf:=StrLaws.split_free x 32
  rw[<- aT0,e]at hf
  rw[e]at hj
  rw[<- hj,ac3 a r hf,d6]
theorem ah9 (x y:Str):((Txt.split x y).map (·.length)).sum+((Txt.split x y).length - 1)*y.length=x.length:=by
 have h:=PySem.size_glued y (Txt.split x y)
 rw[StrLaws.glued_eq_join,StrLaws.join_split]at h
 exact h.symm
theorem aB6 (x:Str){b:Nat}(hb:b<=x.length):(Txt.slice x none (some (b:Int))).cps.toList=x.cps.toList.take b:=by
 rw[beq_iff_eq.mp (PyProof.Rows.slice_closes_toL (x:=x) (j:=(b:Int)) (by omega) (by omega))]
 show ((x.cps.toList.drop 0).take ((b:Int) - 0).toNat)=_
 rw[ab1]
 congr 1
theorem Q0 (x:Str){b:Nat}(hb:b<=x.length):(Txt.slice x (some (b:Int)) none).cps.toList=x.cps.toList.drop b:=by
 rw[PyProof.Rows.slice_from_eq (x:=x) (i:=(b:Int)) (b:=(x.length:Int)) (by omega) (by omega) rfl]
 show ((x.cps.toList.drop b).take ((x.length:Int) - b).toNat)=_
 rw[i9]
 rw[n9,v8]
 omega
theorem aB7 (x:Str):Txt.slice x (some ((x.length:Int)+1)) none=Txt.slice x (some (x.length:Int)) none:=by
 have:Builtin.Str.strSliceIndices (some ((x.length:Int)+1)) none 1 x.length=Builtin.Str.strSliceIndices (some (x.length:Int)) none 1 x.length:=by
  unfold Builtin.Str.strSliceIndices
  have h1:¬ ((x.length:Int)+1<0):=by omega
  have h2:¬ ((x.length:Int)<0):=by omega
  simp only[h1,h2,if_false]
  have e1:min ((x.length:Int)+1) (x.length:Int)=(x.length:Int):=by omega
  have e2:min (x.length:Int) (x.length:Int)=(x.length:Int):=by omega
  rw[e1,e2]
  simp
 unfold Txt.slice
 rw[this]
theorem aZ0 (x:Str){b:Nat}(hb:b<x.length+1):nb (Txt.slice x none (some (b:Int)))+nb (Txt.slice x (some ((b:Int)+1)) none)<=nb x/\nb (Txt.slice x none (some (b:Int)))+nb (Txt.slice x (some (b:Int)) none)=nb x:=by
 have hb':b<=x.length:=by omega
 have h2:nb (Txt.slice x none (some (b:Int)))+nb (Txt.slice x (some (b:Int)) none)=nb x:=by
  unfold nb
  rw[aB6 x hb',Q0 x hb',<- bb8,A1]
 refine⟨?_,h2⟩
 rcases an2 b x.length with z | z
 ·have e:((b:Int)+1)=((b+1:Nat):Int):=by omega
  rw[e]
  have:nb (Txt.slice x (some ((b+1:Nat):Int)) none)<=nb (Txt.slice x (some (b:Int)) none):=by
   unfold nb
   rw[Q0 x hb',Q0 x (show b+1<=x.length by omega),<- P3]
   exact List.Sublist.count_le 32 (ah3 1 _)
  omega
 ·have e:b=x.length:=by omega
  subst e
  rw[aB7]
  omega
def x8 (ws:List Str):Nat:=(ws.map (·.length)).sum
theorem V9 (a b:List Str):x8 (a++b)=x8 a+x8 b:=by unfold x8;rw[g7,List.sum_append]
theorem ao5 (u:Str):x8 [u]=u.length:=by unfold x8;simp
theorem aN2 (ws:List Str)(a:Nat):x8 (ws.take a)+x8 (ws.drop a)=x8 ws:=by rw[<- V9,A1]
theorem V8 {u:Str}:∀ {ws:List Str},u∈ws->u.length<=x8 ws
 | v::ws,h=>by
  have e:x8 (v::ws)=v.length+x8 ws:=by unfold x8;simp
  rcases d7.mp h with z | z
  ·rw[e,z];omega
  ·have:=V8 z;omega
theorem ad7 (u:Str):∀ (ws:List Str) (a:Nat),x8 (ws.set a u)<=x8 ws+u.length
 | [],a=>j4 _
 | v::ws,0=>by
  have e1:x8 ((v::ws).set 0 u)=u.length+x8 ws:=by unfold x8;simp
  have e2:x8 (v::ws)=v.length+x8 ws:=by unfold x8;simp
  omega
 | v::ws,a+1=>by
  have ih:=ad7 u ws a
  have e1:x8 ((v::ws).set (a+1) u)=v.length+x8 (ws.set a u):=by unfold x8;simp
  have e2:x8 (v::ws)=v.length+x8 ws:=by unfold x8;simp
  omega
theorem U0:∀ (ws:List Str) (a:Nat),x8 (ws.eraseIdx a)<=x8 ws
 | [],a=>j4 _
 | v::ws,0=>by
  have e2:x8 (v::ws)=v.length+x8 ws:=by unfold x8;simp
  show x8 ws<=_
  omega
 | v::ws,a+1=>by
  have ih:=U0 ws a
  have e1:x8 ((v::ws).eraseIdx (a+1))=v.length+x8 (ws.eraseIdx a):=by unfold x8;simp
  have e2:x8 (v::ws)=v.length+x8 ws:=by unfold x8;simp
  omega
theorem aU7 {y:Str}{ws:List Str}(h:x8 ws+ws.length*y.length<=100000):JoinOk y ws=true/\(Txt.join y ws).length<=x8 ws+ws.length*y.length:=by
 refine⟨?_,?_⟩
 ·unfold JoinOk
  rw[StrLaws.joinTotal]
  have:Builtin.Str.tooLong ((ws.map (·.length)).sum+ws.length*y.length)=false:=by
   unfold Builtin.Str.tooLong
   rw[decide_eq_false_iff_not,sizeLine_eq]
   unfold x8 at h
   omega
  rw[this];rfl
 ·show (Builtin.Str.glued y ws).length<=_
  rw[StrLaws.glued_eq_join]
  exact StrLaws.join_length_le y ws
theorem S4:∀ (ws:List Str) (a:Nat),(ws.map V.str).eraseIdx a=(ws.eraseIdx a).map V.str
 | [],_=>rfl
 | u::ws,0=>rfl
 | u::ws,a+1=>by rw[j8,aF4,aF4,S4 ws a,j8]
theorem md (z k:Int)(hk:0<k):0<=z % k/\z % k<k:=⟨N6 z (by omega),J4 z hk⟩
abbrev sS:Str:=" -0123456789webW\n_+."
theorem aH5:sS.length=20:=by decide +kernel
theorem aW6:(sS.cps.toList.all fun c=>decide (c<128))=true:=by decide +kernel
theorem an6 {a b:Int}(h:decide ((V.int a:V)=.int b)=true):a=b:=by
 have:=of_decide_eq_true h
 rw[V.int.injEq]at this
 exact this
theorem W6 {z:Int}(h:0<=z):32∉(F7 z).cps.toList:=fun hc=>by
 obtain⟨m,rfl⟩:=J5 h
 have hc':32∈(Str.ofString (toString (m:Int))).cps.toList:=hc
 rw[PySem.W.KIN.signs_num]at hc'
 obtain⟨ch,hch,e⟩:=m8.mp hc'
 have r:=PyProof.Rows.digit_range (at6 (by decide) (by decide) hch)
 omega
theorem N2 {a b:Str}(ha:32∉a.cps.toList)(hb:32∉b.cps.toList):32∉(a++b).cps.toList:=by
 rw[ab9]
 exact fun h=>(l6.mp h).elim ha hb
theorem Z2:32∉("-":Str).cps.toList:=by decide +kernel
theorem ai9 {y:Str}(hy:32∉y.cps.toList):∀ {ws:List Str},(∀ u∈ws,32∉u.cps.toList)->32∉(Str.join y ws).cps.toList
 | [],_=>fun h=>by cases h
 | [a],h=>h a b9
 | a::b::r,h=>N2 (N2 (h a b9) hy) (ai9 hy fun u hu=>h u (a7 _ hu))
theorem aw3 {x y u:Str}(h:32∉x.cps.toList)(hu:u∈Txt.split x y):32∉u.cps.toList:=by
 unfold Txt.split at hu
 split at hu
 ·rw[i7.mp hu];exact h
 ·split at hu
  ·rw[i7.mp hu];exact h
  ·obtain⟨⟨i,j⟩,_,rfl⟩:=m8.mp hu
   intro hc
   rw[ak2]at hc
   exact h (B2 (C7 hc))
def Wk (ws:List Str):Prop:=ws.length<=290/\x8 ws<=4300/\∀ u∈ws,D4 u/\32∉u.cps.toList
def Js (H:Hp)(x:Str)(c:Int)(a b:Nat)(sg:Str)(wy:Int)(w0:List Str)(k:Int)(σ:St)(H2:Hp):Prop:=
 ∃ (l:Addr) (ws:List Str),σ=[some (.str x),some (.int c),some (.ref l),some (.int (a:Int)),some (.int (b:Int)),some (.str sg),some (.int wy)]/\n4 H H2/\H l=none/\H2 l=some (.lst (ws.map V.str))/\Wk ws/\(k<=wy->ws=w0)
theorem Js.le {H:Hp}{x:Str}{c:Int}{a b:Nat}{sg:Str}{wy:Int}{w0:List Str}{k j:Int}{σ:St}{H2:Hp}(h:Js H x c a b sg wy w0 k σ H2)(hk:k<=j):Js H x c a b sg wy w0 j σ H2:=by
 obtain⟨l,ws,h1,h2,h3,h4,h5,h6⟩:=h
 exact⟨l,ws,h1,h2,h3,h4,h5,fun z=>h6 (by omega)⟩
theorem aJ6 {z:Int}(h:0<=z/\z<1000):z.natAbs.log2<1920/\(F7 z).length<=3/\D4 (F7 z):=by
 refine⟨?_,PyProof.Rows.toString_length_le h.1 (by decide) (by show z<10 ^ 3;omega),aA5 h.1⟩
 by_cases h0:z.natAbs=0
 ·rw[h0];decide
 ·exact(Nat.log2_lt h0).mpr (j6 (m:=1024) (by omega) (by decide +kernel))
seal L2.PE L2.PA L2.PS L2.PSs L2.PT
section
variable {P:Program} {w:World} {K:W.Frag} {mg:Str->Option Value} {base:Heap}
def bd9:Sp:=fun vs H Q _=>∃ (x:Str) (c:Int),vs=[.str x,.int c]/\x.length<=2000/\D4 x/\nb x<=280/\∀ (y:Str) (H':Hp),n4 H H'->y.length<=5000->D4 y->nb y<=299->Q (.str y) H'
theorem au7:t7 ["row","cell","words","at","spot","sign","way"] ["row","cell"] (d8 U3):=⟨rfl,rfl,rfl,by decide +kernel,rfl,by decide +kernel,by decide +kernel⟩
set_option maxHeartbeats 2000000 in
theorem bf9 {f:Addr}{fd:FuncData}(F:Fun K "_law_spoiled" "_law_spoiled" U3 f fd)(B:Bn mg):p8 P w K mg base CX0 1 f fd ["row","cell"] bd9:=by
 refine F.ok au7 (fun vs H Q E h=>?_) (fun cdv A outer s H vs Q E hr h=>?_)
 ·obtain⟨x,c,rfl,_⟩:=h
  rfl
 ·obtain⟨x,c,rfl,hx,hA,hnb,q⟩:=h
  have hsl:sizeLine=16777216:=sizeLine_eq
  refine⟨_,c8 (m6 (i:=1) au7.nd rfl (Or.inl rfl) (k7 B1 (pv 1) (k7 al5 c4 c4)))
   (c8 (m6 (i:=2) au7.nd rfl (Or.inl rfl) (J8 PySem.F.plainAttrs_str PySem.F.slot_str_split PySem.F.type_str_split Q8 (pv 0) (a4 y9 b7)))
   (c8 (m6 (i:=3) au7.nd rfl (Or.inl rfl) (k7 B1 (k7 C3 (pv 1) c4) (k8 x6 (by rfl) B.len PySem.boot_len (a4 (pv 2) b7))))
   (c8 (m6 (i:=4) au7.nd rfl (Or.inl rfl) (k7 B1 (k7 C3 (pv 1) c4) (k7 M6 (k8 X2 (by rfl) B.len PySem.boot_len (a4 (pv 0) b7)) c4)))
   (c8 (m6 (i:=5) au7.nd rfl (Or.inl rfl) (Q6 y9 (k7 B1 (k7 C3 (pv 1) c4) c4) (fun _ _=>rfl)))
   (D2 (m6 (i:=6) au7.nd rfl (Or.inl rfl) (k7 B1 (pv 1) c4))
   (D2 (u7 (m5 F6 (pv 6) c4 (n6 _)) (d4 (o4 (k7 v5 (B9 K8 (pv 0) E6 (C2 (pv 4))) (B9 K8 (pv 0) (C2 (k7 M6 (pv 4) c4)) E6)))) l8)
   (D2 (u7 (m5 F6 (pv 6) c4 (n6 _)) (d4 (o4 (k7 v5 (k7 v5 (B9 K8 (pv 0) E6 (C2 (pv 4))) (pv 5)) (B9 K8 (pv 0) (C2 (pv 4)) E6)))) l8)
   (D2 (u7 (m5 F6 (pv 6) c4 (n6 _)) (d4 (o4 (k7 v5 (k7 v5 (B9 K8 (pv 0) E6 (C2 (pv 4))) (pv 5)) (B9 K8 (pv 0) (C2 (k7 M6 (pv 4) c4)) E6)))) l8)
   (D2 (u7 (m5 F6 (pv 6) c4 (n6 _)) (d4 (S1 (J8 PySem.F.plainAttrs_list PySem.F.slot_list_insert PySem.F.type_list_insert aD1 (pv 2) (a4 (pv 3) (a4 (B4 F3 (pv 2) (pv 3) (fun _ _=>rfl)) b7))))) l8)
   (D2 (u7 (m5 F6 (pv 6) c4 (n6 _)) (d4 (S1 (J8 PySem.F.plainAttrs_list PySem.F.slot_list_append PySem.F.type_list_append G7 (pv 2) (a4 (J8 PySem.F.plainAttrs_list PySem.F.slot_list_pop PySem.F.type_list_pop aq2 (pv 2) (a4 (pv 3) b7)) b7)))) l8)
   (D2 (u7 (m5 F6 (pv 6) c4 (n6 _)) (d4 (aI2 (aO8 PySem.F.plainAttrs_str PySem.F.slot_str_join PySem.F.type_str_join y9 (fun _=>rfl) rfl rfl rfl B.rev (a4 (J8 PySem.F.plainAttrs_str PySem.F.slot_str_split PySem.F.type_str_split Q8 (B4 F3 (pv 2) (pv 3) (fun _ _=>rfl)) (a4 y9 b7)) b7)) (aI5 (pv 2) (pv 3) set_list))) l8)
   (D2 (u7 (m5 F6 (pv 6) c4 (n6 _)) (d4 (aI2 (k7 v5 (k7 v5 (A7 E7 (by rfl) B.str (by rfl) (a4 (k7 B1 (k7 C3 (pv 1) c4) c4) b7)) y9) (A7 E7 (by rfl) B.str (by rfl) (a4 (k7 B1 (k7 C3 (pv 1) c4) c4) b7))) (aI5 (pv 2) (pv 3) set_list))) l8)
   (D2 (u7 (m5 F6 (pv 6) c4 (n6 _)) (d4 (S1 (J8 PySem.F.plainAttrs_list PySem.F.slot_list_pop PySem.F.type_list_pop aq2 (pv 2) (a4 (pv 3) b7)))) l8)
   (d4 (o4 (J8 PySem.F.plainAttrs_str PySem.F.slot_str_join PySem.F.type_str_join az4 y9 (a4 (pv 2) b7))))))))))))))))),?_⟩
  refine⟨_,rfl,_,_,rfl,rfl,⟨by decide,by decide,by decide⟩,_,_,rfl,rfl,p30,?_⟩
  refine B8 fun c _=>?_
  have h2:=split_len x " "
  have hnw:=ad9 x
  have hsm:=ah9 x " "
  have hfr:=StrLaws.split_free x 32
  rw[<- aT0]at hfr
  have hW:Wk (Txt.split x " "):=⟨by omega,by rw[B7]at hsm;unfold x8;omega,fun u hu=>⟨(K4 hu).2 hA,hfr u hu⟩⟩
  have hS0:x8 (Txt.split x " ")<=2000:=by rw[B7]at hsm;unfold x8;omega
  have hL0:(Txt.split x " ").length<=281:=by omega
  refine⟨_,rfl,rfl,x,_,rfl,rfl,Z6,by omega,by omega,fun l fl=>?_⟩
  clear hsm hnw hfr
  generalize Txt.split x " "=w0 at h2 hW hS0 hL0
  have s1:=g6 (o:=.lst (w0.map V.str)) fl
  have g1:(upd H l (.lst (w0.map V.str))) l=some (.lst (w0.map V.str)):=b8
  generalize upd H l (.lst (w0.map V.str))=H1 at s1 g1
  refine E3 ?_
  obtain⟨a,ea,ha⟩:∃ a:Nat,c / 9 % (w0.length:Int)=(a:Int)/\a<w0.length:=az5 (c / 9) h2.1
  refine⟨_,rfl,_,_,rfl,rfl,⟨by decide,by decide⟩,_,rfl,l,_,rfl,.inl (SqL.of g1),_,_,rfl,rfl,(by rw[b5];show (0:Int)<(w0.length:Int);omega),?_⟩
  refine B8 fun av hav=>?_
  rw[b5]at hav
  have hav:av=(a:Int):=hav.trans ea
  subst hav
  obtain⟨b,eb,hb⟩:∃ b:Nat,c / 9 % ((x.length+1:Nat):Int)=(b:Int)/\b<x.length+1:=az5 (c / 9) (by omega)
  refine⟨_,rfl,_,_,rfl,rfl,⟨by decide,by decide⟩,_,rfl,_,_,rfl,⟨by omega,rfl⟩,_,_,rfl,rfl,_,_,rfl,rfl,(by show (0:Int)<(x.length:Int)+1;omega),?_⟩
  refine B8 fun bv hbv=>?_
  have hbv:bv=(b:Int):=hbv.trans eb
  subst hbv
  obtain⟨h0,h1⟩:=md (c / 99) 20 (by decide)
  have hlt:(c / 99 % 20).toNat<sS.cps.toList.length:=by rw[v8,aH5];omega
  have hc:sS.cps[(c / 99 % 20).toNat]?=some sS.cps.toList[(c / 99 % 20).toNat]:=by rw[<- a6,c5 hlt]
  have hcA:D4 ⟨#[sS.cps.toList[(c / 99 % 20).toNat]]⟩:=fun d hd=>by
   have:d∈[sS.cps.toList[(c / 99 % 20).toNat]]:=hd
   rw[i7.mp this]
   exact of_decide_eq_true (o3.mp aW6 _ (u9 hlt))
  have e1:(⟨#[sS.cps.toList[(c / 99 % 20).toNat]]⟩:Str).length=1:=rfl
  refine⟨_,rfl,_,_,rfl,rfl,⟨by decide,by decide⟩,_,_,rfl,rfl,(by show (0:Int)<_;decide),sS,_,_,rfl,rfl,h0,(by omega),(by rw[aH5];omega),hc,?_⟩
  generalize (⟨#[sS.cps.toList[(c / 99 % 20).toNat]]⟩:Str)=sg at hcA e1
  have hsg:nb sg<=1:=by
   have h:=List.count_le_length (a:=32) (l:=sg.cps.toList)
   rw[v8,e1]at h
   exact h
  refine E3 ?_
  refine⟨fun σ H2=>∃ wy:Int,Js H x c a b sg wy w0 0 σ H2,?_,?_⟩
  ·exact⟨_,rfl,_,_,rfl,rfl,(by show (0:Int)<_;decide),_,l,w0,rfl,s1,fl,g1,hW,fun _=>rfl⟩
  rintro σ H2 ⟨wy,hJ⟩
  clear s1 g1 fl hlt hc
  have l1:∀ lo hi,(Txt.slice x lo hi).length<=x.length:=fun lo hi=>Txt.slice_le x _ _
  have m1:=l1 none (some (b:Int))
  have m2:=l1 (some ((b:Int)+1)) none
  have m3:=l1 (some (b:Int)) none
  obtain⟨c1,c2⟩:=aZ0 x hb
  refine⟨Js H x c a b sg wy w0 2,?_,?_⟩
  ·obtain⟨l,ws,rfl,s2,fl,g2,hw,e0⟩:=id hJ
   refine⟨_,rfl,rfl,_,rfl,R1 (fun hc=>?_) (fun _=>hJ.le (by decide))⟩
   exact⟨_,rfl,_,rfl,_,rfl,x,rfl,(by omega),_,rfl,_,rfl,_,_,rfl,rfl,_,rfl,x,rfl,(by omega),_,_,rfl,rfl,(by omega),q _ _ s2 (by rw[len_app];omega) (D3 (D1 hA _ _) (D1 hA _ _)) (by rw[U9];omega)⟩
  clear hJ
  rintro σ H2 hJ
  refine⟨Js H x c a b sg wy w0 3,?_,?_⟩
  ·obtain⟨l,ws,rfl,s2,fl,g2,hw,e0⟩:=id hJ
   refine⟨_,rfl,rfl,_,rfl,R1 (fun hc=>?_) (fun _=>hJ.le (by decide))⟩
   exact⟨_,rfl,_,rfl,_,rfl,x,rfl,(by omega),_,rfl,_,_,rfl,rfl,(by omega),_,rfl,_,rfl,_,rfl,x,rfl,(by omega),_,_,rfl,rfl,(by rw[len_app];omega),q _ _ s2 (by rw[len_app,len_app];omega) (D3 (D3 (D1 hA _ _) hcA) (D1 hA _ _)) (by rw[U9,U9];omega)⟩
  clear hJ
  rintro σ H2 hJ
  refine⟨Js H x c a b sg wy w0 4,?_,?_⟩
  ·obtain⟨l,ws,rfl,s2,fl,g2,hw,e0⟩:=id hJ
   refine⟨_,rfl,rfl,_,rfl,R1 (fun hc=>?_) (fun _=>hJ.le (by decide))⟩
   exact⟨_,rfl,_,rfl,_,rfl,x,rfl,(by omega),_,rfl,_,_,rfl,rfl,(by omega),_,rfl,_,rfl,_,_,rfl,rfl,_,rfl,x,rfl,(by omega),_,_,rfl,rfl,(by rw[len_app];omega),q _ _ s2 (by rw[len_app,len_app];omega) (D3 (D3 (D1 hA _ _) hcA) (D1 hA _ _)) (by rw[U9,U9];omega)⟩
  clear hJ
  rintro σ H2 hJ
  refine⟨Js H x c a b sg wy w0 5,?_,?_⟩
  ·obtain⟨l,ws,rfl,s2,fl,g2,hw,e0⟩:=id hJ
   refine⟨_,rfl,rfl,_,rfl,R1 (fun hc=>?_) (fun _=>hJ.le (by decide))⟩
   have hy:=an6 hc
   have e0:=e0 (by omega)
   subst e0
   have hat:atI (ws.map V.str) (a:Int)=some (.str ws[a]):=o5 (j:=a) (by rw[l9,c5 ha];rfl)
   refine⟨_,rfl,.inl ⟨rfl,_,SqL.of g2⟩,_,rfl,_,rfl,_,rfl,l,_,_,_,rfl,rfl,SqL.of g2,hat,l,_,_,a,rfl,rfl,g2,by rw[b5];omega,by rw[b5];omega,?_⟩
   refine⟨l,ws.take a++[ws[a]]++ws.drop a,rfl,s2.upd fl,fl,by rw[b8,g7,g7,List.map_take,List.map_drop];rfl,⟨by rw[c6,c6,k9,n9];show _+1+_<=290;omega,?_,fun u hu=>?_⟩,fun z=>absurd z (by omega)⟩
   ·have:=aN2 ws a
    have:=V8 (u9 ha)
    rw[V9,V9,ao5]
    omega
   ·rcases l6.mp hu with z | z
    ·rcases l6.mp z with z | z
     ·exact hw.2.2 u (C7 z)
     ·rw[i7.mp z];exact hw.2.2 _ (u9 ha)
    ·exact hw.2.2 u (B2 z)
  clear hJ
  rintro σ H2 hJ
  refine⟨Js H x c a b sg wy w0 6,?_,?_⟩
  ·obtain⟨l,ws,rfl,s2,fl,g2,hw,e0⟩:=id hJ
   refine⟨_,rfl,rfl,_,rfl,R1 (fun hc=>?_) (fun _=>hJ.le (by decide))⟩
   have hy:=an6 hc
   have e0:=e0 (by omega)
   subst e0
   have hle:=aF5 ws a
   refine⟨_,rfl,.inl ⟨rfl,_,SqL.of g2⟩,_,rfl,.inl ⟨rfl,_,SqL.of g2⟩,_,rfl,l,_,_,a,_,rfl,rfl,g2,by omega,by omega,by rw[b5];exact(ac4 (ac5 ha)).1,by rw[l9,c5 ha];rfl,?_⟩
   refine⟨l,_,_,rfl,rfl,b8,by rw[S4,b5];omega,?_⟩
   refine⟨l,ws.eraseIdx a++[ws[a]],rfl,(s2.upd fl).upd fl,fl,by rw[b8,S4,g7];rfl,⟨?_,?_,fun u hu=>?_⟩,fun z=>absurd z (by omega)⟩
   ·rw[c6]
    show _+1<=290
    omega
   ·have:=U0 ws a
    have:=V8 (u9 ha)
    rw[V9,ao5]
    omega
   ·rcases l6.mp hu with z | z
    ·exact hw.2.2 u (aA9 z)
    ·rw[i7.mp z];exact hw.2.2 _ (u9 ha)
  clear hJ
  rintro σ H2 hJ
  refine⟨Js H x c a b sg wy w0 7,?_,?_⟩
  ·obtain⟨l,ws,rfl,s2,fl,g2,hw,e0⟩:=id hJ
   refine⟨_,rfl,rfl,_,rfl,R1 (fun hc=>?_) (fun _=>hJ.le (by decide))⟩
   have hy:=an6 hc
   have e0:=e0 (by omega)
   subst e0
   have hat:atI (ws.map V.str) (a:Int)=some (.str ws[a]):=o5 (j:=a) (by rw[l9,c5 ha];rfl)
   have hm:=V8 (u9 ha)
   obtain⟨w1,w2⟩:=hw.2.2 _ (u9 ha)
   generalize hwa:ws[a]=wa at hat hm w1 w2
   have k2:=split_len wa "-"
   have k3:=ah9 wa "-"
   rw[z0]at k3
   have k4:x8 (Txt.split wa "-").reverse=x8 (Txt.split wa "-"):=by unfold x8;rw[bc4,List.sum_reverse]
   have k5:x8 (Txt.split wa "-")<=wa.length:=by unfold x8;omega
   have k6:x8 (Txt.split wa "-")+((Txt.split wa "-").length - 1)=wa.length:=by unfold x8;omega
   obtain⟨j1,j2⟩:=aU7 (y:="-") (ws:=(Txt.split wa "-").reverse) (by rw[k4,ab8,z0];omega)
   rw[k4,ab8,z0]at j2
   refine⟨_,rfl,_,rfl,l,_,_,_,rfl,rfl,SqL.of g2,hat,rfl,wa,_,rfl,rfl,as0,by omega,by omega,fun l5 f5=>?_⟩
   have s5:=g6 (o:=.lst ((Txt.split wa "-").map V.str)) f5
   refine⟨l5,Txt.split wa "-",rfl,SqL.of b8,j1,?_⟩
   refine⟨_,rfl,_,rfl,l,_,_,a,rfl,rfl,s5 _ _ g2,ac5 (by rw[b5];exact ha),?_⟩
   refine⟨l,ws.set a (Txt.join "-" (Txt.split wa "-").reverse),rfl,(s2.trans s5).upd fl,fl,by rw[b8,List.map_set],⟨by rw[at3];omega,?_,fun u hu=>?_⟩,fun z=>absurd z (by omega)⟩
   ·have:=ad7 (Txt.join "-" (Txt.split wa "-").reverse) ws a
    omega
   ·rcases ax4 hu with z | z
    ·exact hw.2.2 u z
    ·rw[z]
     have hmem:∀ v∈(Txt.split wa "-").reverse,D4 v/\32∉v.cps.toList:=fun v hv=>⟨(K4 (L4.mp hv)).2 w1,aw3 w2 (L4.mp hv)⟩
     refine⟨af7 X4 fun v hv=>(hmem v hv).1,?_⟩
     show 32∉(Builtin.Str.glued "-" _).cps.toList
     rw[StrLaws.glued_eq_join]
     exact ai9 Z2 fun v hv=>(hmem v hv).2
  clear hJ
  rintro σ H2 hJ
  refine⟨Js H x c a b sg wy w0 8,?_,?_⟩
  ·obtain⟨l,ws,rfl,s2,fl,g2,hw,e0⟩:=id hJ
   refine⟨_,rfl,rfl,_,rfl,R1 (fun hc=>?_) (fun _=>hJ.le (by decide))⟩
   have hy:=an6 hc
   have e0:=e0 (by omega)
   subst e0
   obtain⟨h0,h1⟩:=md (c / 99) 26 (by decide)
   obtain⟨h3,h4⟩:=md (c / 2574) 130 (by decide)
   obtain⟨n1,n2,n3⟩:=aJ6 (z:=c / 99 % 26) ⟨h0,by omega⟩
   obtain⟨k1,k2,k3⟩:=aJ6 (z:=c / 2574 % 130) ⟨h3,by omega⟩
   have n2':(Str.ofString (toString (c / 99 % 26))).length<=3:=n2
   have k2':(Str.ofString (toString (c / 2574 % 130))).length<=3:=k2
   have ed:=z0
   refine⟨_,rfl,_,_,rfl,rfl,⟨by decide,by decide⟩,_,_,rfl,rfl,(by show (0:Int)<_;decide),_,rfl,n1,_,_,rfl,rfl,(by rw[z0];omega),?_⟩
   refine⟨_,rfl,_,_,rfl,rfl,⟨by decide,by decide⟩,_,_,rfl,rfl,(by show (0:Int)<_;decide),_,rfl,k1,_,_,rfl,rfl,(by rw[len_app,z0];omega),?_⟩
   refine⟨_,rfl,_,rfl,l,_,_,a,rfl,rfl,g2,ac5 (by rw[b5];exact ha),?_⟩
   refine⟨l,ws.set a (F7 (c / 99 % 26)++"-"++F7 (c / 2574 % 130)),rfl,s2.upd fl,fl,by rw[b8,List.map_set];rfl,⟨by rw[at3];omega,?_,fun u hu=>?_⟩,fun z=>absurd z (by omega)⟩
   ·have:=ad7 (F7 (c / 99 % 26)++"-"++F7 (c / 2574 % 130)) ws a
    rw[len_app,len_app,z0]at this
    omega
   ·rcases ax4 hu with z | z
    ·exact hw.2.2 u z
    ·rw[z]
     exact⟨D3 (D3 n3 X4) k3,N2 (N2 (W6 h0) Z2) (W6 h3)⟩
  clear hJ
  rintro σ H2 hJ
  refine⟨Js H x c a b sg wy w0 9,?_,?_⟩
  ·obtain⟨l,ws,rfl,s2,fl,g2,hw,e0⟩:=id hJ
   refine⟨_,rfl,rfl,_,rfl,R1 (fun hc=>?_) (fun _=>hJ.le (by decide))⟩
   have hy:=an6 hc
   have e0:=e0 (by omega)
   subst e0
   have hle:=aF5 ws a
   refine⟨_,rfl,.inl ⟨rfl,_,SqL.of g2⟩,_,rfl,l,_,_,a,_,rfl,rfl,g2,by omega,by omega,by rw[b5];exact(ac4 (ac5 ha)).1,by rw[l9,c5 ha];rfl,?_⟩
   refine⟨l,ws.eraseIdx a,rfl,s2.upd fl,fl,by rw[b8,S4],⟨by omega,by have:=U0 ws a;omega,fun u hu=>hw.2.2 u (aA9 hu)⟩,fun z=>absurd z (by omega)⟩
  clear hJ
  rintro σ H2 hJ
  obtain⟨l,ws,rfl,s2,fl,g2,hw,e0⟩:=hJ
  obtain⟨v1,v2,v3⟩:=hw
  obtain⟨j1,j2⟩:=aU7 (y:=" ") (ws:=ws) (by rw[B7];omega)
  rw[B7]at j2
  refine⟨rfl,_,rfl," ",l,ws,rfl,rfl,SqL.of g2,j1,q _ _ s2 (by omega) (af7 aj8 fun u hu=>(v3 u hu).1) ?_⟩
  rw[show Txt.join " " ws=Str.join " " ws from StrLaws.glued_eq_join _ _]
  cases ws with
  | nil=>exact j4 _
  | cons u r =>
   rw[ac3 u r fun z hz=>(v3 z hz).2]
   rw[d6]at v1
   omega
end
end Web
namespace Web
open PySem L2
theorem aQ4 {n:Nat}{a b:List Int}(ha:Up n a)(hb:Up n b)(h:Tim.B3 a b=true):Tim.B3 b a=false:=by
 obtain⟨i,j,_,_,rfl⟩:=ha
 obtain⟨u,v,_,_,rfl⟩:=hb
 unfold Tim.B3 Tim.B3 at h ⊢
 by_cases e1:(i:Int)=u
 ·rw[if_pos e1]at h
  rw[if_pos e1.symm]
  by_cases e2:(j:Int)=v
  ·rw[if_pos e2]at h
   exact Bool.noConfusion (show false=true from h)
  ·rw[if_neg e2]at h
   rw[if_neg (Ne.symm e2)]
   have:=of_decide_eq_true h
   exact decide_eq_false (by omega)
 ·rw[if_neg e1]at h
  rw[if_neg (Ne.symm e1)]
  have:=of_decide_eq_true h
  exact decide_eq_false (by omega)
theorem aM6 {n:Nat}{ks:List (List Int)}(h:ks.Sublist (J7 n)):Tld n ks:=by
 have ups:∀ k∈ks,Up n k:=fun k hk=>aD2 (h.subset hk)
 have asc:=aR7 h (aE9 n)
 refine⟨ups,?_,List.Pairwise.imp_of_mem (fun {a b} ha hb e=>aQ4 (ups a ha) (ups b hb) e) asc⟩
 refine at7.mpr (List.Pairwise.imp (fun {a b} e z=>?_) asc)
 rw[z,Tim.Q9]at e
 cases e
theorem bf3 {P:Program}{w:World}{X:Cx}:Z8 (CXE P w) X E0:=fun _ _ _ _ _ _ _ h=>by
 obtain⟨_,_,_,_,_,_,_,_,_,_,_,hE⟩:=h
 exact hE.elim
theorem aC4:∀ n,n<25->(J7 n).length<=276:=by decide +kernel
theorem aG4 {k:List Int}(h:∃ a b:Int,k=[a,b]/\(0<=a/\a<100)/\0<=b/\b<100):32∉(V7 k).cps.toList:=by
 obtain⟨a,b,rfl,ha,hb⟩:=h
 exact N2 (N2 (W6 ha.1) Z2) (W6 hb.1)
theorem aY9 {ks:List (List Int)}(h:SmK ks):nb (U6 ks)=ks.length:=by
 unfold U6
 rw[ac3 "web" (ks.map V7) fun u hu=>?_,b5]
 rcases d7.mp hu with e | e
 ·rw[e];decide +kernel
 ·obtain⟨k,hk,rfl⟩:=m8.mp e
  exact aG4 (h k hk)
theorem be1 {n:Nat}(hn:n<=24){ks:List (List Int)}(h:∀ k∈ks,Up n k):SmK ks:=fun k hk=>by
 obtain⟨i,j,h1,h2,rfl⟩:=h k hk
 exact⟨_,_,rfl,⟨by omega,by omega⟩,by omega,by omega⟩
theorem aJ7 {z:Int}(h:0<=z/\z<130):z.natAbs.log2<1920/\(F7 z).length<=3/\D4 (F7 z):=aJ6 ⟨h.1,by omega⟩
seal L2.PE L2.PA L2.PS L2.PSs L2.PT
section
variable {P:Program} {w:World} {K:W.Frag} {mg:Str->Option Value} {base:Heap}
def ay2 (K:W.Frag):Sp:=fun vs H Q _=>∃ (a:Addr) (ns:List Int),vs=[.ref a]/\SqL K H a (ns.map V.int)/\ns.length<=63/\∀ H',Q (.bl true) H'
theorem O7:t7 ["script","cell","places","ties","row","told","k","other","many","word"] ["script"] (d8 al1):=⟨rfl,rfl,rfl,by decide +kernel,rfl,by decide +kernel,by decide +kernel⟩
set_option maxHeartbeats 4000000 in
theorem aY3 {f fI fU fV fι fN fν fτ fT fψ fC fH fA fO fD fW fG fE fω fL fR fS CT CN CX CP:Addr} {fd fdI fdU fdV fdι fdN fdν fdτ fdT fdψ fdC fdH fdA fdO fdD fdW fdG fdE fdω fdL fdR fdS:FuncData} {tk tF tE:Tok} (F:Fun K "law" "law" al1 f fd) (B:Bn mg)
  (mo:mg "MOST_PLACES"=some (.int 24 tk)) (mF:mg "FIGURES"=some (.str "0123456789" tF)) (mEnd:mg "MOST_FIGURES_OF_END"=some (.int 2 tE))
  (FI:Fun K "is_place" "is_place" al2 fI fdI) (bI:Binds K fdI ["places","number"] []) (mI:mg "is_place"=some (.ref fI))
  (FU:Fun K "turned_up" "turned_up" sUp fU fdU) (bU:Binds K fdU ["places","tie"] []) (mU:mg "turned_up"=some (.ref fU))
  (FV:Fun K "made" "made" aa5 fV fdV) (bV:Binds K fdV ["places","ties"] []) (mV:mg "made"=some (.ref fV))
  (Fι:Fun K "is_told" "is_told" L8 fι fdι) (bι:Binds K fdι ["web"] []) (mι:mg "is_told"=some (.ref fι))
  (FN:Fun K "is_number" "is_number" ap5 fN fdN) (bN:Binds K fdN ["word","most"] []) (mN:mg "is_number"=some (.ref fN))
  (Fν:Fun K "number_within" "number_within" sNW fν fdν) (bν:Binds K fdν ["word","most"] []) (mν:mg "number_within"=some (.ref fν))
  (Fτ:Fun K "tie_in" "tie_in" N9 fτ fdτ) (bτ:Binds K fdτ ["word"] []) (mτ:mg "tie_in"=some (.ref fτ))
  (FT:Fun K "web_text" "web_text" ae1 fT fdT) (bT:Binds K fdT ["web"] []) (mT:mg "web_text"=some (.ref fT))
  (Fψ:Fun K "web_in" "web_in" Q3 fψ fdψ) (bψ:Binds K fdψ ["row","places"] []) (mψ:mg "web_in"=some (.ref fψ))
  (FC:Fun K "_law_cell_at" "_law_cell_at" ae3 fC fdC) (bC:Binds K fdC ["script","k"] []) (mC:mg "_law_cell_at"=some (.ref fC))
  (FH:Fun K "_law_whole" "_law_whole" Q1 fH fdH) (bH:Binds K fdH ["found"] []) (mH:mg "_law_whole"=some (.ref fH))
  (FA:Fun K "_law_alike" "_law_alike" Q4 fA fdA) (bA:Binds K fdA ["found","due"] []) (mA:mg "_law_alike"=some (.ref fA))
  (FO:Fun K "_law_row" "_law_row" ap4 fO fdO) (bO:Binds K fdO ["cell","many","size"] []) (mO:mg "_law_row"=some (.ref fO))
  (FD:Fun K "_law_ties" "_law_ties" ae2 fD fdD) (bD:Binds K fdD ["cell","places"] []) (mD:mg "_law_ties"=some (.ref fD))
  (FW:Fun K "_law_web_text" "_law_web_text" U5 fW fdW) (bW:Binds K fdW ["ties"] []) (mW:mg "_law_web_text"=some (.ref fW))
  (FG:Fun K "_law_figures" "_law_figures" ap6 fG fdG) (bG:Binds K fdG ["word","most"] []) (mG:mg "_law_figures"=some (.ref fG))
  (FE:Fun K "_law_tie" "_law_tie" al0 fE fdE) (bE:Binds K fdE ["word"] []) (mE:mg "_law_tie"=some (.ref fE))
  (Fω:Fun K "_law_web_of" "_law_web_of" Q2 fω fdω) (bω:Binds K fdω ["row","places"] []) (mω:mg "_law_web_of"=some (.ref fω))
  (FL:Fun K "_law_told" "_law_told" aa4 fL fdL) (bL:Binds K fdL ["row","places"] []) (mL:mg "_law_told"=some (.ref fL))
  (FR:Fun K "_law_right" "_law_right" U4 fR fdR) (bR:Binds K fdR ["row","places"] []) (mR:mg "_law_right"=some (.ref fR))
  (FS:Fun K "_law_spoiled" "_law_spoiled" U3 fS fdS) (bS:Binds K fdS ["row","cell"] []) (mS:mg "_law_spoiled"=some (.ref fS))
  (L:bh4 K mg CT CN CX CP) (cX:am9 K CX) (xX:PySem.W.exmOne K (.ref CX) (.ref CX)=some true):p8 P w K mg base CX0 8 f fd ["script"] (ay2 K):=by
 have GV:p8 P w K mg base (CXE P w) 3 fV fdV ["places","ties"] (ac0 K CX):=aJ5 FV B FI bI mI FU bU mU mo L.mX cX
 have Gι:p8 P w K mg base CX0 4 fι fdι ["web"] (ak3 K):=aJ4 Fι FV bV mV GV L.mX xX
 have Gν:p8 P w K mg base (CXE P w) 2 fν fdν ["word","most"] (aW2 CN):=bg1 Fν B FN bN mN mF L.mN L.c
 have Gτ:p8 P w K mg base (CXE P w) 3 fτ fdτ ["word"] (ak4 CN):=aX9 Fτ Fν bν mν Gν mEnd L.mN L.c
 have Gψ:p8 P w K mg base (CXE P w) 5 fψ fdψ ["row","places"] (aW1 K CN):=bf8 Fψ B Fτ bτ mτ (Gτ.mono (by decide)) Fι bι mι Gι L.mN L.c
 have GE:p8 P w K mg base CX0 2 fE fdE ["word"] ak5:=aP4 FE B FG bG mG
 have Gω:p8 P w K mg base CX0 3 fω fdω ["row","places"] (aW0 K):=bf7 Fω B FE bE mE GE
 have GL:p8 P w K mg base CX0 6 fL fdL ["row","places"] (au4 K):=aP2 FL B Fτ bτ mτ (Gτ.mono (by decide)) Fψ bψ mψ Gψ L
 have GA:p8 P w K mg base CX0 5 fA fdA ["found","due"] (aH2 K 3):=aY7 FA bA mA B FH bH mH 3
 have GR:p8 P w K mg base CX0 7 fR fdR ["row","places"] be0:=bg0 FR FE bE mE (GE.mono (by decide)) Fω bω mω (Gω.mono (by decide)) FL bL mL GL FA bA mA (GA.mono (by decide))
 have GC:p8 P w K mg base CX0 7 fC fdC ["script","k"] (aH1 K):=(aP5 FC B).mono (by decide)
 have GD:p8 P w K mg base CX0 7 fD fdD ["cell","places"] (aH0 K):=(aP3 FD B FO bO mO).mono (by decide)
 have GW:p8 P w K mg base CX0 7 fW fdW ["ties"] (aT3 K):=(aY2 FW B).mono (by decide)
 have GT:p8 P w K mg base CX0 7 fT fdT ["web"] (bd8 K):=(bf6 FT B).mono (by decide)
 have GS:p8 P w K mg base CX0 7 fS fdS ["row","cell"] bd9:=(bf9 FS B).mono (by decide)
 have GV:p8 P w K mg base (CXE P w) 7 fV fdV ["places","ties"] (ac0 K CX):=GV.mono (by decide)
 clear Gι Gν Gτ Gψ GE Gω GL GA
 refine F.ok O7 (fun vs H Q E h=>?_) (fun cdv A outer s H vs Q E hr h=>?_)
 ·obtain⟨a,ns,rfl,_⟩:=h
  rfl
 ·obtain⟨sc,ns,rfl,hS,hlen,q⟩:=h
  have hsl:sizeLine=16777216:=sizeLine_eq
  refine⟨_,c8 (M4 PassesOwn.never rfl (S2 (k7 aJ2 (M5 (a4 (p0 GC hr (by rfl) mC FC.kp bC .nil E1 (a4 (pv 0) (a4 c4 b7))) b7)) (B9 ak7 (pv 0) (C2 c4) (C2 c4)))) (A3 (i:=1) O7.nd rfl (Or.inl rfl))
    (c8 (m6 (i:=1) O7.nd rfl (Or.inl rfl) (k7 B1 (pv 1) (k7 al5 c4 c4)))
    (c8 (m6 (i:=2) O7.nd rfl (Or.inl rfl) (k7 M6 c4 (k7 B1 (pv 1) c4)))
    (D2 (u7 (m5 F6 (k7 B1 (k7 C3 (pv 1) c4) c4) c4 (n6 _)) (d4 (m6 (i:=2) O7.nd rfl (Or.inl rfl) (k7 M6 c4 (k7 B1 (k7 C3 (pv 1) c4) c4)))) l8)
    (c8 (m6 (i:=3) O7.nd rfl (Or.inl rfl) (p0 GD hr (by rfl) mD FD.kp bD .nil E1 (a4 (k7 C3 (pv 1) c4) (a4 (pv 2) b7))))
    (c8 (m6 (i:=4) O7.nd rfl (Or.inl rfl) (p0 GW hr (by rfl) mW FW.kp bW .nil E1 (a4 (pv 3) b7)))
    (c8 (m6 (i:=5) O7.nd rfl (Or.inl rfl) (p0 GT hr (by rfl) mT FT.kp bT .nil E1 (a4 (p0 GV hr (by rfl) mV FV.kp bV .nil (bf3 (P:=P) (w:=w)) (a4 (pv 2) (a4 (pv 3) b7))) b7)))
    (c8 (u7 (PW.pt (W2 (F0 (D9 (k8 (O4 K rfl) (by rfl) B.isin (by rfl) (a4 (pv 5) (a4 (F2 (v:=.ty "str") (by rfl) B.str (by rfl) rfl) b7))))) (O0 (m5 ai1 (pv 5) (pv 4) (n6 _))))) E5 l8)
    (c8 (M4 PassesOwn.never rfl (K5 rfl B.range (a4 c4 b7)) (A3 (i := 6) O7.nd rfl (Or.inl rfl))
     (c8 (m6 (i:=7) O7.nd rfl (Or.inl rfl) (p0 GS hr (by rfl) mS FS.kp bS .nil E1 (a4 (pv 4) (a4 (k7 C3 (pv 1) (k7 M6 (pv 6) c4)) b7))))
     (d4 (M4 PassesOwn.never rfl (S2 (M5 (a4 (pv 2) (a4 (k8 (aj2 rfl) (by rfl) B.min (by rfl) (a4 c4 (a4 (k7 M6 (pv 2) c4) b7))) (a4 (k8 (aj3 rfl) (by rfl) B.max (by rfl) (a4 c4 (a4 (k7 aJ0 (pv 2) c4) b7))) b7))))) (A3 (i := 8) O7.nd rfl (Or.inl rfl))
      (d4 (u7 (PW.pt (W2 (F0 (D9 (p0 GR hr (by rfl) mR FR.kp bR .nil E1 (a4 (pv 7) (a4 (pv 8) b7))))) (O0 (F0 (D9 (p0 GR hr (by rfl) mR FR.kp bR .nil E1 (a4 (pv 4) (a4 (pv 8) b7)))))))) E5 l8))))))
    (d4 (M4 PassesOwn.never rfl (S2 (M5 (a4 (k7 v5 (k7 v5 (A7 E7 (by rfl) B.str (by rfl) (a4 (k7 B1 (k7 C3 (pv 1) c4) c4) b7)) y9) (A7 E7 (by rfl) B.str (by rfl) (a4 (k7 B1 (k7 C3 (pv 1) c4) c4) b7)))
      (a4 (k7 v5 y9 (B9 K8 (pv 4) (C2 c4) E6)) (a4 (B9 K8 (pv 4) (C2 c4) E6) (a4 (B9 K8 (pv 4) (C2 (aU0 aG0 c4)) E6) (a4 (B9 K8 (pv 4) (C2 (aU0 aG0 c4)) E6) b7))))))) (A3 (i:=9) O7.nd rfl (Or.inl rfl))
      (d4 (u7 (F0 (D9 (p0 GR hr (by rfl) mR FR.kp bR .nil E1 (a4 (pv 9) (a4 c4 b7))))) E5 l8)))))))))))))
   (d4 (o4 ae6)),?_⟩
  refine⟨_,rfl,sc,ns,0,rfl,hS,fun c0=>?_⟩
  refine⟨(by show 1<=sizeLine;decide),fun l0 f0=>?_⟩
  have sl0:=g6 (o:=.lst [.int c0]) f0
  obtain⟨ms,hms,hml⟩:=aE3 ns (some 1) (some 13)
  refine⟨_,rfl,_,rfl,_,rfl,sc,ns.map V.int,rfl,sl0.seq hS,fun l1 f1=>?_⟩
  rw[hms]
  have sl1:=g6 (o:=.lst (ms.map V.int)) f1
  refine⟨l0,l1,_,_,rfl,rfl,sl1 _ _ b8,b8,by rw[b5];show 1+ms.length<=sizeLine;omega,fun lc fc=>⟨lc,rfl,⟨_,SqL.of b8⟩,?_⟩⟩
  have glc:(upd (upd (upd H l0 (.lst [.int c0])) l1 (.lst (ms.map V.int))) lc (.lst ([.int c0]++ms.map V.int))) lc=some (.lst (([c0]++ms:List Int).map V.int)):=by rw[b8,g7];rfl
  generalize upd (upd (upd H l0 (.lst [.int c0])) l1 (.lst (ms.map V.int))) lc (.lst ([.int c0]++ms.map V.int))=HB at glc
  refine af9 (K:=K) (a:=lc) (xs:=([c0]++ms:List Int).map V.int) (fun _ σ H2=>∃ e1 e2 e3 e4 e5 e6 e7 e8 e9,σ=[some (.ref sc),e1,e2,e3,e4,e5,e6,e7,e8,e9]/\n4 HB H2) ⟨_,_,_,_,_,_,_,_,_,rfl,n4.refl HB⟩ (fun i σ H2 _ ⟨_,_,_,_,_,_,_,_,_,_,s⟩=>SqL.of (s _ _ glc)) ?_ ?_
  ·rintro i x σ Ha hx ⟨e1,e2,e3,e4,e5,e6,e7,e8,e9,rfl,sa⟩
   obtain⟨z,rfl⟩:=int_at hx
   refine⟨_,rfl,_,_,rfl,rfl,⟨by decide,by decide,by decide⟩,_,_,rfl,rfl,p60,?_⟩
   refine B8 fun c _=>?_
   refine⟨_,rfl,_,_,rfl,rfl,(by show (0:Int)<_;decide),_,_,rfl,rfl,?_⟩
   refine B8 fun pz hpz=>?_
   refine⟨fun σ H2=>∃ n:Nat,σ=[some (.ref sc),some (.int c),some (.int (n:Int)),e3,e4,e5,e6,e7,e8,e9]/\H2=Ha/\1<=n/\n<=24,?_,?_⟩
   ·refine⟨_,rfl,_,_,rfl,rfl,⟨by decide,by decide⟩,_,_,rfl,rfl,(by show (0:Int)<_;decide),rfl,_,rfl,R1 (fun _=>?_) (fun _=>?_)⟩
    ·refine⟨_,rfl,_,_,rfl,rfl,⟨by decide,by decide⟩,_,_,rfl,rfl,(by show (0:Int)<_;decide),_,_,rfl,rfl,?_⟩
     refine B8 fun qz hqz=>?_
     have:0<=qz:=by omega
     obtain⟨n,rfl⟩:=J5 this
     exact⟨n,rfl,rfl,by omega,by omega⟩
    ·have:0<=pz:=by omega
     obtain⟨n,rfl⟩:=J5 this
     exact⟨n,rfl,rfl,by omega,by omega⟩
   rintro σ H2 ⟨n,rfl,rfl,n1,n2⟩
   refine⟨_,rfl,_,_,rfl,rfl,⟨by decide,by decide⟩,_,rfl,_,n,rfl,n2,fun lt zs ks H3 s3 _ g3 t3 hsub=>?_⟩
   have hT:Tl n n ks:=⟨rfl,n1,n2,aM6 hsub⟩
   have hSm:SmK ks:=be1 n2 hT.t.ups
   have hkl:ks.length<=276:=o7 hsub.length_le (aC4 n (by omega))
   obtain⟨r1,r2⟩:=aH8 hSm (by omega)
   have r3:=aY9 hSm
   refine⟨_,rfl,lt,zs,ks,rfl,g3,t3,hSm,by omega,fun H4 s4=>?_⟩
   refine⟨_,rfl,_,rfl,n,lt,zs,ks,rfl,.inr (SqT.of (s4 _ _ g3)),s4.tups t3,fun k hk=>by obtain⟨i,j,_,_,e⟩:=hT.t.ups k hk;exact⟨_,_,e⟩,by omega,fun hG p t zs' ks' H5 s5 gp gt tt pm so=>?_,fun hb=>absurd (ax7 hT) hb⟩
   have ek:=(aG3 hG pm so).mpr ⟨n,hT⟩
   subst ek
   refine⟨p,t,_,zs',ks',rfl,gp,gt,tt,hSm,by omega,fun H6 s6=>?_⟩
   refine⟨_,rfl,_,_,_,true,rfl,.str _,rfl,_,rfl,A8 ?_⟩
   refine⟨_,rfl,_,rfl,rfl,_,rfl,aU8 (by simp) ?_⟩
   have sB:=(((sa.trans s3).trans s4).trans s5).trans s6
   generalize U6 ks'=row at r1 r2 r3
   clear s3 s4 s5 s6 g3 t3 gp gt tt pm so hG
   have hspl:(Txt.split row " ").length<=300:=by rw[ad9];omega
   refine⟨6,rfl,by omega,by omega,K6 (lo:=0) (n:=6) (fun _ σ H7=>∃ e6 e7 e8,σ=[some (.ref sc),some (.int c),some (.int (n:Int)),some (.ref lt),some (.str row),some (.str row),e6,e7,e8,e9]/\n4 HB H7) ⟨_,_,_,rfl,sB⟩ ?_ ?_⟩
   ·rintro k σ Hb hk ⟨e6,e7,e8,rfl,sb⟩
    have e0:((0:Int)+(k:Int))=(k:Int):=by omega
    rw[e0]
    refine E3 ?_
    refine⟨_,rfl,_,rfl,_,rfl,_,_,rfl,rfl,_,_,rfl,rfl,⟨by show (0:Int)<(k:Int)+3;omega,by show (k:Int)+3<_;omega⟩,row,_,rfl,r1,r2,by omega,fun y H7 s7 y1 y2 y3=>?_⟩
    have hsy:(Txt.split y " ").length<=300:=by rw[ad9];omega
    obtain⟨a,ea,ha⟩:∃ a:Nat,(if ((n:Int)+1)<24 then ((n:Int)+1) else 24)=(a:Int)/\a<=24:=⟨(if ((n:Int)+1)<24 then ((n:Int)+1) else 24).toNat,by split<;>omega,by split<;>omega⟩
    obtain⟨b,eb,hb⟩:∃ b:Nat,(if ((n:Int) - 1) > 1 then ((n:Int) - 1) else 1)=(b:Int)/\b<=24:=⟨(if ((n:Int) - 1) > 1 then ((n:Int) - 1) else 1).toNat,by split<;>omega,by split<;>omega⟩
    refine⟨_,rfl,_,rfl,_,_,rfl,rfl,_,_,rfl,_,rfl,_,_,rfl,rfl,_,_,rfl,(by show 3<=sizeLine;decide),fun lm fm=>⟨lm,rfl,⟨_,SqL.of b8⟩,?_⟩⟩
    rw[ea,eb]
    have sm:=(sb.trans s7).trans (g6 (o:=.lst [.int (n:Int),.int (a:Int),.int (b:Int)]) fm)
    have gm:(upd H7 lm (.lst [.int (n:Int),.int (a:Int),.int (b:Int)])) lm=some (.lst (([n,a,b]:List Nat).map fun(i:Nat)=>V.int (i:Int))):=b8
    refine af9 (K:=K) (a:=lm) (xs:=([n,a,b]:List Nat).map fun(i:Nat)=>V.int (i:Int)) (fun _ σ H8=>∃ e8,σ=[some (.ref sc),some (.int c),some (.int (n:Int)),some (.ref lt),some (.str row),some (.str row),some (.int (k:Int)),some (.str y),e8,e9]/\n4 (upd H7 lm (.lst [.int (n:Int),.int (a:Int),.int (b:Int)])) H8) ⟨_,rfl,n4.refl _⟩ (fun i σ H8 _ ⟨_,_,s⟩=>SqL.of (s _ _ gm)) ?_ ?_
    ·rintro i v σ H8 hv ⟨e8,rfl,s8⟩
     rw[l9]at hv
     obtain⟨m,em,rfl⟩:∃ m,([n,a,b]:List Nat)[i]?=some m/\v=.int (m:Int):=by
      cases e:([n,a,b]:List Nat)[i]? with
      | none=>rw[e]at hv;cases hv
      | some m=>rw[e]at hv;cases hv;exact⟨m,rfl,rfl⟩
     have hm:m<=24:=by
      have:=a9 em
      simp at this
      omega
     refine⟨_,rfl,_,rfl,y,m,rfl,hm,y1,y2,fun _=>hsy,fun H9 s9=>⟨_,rfl,A8 ?_⟩⟩
     refine⟨_,rfl,_,rfl,row,m,rfl,hm,by omega,r2,fun _=>hspl,fun H10 s10=>⟨_,rfl,A8 ⟨_,rfl,(s8.trans s9).trans s10⟩⟩⟩
    ·rintro σ H8 ⟨e8,rfl,s8⟩
     exact⟨_,_,_,rfl,sm.trans s8⟩
   ·rintro σ H7 ⟨e6,e7,e8,rfl,s7⟩
    obtain⟨h0,h1⟩:=md (c / 7) 130 (by decide)
    obtain⟨h3,h4⟩:=md (c / 910) 130 (by decide)
    obtain⟨n1',n2',n3'⟩:=aJ7 ⟨h0,h1⟩
    obtain⟨k1,k2,k3⟩:=aJ7 ⟨h3,h4⟩
    have n2'':(Str.ofString (toString (c / 7 % 130))).length<=3:=n2'
    have k2'':(Str.ofString (toString (c / 910 % 130))).length<=3:=k2
    have ed:=z0
    have ez:("0":Str).length=1:=by decide +kernel
    have l1:∀ lo hi,(Txt.slice row lo hi).length<=row.length:=fun lo hi=>Txt.slice_le row _ _
    have q4:=l1 (some 4) none
    refine⟨_,rfl,_,_,rfl,rfl,⟨by decide,by decide⟩,_,_,rfl,rfl,(by show (0:Int)<_;decide),_,rfl,n1',_,_,rfl,rfl,(by rw[z0];omega),?_⟩
    refine⟨_,rfl,_,_,rfl,rfl,⟨by decide,by decide⟩,_,_,rfl,rfl,(by show (0:Int)<_;decide),_,rfl,k1,_,_,rfl,rfl,(by rw[len_app,z0];omega),?_⟩
    refine⟨_,rfl,_,rfl,row,rfl,(by omega),_,_,rfl,rfl,(by rw[ez];omega),?_⟩
    refine⟨_,rfl,_,rfl,row,rfl,(by omega),?_⟩
    refine⟨_,rfl,_,rfl,_,rfl,row,rfl,(by omega),?_⟩
    refine⟨_,rfl,_,rfl,_,rfl,row,rfl,(by omega),?_⟩
    refine⟨(by show 5<=sizeLine;decide),fun lw fw=>⟨lw,rfl,⟨_,SqL.of b8⟩,?_⟩⟩
    have hws:∀ u∈([F7 (c / 7 % 130)++"-"++F7 (c / 910 % 130),("0":Str)++Txt.slice row (some 4) none,Txt.slice row (some 4) none,Txt.slice row (some (-3)) none,Txt.slice row (some (-4)) none]:List Str),u.length<=5000/\D4 u:=by
     intro u hu
     simp only[d7,T8,or_false]at hu
     rcases hu with rfl | rfl | rfl | rfl | rfl
     ·exact⟨by rw[len_app,len_app,z0];omega,D3 (D3 n3' X4) k3⟩
     ·exact⟨by rw[len_app,ez];omega,D3 (aA6 (by decide +kernel)) (D1 r2 _ _)⟩
     ·exact⟨by omega,D1 r2 _ _⟩
     ·exact⟨by have:=l1 (some (-3)) none;omega,D1 r2 _ _⟩
     ·exact⟨by have:=l1 (some (-4)) none;omega,D1 r2 _ _⟩
    refine af9 (K:=K) (a:=lw) (xs:=([F7 (c / 7 % 130)++"-"++F7 (c / 910 % 130),("0":Str)++Txt.slice row (some 4) none,Txt.slice row (some 4) none,Txt.slice row (some (-3)) none,Txt.slice row (some (-4)) none]:List Str).map V.str) (fun _ σ H8=>∃ e9,σ=[some (.ref sc),some (.int c),some (.int (n:Int)),some (.ref lt),some (.str row),some (.str row),e6,e7,e8,e9]/\n4 (upd H7 lw (.lst (([F7 (c / 7 % 130)++"-"++F7 (c / 910 % 130),("0":Str)++Txt.slice row (some 4) none,Txt.slice row (some 4) none,Txt.slice row (some (-3)) none,Txt.slice row (some (-4)) none]:List Str).map V.str))) H8) ⟨_,rfl,n4.refl _⟩ (fun i σ H8 _ ⟨_,_,s⟩=>SqL.of (s _ _ b8)) ?_ ?_
    ·rintro i v σ H8 hv ⟨e9,rfl,s8⟩
     obtain⟨u,hu,_,rfl⟩:=au2 hv
     obtain⟨u1,u2⟩:=hws u hu
     exact⟨_,rfl,u,0,rfl,by decide,u1,u2,fun h=>absurd h (by decide),fun H9 s9=>⟨_,rfl,A8 ⟨_,rfl,s8.trans s9⟩⟩⟩
    ·rintro σ H8 ⟨e9,rfl,s8⟩
     exact⟨_,_,_,_,_,_,_,_,_,rfl,s7.trans ((g6 fw).trans s8)⟩
  ·rintro σ H1 ⟨_,_,_,_,_,_,_,_,_,rfl,_⟩
   exact q _
end
end Web
namespace Web
open PySem L2
theorem ls1 {p:List Value->Prop}(h:∀ x0,p [x0]):∀ us,us.length=1->p us
 | [x0],_=>h x0
theorem ls2 {p:List Value->Prop}(h:∀ x0 x1,p [x0,x1]):∀ us,us.length=2->p us
 | [x0,x1],_=>h x0 x1
theorem ls3 {p:List Value->Prop}(h:∀ x0 x1 x2,p [x0,x1,x2]):∀ us,us.length=3->p us
 | [x0,x1,x2],_=>h x0 x1 x2
set_option maxHeartbeats 0 in
theorem all_mk {l:PySem.W.OpenLaw}{w:World}{K:W.Frag}{h:Heap}{mg:Str->Option Value}{fa fI fU fV fι fN fν fτ fT fψ fC fH fA fO fD fW fG fE fω fL fR fS fZ CTallyError CBadWeb CNoPlace CNoText:Addr}{tk:Tok}{tF:Tok}{tE:Tok}{cdNoText:ClassData}(X:K.In h)(G:h.Ns mainGlobals mg)(hfa:mg "law"=some (.ref fa))
  {odI anI odU anU odV anV odι anι odN anN odν anν odτ anτ odT anT odψ anψ odC anC odH anH odA anA odO anO odD anD odW anW odG anG odE anE odω anω odL anL odR anR odS anS odZ anZ:Option Addr}{slI slU slV slι slN slν slτ slT slψ slC slH slA slO slD slW slG slE slω slL slR slS slZ:Array (Option Value)}
  {ocI kVI dcI pmI cdI ctI ocU kVU dcU pmU cdU ctU ocV kVV dcV pmV cdV ctV ocι kVι dcι pmι cdι ctι ocN kVN dcN pmN cdN ctN ocν kVν dcν pmν cdν ctν ocτ kVτ dcτ pmτ cdτ ctτ ocT kVT dcT pmT cdT ctT ocψ kVψ dcψ pmψ cdψ ctψ ocC kVC dcC pmC cdC ctC ocH kVH dcH pmH cdH ctH ocA kVA dcA pmA cdA ctA ocO kVO dcO pmO cdO ctO ocD kVD dcD pmD cdD ctD ocW kVW dcW pmW cdW ctW ocG kVG dcG pmG cdG ctG ocE kVE dcE pmE cdE ctE ocω kVω dcω pmω cdω ctω ocL kVL dcL pmL cdL ctL ocR kVR dcR pmR cdR ctR ocS kVS dcS pmS cdS ctS ocZ kVZ dcZ pmZ cdZ ctZ:Value}
  (aI:c9 K mainGlobals "is_place"=some (some (.ref fI)))(lI:K.lookup fI=some ⟨ocI,odI,.func (j5 "is_place" "is_place" (p7 al2) (o9 al2) (d8 al2) .none kVI dcI pmI anI cdI ctI),slI⟩)(cI:i8 K cdI "is_place"=true)(kI:g8 K (.ref fI)=true)
  (aU:c9 K mainGlobals "turned_up"=some (some (.ref fU)))(lU:K.lookup fU=some ⟨ocU,odU,.func (j5 "turned_up" "turned_up" (p7 sUp) (o9 sUp) (d8 sUp) .none kVU dcU pmU anU cdU ctU),slU⟩)(cU:i8 K cdU "turned_up"=true)(kU:g8 K (.ref fU)=true)
  (aV:c9 K mainGlobals "made"=some (some (.ref fV)))(lV:K.lookup fV=some ⟨ocV,odV,.func (j5 "made" "made" (p7 aa5) (o9 aa5) (d8 aa5) .none kVV dcV pmV anV cdV ctV),slV⟩)(cV:i8 K cdV "made"=true)(kV:g8 K (.ref fV)=true)
  (aι:c9 K mainGlobals "is_told"=some (some (.ref fι)))(lι:K.lookup fι=some ⟨ocι,odι,.func (j5 "is_told" "is_told" (p7 L8) (o9 L8) (d8 L8) .none kVι dcι pmι anι cdι ctι),slι⟩)(cι:i8 K cdι "is_told"=true)(kι:g8 K (.ref fι)=true)
  (aN:c9 K mainGlobals "is_number"=some (some (.ref fN)))(lN:K.lookup fN=some ⟨ocN,odN,.func (j5 "is_number" "is_number" (p7 ap5) (o9 ap5) (d8 ap5) .none kVN dcN pmN anN cdN ctN),slN⟩)(cN:i8 K cdN "is_number"=true)(kN:g8 K (.ref fN)=true)
  (aν:c9 K mainGlobals "number_within"=some (some (.ref fν)))(lν:K.lookup fν=some ⟨ocν,odν,.func (j5 "number_within" "number_within" (p7 sNW) (o9 sNW) (d8 sNW) .none kVν dcν pmν anν cdν ctν),slν⟩)(cν:i8 K cdν "number_within"=true)(kν:g8 K (.ref fν)=true)
  (aτ:c9 K mainGlobals "tie_in"=some (some (.ref fτ)))(lτ:K.lookup fτ=some ⟨ocτ,odτ,.func (j5 "tie_in" "tie_in" (p7 N9) (o9 N9) (d8 N9) .none kVτ dcτ pmτ anτ cdτ ctτ),slτ⟩)(cτ:i8 K cdτ "tie_in"=true)(kτ:g8 K (.ref fτ)=true)
  (aT:c9 K mainGlobals "web_text"=some (some (.ref fT)))(lT:K.lookup fT=some ⟨ocT,odT,.func (j5 "web_text" "web_text" (p7 ae1) (o9 ae1) (d8 ae1) .none kVT dcT pmT anT cdT ctT),slT⟩)(cT:i8 K cdT "web_text"=true)(kT:g8 K (.ref fT)=true)
  (aψ:c9 K mainGlobals "web_in"=some (some (.ref fψ)))(lψ:K.lookup fψ=some ⟨ocψ,odψ,.func (j5 "web_in" "web_in" (p7 Q3) (o9 Q3) (d8 Q3) .none kVψ dcψ pmψ anψ cdψ ctψ),slψ⟩)(cψ:i8 K cdψ "web_in"=true)(kψ:g8 K (.ref fψ)=true)
  (aC:c9 K mainGlobals "_law_cell_at"=some (some (.ref fC)))(lC:K.lookup fC=some ⟨ocC,odC,.func (j5 "_law_cell_at" "_law_cell_at" (p7 ae3) (o9 ae3) (d8 ae3) .none kVC dcC pmC anC cdC ctC),slC⟩)(cC:i8 K cdC "_law_cell_at"=true)(kC:g8 K (.ref fC)=true)
  (aH:c9 K mainGlobals "_law_whole"=some (some (.ref fH)))(lH:K.lookup fH=some ⟨ocH,odH,.func (j5 "_law_whole" "_law_whole" (p7 Q1) (o9 Q1) (d8 Q1) .none kVH dcH pmH anH cdH ctH),slH⟩)(cH:i8 K cdH "_law_whole"=true)(kH:g8 K (.ref fH)=true)
  (aA:c9 K mainGlobals "_law_alike"=some (some (.ref fA)))(lA:K.lookup fA=some ⟨ocA,odA,.func (j5 "_law_alike" "_law_alike" (p7 Q4) (o9 Q4) (d8 Q4) .none kVA dcA pmA anA cdA ctA),slA⟩)(cA:i8 K cdA "_law_alike"=true)(kA:g8 K (.ref fA)=true)
  (aO:c9 K mainGlobals "_law_row"=some (some (.ref fO)))(lO:K.lookup fO=some ⟨ocO,odO,.func (j5 "_law_row" "_law_row" (p7 ap4) (o9 ap4) (d8 ap4) .none kVO dcO pmO anO cdO ctO),slO⟩)(cO:i8 K cdO "_law_row"=true)(kO:g8 K (.ref fO)=true)
  (aD:c9 K mainGlobals "_law_ties"=some (some (.ref fD)))(lD:K.lookup fD=some ⟨ocD,odD,.func (j5 "_law_ties" "_law_ties" (p7 ae2) (o9 ae2) (d8 ae2) .none kVD dcD pmD anD cdD ctD),slD⟩)(cD:i8 K cdD "_law_ties"=true)(kD:g8 K (.ref fD)=true)
  (aW:c9 K mainGlobals "_law_web_text"=some (some (.ref fW)))(lW:K.lookup fW=some ⟨ocW,odW,.func (j5 "_law_web_text" "_law_web_text" (p7 U5) (o9 U5) (d8 U5) .none kVW dcW pmW anW cdW ctW),slW⟩)(cW:i8 K cdW "_law_web_text"=true)(kW:g8 K (.ref fW)=true)
  (aG:c9 K mainGlobals "_law_figures"=some (some (.ref fG)))(lG:K.lookup fG=some ⟨ocG,odG,.func (j5 "_law_figures" "_law_figures" (p7 ap6) (o9 ap6) (d8 ap6) .none kVG dcG pmG anG cdG ctG),slG⟩)(cG:i8 K cdG "_law_figures"=true)(kG:g8 K (.ref fG)=true)
  (aE:c9 K mainGlobals "_law_tie"=some (some (.ref fE)))(lE:K.lookup fE=some ⟨ocE,odE,.func (j5 "_law_tie" "_law_tie" (p7 al0) (o9 al0) (d8 al0) .none kVE dcE pmE anE cdE ctE),slE⟩)(cE:i8 K cdE "_law_tie"=true)(kE:g8 K (.ref fE)=true)
  (aω:c9 K mainGlobals "_law_web_of"=some (some (.ref fω)))(lω:K.lookup fω=some ⟨ocω,odω,.func (j5 "_law_web_of" "_law_web_of" (p7 Q2) (o9 Q2) (d8 Q2) .none kVω dcω pmω anω cdω ctω),slω⟩)(cω:i8 K cdω "_law_web_of"=true)(kω:g8 K (.ref fω)=true)
  (aL:c9 K mainGlobals "_law_told"=some (some (.ref fL)))(lL:K.lookup fL=some ⟨ocL,odL,.func (j5 "_law_told" "_law_told" (p7 aa4) (o9 aa4) (d8 aa4) .none kVL dcL pmL anL cdL ctL),slL⟩)(cL:i8 K cdL "_law_told"=true)(kL:g8 K (.ref fL)=true)
  (aR:c9 K mainGlobals "_law_right"=some (some (.ref fR)))(lR:K.lookup fR=some ⟨ocR,odR,.func (j5 "_law_right" "_law_right" (p7 U4) (o9 U4) (d8 U4) .none kVR dcR pmR anR cdR ctR),slR⟩)(cR:i8 K cdR "_law_right"=true)(kR:g8 K (.ref fR)=true)
  (aS:c9 K mainGlobals "_law_spoiled"=some (some (.ref fS)))(lS:K.lookup fS=some ⟨ocS,odS,.func (j5 "_law_spoiled" "_law_spoiled" (p7 U3) (o9 U3) (d8 U3) .none kVS dcS pmS anS cdS ctS),slS⟩)(cS:i8 K cdS "_law_spoiled"=true)(kS:g8 K (.ref fS)=true)
  (aZ:c9 K mainGlobals "law"=some (some (.ref fZ)))(lZ:K.lookup fZ=some ⟨ocZ,odZ,.func (j5 "law" "law" (p7 al1) (o9 al1) (d8 al1) .none kVZ dcZ pmZ anZ cdZ ctZ),slZ⟩)(cZ:i8 K cdZ "law"=true)(kZ:g8 K (.ref fZ)=true)
  (mo:c9 K mainGlobals "MOST_PLACES"=some (some (.int 24 tk)))
  (fg:c9 K mainGlobals "FIGURES"=some (some (.str "0123456789" tF)))
  (me:c9 K mainGlobals "MOST_FIGURES_OF_END"=some (some (.int 2 tE)))
  (aTallyError:c9 K mainGlobals "TallyError"=some (some (.ref CTallyError)))
  (aBadWeb:c9 K mainGlobals "BadWeb"=some (some (.ref CBadWeb)))
  (aNoPlace:c9 K mainGlobals "NoPlace"=some (some (.ref CNoPlace)))
  (aNoText:c9 K mainGlobals "NoText"=some (some (.ref CNoText)))
  (qNoText:PySem.W.excIn K CNoText [.type "ValueError",.type "Exception",.type "BaseException",.type "object"] "ValueError.__new__"=true)
  (gaNoText:PySem.W.findIn K (.ref CNoText) "__getattribute__"=some (some (.builtin "BaseException.__getattribute__")))
  (naNoText:PySem.W.findIn K (.ref CNoText) "__getattr__"=some none)
  (clNoText:PySem.W.findIn K (.ref CNoText) "__class__"=some (some (.builtin "object.__class__")))
  (sbNoText:PySem.W.subIn K (.ref CNoText) (.type "BaseException")=some true)
  (soNoText:PySem.W.subIn K (.ref CNoText) (.type "object")=some true)
  (csNoText:PySem.W.clsIn K CNoText=some cdNoText)
  (xmNoText:PySem.W.exmOne K (.ref CNoText) (.ref CTallyError)=some true)
  (i0NoText:PySem.W.kitOne K (.ref CNoText) (.ref CNoText)=some true)
  (i1NoText:PySem.W.kitOne K (.ref CNoText) (.type "ValueError")=some true)
  (i2NoText:PySem.W.kitAny K (.ref CNoText) [.ref CBadWeb,.ref CNoPlace]=some false)
  (qBadWeb:PySem.W.excIn K CBadWeb [.type "ValueError",.type "Exception",.type "BaseException",.type "object"] "ValueError.__new__"=true)
  (xmBadWeb:PySem.W.exmOne K (.ref CBadWeb) (.ref CBadWeb)=some true)
  (z1:c9 K mainGlobals "len"=some none)
  (z2:c9 K mainGlobals "range"=some none)
  (z3:c9 K mainGlobals "enumerate"=some none)
  (z4:c9 K mainGlobals "list"=some none)
  (z5:c9 K mainGlobals "tuple"=some none)
  (z6:c9 K mainGlobals "sorted"=some none)
  (z7:c9 K mainGlobals "set"=some none)
  (z8:c9 K mainGlobals "isinstance"=some none)
  (z9:c9 K mainGlobals "int"=some none)
  (z10:c9 K mainGlobals "bool"=some none)
  (z11:c9 K mainGlobals "min"=some none)
  (z12:c9 K mainGlobals "max"=some none)
  (z13:c9 K mainGlobals "sum"=some none)
  (z14:c9 K mainGlobals "str"=some none)
  (z15:c9 K mainGlobals "ValueError"=some none)
  (z16:c9 K mainGlobals "reversed"=some none)
  (z17:c9 K mainGlobals "all"=some none) :
  ∃ fd:FuncData,(∀ (s:Shared) (v:Value),BindsTo s fd ⟨[v],[]⟩ [("script",v)])/\∀ base:Heap,K.In base->base.Ns mainGlobals mg->p8 l.prog w K mg base CX0 8 fa fd ["script"] (ay2 K):=by
 have e:=hfa.symm.trans (i6 X G aZ)
 cases e
 have B:Bn mg:=⟨j9 X G z1,j9 X G z2,j9 X G z3,j9 X G z4,j9 X G z5,j9 X G z6,j9 X G z7,j9 X G z8,j9 X G z9,j9 X G z10,j9 X G z11,j9 X G z12,j9 X G z13,j9 X G z14,j9 X G z15,j9 X G z16,j9 X G z17⟩
 have FI:=B6 (st:=al2) lI cI kI
 have bI:=FI.binds (ps:=["places","number"]) fun _ _ _ _ _ _=>ls2 fun _ _=>rfl
 have FU:=B6 (st:=sUp) lU cU kU
 have bU:=FU.binds (ps:=["places","tie"]) fun _ _ _ _ _ _=>ls2 fun _ _=>rfl
 have FV:=B6 (st:=aa5) lV cV kV
 have bV:=FV.binds (ps:=["places","ties"]) fun _ _ _ _ _ _=>ls2 fun _ _=>rfl
 have Fι:=B6 (st:=L8) lι cι kι
 have bι:=Fι.binds (ps:=["web"]) fun _ _ _ _ _ _=>ls1 fun _=>rfl
 have FN:=B6 (st:=ap5) lN cN kN
 have bN:=FN.binds (ps:=["word","most"]) fun _ _ _ _ _ _=>ls2 fun _ _=>rfl
 have Fν:=B6 (st:=sNW) lν cν kν
 have bν:=Fν.binds (ps:=["word","most"]) fun _ _ _ _ _ _=>ls2 fun _ _=>rfl
 have Fτ:=B6 (st:=N9) lτ cτ kτ
 have bτ:=Fτ.binds (ps:=["word"]) fun _ _ _ _ _ _=>ls1 fun _=>rfl
 have FT:=B6 (st:=ae1) lT cT kT
 have bT:=FT.binds (ps:=["web"]) fun _ _ _ _ _ _=>ls1 fun _=>rfl
 have Fψ:=B6 (st:=Q3) lψ cψ kψ
 have bψ:=Fψ.binds (ps:=["row","places"]) fun _ _ _ _ _ _=>ls2 fun _ _=>rfl
 have FC:=B6 (st:=ae3) lC cC kC
 have bC:=FC.binds (ps:=["script","k"]) fun _ _ _ _ _ _=>ls2 fun _ _=>rfl
 have FH:=B6 (st:=Q1) lH cH kH
 have bH:=FH.binds (ps:=["found"]) fun _ _ _ _ _ _=>ls1 fun _=>rfl
 have FA:=B6 (st:=Q4) lA cA kA
 have bA:=FA.binds (ps:=["found","due"]) fun _ _ _ _ _ _=>ls2 fun _ _=>rfl
 have FO:=B6 (st:=ap4) lO cO kO
 have bO:=FO.binds (ps:=["cell","many","size"]) fun _ _ _ _ _ _=>ls3 fun _ _ _=>rfl
 have FD:=B6 (st:=ae2) lD cD kD
 have bD:=FD.binds (ps:=["cell","places"]) fun _ _ _ _ _ _=>ls2 fun _ _=>rfl
 have FW:=B6 (st:=U5) lW cW kW
 have bW:=FW.binds (ps:=["ties"]) fun _ _ _ _ _ _=>ls1 fun _=>rfl
 have FG:=B6 (st:=ap6) lG cG kG
 have bG:=FG.binds (ps:=["word","most"]) fun _ _ _ _ _ _=>ls2 fun _ _=>rfl
 have FE:=B6 (st:=al0) lE cE kE
 have bE:=FE.binds (ps:=["word"]) fun _ _ _ _ _ _=>ls1 fun _=>rfl
 have Fω:=B6 (st:=Q2) lω cω kω
 have bω:=Fω.binds (ps:=["row","places"]) fun _ _ _ _ _ _=>ls2 fun _ _=>rfl
 have FL:=B6 (st:=aa4) lL cL kL
 have bL:=FL.binds (ps:=["row","places"]) fun _ _ _ _ _ _=>ls2 fun _ _=>rfl
 have FR:=B6 (st:=U4) lR cR kR
 have bR:=FR.binds (ps:=["row","places"]) fun _ _ _ _ _ _=>ls2 fun _ _=>rfl
 have FS:=B6 (st:=U3) lS cS kS
 have bS:=FS.binds (ps:=["row","cell"]) fun _ _ _ _ _ _=>ls2 fun _ _=>rfl
 have FZ:=B6 (st:=al1) lZ cZ kZ
 exact⟨j5 "law" "law" (p7 al1) (o9 al1) (d8 al1) .none kVZ dcZ pmZ anZ cdZ ctZ,fun s v=>.of_eq rfl,fun base _ _=>aY3 FZ B (i6 X G mo) (i6 X G fg) (i6 X G me) FI bI (i6 X G aI) FU bU (i6 X G aU) FV bV (i6 X G aV) Fι bι (i6 X G aι) FN bN (i6 X G aN) Fν bν (i6 X G aν) Fτ bτ (i6 X G aτ) FT bT (i6 X G aT) Fψ bψ (i6 X G aψ) FC bC (i6 X G aC) FH bH (i6 X G aH) FA bA (i6 X G aA) FO bO (i6 X G aO) FD bD (i6 X G aD) FW bW (i6 X G aW) FG bG (i6 X G aG) FE bE (i6 X G aE) Fω bω (i6 X G aω) FL bL (i6 X G aL) FR bR (i6 X G aR) FS bS (i6 X G aS) ⟨i6 X G aTallyError,i6 X G aNoText,i6 X G aBadWeb,i6 X G aNoPlace,⟨qNoText⟩,⟨gaNoText,naNoText,clNoText,sbNoText,soNoText,by rw[csNoText];rfl⟩,xmNoText,i0NoText,i1NoText,i2NoText⟩ ⟨qBadWeb⟩ xmBadWeb⟩
theorem walk {l:PySem.W.OpenLaw} {q:Program} {loose:List Str} {XP:(Str->Option Value)->Heap->Prop} {YP:World->Heap->Prop} {d:DefRec} {K:Params->PySem.W.Frag} (hn:l.most=some 63) (hdf:d.params.defaults=[])
  (hY:∀ (w:World) (h:Heap),YP w h->(K w.params).In h)
  (F : ∀ (w : World) (mg : Str -> Option Value) (fa : Addr) (h : Heap), (K w.params).In h -> h.Ns mainGlobals mg -> mg d.name = some (.ref fa) ->
   ∃ fd:FuncData,(∀ (s:Shared) (u:Value),BindsTo s fd ⟨[u],[]⟩ [("script",u)])/\∀ base:Heap,(K w.params).In base->base.Ns mainGlobals mg->p8 l.prog w (K w.params) mg base CX0 8 fa fd ["script"] (ay2 (K w.params))) :
  PySem.W.WalkO q loose XP YP l.row.toRowW d [] (fun f vs=>PySem.call f vs):=
 L2.walk_of (n:=63) (k:=8) (x:="script") (CX:=fun _=>CX0) (sp:=fun w=>ay2 (K w.params)) hn (by decide) hdf ⟨rfl,by decide,by decide⟩ hY F (fun _ _ a ns hl _ hS=>⟨a,ns,rfl,hS,hl,fun _=>rfl⟩) fun _ _ _ _ _ z=>z
end Web
set_option Elab.async false
namespace PySem.W.Fast
def tw7929108236923345833:=0
def tw9021129577415125769:=0
def tw17379709400052830073:=0
def tw220970506153426611:=0
def tw13434435408184579287:=0
def tw7595432238060420628:=0
def tw7767186874849566398:=0
def tw16717668989804354636:=0
def tw14999466696651174602:=0
def tw2125344250236509757:=0
def tw5976996026515169382:=0
def tw18246707918983359643:=0
def tw11950758821063260668:=0
def tw7324882914478671075:=0
def tw11892819993878498393:=0
def tw10593912046129929039:=0
def tw10265736108753574125:=0
def tw12539527415396459975:=0
def tw11851994931562182523:=0
def tw18180192902185003181:=0
def tw9341608491655957543:=0
def tw11420929185547925486:=0
def tw13189773008001351264:=0
def tw16491480603703092229:=0
def tw15591222197269934170:=0
def tw8596143748472533765:=0
def tw6086328649657336493:=0
def tw7425478345823728304:=0
def tw2002585040873194878:=0
def tw16212634015794352115:=0
def tw1396794990653583397:=0
def tw8221800727651967158:=0
def tw13227003131937621759:=0
def tw8739348635530769055:=0
def tw6830331599631773756:=0
def tw17934626269345754304:=0
def tw5745857234611837776:=0
def tw16671272303155894233:=0
def tw9405245919557693048:=0
def tw16565815378718500720:=0
def tw12514656390504189618:=0
def tw15296923826906435992:=0
def tw1245650673771442277:=0
def tw17725171151159285473:=0
def tw14032365121525441681:=0
def tw119252355649466554:=0
def tw13583912239641096390:=0
def tw8675329889539246611:=0
def tw4187124368577669984:=0
def tw13645220111037768374:=0
def tw12615631547637503229:=0
def tw9669015989913983593:=0
def tw6096751002307301381:=0
def tw10802304175425443574:=0
def tw10533065566439184653:=0
def tw2182647653136050691:=0
def tw4060984954101111451:=0
def tw3264588070676607926:=0
def tw18016463060063581231:=0
def tw13798345225097791445:=0
def tw5282319558576614965:=0
def tw10559093672666692921:=0
def tw875003532723350936:=0
def tw15255099638541899445:=0
def tw9298155508359226694:=0
def tw1158628417495026683:=0
def tw6904902962622024162:=0
def tw520899560417074315:=0
def tw5822110957608580859:=0
def tw12055995229492202880:=0
def tw17916509331099447471:=0
def tw9564483376808582349:=0
def tw14121957263489946709:=0
def tw4319551772456659033:=0
def tw8430063047741563300:=0
def tw2256035869419498898:=0
def tw15902085047245652097:=0
def tw13866610894281779625:=0
def tw18412783900468899159:=0
def tw9455738506497491239:=0
def tw5154490566736394806:=0
def tw4811197755632974120:=0
def tw17274228727829672268:=0
def tw8764594965421540746:=0
def tw7504554052481430115:=0
def tw8217481822362518440:=0
def tw6443422406019846163:=0
def tw13408963948022127808:=0
def tw1202875034053153765:=0
def tw17423649071622187488:=0
def tw8204440219867736761:=0
def tw553829517624013488:=0
def tw1124673293064865690:=0
def tw10174103792821912276:=0
def tw5031654452866772833:=0
def tw3145029209538997179:=0
def tw953659659217216109:=0
def tw16678569520427233975:=0
def tw18007128844504739300:=0
def tw18130361578721305700:=0
def tw7872627925620396416:=0
def tw5229838450415846497:=0
def tw7520752709801313974:=0
def tw1531315852089838237:=0
def tw9561397235768227501:=0
def tw13529627669183665213:=0
def tw13331156550022978458:=0
def tw17179920997069385898:=0
def tw16831443882931315934:=0
def tw2939826110092555281:=0
def tw16372378462805974172:=0
def tw950789117899751345:=0
def tw18162090401101764414:=0
def tw1432750313236880448:=0
def tw12059520668216411451:=0
def tw10295844632868678091:=0
def tw11376199134347031758:=0
def tw1830921091675084534:=0
def tw3389557434152157862:=0
def tw1036658780529234061:=0
def tw1797284802168198136:=0
def tw4293214195564194172:=0
def tw5287656245647797910:=0
def tw13553588608185055451:=0
def tw17235851895652888739:=0
def tw2595951188952205610:=0
def tw7014781547796722504:=0
def tw5769675863142388111:=0
end PySem.W.Fast
open PySem PySem.W PyProof.Rows
set_option maxRecDepth 100000 in
set_option maxHeartbeats 0 in
theorem PySem.Challenge.cw_tallyweb_k61_rows_of_webs_holds : PySem.Challenge.rw_tallyweb_k61_rows_of_webs.Holds := by
 w_on; o_law; k_head; (case hw => w_witness2)
 k_fill
 refine Web.walk (l := PySem.Challenge.rw_tallyweb_k61_rows_of_webs) rfl rfl (fun w h Y => PySem.W.kIn_of Y) ?F
 case F =>
  intro w mg fa h KX G hmg
  refine' Web.all_mk KX G hmg ?aI ?lI ?cI ?kI ?aU ?lU ?cU ?kU ?aV ?lV ?cV ?kV ?aι ?lι ?cι ?kι ?aN ?lN ?cN ?kN ?aν ?lν ?cν ?kν ?aτ ?lτ ?cτ ?kτ ?aT ?lT ?cT ?kT ?aψ ?lψ ?cψ ?kψ ?aC ?lC ?cC ?kC ?aH ?lH ?cH ?kH ?aA ?lA ?cA ?kA ?aO ?lO ?cO ?kO ?aD ?lD ?cD ?kD ?aW ?lW ?cW ?kW ?aG ?lG ?cG ?kG ?aE ?lE ?cE ?kE ?aω ?lω ?cω ?kω ?aL ?lL ?cL ?kL ?aR ?lR ?cR ?kR ?aS ?lS ?cS ?kS ?aZ ?lZ ?cZ ?kZ ?mo ?fg ?me ?aTallyError ?aBadWeb ?aNoPlace ?aNoText ?qNoText ?gaNoText ?naNoText ?clNoText ?sbNoText ?soNoText ?csNoText ?xmNoText ?i0NoText ?i1NoText ?i2NoText ?qBadWeb ?xmBadWeb ?z1 ?z2 ?z3 ?z4 ?z5 ?z6 ?z7 ?z8 ?z9 ?z10 ?z11 ?z12 ?z13 ?z14 ?z15 ?z16 ?z17
  (case aI => k_is); (case lI => k_is); (case cI => k_is); (case kI => k_is)
  (case aU => k_is); (case lU => k_is); (case cU => k_is); (case kU => k_is)
  (case aV => k_is); (case lV => k_is); (case cV => k_is); (case kV => k_is)
  (case aι => k_is); (case lι => k_is); (case cι => k_is); (case kι => k_is)
  (case aN => k_is); (case lN => k_is); (case cN => k_is); (case kN => k_is)
  (case aν => k_is); (case lν => k_is); (case cν => k_is); (case kν => k_is)
  (case aτ => k_is); (case lτ => k_is); (case cτ => k_is); (case kτ => k_is)
  (case aT => k_is); (case lT => k_is); (case cT => k_is); (case kT => k_is)
  (case aψ => k_is); (case lψ => k_is); (case cψ => k_is); (case kψ => k_is)
  (case aC => k_is); (case lC => k_is); (case cC => k_is); (case kC => k_is)
  (case aH => k_is); (case lH => k_is); (case cH => k_is); (case kH => k_is)
  (case aA => k_is); (case lA => k_is); (case cA => k_is); (case kA => k_is)
  (case aO => k_is); (case lO => k_is); (case cO => k_is); (case kO => k_is)
  (case aD => k_is); (case lD => k_is); (case cD => k_is); (case kD => k_is)
  (case aW => k_is); (case lW => k_is); (case cW => k_is); (case kW => k_is)
  (case aG => k_is); (case lG => k_is); (case cG => k_is); (case kG => k_is)
  (case aE => k_is); (case lE => k_is); (case cE => k_is); (case kE => k_is)
  (case aω => k_is); (case lω => k_is); (case cω => k_is); (case kω => k_is)
  (case aL => k_is); (case lL => k_is); (case cL => k_is); (case kL => k_is)
  (case aR => k_is); (case lR => k_is); (case cR => k_is); (case kR => k_is)
  (case aS => k_is); (case lS => k_is); (case cS => k_is); (case kS => k_is)
  (case aZ => k_is); (case lZ => k_is); (case cZ => k_is); (case kZ => k_is)
  (case mo => k_is); (case fg => k_is); (case me => k_is); (case aTallyError => k_is)
  (case aBadWeb => k_is); (case aNoPlace => k_is); (case aNoText => k_is); (case qNoText => k_exc)
  (case gaNoText => k_is); (case naNoText => k_is); (case clNoText => k_is); (case sbNoText => k_is)
  (case soNoText => k_is); (case csNoText => k_is); (case xmNoText => kts_exm); (case i0NoText => kit_is)
  (case i1NoText => kit_is); (case i2NoText => kit_is); (case qBadWeb => k_exc); (case xmBadWeb => kts_exm)
  (case z1 => k_is); (case z2 => k_is); (case z3 => k_is); (case z4 => k_is)
  (case z5 => k_is); (case z6 => k_is); (case z7 => k_is); (case z8 => k_is)
  (case z9 => k_is); (case z10 => k_is); (case z11 => k_is); (case z12 => k_is)
  (case z13 => k_is); (case z14 => k_is); (case z15 => k_is); (case z16 => k_is)
  (case z17 => k_is)
#print axioms PySem.Challenge.cw_tallyweb_k61_rows_of_webs_holds

