import PyProof.Rows.All
import Wide.All
import OpenK.AllK
import Wide.FinOn
import Lean
import PyProof.EqAt
import PyProof.EqKinds
import PyProof.TupleCall
import PyProof.Rows.SortRunsK
import PyProof.Rows.SortShellK
import KE.KSortTup
import PyProof.TupleKey
import PySem.SetOps
import PyProof.Rows.SetFrom
import PyProof.EnumFor
import PyProof.EnumStmt
import PyProof.EnumMake
import PyProof.P3Eq
import PyProof.NeData
import PyProof.P3In
import PyProof.Rows.SumAny
import KE.KLam
import KE.KSortKey
import PyProof.ListRange
import KE.KTryMore
import PyProof.NsDelKeeps
import PyProof.RulesAs
import PyProof.ExcBaseAll.ValueError
import PyProof.ExcArgsOwn
import KE.KIsAll
import PyProof.Rows.SortRev
import PyProof.TupleOfSeq
import PyProof.ListOps
import PyProof.AutoSeq1
import PyProof.Draws
import KE.KTupSum
import Wide.Txt2
import PyProof.Cells
import PyProof.Rows.TupAdd
import PyProof.DictWalks
import PyProof.ConsumeWalk
import PyProof.DictKeyH
import PyProof.ListNew
import PyProof.ConsumeS
import PyProof.WalksMore
import PySem.Challenge.RW_tallyweb_k29_pieces
set_option autoImplicit false
set_option linter.all false
set_option Elab.async false
set_option maxRecDepth 100000
open PySem.Heap renaming get?_push_of_some->a7,lt_size->b0,get?_push_size->b5,get?_update_other->k4,get?_update_self->k6,size_push->l8,get?_none_of_le->M0
open Nat renaming le_refl->a8,ne_of_lt->c3,lt_of_lt_of_le->g9,zero_le->i3,lt_succ_of_lt->j0,lt_irrefl->l6,le_trans->m9,le_succ->t7,ne_of_gt->u5,lt_trichotomy->A7,not_lt_zero->C2,succ_pos->D1,eq_zero_or_pos->D4,lt_or_ge->D6,le_of_lt_succ->G0,le_of_lt->K9,zero_add->L1,lt_or_eq_of_le->S3,le_add_right->X3,mod_lt->al9,not_lt->am1,div_div_eq_div_mul->at0,lt_trans->at7,testBit_two_pow->aA9
open List renaming length_map->b4,mem_of_getElem?->b6,mem_singleton->b8,mem_cons->b9,mem_append_right->c4,mem_cons_of_mem->c6,size_toArray->c7,mem_cons_self->c9,getElem?_eq_getElem->d4,getElem?_eq_some_iff->d5,length_append->d7,mem_append->g7,range->i7,getElem?_map->i8,map_append->i9,length_cons->j3,not_mem_nil->j5,mem_range->j7,mem_map->k7,getD_eq_getElem?_getD->k8,map_cons->k9,nodup_cons->m6,pairwise_iff_getElem->m7,take_add_one->n6,mem_append_left->o8,mem_iff_getElem?->t5,mem_filter->u1,length_range->u2,length_take->v3,take_of_length_le->w5,pairwise_map->w8,getElem?_of_mem->x3,lookup_cons->x6,getElem?_range->x8,append_nil->z0,length_set->A0,foldl_cons->A1,find?_cons->A2,pairwise_lt_range->A6,length_singleton->B0,length_nil->C0,range_succ->C1,getElem?_append_right->C7,getElem_range->C8,getElem?_append_left->D0,nodup_nil->D5,getElem_mem->G8,all_eq_true->G9,length_pos_of_mem->J7,length_filter_le->K8,filterMap_cons->N6,flatMap_append->N7,mem_filterMap->S1,sum_cons->S2,ext_getElem?->S9,append_assoc->T4,map_nil->V0,length_drop->X0,mem_flatMap->X1,take_length->X2,of_mem_zip->ab3,any_cons->am2,getElem?_set_self->am3,getElem?_eq_none->at1,map_map->at4,take_append_drop->at5,getElem?_set_ne->at6,range'->az0,map_congr_left->az1,set_cons_succ->aB1,filter_append->aB2,take_sublist->aF8,foldl_append->aF9,any_eq_true->aG1,filter_cons->aG2,perm_middle->aG3
open Bool renaming false_ne_true->b7,false_eq_true->e8,and_eq_true->v5,not_true->G2,eq_iff_iff->K7,not_false->af4,or_false->al8,true_and->am0
open Array renaming getElem?_toList->c5,length_toList->d8,getElem?_eq_none->v7,getElem?_eq_getElem->x4,size_extract->y6,mem_toList_iff->L0,getElem?_append_left->ab4,getElem?_eq_some_iff->ab5,size_map->ab6,getElem?_replicate->af3,toArray_toList->at3,forIn_toList->ay9,getD->aB0,toList_push->aB3,size_push->aG0
open PySem.W renaming nsIn->d9,mg_none_of->i6,keepIn->j2,fnOf->j9,codeIn->k5,mg_of->m4
open Int renaming toNat_natCast->n9,emod_lt_of_pos->D2,emod_nonneg->L3,toNat->at8
open Option renaming isSome_iff_exists->t9,isSome_some->at9,isSome_map->az2,getD_none->aA8
namespace L2
open PySem PySem.Spec PyProof.Rows
abbrev Key:=Sum Int Str
def Q6:Key->Value->Bool
 | .inl k,v=>Value.isInt k v
 | .inr x,v=>Value.isStrOf x v
def aL9 (w:World):Key->Int
 | .inl k=>hashInt k
 | .inr x=>hashStr w x
theorem o5:∀ {k:Key} {v:Value},Q6 k v=true->(∃ i t,k=Sum.inl i/\v=Value.int i t)\/(∃ x t,k=Sum.inr x/\v=Value.str x t)
 | .inl i,v,h=>by
  obtain⟨t,e⟩:=Value.isInt_shape (k:=i) (v:=v) h
  exact .inl ⟨i,t,rfl,e⟩
 | .inr x,v,h=>by
  obtain⟨t,e⟩:=Value.isStrOf_shape (x:=x) (v:=v) h
  exact .inr ⟨x,t,rfl,e⟩
theorem ak3 (i:Int)(t:Tok):Q6 (.inl i) (.int i t)=true:=by simp[Q6,Value.isInt]
theorem ak2 (x:Str)(t:Tok):Q6 (.inr x) (.str x t)=true:=by simp[Q6,Value.isStrOf]
theorem aD9 (a b:Int):decide ((Sum.inl a:Key)=Sum.inl b)=(a == b):=by
 by_cases e:a=b
 ·subst e;simp
 ·have h:¬ (Sum.inl a:Key)=Sum.inl b:=fun q=>e (Sum.inl.inj q)
  rw[decide_eq_false h]
  exact(beq_eq_false_iff_ne.mpr e).symm
theorem aD6 (a b:Str):decide ((Sum.inr a:Key)=Sum.inr b)=decide (a=b):=by
 by_cases e:a=b
 ·subst e;simp
 ·have h:¬ (Sum.inr a:Key)=Sum.inr b:=fun q=>e (Sum.inr.inj q)
  rw[decide_eq_false h,decide_eq_false e]
theorem aD8 (a:Int)(b:Str):decide ((Sum.inl a:Key)=Sum.inr b)=false:=decide_eq_false (fun q=>nomatch q)
theorem aD7 (a:Str)(b:Int):decide ((Sum.inr a:Key)=Sum.inl b)=false:=decide_eq_false (fun q=>nomatch q)
def p5 (prog:Program) (w:World):PySem.KeyKind prog w Key where
  is:=Q6
  hash:=aL9 w
  inj:=fun v a b ha hb=>by
    rcases o5 ha with⟨i,t,rfl,rfl⟩ | ⟨x,t,rfl,rfl⟩
    · rcases o5 hb with⟨j,u,rfl,e⟩ | ⟨y,u,rfl,e⟩
      · injection e with e1 _;rw[e1]
      · exact nomatch e
    · rcases o5 hb with⟨j,u,rfl,e⟩ | ⟨y,u,rfl,e⟩
      · exact nomatch e
      · injection e with e1 _;rw[e1]
  byValue := fun k v h => by
    rcases o5 h with⟨i,t,rfl,rfl⟩ | ⟨x,t,rfl,rfl⟩<;>rfl
  pyHash:=fun hv h=>by
    rcases o5 hv with⟨i,t,rfl,rfl⟩ | ⟨x,t,rfl,rfl⟩
    · exact wpAny_pyHash_int h
    · exact wpAny_pyHash_str h
  eqBool:=fun hu hv h=>by
    rcases o5 hu with⟨i,t,rfl,rfl⟩ | ⟨x,t,rfl,rfl⟩
    · rcases o5 hv with⟨j,u,rfl,rfl⟩ | ⟨y,u,rfl,rfl⟩
      · rw[aD9]at h;exact wpAny_eqBool_int h
      · rw[aD8]at h;exact SeqAt.EqAt.int_str i t y u _ _ _ _ h
    · rcases o5 hv with⟨j,u,rfl,rfl⟩ | ⟨y,u,rfl,rfl⟩
      · rw[aD7]at h;exact SeqAt.EqAt.str_int x t j u _ _ _ _ h
      · rw[aD6]at h;exact wpAny_eqBool_str h
  «strs»:=fun k x t v h=>by
    rcases o5 h with⟨i,u,rfl,e⟩ | ⟨y,u,rfl,e⟩
    · exact nomatch e
    · injection e with e1 _
      subst e1
      cases v<;>rfl
theorem Z7 (prog:Program)(w:World)(i:Int)(t:Tok):(p5 prog w).is (.inl i) (.int i t)=true:=ak3 i t
theorem Z6 (prog:Program)(w:World)(x:Str)(t:Tok):(p5 prog w).is (.inr x) (.str x t)=true:=ak2 x t
inductive V where
 | non | bl (b:Bool) | int (i:Int) | str (x:Str) | byt (b:Array UInt8) | flt (b:UInt64) | ref (a:Addr) | ty (n:String)
 deriving DecidableEq
def RelV:V->Value->Prop
 | .non,u=>u=Value.none
 | .bl b,u=>u=Value.bool b
 | .int i,u=>∃ t,u=Value.int i t
 | .str x,u=>∃ t,u=Value.str x t
 | .byt b,u=>∃ t,u=Value.bytes b t
 | .flt b,u=>∃ t,u=Value.float b t
 | .ref a,u=>u=Value.ref a
 | .ty n,u=>u=Value.type n
abbrev l7:List V->List Value->Prop:=Paired RelV
theorem l7.length {xs:List V}{us:List Value}(r:l7 xs us):xs.length=us.length:=Paired.length r
theorem l7.get:∀ {xs:List V} {us:List Value} {i:Nat} {x:V},l7 xs us->xs[i]?=some x->∃ u,us[i]?=some u/\RelV x u
 | _,_,_,_,.nil,e=>by simp at e
 | _,_,0,_,.cons r _,e=>by simp at e;subst e;exact⟨_,rfl,r⟩
 | _,_,i+1,x,.cons _ t,e=>by
  obtain⟨u,h1,h2⟩:=l7.get (i:=i) (x:=x) t (by simpa using e)
  exact⟨u,by simpa using h1,h2⟩
theorem l7.set {x:V}{u:Value}(r:RelV x u):∀ {xs:List V} {us:List Value} (i:Nat),l7 xs us->l7 (xs.set i x) (us.set i u)
 | _,_,_,.nil=>.nil
 | _,_,0,.cons _ t=>.cons r t
 | _,_,i+1,.cons q t=>.cons q (l7.set r i t)
theorem l7.append:∀ {xs ys:List V} {us ws:List Value},l7 xs us->l7 ys ws->l7 (xs++ys) (us++ws)
 | _,_,_,_,.nil,s=>s
 | _,_,_,_,.cons r t,s=>.cons r (l7.append t s)
theorem l7.take:∀ {xs:List V} {us:List Value} (n:Nat),l7 xs us->l7 (xs.take n) (us.take n)
 | _,_,0,_=>.nil
 | _,_,_+1,.nil=>.nil
 | _,_,n+1,.cons r t=>.cons r (l7.take n t)
theorem l7.drop:∀ {xs:List V} {us:List Value} (n:Nat),l7 xs us->l7 (xs.drop n) (us.drop n)
 | _,_,0,r=>r
 | _,_,_+1,.nil=>.nil
 | _,_,n+1,.cons _ t=>l7.drop n t
def af0:Option V->Option Value->Prop
 | some v,some u=>RelV v u
 | none,none=>True
 | _,_=>False
def KV {κ:Type}:List (κ × V)->List (κ × Value)->Prop:=Paired fun(p:κ × V) (q:κ × Value)=>p.1=q.1/\RelV p.2 q.2
def kV:Key->V
 | .inl i=>.int i
 | .inr x=>.str x
inductive HO where
  | lst (xs:List V)
  | tup (xs:List V)
  | dK (kvs:List (Key × V)) | dT (kvs:List (List Key × V))
  | set (S:Int->Bool) (n:Nat)
  | ins (C dx:Addr) (fs:List (Str × V))
  | own (x:Addr)
  | xd (fs:List (Str × V))
  | met (f x:Addr)
  | rng (lo hi:Int)
  | frz (o:Obj) (u:HO)
  | tbl (ps:Array Value)
  | ext (φ:Heap->Prop)
abbrev Hp:=Addr->Option HO
def upd (H:Hp)(a:Addr)(o:HO):Hp:=fun b=>if b=a then some o else H b
theorem d3 {H:Hp}{a:Addr}{o:HO}:upd H a o a=some o:=by unfold upd;rw[if_pos rfl]
theorem j1 {H:Hp}{a b:Addr}{o:HO}(h:b≠a):upd H a o b=H b:=by unfold upd;rw[if_neg h]
theorem aq6 {H:Hp}{a b:Addr}{o u:HO}(h:H a=some o)(h':H b=some u)(d:o≠u):a≠b:=by
 intro e;subst e;rw[h]at h';exact d (Option.some.inj h')
theorem l5 {H:Hp}{a b:Addr}{o:HO}(h:H a=some o)(h':H b=none):a≠b:=by
 intro e;subst e;rw[h]at h';cases h'
section
variable (P:Program) (w:World)
def q0 (H:Hp)(h:Heap)(a:Addr):HO->Prop
 | .lst xs=>xs.length<=sizeLine/\∃ (its:List Value) (n:Nat),l7 xs its/\h.get? a=some { cls:=.type "list",data:=.seq its.toArray n }
 | .tup xs=>xs.length<=sizeLine/\∃ its:List Value,l7 xs its/\IsTup h a its.toArray
 | .dK kvs=>kvs.length<=sizeLine/\(a == sysModules)=false/\∃ vs,KV kvs vs/\h.DictOf (p5 P w) a vs
 | .dT kvs=>kvs.length<=sizeLine/\(a == sysModules)=false/\∃ xs:List (List Key × Addr × Value),
   Paired (fun(p:List Key × V) (q:List Key × Addr × Value)=>p.1=q.1/\H q.2.1=some (.tup (p.1.map kV))/\RelV p.2 q.2.2) kvs xs /\
   ∃ o es ep,h.get? a=some o/\o.ExactDict/\o.data=.dict es ep/\es.toList=xs.map (entryOfKey (tupleKind (p5 P w)))/\(xs.map (·.1)).Nodup
 | .set S n=>h.SetOf (intKind P w) a S n
 | .ins C dx fs=>H dx=some (.own a)/\fs.length<=1000/\dx≠a/\h.get? a=some (PySem.W.instObj C dx) /\
   ∃ mA,h.Ns1 dx mA/\(∀ f,af0 (fs.lookup f) (mA f))/\PySem.Within mA (fs.map (·.1))
 | .own _=>∃ o,h.get? a=some o
 | .xd fs=>∃ mA,h.Ns1 a mA/\∀ f,af0 (fs.lookup f) (mA f)
 | .rng lo hi=>∃ t u v,h.get? a=some { cls:=.type "range",data:=.fields #[.int lo t,.int hi u,.int 1 v] }
 | .frz o u=>h.get? a=some o/\q0 H h a u
 | .tbl ps=>h.get? a=some { cls:=.none,data:=.fields ps }
 | .met f x=>h.get? a=some (PySem.W.methodObj (.ref f) (.ref x))
 | .ext φ=>φ h/\(∃ o,h.get? a=some o)/\∀ h1 h2:Heap,φ h1->(∀ o,h1.get? a=some o->h2.get? a=some o)->φ h2
def HOk (H:Hp)(h:Heap):Prop:=∀ a o,H a=some o->q0 P w H h a o
end
section
variable {P:Program} {w:World} {H H':Hp} {h h':Heap} {a:Addr} {o:HO}
theorem q0.lt (x:q0 P w H h a o):a<h.objs.size:=by
 cases o with
 | lst xs=>obtain⟨_,_,_,_,e⟩:=x;exact b0 e
 | tup xs=>obtain⟨_,_,_,p⟩:=x;exact p.lt
 | dK kvs=>obtain⟨_,_,_,_,o,_,_,e,_⟩:=x;exact b0 e
 | dT kvs=>obtain⟨_,_,_,_,o,_,_,e,_⟩:=x;exact b0 e
 | set S n=>obtain⟨o,_,_,_,e,_⟩:=x;exact b0 e
 | ins C dx fs=>obtain⟨_,_,_,e,_⟩:=x;exact b0 e
 | own y=>obtain⟨_,e⟩:=x;exact b0 e
 | xd fs=>obtain⟨_,⟨_,_,_,e,_⟩,_⟩:=x;exact b0 e
 | rng lo hi=>obtain⟨_,_,_,e⟩:=x;exact b0 e
 | frz ob u=>obtain⟨e,_⟩:=x;exact b0 e
 | tbl ps=>exact b0 (show h.get? a=some _ from x)
 | met f y=>exact b0 (show h.get? a=some _ from x)
 | ext φ=>obtain⟨_,⟨_,e⟩,_⟩:=x;exact b0 e
theorem Paired.mapP {α β:Type}{F G:α->β->Prop}:∀ {l₁:List α} {l₂:List β},Paired F l₁ l₂->(∀ a b,F a b->G a b)->Paired G l₁ l₂
 | _,_,.nil,_=>.nil
 | _,_,.cons r t,f=>.cons (f _ _ r) (Paired.mapP t f)
theorem q0.stay (x:q0 P w H h a o)(k:∀ b u,(b=a\/H b=some (.own a))->h.get? b=some u->h'.get? b=some u)
  (ho:∀ b,H b=some (.own a)->H' b=some (.own a))(ht:∀ b xs,H b=some (.tup xs)->H' b=some (.tup xs)):q0 P w H' h' a o:=by
 induction o with
 | lst xs=>obtain⟨z,its,n,r,e⟩:=x;exact⟨z,its,n,r,k _ _ (.inl rfl) e⟩
 | tup xs=>obtain⟨z,its,r,ob,e,c⟩:=x;exact⟨z,its,r,ob,k _ _ (.inl rfl) e,c⟩
 | dK kvs=>obtain⟨z,y,vs,r,ob,es,ep,e,c⟩:=x;exact⟨z,y,vs,r,ob,es,ep,k _ _ (.inl rfl) e,c⟩
 | dT kvs =>
  obtain⟨z,y,xs,r,ob,es,ep,e,c⟩:=x
  exact⟨z,y,xs,Paired.mapP r fun p q z=>⟨z.1,ht _ _ z.2.1,z.2.2⟩,ob,es,ep,k _ _ (.inl rfl) e,c⟩
 | set S n=>obtain⟨ob,es,ep,t,e,c⟩:=x;exact⟨ob,es,ep,t,k _ _ (.inl rfl) e,c⟩
 | ins C dx fs =>
  obtain⟨d,z,ne,e,mA,⟨od,es,ep,e2,c⟩,r⟩:=x
  exact⟨ho _ d,z,ne,k _ _ (.inl rfl) e,mA,⟨od,es,ep,k _ _ (.inr d) e2,c⟩,r⟩
 | own y=>obtain⟨ob,e⟩:=x;exact⟨ob,k _ _ (.inl rfl) e⟩
 | xd fs=>obtain⟨mA,⟨od,es,ep,e,c⟩,r⟩:=x;exact⟨mA,⟨od,es,ep,k _ _ (.inl rfl) e,c⟩,r⟩
 | rng lo hi=>obtain⟨t,u,v,e⟩:=x;exact⟨t,u,v,k _ _ (.inl rfl) e⟩
 | frz ob u ih=>obtain⟨e,q⟩:=x;exact⟨k _ _ (.inl rfl) e,ih q⟩
 | tbl ps =>
  have e:h.get? a=some { cls:=.none,data:=.fields ps }:=x
  show h'.get? a=some { cls:=.none,data:=.fields ps }
  exact k a _ (.inl rfl) e
 | met f y =>
  have e:h.get? a=some (PySem.W.methodObj (.ref f) (.ref y)):=x
  show h'.get? a=some (PySem.W.methodObj (.ref f) (.ref y))
  exact k a _ (.inl rfl) e
 | ext φ=>obtain⟨p,⟨o,e⟩,st⟩:=x;exact⟨st _ _ p fun o q=>k _ _ (.inl rfl) q,⟨o,k _ _ (.inl rfl) e⟩,st⟩
theorem HOk.lt (x:HOk P w H h)(e:H a=some o):a<h.objs.size:=(x a o e).lt
theorem HOk.fresh (x:HOk P w H h)(e:h.objs.size<=a):H a=none:=by
 cases q:H a with
 | none=>rfl
 | some u=>exact absurd (g9 (x.lt q) e) (l6 _)
theorem HOk.kept (x:HOk P w H h)(k:∀ b u,h.get? b=some u->h'.get? b=some u):HOk P w H h':=fun a o e =>
 (x a o e).stay (fun b u _ q=>k b u q) (fun _ q=>q) fun _ _ q=>q
theorem HOk.laid (x:HOk P w H h)(k:∀ b u,h.get? b=some u->h'.get? b=some u)(hp:h.objs.size<=a)(new:q0 P w (upd H a o) h' a o):HOk P w (upd H a o) h':=fun b u e=>by
 have hn:=x.fresh hp
 by_cases hb:b=a
 ·subst hb;rw[d3]at e;cases e;exact new
 ·rw[j1 hb]at e
  exact(x b u e).stay (fun c v _ q=>k c v q) (fun c q=>by rw[j1 (l5 q hn)];exact q) fun c xs q=>by rw[j1 (l5 q hn)];exact q
end
def Rd (H:Hp)(a:Addr)(u:HO):Prop:=H a=some u\/∃ o,H a=some (.frz o u)
theorem Rd.ok {P:Program}{w:World}{H:Hp}{h:Heap}{a:Addr}{u:HO}(r:Rd H a u)(x:HOk P w H h):q0 P w H h a u:=by
 rcases r with r | ⟨o,r⟩
 ·exact x a u r
 ·obtain⟨_,q⟩:=x a _ r
  exact q
def Mut:Option HO->Prop
 | some (.lst _)=>True
 | some (.dK _)=>True
 | some (.dT _)=>True
 | some (.set _ _)=>True
 | some (.ins _ _ _)=>True
 | some (.ext _)=>True
 | _=>False
section
variable {P:Program} {w:World} {H:Hp} {h h':Heap} {x e:Addr} {o':HO}
theorem HOk.write (ok:HOk P w H h)(mu:Mut (H x))(he:e=x\/H e=some (.own x))(k:∀ b u,b≠e->h.get? b=some u->h'.get? b=some u)(heo:∃ u,h'.get? e=some u)
  (new:q0 P w (upd H x o') h' x o'):HOk P w (upd H x o') h':=fun b u q=>by
 have nown:∀ c y,H c=some (.own y)->c≠x:=fun c y r z=>by subst z;rw[r]at mu;exact mu
 have ntup:∀ c xs,H c=some (.tup xs)->c≠x:=fun c xs r z=>by subst z;rw[r]at mu;exact mu
 by_cases hb:b=x
 ·subst hb;rw[d3]at q;cases q;exact new
 ·rw[j1 hb]at q
  by_cases hbe:b=e
  ·have q':H b=some (.own x):=by
    rcases he with z | z
    ·exact absurd (hbe.trans z) hb
    ·rw[hbe];exact z
   rw[q]at q';cases q'
   obtain⟨v,hv⟩:=heo
   exact⟨v,by rw[hbe];exact hv⟩
  ·refine(ok b u q).stay (fun c v hc r=>k c v ?_ r) (fun c r=>by rw[j1 (nown c b r)];exact r) fun c xs r=>by rw[j1 (ntup c xs r)];exact r
   rcases hc with rfl | hc
   ·exact hbe
   ·rintro rfl
    rcases he with z | z
    ·exact nown c b hc z
    ·rw[hc]at z;cases z;exact hb rfl
end
structure Un (fs ex:List Addr) (H H':Hp) (h h':Heap):Prop where
 keep:∀ b o,h.get? b=some o->H b=none->b∉fs->b∉ex->h'.get? b=some o
 slot:∀ b o,h.get? b=some o->H b=none->b∈fs->b∉ex->∃ sl,h'.get? b=some { o with slots:=sl }
 free:∀ b o,h.get? b=some o->H b=none->b∉ex->H' b=none
 there:∀ b o,h.get? b=some o->b∉ex->∃ o',h'.get? b=some o'
 tups:∀ b xs,H b=some (.tup xs)->H' b=some (.tup xs)
 frzs:∀ b o u,H b=some (.frz o u)->H' b=some (.frz o u)
 tbls:∀ b ps,H b=some (.tbl ps)->∃ more,H' b=some (.tbl (ps++more))
section
variable {fs fs' ex ex':List Addr} {H H1 H2:Hp} {h h1 h2 h':Heap} {a x e:Addr} {o:HO}
theorem Un.any (u:Un fs ex H H1 h h1){b:Addr}{ob:Obj}(q:h.get? b=some ob)(n:H b=none)(hx:b∉ex):∃ sl,h1.get? b=some { ob with slots:=sl }:=by
 by_cases hb:b∈fs
 ·exact u.slot b ob q n hb hx
 ·exact⟨ob.slots,u.keep b ob q n hb hx⟩
theorem Un.kept (k:∀ b u,h.get? b=some u->h'.get? b=some u):Un fs ex H H h h':=
 ⟨fun b ob q _ _ _=>k b ob q,fun b ob q _ _ _=>⟨ob.slots,k b ob q⟩,fun _ _ _ n _=>n,fun b ob q _=>⟨ob,k b ob q⟩,fun _ _ q=>q,fun _ _ _ q=>q,fun _ ps q=>⟨#[],by rw[q];simp⟩⟩
theorem Un.refl:Un fs ex H H h h:=Un.kept fun _ _ q=>q
theorem Un.laid (k:∀ b u,h.get? b=some u->h'.get? b=some u)(hp:h.objs.size<=a)(hn:H a=none):Un fs ex H (upd H a o) h h' where
 keep:=fun b u q _ _ _=>k b u q
 slot:=fun b u q _ _ _=>⟨u.slots,k b u q⟩
 free:=fun b u q n _=>by rw[j1 (c3 (g9 (b0 q) hp))];exact n
 there:=fun b u q _=>⟨u,k b u q⟩
 tups:=fun b xs q=>by rw[j1 (l5 q hn)];exact q
 frzs:=fun b u xs q=>by rw[j1 (l5 q hn)];exact q
 tbls:=fun b ps q=>⟨#[],by rw[j1 (l5 q hn),q];simp⟩
theorem Un.write (mu:Mut (H x))(he:e=x\/H e=some (.own x))(k:∀ b u,b≠e->h.get? b=some u->h'.get? b=some u)(heo:∃ u,h'.get? e=some u):Un fs ex H (upd H x o) h h':=by
 have hx:∀ b,H b=none->b≠x:=fun b n z=>by subst z;rw[n]at mu;exact mu
 have hb:∀ b,H b=none->b≠e:=fun b n z=>by
  subst z
  rcases he with r | r
  ·exact hx b n r
  ·rw[n]at r;cases r
 have hm:∀ b u,H b=some u->¬ Mut (some u)->b≠x:=fun b u q nm z=>by subst z;rw[q]at mu;exact nm mu
 refine⟨fun b u q n _ _=>k b u (hb b n) q,fun b u q n _ _=>⟨u.slots,k b u (hb b n) q⟩,fun b u q n _=>by rw[j1 (hx b n)];exact n,fun b u q _=>?_,
  fun b xs q=>by rw[j1 (hm b _ q fun z=>z)];exact q,fun b u xs q=>by rw[j1 (hm b _ q fun z=>z)];exact q,fun b ps q=>⟨#[],by rw[j1 (hm b _ q fun z=>z),q];simp⟩⟩
 by_cases hbe:b=e
 ·subst hbe;exact heo
 ·exact⟨u,k b u hbe q⟩
end
def trk (h:Heap)(H:Hp):List Addr:=(i7 h.objs.size).filter fun a=>(H a).isSome
def W5 (h:Heap)(H:Hp):Heap:=PySem.W.hideAll h (trk h H)
theorem ak6 (h:Heap)(H:Hp):(W5 h H).objs.size=h.objs.size:=PySem.W.hideAll_size _ _
theorem ar6 {h:Heap}{H:Hp}{b:Addr}{o:Obj}(e:h.get? b=some o)(n:H b=none):(W5 h H).get? b=some o:=
 PySem.W.hideAll_get _ e fun hm=>by
  have q:(H b).isSome=true:=(u1.mp hm).2
  rw[n]at q;simp at q
theorem aw8 {h:Heap}{H:Hp}{b:Addr}{o:Obj}(e:(W5 h H).get? b=some o):h.get? b=some o/\H b=none:=by
 have e':h.get? b=some o:=PySem.W.of_hideAll (trk h H) e
 refine⟨e',?_⟩
 cases q:H b with
 | none=>rfl
 | some x =>
  have hm:b∈trk h H:=u1.mpr ⟨j7.mpr (b0 e'),by simp[q]⟩
  have z:(W5 h H).get? b=none:=PySem.W.hideAll_none (trk h H) hm
  rw[z]at e;cases e
def ay7 (g h:Heap)(L:Addr):List (Addr × Obj):=(i7 h.objs.size).filterMap fun a=>if a=L\/(g.get? a).isSome=true then none else (h.get? a).map fun o=>(a,o)
def rest (g h:Heap)(L d:Addr):List (Addr × Obj):=(ay7 g h L).filter fun p=>decide (p.1≠d)
structure Mod (K:W.Frag) (mg:Str->Option Value) (base:Heap):Prop where
 kin:K.In base
 glob:base.Ns mainGlobals mg
 blt:∃ mb,base.Ns builtinsNs mb/\∀ x:Str,x≠"__name__"->mb x=bootBuiltins x
 nolimit:base.NoLimit
structure Cx where
 prog:Program
 w:World
 K:W.Frag
 mg:Str->Option Value
 base:Heap
 A:Around
 N:List Str
 s₀:Shared
 H₀:Hp
 env:Env
 outer:List Env
 stack:List Env
 ex:List Addr
 fn:Str->Bool
 calm:Bool
 pn:List (Addr × Obj)
 xe:Value->Shared->Prop
def frs (l:List Env):List Addr:=l.filterMap (·.frame)
abbrev Cx.fs (X:Cx):List Addr:=frs X.outer
def Vis (sc:Scope)(x:Str):Prop:=sc.names.lookup x=some .local\/sc.names.lookup x=some .cell\/sc.names.lookup x=some .free
def Loc (sc:Scope)(x:Str):Prop:=sc.names.lookup x=some .local\/sc.names.lookup x=some .cell
def Look (env:Env)(h:Heap)(m:Str->Option Value)(x:Str)(u:Value):Prop:=
 (env.kindOf x=some .local/\m x=some u)\/((env.kindOf x=some .cell\/env.kindOf x=some .free)/\∃ c,env.cells.lookup x=some c/\h.IsCell c (some u))
structure Cx.Ok (X:Cx):Prop where
 mod:Mod X.K X.mg X.base
 kind:X.env.scope.kind=.function
 glob:X.env.globals=mainGlobals
 blt:X.env.builtins=builtinsNs
 above:X.s₀.heap.objs.size<=X.env.locals
 inj:∀ x y c,X.env.cells.lookup x=some c->X.env.cells.lookup y=some c->x=y
 has:∀ x,(X.env.kindOf x=some .cell\/X.env.kindOf x=some .free)->∃ c,X.env.cells.lookup x=some c
 cab:∀ x c,X.fn x=true->X.env.cells.lookup x=some c->X.s₀.heap.objs.size<=c
 hd:X.calm=true->X.A.handled=none
 frames:X.A.frames=some X.stack
 stk:X.stack=X.outer\/(X.stack=X.env::X.outer/\X.env.frame=some X.env.locals)
 exf:∀ b∈X.ex,b≠X.env.locals/\∀ x c,X.env.cells.lookup x=some c->c≠b
 bs:∀ b o,X.base.get? b=some o->X.s₀.heap.get? b=some o/\X.H₀ b=none
 bsz:X.base.objs.size<=X.s₀.heap.objs.size
 noex:∀ b o,X.base.get? b=some o->b∉X.ex
 exfs:∀ b∈X.ex,b∉X.fs
 funs:X.s₀.heap.FunFrames X.base X.outer
 frf:∀ b∈X.fs,X.H₀ b=none
structure Inv (X:Cx) (pins:List (Addr × Obj)) (σ:List (Option V)) (H:Hp) (s:Shared):Prop where
 ok:X.Ok
 os:s.os=X.s₀.os
 bare:AllBare s.gens
 base:Un X.fs X.ex X.H₀ H X.s₀.heap s.heap
 loc:∃ m,s.heap.Ns X.env.locals m/\∀ (i:Nat) (x:Str) (v:V),X.N[i]?=some x->σ[i]?=some (some v)->Vis X.env.scope x->∃ u,RelV v u/\Look X.env s.heap m x u
 cell:∀ x c,X.env.cells.lookup x=some c->∃ v,s.heap.IsCell c v
 free:H X.env.locals=none
 freeC:∀ x c,X.env.cells.lookup x=some c->H c=none
 pin:∀ p∈X.pn++pins,s.heap.get? p.1=some p.2/\H p.1=none/\p.1≠X.env.locals/\p.1∉X.fs/\∀ v,p.2.data≠.cell v
 hok:HOk X.prog X.w H s.heap
 len:σ.length=X.N.length
section
variable {X:Cx} {pins:List (Addr × Obj)} {σ:List (Option V)} {H H':Hp} {s:Shared} {h':Heap}
theorem Cx.Ok.nofr (ok:X.Ok){b:Addr}{o:Obj}(e:X.base.get? b=some o):b∉X.fs:=fun hb=>by
 have:=(ok.funs.mem hb).1
 rw[e]at this;cases this
theorem Inv.bs (I:Inv X pins σ H s):∀ b o,X.base.get? b=some o->s.heap.get? b=some o/\H b=none:=fun b o e =>
 ⟨I.base.keep b o (I.ok.bs b o e).1 (I.ok.bs b o e).2 (I.ok.nofr e) (I.ok.noex b o e),I.base.free b o (I.ok.bs b o e).1 (I.ok.bs b o e).2 (I.ok.noex b o e)⟩
theorem Inv.bk (I:Inv X pins σ H s):∀ b o,X.base.get? b=some o->s.heap.get? b=some o:=fun b o e=>(I.bs b o e).1
theorem Inv.mod (I:Inv X pins σ H s):Mod X.K X.mg X.base:=I.ok.mod
theorem Inv.kIn (I:Inv X pins σ H s):X.K.In s.heap:=I.ok.mod.kin.keeps I.bk
theorem Inv.lt (I:Inv X pins σ H s):X.env.locals<s.heap.objs.size:=let ⟨_,hn,_⟩:=I.loc;hn.lt
theorem Inv.sz (I:Inv X pins σ H s):X.s₀.heap.objs.size<=s.heap.objs.size:=m9 I.ok.above (K9 I.lt)
theorem Inv.nofs (I:Inv X pins σ H s){a:Addr}(h:s.heap.objs.size<=a):a∉X.fs:=fun hb=>by
 obtain⟨_,o,ho,_⟩:=I.ok.funs.mem hb
 exact absurd (g9 (b0 ho) (m9 I.sz h)) (l6 _)
theorem Inv.cne (I:Inv X pins σ H s):∀ x c,X.env.cells.lookup x=some c->c≠X.env.locals:=fun x c e z=>by
 obtain⟨v,o,ho,hd⟩:=I.cell x c e
 obtain⟨m,⟨o',es,ep,ho',hd',_⟩,_⟩:=I.loc
 rw[z,ho']at ho;cases ho;rw[hd']at hd;cases hd
theorem Inv.funs (I:Inv X pins σ H s):s.heap.FunFrames X.base X.outer:=by
 have all:∀ (l:List Env),(∀ b∈frs l,b∈X.fs)->X.s₀.heap.FunFrames X.base l->s.heap.FunFrames X.base l:=by
  intro l
  induction l with
  | nil=>intro _ _;trivial
  | cons env r ih =>
   intro hs hl
   obtain⟨hk,⟨L,o,hf,hn,ho,hd⟩,hr⟩:=hl
   have hL:L∈X.fs:=hs L (by unfold frs;rw[N6,hf];exact c9)
   obtain⟨sl,e⟩:=I.base.slot L o ho (I.ok.frf L hL) hL fun z=>I.ok.exfs L z hL
   exact⟨hk,⟨L,_,hf,hn,e,hd⟩,ih (fun b hb=>hs b (by unfold frs;rw[N6,hf];exact c6 _ hb)) hr⟩
 exact all X.outer (fun _ hb=>hb) I.ok.funs
theorem Inv.stack (I:Inv X pins σ H s):s.heap.FunFrames X.base X.stack:=by
 rcases I.ok.stk with e | ⟨e,hf⟩
 ·rw[e];exact I.funs
 ·rw[e]
  obtain⟨m,hn,_⟩:=I.loc
  refine .cons (by rw[I.ok.kind];decide) hf hn ?_ I.funs
  exact M0 (m9 I.ok.bsz I.ok.above)
theorem Inv.stkSub (I:Inv X pins σ H s):∀ b∈frs X.stack,b∈X.env.locals::X.fs:=fun b hb=>by
 rcases I.ok.stk with e | ⟨e,hf⟩
 ·rw[e]at hb;exact c6 _ hb
 ·rw[e]at hb
  unfold frs at hb
  rw[N6,hf]at hb
  exact hb
theorem Inv.stkFree (I:Inv X pins σ H s):∀ b∈frs X.stack,H b=none:=fun b hb=>by
 rcases b9.mp (I.stkSub b hb) with e | hb
 ·rw[e];exact I.free
 ·obtain⟨_,o,ho,_⟩:=I.ok.funs.mem hb
  exact I.base.free b o ho (I.ok.frf b hb) fun z=>I.ok.exfs b z hb
theorem Inv.step {g':Array GenState}{t':Nat}{d':Drawn}{ch:List Addr}(I:Inv X pins σ H s)
  (hch:∀ b∈ch,(b∈X.ex\/X.s₀.heap.objs.size<=b)/\b≠X.env.locals/\(∀ x c,X.env.cells.lookup x=some c->c≠b)/\∀ p∈X.pn++pins,p.1≠b)
  (keep:∀ b o,b≠X.env.locals->b∉X.fs->b∉ch->s.heap.get? b=some o->H b=none->h'.get? b=some o)
  (slot:∀ b o,b≠X.env.locals->b∈X.fs->b∉ch->s.heap.get? b=some o->H b=none->∃ sl,h'.get? b=some { o with slots:=sl })(free:∀ b o,b∉ch->s.heap.get? b=some o->H b=none->H' b=none)
  (there:∀ b o,b∉ch->s.heap.get? b=some o->∃ o',h'.get? b=some o')
  (tups:∀ b xs,H b=some (.tup xs)->H' b=some (.tup xs))(frzs:∀ b o u,H b=some (.frz o u)->H' b=some (.frz o u))(tbls:∀ b ps,H b=some (.tbl ps)->∃ more,H' b=some (.tbl (ps++more)))
  (ns:∀ m,s.heap.Ns X.env.locals m->h'.Ns X.env.locals m)(hok:HOk X.prog X.w H' h')(hg:AllBare g') :
  Inv X pins σ H' { s with heap:=h',gens:=g',drawn:=d',toks:=t' }:=by
 have neL:∀ b o,X.s₀.heap.get? b=some o->b≠X.env.locals:=fun b o e=>c3 (g9 (b0 e) I.ok.above)
 have neC:∀ b o,X.s₀.heap.get? b=some o->b∉X.ex->b∉ch:=fun b o e hx hb=>by
  rcases(hch b hb).1 with z | z
  ·exact hx z
  ·exact absurd (g9 (b0 e) z) (l6 _)
 have cellK:∀ x c,X.env.cells.lookup x=some c->∀ v,s.heap.IsCell c v->h'.IsCell c v:=fun x c e v ⟨o,ho,hd⟩=>by
  have nch:c∉ch:=fun z=>(hch c z).2.2.1 x c e rfl
  by_cases hc:c∈X.fs
  ·obtain⟨sl,q⟩:=slot c o (I.cne x c e) hc nch ho (I.freeC x c e)
   exact⟨_,q,hd⟩
  ·exact⟨o,keep c o (I.cne x c e) hc nch ho (I.freeC x c e),hd⟩
 refine⟨I.ok,I.os,hg,⟨fun b o e n hb hx=>?_,fun b o e n hb hx=>?_,fun b o e n hx=>?_,fun b o e hx=>?_,fun b xs e=>tups b xs (I.base.tups b xs e),fun b o xs e=>frzs b o xs (I.base.frzs b o xs e),fun b ps e=>?_⟩,?_,fun x c e=>?_,?_,fun x c e=>?_,fun p hp=>?_,hok,I.len⟩
 ·exact keep b o (neL b o e) hb (neC b o e hx) (I.base.keep b o e n hb hx) (I.base.free b o e n hx)
 ·obtain⟨sl,e1⟩:=I.base.slot b o e n hb hx
  obtain⟨sl',e2⟩:=slot b _ (neL b o e) hb (neC b o e hx) e1 (I.base.free b o e n hx)
  exact⟨sl',e2⟩
 ·obtain⟨o',e1⟩:=I.base.there b o e hx
  exact free b o' (neC b o e hx) e1 (I.base.free b o e n hx)
 ·obtain⟨o',e1⟩:=I.base.there b o e hx
  exact there b o' (neC b o e hx) e1
 ·obtain⟨m1,e1⟩:=I.base.tbls b ps e
  obtain⟨m2,e2⟩:=tbls b _ e1
  exact⟨m1++m2,by rw[e2,Array.append_assoc]⟩
 ·obtain⟨m,hn,hl⟩:=I.loc
  refine⟨m,ns m hn,fun i x v e1 e2 e3=>?_⟩
  obtain⟨u,r,l⟩:=hl i x v e1 e2 e3
  refine⟨u,r,?_⟩
  rcases l with l | ⟨k,c,e,z⟩
  ·exact .inl l
  ·exact .inr ⟨k,c,e,cellK x c e _ z⟩
 ·obtain⟨v,z⟩:=I.cell x c e
  exact⟨v,cellK x c e v z⟩
 ·obtain⟨m,⟨o,_,_,ho,_⟩,_⟩:=I.loc
  exact free _ o (fun z=>(hch _ z).2.1 rfl) ho I.free
 ·obtain⟨v,o,ho,hd⟩:=I.cell x c e
  exact free c o (fun z=>(hch c z).2.2.1 x c e rfl) ho (I.freeC x c e)
 ·obtain⟨e,n,ne,nf,d⟩:=I.pin p hp
  have nch:p.1∉ch:=fun z=>(hch p.1 z).2.2.2 p hp rfl
  exact⟨keep p.1 p.2 ne nf nch e n,free p.1 p.2 nch e n,ne,nf,d⟩
theorem Inv.un {t':Nat}(I:Inv X pins σ H s)(u:Un X.fs [] H H' s.heap h')(hok:HOk X.prog X.w H' h'):Inv X pins σ H' { s with heap:=h',toks:=t' }:=by
 obtain⟨m,⟨o,es,ep,ho,r⟩,_⟩:=id I.loc
 obtain⟨sl,hL⟩:=u.any ho I.free (by simp)
 exact I.step (g':=s.gens) (d':=s.drawn) (ch:=[]) (fun _ z=>nomatch z) (fun b o _ hb _ e n=>u.keep b o e n hb (by simp)) (fun b o _ hb _ e n=>u.slot b o e n hb (by simp)) (fun b o _ e n=>u.free b o e n (by simp)) (fun b o _ e=>u.there b o e (by simp)) u.tups u.frzs u.tbls (fun m' hm=>by
  obtain⟨o',es',ep',ho',r'⟩:=hm
  rw[ho]at ho';cases ho'
  exact⟨_,es',ep',hL,r'⟩) hok I.bare
theorem Inv.call {g':Array GenState}{t':Nat}{d':Drawn}{ch:List Addr}(I:Inv X pins σ H s)(u:Un (frs X.stack) ch H H' s.heap h')(hok:HOk X.prog X.w H' h')(hg:AllBare g')
  (hch:∀ b∈ch,(b∈X.ex\/X.s₀.heap.objs.size<=b)/\b≠X.env.locals/\(∀ x c,X.env.cells.lookup x=some c->c≠b)/\∀ p∈X.pn++pins,p.1≠b) :
  Inv X pins σ H' { s with heap:=h',gens:=g',drawn:=d',toks:=t' }:=by
 obtain⟨m,⟨o,es,ep,ho,r⟩,_⟩:=id I.loc
 obtain⟨sl,hL⟩:=u.any ho I.free fun z=>(hch _ z).2.1 rfl
 exact I.step (ch:=ch) hch (fun b o hL hb hc e n=>u.keep b o e n (fun z=>(b9.mp (I.stkSub b z)).elim hL hb) hc) (fun b o _ _ hc e n=>u.any e n hc) (fun b o hc e n=>u.free b o e n hc) (fun b o hc e=>u.there b o e hc) u.tups u.frzs u.tbls (fun m' hm=>by
  obtain⟨o',es',ep',ho',r'⟩:=hm
  rw[ho]at ho';cases ho'
  exact⟨_,es',ep',hL,r'⟩) hok hg
theorem Inv.turned {t':Nat}{it:Addr}(I:Inv X pins σ H s)(k:∀ b o,b≠it->s.heap.get? b=some o->h'.get? b=some o)(hn:H it=none)(hL:it≠X.env.locals)
  (h1:it∈X.ex\/X.s₀.heap.objs.size<=it)(h2:∀ x c,X.env.cells.lookup x=some c->c≠it)(h3:∀ p∈X.pn++pins,p.1≠it):Inv X pins σ H { s with heap:=h',toks:=t' }:=by
 have nit:∀ b u,H b=some u->b≠it:=fun b u e z=>by rw[z,hn]at e;cases e
 refine I.step (g':=s.gens) (d':=s.drawn) (ch:=[it]) (fun b hb=>?_) (fun b o _ _ hc e _=>k b o (fun z=>hc (by simp[z])) e) (fun b o _ _ hc e _=>⟨o.slots,k b o (fun z=>hc (by simp[z])) e⟩) (fun _ _ _ _ n=>n)
  (fun b o hc e=>⟨o,k b o (fun z=>hc (by simp[z])) e⟩) (fun _ _ e=>e) (fun _ _ _ e=>e) (fun b ps e=>⟨#[],by rw[e];simp⟩) (fun m hm=>?_) (fun b u e=>?_) I.bare
 ·have e:b=it:=by simpa using hb
  subst e
  exact⟨h1,hL,h2,h3⟩
 ·obtain⟨o,es,ep,ho,r⟩:=hm
  exact⟨o,es,ep,k _ o (Ne.symm hL) ho,r⟩
 ·refine(I.hok b u e).stay (fun c v hc q=>k c v ?_ q) (fun _ q=>q) fun _ _ q=>q
  rcases hc with z | z
  ·rw[z];exact nit b u e
  ·exact nit c _ z
theorem Inv.tok (I:Inv X pins σ H s)(t:Nat):Inv X pins σ H { s with toks:=t }:=I.un (h':=s.heap) (t':=t) Un.refl I.hok
theorem Inv.kept {t':Nat}(I:Inv X pins σ H s)(k:∀ b u,s.heap.get? b=some u->h'.get? b=some u):Inv X pins σ H { s with heap:=h',toks:=t' }:=I.un (Un.kept k) (I.hok.kept k)
theorem Inv.laid {a:Addr}{o:HO}{t':Nat}(I:Inv X pins σ H s)(k:∀ b u,s.heap.get? b=some u->h'.get? b=some u)(hp:s.heap.objs.size<=a)(new:q0 X.prog X.w (upd H a o) h' a o) :
  Inv X pins σ (upd H a o) { s with heap:=h',toks:=t' }:=I.un (Un.laid k hp (I.hok.fresh hp)) (I.hok.laid k hp new)
theorem Inv.write {x e:Addr}{o:HO}{t':Nat}(I:Inv X pins σ H s)(mu:Mut (H x))(he:e=x\/H e=some (.own x))(k:∀ b u,b≠e->s.heap.get? b=some u->h'.get? b=some u)(heo:∃ u,h'.get? e=some u)
  (new:q0 X.prog X.w (upd H x o) h' x o):Inv X pins σ (upd H x o) { s with heap:=h',toks:=t' }:=I.un (Un.write mu he k heo) (I.hok.write mu he k heo new)
theorem Inv.pins_of {pins':List (Addr × Obj)}(I:Inv X pins σ H s)(h:∀ p∈pins',s.heap.get? p.1=some p.2/\H p.1=none/\p.1≠X.env.locals/\p.1∉X.fs/\∀ v,p.2.data≠.cell v):Inv X pins' σ H s:=
 ⟨I.ok,I.os,I.bare,I.base,I.loc,I.cell,I.free,I.freeC,fun p hp=>(g7.mp hp).elim (fun z=>I.pin p (o8 _ z)) (h p),I.hok,I.len⟩
theorem Z5 {N:List Str}(hN:N.Nodup){i j:Nat}{x:Str}(a:N[i]?=some x)(b:N[j]?=some x):i=j:=by
 obtain⟨h1,e1⟩:=d5.mp a
 obtain⟨h2,e2⟩:=d5.mp b
 exact(List.getElem_inj hN).mp (e1.trans e2.symm)
theorem L5 {M:Model}{A:Around}{E:Value->Shared->Prop}{i:Nat}{x:Str}{v:V}{u:Value}{Q:Unit->Shared->Prop}(I:Inv X pins σ H s)(hN:X.N.Nodup)(hi:X.N[i]?=some x)(hx:Loc X.env.scope x)(r:RelV v u)
  (h:∀ s',Inv X pins (σ.set i (some v)) H s'->(∃ a,Heap.SameBut a s.heap s'.heap/\(a=X.env.locals\/X.env.cells.lookup x=some a))->Q () s')(hf:X.fn x=true\/X.env.scope.names.lookup x=some .local:=by first | exact .inl rfl | exact .inr rfl | assumption):wpAny M A (storeName X.env x u) Q E s:=by
 obtain⟨m,hn,hl⟩:=id I.loc
 have hcls:(X.env.scope.kind == .class || (X.env.scope.kind == .module && X.env.locals != X.env.globals))=false:=by rw[I.ok.kind];rfl
 have hiσ:i<σ.length:=by rw[I.len];exact(d5.mp hi).1
 have cne:=I.cne
 have tracked:∀ {a:Addr} {h':Heap},(∃ o,s.heap.get? a=some o/\H a=none)->Heap.SameBut a s.heap h'->HOk X.prog X.w H h':=fun {a h'} ha hs b ob e=>by
  obtain⟨_,_,hfree⟩:=ha
  refine(I.hok b ob e).stay (fun c w' hc q=>(hs.2 c ?_).trans q) (fun _ q=>q) fun _ _ q=>q
  rintro rfl
  rcases hc with rfl | hc
  ·rw[hfree]at e;cases e
  ·rw[hfree]at hc;cases hc
 rcases hx with hk | hk
 ·refine wpAny_storeName_local hk hn (fun h' hn' hs=>?_) hcls
  obtain⟨oL,_,_,hoL,_⟩:=id hn
  refine h _ ⟨I.ok,I.os,I.bare,⟨fun b o e n hb hx=>?_,fun b o e n hb hx=>?_,I.base.free,fun b o e hx=>?_,I.base.tups,I.base.frzs,I.base.tbls⟩,⟨_,hn',fun j y v' e1 e2 e3=>?_⟩,fun y c e=>?_,I.free,I.freeC,fun p hp=>?_,tracked ⟨oL,hoL,I.free⟩ hs,by simpa using I.len⟩ ⟨_,hs,.inl rfl⟩
  ·exact(hs.2 b (c3 (g9 (b0 e) I.ok.above))).trans (I.base.keep b o e n hb hx)
  ·obtain⟨sl,e1⟩:=I.base.slot b o e n hb hx
   exact⟨sl,(hs.2 b (c3 (g9 (b0 e) I.ok.above))).trans e1⟩
  ·obtain⟨o',e1⟩:=I.base.there b o e hx
   exact⟨o',(hs.2 b (c3 (g9 (b0 e) I.ok.above))).trans e1⟩
  ·by_cases hj:j=i
   ·subst hj
    rw[hi]at e1;cases e1
    rw[am3 hiσ]at e2
    cases e2
    exact⟨u,r,.inl ⟨hk,by simp⟩⟩
   ·rw[at6 (Ne.symm hj)]at e2
    obtain⟨u',r',q⟩:=hl j y v' e1 e2 e3
    refine⟨u',r',?_⟩
    rcases q with⟨k,e⟩ | ⟨k,c,e,z⟩
    ·refine .inl ⟨k,?_⟩
     have:y≠x:=fun e=>hj (Z5 hN e1 (e ▸ hi))
     simp[this,e]
    ·exact .inr ⟨k,c,e,z.sameBut hs (cne y c e)⟩
  ·obtain⟨w',z⟩:=I.cell y c e
   exact⟨w',z.sameBut hs (cne y c e)⟩
  ·obtain⟨e,n,ne,nf,d⟩:=I.pin p hp
   exact⟨(hs.2 p.1 ne).trans e,n,ne,nf,d⟩
 ·have hfn:X.fn x=true:=by
   rcases hf with z | z
   ·exact z
   ·rw[z]at hk;cases hk
  obtain⟨c,hc⟩:=I.ok.has x (.inl hk)
  obtain⟨w',z⟩:=I.cell x c hc
  refine wpAny_storeName_cell I.ok.kind hk hc z (fun h' hc' hs=>?_)
  obtain⟨oc,hoc,hocd⟩:=id z
  refine h { s with heap:=h' } ⟨I.ok,I.os,I.bare,⟨fun b o e n hb hx=>?_,fun b o e n hb hx=>?_,I.base.free,fun b o e hx=>?_,I.base.tups,I.base.frzs,I.base.tbls⟩,⟨m,hn.sameBut hs (Ne.symm (cne x c hc)),fun j y v' e1 e2 e3=>?_⟩,fun y c' e=>?_,I.free,I.freeC,fun p hp=>?_,tracked ⟨oc,hoc,I.freeC x c hc⟩ hs,by simpa using I.len⟩ ⟨c,hs,.inr hc⟩
  ·exact(hs.2 b (c3 (g9 (b0 e) (I.ok.cab x c hfn hc)))).trans (I.base.keep b o e n hb hx)
  ·obtain⟨sl,e1⟩:=I.base.slot b o e n hb hx
   exact⟨sl,(hs.2 b (c3 (g9 (b0 e) (I.ok.cab x c hfn hc)))).trans e1⟩
  ·obtain⟨o',e1⟩:=I.base.there b o e hx
   exact⟨o',(hs.2 b (c3 (g9 (b0 e) (I.ok.cab x c hfn hc)))).trans e1⟩
  ·by_cases hj:j=i
   ·subst hj
    rw[hi]at e1;cases e1
    rw[am3 hiσ]at e2
    cases e2
    exact⟨u,r,.inr ⟨.inl hk,c,hc,hc'⟩⟩
   ·rw[at6 (Ne.symm hj)]at e2
    obtain⟨u',r',q⟩:=hl j y v' e1 e2 e3
    refine⟨u',r',?_⟩
    rcases q with q | ⟨k,c',e,z'⟩
    ·exact .inl q
    ·refine .inr ⟨k,c',e,z'.sameBut hs ?_⟩
     rintro rfl
     exact hj (Z5 hN e1 (I.ok.inj _ _ _ e hc ▸ hi))
  ·by_cases hcc:c'=c
   ·subst hcc;exact⟨_,hc'⟩
   ·obtain⟨w2,z2⟩:=I.cell y c' e
    exact⟨w2,z2.sameBut hs hcc⟩
  ·obtain⟨e,n,ne,nf,d⟩:=I.pin p hp
   refine⟨(hs.2 p.1 ?_).trans e,n,ne,nf,d⟩
   intro q
   rw[q,hoc]at e
   have q':oc=p.2:=Option.some.inj e
   exact d w' (by rw[<- q'];exact hocd)
theorem X8 {M:Model}{A:Around}{E:Value->Shared->Prop}{i:Nat}{x:Str}{v:V}{u:Value}{Q:Unit->Shared->Prop}(I:Inv X pins σ H s)(hN:X.N.Nodup)(hi:X.N[i]?=some x)(hx:Loc X.env.scope x)(r:RelV v u)
  (h:∀ s',Inv X pins (σ.set i (some v)) H s'->Q () s')(hf:X.fn x=true\/X.env.scope.names.lookup x=some .local:=by first | exact .inl rfl | exact .inr rfl | assumption):wpAny M A (storeName X.env x u) Q E s:=
 L5 I hN hi hx r (fun s' I' _=>h s' I') hf
theorem Inv.call' {s':Shared}{ch:List Addr}(I:Inv X pins σ H s)(ho:s'.os=s.os)(u:Un (frs X.stack) ch H H' s.heap s'.heap)(hok:HOk X.prog X.w H' s'.heap)(hg:AllBare s'.gens)
  (hch:∀ b∈ch,(b∈X.ex\/X.s₀.heap.objs.size<=b)/\b≠X.env.locals/\(∀ x c,X.env.cells.lookup x=some c->c≠b)/\∀ p∈X.pn++pins,p.1≠b):Inv X pins σ H' s':=by
 obtain⟨h',g',d',t',o'⟩:=s'
 have e:o'=s.os:=ho
 subst e
 exact I.call (g':=g') (t':=t') (d':=d') u hok hg hch
end
abbrev XK:=Value->Option Addr->Hp->Prop
abbrev St:=List (Option V)
abbrev VK:=V->Hp->Prop
abbrev TE:=St->Hp->VK->Prop
abbrev TT:=St->Hp->(Bool->Hp->Prop)->Prop
abbrev TA:=St->Hp->(List V->Hp->Prop)->Prop
structure Ends where
 nx:St->Hp->Prop
 rt:VK
 bk:St->Hp->Prop:=fun _ _=>False
 ct:St->Hp->Prop:=fun _ _=>False
abbrev TS:=Ends->St->Hp->Prop
def EP (X:Cx)(pins:List (Addr × Obj))(σ:St)(Q:VK)(u:Value)(s':Shared):Prop:=∃ v H',Inv X pins σ H' s'/\RelV v u/\Q v H'
def TP (X:Cx)(pins:List (Addr × Obj))(σ:St)(Q:Bool->Hp->Prop)(b:Bool)(s':Shared):Prop:=∃ H',Inv X pins σ H' s'/\Q b H'
def AP (X:Cx)(pins:List (Addr × Obj))(σ:St)(Q:List V->Hp->Prop)(us:List Value)(s':Shared):Prop:=∃ vs H',Inv X pins σ H' s'/\l7 vs us/\Q vs H'
def SP (X:Cx)(pins:List (Addr × Obj))(D:Ends)(f:Flow)(s':Shared):Prop:=
 match f with
 | .next=>∃ σ' H',Inv X pins σ' H' s'/\D.nx σ' H'
 | .brk=>∃ σ' H',Inv X pins σ' H' s'/\D.bk σ' H'
 | .cont=>∃ σ' H',Inv X pins σ' H' s'/\D.ct σ' H'
 | .ret u=>∃ v σ' H',Inv X pins σ' H' s'/\RelV v u/\D.rt v H'
def PE (X:Cx)(e:Expr)(t:TE):Prop:=
 ∀ (pins:List (Addr × Obj)) (s:Shared) (σ:St) (H:Hp) (Q:VK),Inv X pins σ H s->t σ H Q->wpAny (model X.prog X.w) X.A (eval e X.env) (EP X pins σ Q) X.xe s
def PT (X:Cx)(e:Expr)(t:TT):Prop:=
 ∀ (pins:List (Addr × Obj)) (s:Shared) (σ:St) (H:Hp) (Q:Bool->Hp->Prop),Inv X pins σ H s->t σ H Q->wpAny (model X.prog X.w) X.A (isTrue e X.env (eval e X.env)) (TP X pins σ Q) X.xe s
def PW (X:Cx)(e:Expr)(t:TT):Prop:=
 ∀ (whole:Sem Value) (pins:List (Addr × Obj)) (s:Shared) (σ:St) (H:Hp) (Q:Bool->Hp->Prop),Inv X pins σ H s->t σ H Q->wpAny (model X.prog X.w) X.A (isTrue e X.env whole) (TP X pins σ Q) X.xe s
theorem PW.pt {X:Cx}{e:Expr}{t:TT}(h:PW X e t):PT X e t:=h _
def PA (X:Cx)(es:List Expr)(t:TA):Prop:=
 ∀ (pos:Pos) (pins:List (Addr × Obj)) (s:Shared) (σ:St) (H:Hp) (Q:List V->Hp->Prop),Inv X pins σ H s->t σ H Q->wpAny (model X.prog X.w) X.A (spliced (backTo pos (starEach es X.env))) (AP X pins σ Q) X.xe s
def PS (X:Cx)(st:Stmt)(t:TS):Prop:=
 ∀ (pins:List (Addr × Obj)) (s:Shared) (σ:St) (H:Hp) (D:Ends),Inv X pins σ H s->t D σ H->wpAny (model X.prog X.w) X.A (exec st X.env) (SP X pins D) X.xe s
def PSs (X:Cx)(st:List Stmt)(t:TS):Prop:=
 ∀ (pins:List (Addr × Obj)) (s:Shared) (σ:St) (H:Hp) (D:Ends),Inv X pins σ H s->t D σ H->wpAny (model X.prog X.w) X.A (execs st X.env) (SP X pins D) X.xe s
theorem thn {α:Type}{t:Sem α}{Q Q':α->Shared->Prop}{M:Model}{A:Around}{E:Value->Shared->Prop}{s:Shared}(h:wpAny M A t Q E s)(hQ:∀ a s,Q a s->Q' a s):wpAny M A t Q' E s:=wpAny_mono h hQ fun _ _ x=>x
section
variable {X:Cx}
def aG5 (i:Nat):TE:=fun σ H Q=>∃ v,σ[i]?=some (some v)/\Q v H
def tC (v:V):TE:=fun _ H Q=>Q v H
theorem aC3 {i:Nat}{x:Str}{pos:Pos}(hN:X.N[i]?=some x)(hv:Vis X.env.scope x)(hd:(x == ("__debug__":Str))=false:=by decide)(hcd:(x == ("__classdict__":Str))=false:=by decide):PE X (.Name x pos) (aG5 i):=by
 intro pins s σ H Q I h
 obtain⟨v,e,h⟩:=h
 obtain⟨m,hn,hl⟩:=I.loc
 obtain⟨u,r,l⟩:=hl i x v hN e hv
 have fin:EP X pins σ Q u s:=⟨v,H,I,r,h⟩
 rcases l with⟨hk,hm⟩ | ⟨hk,c,hc,hcell⟩
 ·exact wpAny_Name (wpAny_loadName_local I.ok.kind hk hn hm fin) hd
 ·rcases hk with hk | hk
  ·exact wpAny_Name (wpAny_loadName_cell I.ok.kind hk hc hcell fin) hd
  ·exact wpAny_Name (wpAny_loadName_free I.ok.kind hk hc hcell fin hcd) hd
theorem f7 {i j pos}:PE X (.Constant (.int i) j pos) (tC (.int i)):=fun _ _ _ H _ I h=>wpAny_Constant_int ⟨.int i,H,I.tok _,⟨_,rfl⟩,h⟩
theorem P6 {b j pos}:PE X (.Constant (.bool b) j pos) (tC (.bl b)):=fun _ _ _ H _ I h=>Constant_bool ⟨.bl b,H,I,rfl,h⟩
theorem ap5 {j pos}:PE X (.Constant .none j pos) (tC .non):=fun _ _ _ H _ I h=>Constant_none ⟨.non,H,I,rfl,h⟩
def Gl (X:Cx)(x:Str):Prop:=X.env.kindOf x=some .globalImplicit
theorem ah6 {E:Value->Shared->Prop}{pins:List (Addr × Obj)}{s:Shared}{σ:St}{H:Hp}{x:Str}{u:Value}{pos:Pos}{Q:Value->Shared->Prop}(I:Inv X pins σ H s)(hg:Gl X x)(hm:X.mg x=some u)(h:Q u s)
  (hd:(x == ("__debug__":Str))=false:=by decide):wpAny (model X.prog X.w) X.A (eval (.Name x pos) X.env) Q E s :=
 Calls.Name_function_global I.ok.kind hg (Calls.loadGlobal_global (by rw[I.ok.glob];exact I.mod.glob.keeps I.bk) hm h) hd
theorem F1 {E:Value->Shared->Prop}{pins:List (Addr × Obj)}{s:Shared}{σ:St}{H:Hp}{x:Str}{u:Value}{pos:Pos}{Q:Value->Shared->Prop}(I:Inv X pins σ H s)(hg:Gl X x)(hm:X.mg x=none)(hv:bootBuiltins x=some u)(h:Q u s)
  (hn:x≠"__name__":=by decide)(hd:(x == ("__debug__":Str))=false:=by decide):wpAny (model X.prog X.w) X.A (eval (.Name x pos) X.env) Q E s:=by
 obtain⟨mb,h1,h2⟩:=I.mod.blt
 exact Calls.Name_function_global I.ok.kind hg (Calls.loadGlobal_builtin (by rw[I.ok.glob];exact I.mod.glob.keeps I.bk) hm (by rw[I.ok.blt];exact h1.keeps I.bk) ((h2 x hn).trans hv) h) hd
theorem av9 {x:Str}{v:V}{u:Value}{pos:Pos}(hg:Gl X x)(hm:X.mg x=some u)(r:RelV v u)(hd:(x == ("__debug__":Str))=false:=by decide):PE X (.Name x pos) (tC v) :=
 fun _ _ _ H _ I h=>ah6 I hg hm ⟨v,H,I,r,h⟩ hd
theorem y4 {x:Str}{v:V}{u:Value}{pos:Pos}(hg:Gl X x)(hm:X.mg x=none)(hv:bootBuiltins x=some u)(r:RelV v u)(hn:x≠"__name__":=by decide)(hd:(x == ("__debug__":Str))=false:=by decide):PE X (.Name x pos) (tC v) :=
 fun _ _ _ H _ I h=>F1 I hg hm hv ⟨v,H,I,r,h⟩ hn hd
variable {a b:Expr} {ta tb:TE} {pos:Pos}
def PC (X:Cx)(op:CmpOp)(a b:Expr)(t:TE):Prop:=
 ∀ (pins:List (Addr × Obj)) (s:Shared) (σ:St) (H:Hp) (Q:VK),Inv X pins σ H s->t σ H Q ->
  wpAny (model X.prog X.w) X.A (eval a X.env) (fun v s₁=>wpAny (model X.prog X.w) X.A (eval b X.env) (fun u s₂=>wpAny (model X.prog X.w) X.A (compareOp op v u) (EP X pins σ Q) X.xe s₂) X.xe s₁) X.xe s
def tB (t:TE):TT:=fun σ H Q=>t σ H fun x H1=>∃ c,x=.bl c/\Q c H1
theorem aC2 {op:CmpOp}{t:TE}(h:PC X op a b t)(h1:behindInMarks op b=false:=by first | exact nobehind _ (by decide) (by decide) | rfl):PT X (.Compare a [op] [b] pos) (tB t):=by
 intro pins s σ H Q I hw
 refine wpAny_isTrue_Compare1 (thn (h pins s σ H _ I hw) fun v s1 h1=>thn h1 fun u s2 h2=>thn h2 fun c s3 ⟨x,H1,I1,r1,q1⟩=>?_) h1
 obtain⟨d,rfl,q⟩:=q1
 cases r1
 exact wpAny_truthy_bool ⟨H1,I1,q⟩
theorem A3 {e:Expr}{t:TE}(h:PE X e t)(he:∀ whole,isTrue e X.env whole=(do let v <- whole;standAt e.pos;holding [v] (truthy v)):=by intro _;rfl):PT X e (tB t):=by
 intro pins s σ H Q I hw
 refine isTrue_plain (thn (h pins s σ H _ I hw) fun v s1 ⟨x,H1,I1,r1,q1⟩=>?_) (he _)
 obtain⟨d,rfl,q⟩:=q1
 cases r1
 exact wpAny_truthy_bool ⟨H1,I1,q⟩
variable {tA tB':TT} {rest:List Expr}
def tOr (t u:TT):TT:=fun σ H Q=>t σ H fun c H1=>if c=true then Q true H1 else u σ H1 Q
def aK6 (t:TT):TT:=fun σ H Q=>t σ H fun c H1=>Q (!c) H1
theorem ac8 (ha:PT X a tA):PW X (.BoolOp .Or [a] pos) tA:=by
 intro wh pins s σ H Q I h
 refine isTrue_or (thn (ha pins s σ H Q I h) fun c s1 e=>?_)
 cases c with
 | false=>exact isTrue_or_nil e
 | true=>exact e
theorem ao5 (ha:PT X a tA)(hb:PW X (.BoolOp .Or (b::rest) pos) tB'):PW X (.BoolOp .Or (a::b::rest) pos) (tOr tA tB'):=by
 intro wh pins s σ H Q I h
 refine isTrue_or (thn (ha pins s σ H _ I h) fun c s1 ⟨H1,I1,q1⟩=>?_)
 cases c with
 | true=>exact⟨H1,I1,q1⟩
 | false=>exact hb wh pins s1 σ H1 Q I1 q1
theorem J0 (ha:PT X a tA):PT X (.UnaryOp .Not a pos) (aK6 tA):=by
 intro pins s σ H Q I h
 exact isTrue_not (ha pins s σ H (fun c H1=>Q (!c) H1) I h)
def aH5 (ta tb:TE):TE:=fun σ H Q=>ta σ H fun x H1=>∃ c,x=.bl c/\if c=true then tb σ H1 Q else Q (.bl false) H1
def aG8 (ta:TE):TE:=fun σ H Q=>ta σ H fun x H1=>∃ c,x=.bl c/\Q (.bl (!c)) H1
theorem P5 {op}{t:TE}(h:PE X a t):PE X (.BoolOp op [a] pos) t:=fun pins s σ H Q I hw=>BoolOp_one (h pins s σ H Q I hw)
theorem P7 (ha:PE X a ta)(hb:PE X (.BoolOp .And (b::rest) pos) tb):PE X (.BoolOp .And (a::b::rest) pos) (aH5 ta tb):=by
 intro pins s σ H Q I h
 refine BoolOp_and (thn (ha pins s σ H _ I h) fun v s1 ⟨x,H1,I1,r1,q1⟩=>?_)
 obtain⟨c,rfl,q1⟩:=q1
 cases r1
 refine wpAny_truthy_bool ?_
 cases c with
 | true=>exact hb pins s1 σ H1 Q I1 q1
 | false=>exact⟨.bl false,H1,I1,rfl,q1⟩
theorem aC4 (ha:PE X a ta):PE X (.UnaryOp .Not a pos) (aG8 ta):=by
 intro pins s σ H Q I h
 refine UnaryOp_ (thn (ha pins s σ H _ I h) fun v s1 ⟨x,H1,I1,r1,q1⟩=>?_)
 obtain⟨c,rfl,q1⟩:=q1
 cases r1
 exact not_of (wpAny_truthy_bool ⟨.bl (!c),H1,I1,rfl,q1⟩)
end
def SqL (K:W.Frag)(H:Hp)(a:Addr)(xs:List V):Prop:=
 Rd H a (.lst xs) \/
  ∃ (o:Obj) (its:Array Value) (n:Nat),K.lookup a=some o/\o.cls=.type "list"/\o.dict=none/\o.data=.seq its n/\its.size<=sizeLine/\l7 xs its.toList
def SqT (K:W.Frag)(H:Hp)(a:Addr)(xs:List V):Prop:=
 Rd H a (.tup xs) \/
  ∃ (o:Obj) (its:Array Value) (n:Nat),K.lookup a=some o/\o.cls=.type "tuple"/\o.data=.seq its n/\its.size<=sizeLine/\l7 xs its.toList
def aM3:Value->Option V
 | .none=>some .non
 | .bool b=>some (.bl b)
 | .int i _=>some (.int i)
 | .str x _=>some (.str x)
 | .bytes b _=>some (.byt b)
 | .float b _=>some (.flt b)
 | .ref a=>some (.ref a)
 | .type n=>some (.ty n)
 | _=>none
theorem RelV.abs {x:V}{u:Value}(r:RelV x u):aM3 u=some x:=by
 cases x with
 | non=>cases r;rfl
 | bl _=>cases r;rfl
 | int _=>obtain⟨t,rfl⟩:=r;rfl
 | str _=>obtain⟨t,rfl⟩:=r;rfl
 | byt _=>obtain⟨t,rfl⟩:=r;rfl
 | flt _=>obtain⟨t,rfl⟩:=r;rfl
 | ref _=>cases r;rfl
 | ty _=>cases r;rfl
theorem RelV.inj {x y:V}{u:Value}(r:RelV x u)(q:RelV y u):x=y:=Option.some.inj (r.abs.symm.trans q.abs)
theorem l7.inj:∀ {xs ys:List V} {us:List Value},l7 xs us->l7 ys us->xs=ys
 | _,_,_,.nil,.nil=>rfl
 | _,_,_,.cons r t,.cons r' t'=>by rw[r.inj r',l7.inj t t']
section
variable {X:Cx} {pins:List (Addr × Obj)} {σ:St} {H:Hp} {s:Shared} {a:Addr} {xs ys:List V}
theorem SqL.of {K:W.Frag}(h:H a=some (.lst xs)):SqL K H a xs:=.inl (.inl h)
theorem SqT.of {K:W.Frag}(h:H a=some (.tup xs)):SqT K H a xs:=.inl (.inl h)
theorem Inv.list (I:Inv X pins σ H s)(h:SqL X.K H a xs):∃ its:List Value,l7 xs its/\PlainL s.heap a its.toArray/\xs.length<=sizeLine:=by
 rcases h with h | ⟨o,its,n,hk,hc,hd,hs,hz,r⟩
 ·obtain⟨z,its,n,r,e⟩:=h.ok I.hok
  exact⟨its,r,⟨_,n,e,rfl,rfl,rfl⟩,z⟩
 ·refine⟨its.toList,r,⟨o,n,I.kIn a o hk,hc,hd,by simpa using hs⟩,?_⟩
  have e:=r.length
  simp only[d8]at e
  omega
theorem Inv.tuple (I:Inv X pins σ H s)(h:SqT X.K H a xs):∃ its:List Value,l7 xs its/\IsTup s.heap a its.toArray/\xs.length<=sizeLine:=by
 rcases h with h | ⟨o,its,n,hk,hc,hs,hz,r⟩
 ·obtain⟨z,its,r,p⟩:=h.ok I.hok
  exact⟨its,r,p,z⟩
 ·refine⟨its.toList,r,⟨o,I.kIn a o hk,hc,n,by simpa using hs⟩,?_⟩
  have e:=r.length
  simp only[d8]at e
  omega
theorem Inv.list_inj (I:Inv X pins σ H s)(h:SqL X.K H a xs)(h':SqL X.K H a ys):xs=ys:=by
 obtain⟨its,r,⟨o,n,e,_,_,d⟩,_⟩:=I.list h
 obtain⟨its',r',⟨o',n',e',_,_,d'⟩,_⟩:=I.list h'
 rw[e]at e';cases e'
 rw[d]at d'
 injection d' with d1 _
 have:its=its':=by simpa using congrArg Array.toList d1
 subst this
 exact r.inj r'
theorem Inv.tuple_inj (I:Inv X pins σ H s)(h:SqT X.K H a xs)(h':SqT X.K H a ys):xs=ys:=by
 obtain⟨its,r,⟨o,e,_,n,d⟩,_⟩:=I.tuple h
 obtain⟨its',r',⟨o',e',_,n',d'⟩,_⟩:=I.tuple h'
 rw[e]at e';cases e'
 rw[d]at d'
 injection d' with d1 _
 have:its=its':=by simpa using congrArg Array.toList d1
 subst this
 exact r.inj r'
end
abbrev Cx.wish (X:Cx)(E:Value->Shared->Prop):Cx:={ X with xe:=E }
abbrev Cx.nox (X:Cx):Cx:=X.wish fun _ _=>False
theorem Cx.Ok.wish {X:Cx}(ok:X.Ok)(E:Value->Shared->Prop):(X.wish E).Ok:=
 ⟨ok.mod,ok.kind,ok.glob,ok.blt,ok.above,ok.inj,ok.has,ok.cab,ok.hd,ok.frames,ok.stk,ok.exf,ok.bs,ok.bsz,ok.noex,ok.exfs,ok.funs,ok.frf⟩
theorem Cx.Ok.unwish {X:Cx}{E:Value->Shared->Prop}(ok:(X.wish E).Ok):X.Ok:=
 ⟨ok.mod,ok.kind,ok.glob,ok.blt,ok.above,ok.inj,ok.has,ok.cab,ok.hd,ok.frames,ok.stk,ok.exf,ok.bs,ok.bsz,ok.noex,ok.exfs,ok.funs,ok.frf⟩
section
variable {X:Cx} {pins:List (Addr × Obj)} {σ:St} {H:Hp} {s:Shared} {E:Value->Shared->Prop}
theorem Inv.wish (I:Inv X pins σ H s)(E:Value->Shared->Prop):Inv (X.wish E) pins σ H s:=⟨I.ok.wish E,I.os,I.bare,I.base,I.loc,I.cell,I.free,I.freeC,I.pin,I.hok,I.len⟩
theorem Inv.unwish (I:Inv (X.wish E) pins σ H s):Inv X pins σ H s:=⟨I.ok.unwish,I.os,I.bare,I.base,I.loc,I.cell,I.free,I.freeC,I.pin,I.hok,I.len⟩
theorem SP.unwish {D:Ends}{f:Flow}{s':Shared}(h:SP (X.wish E) pins D f s'):SP X pins D f s':=by
 cases f with
 | next=>obtain⟨σ',H',I,q⟩:=h;exact⟨σ',H',I.unwish,q⟩
 | brk=>obtain⟨σ',H',I,q⟩:=h;exact⟨σ',H',I.unwish,q⟩
 | cont=>obtain⟨σ',H',I,q⟩:=h;exact⟨σ',H',I.unwish,q⟩
 | ret u=>obtain⟨v,σ',H',I,r,q⟩:=h;exact⟨v,σ',H',I.unwish,r,q⟩
theorem PSs.nox {st:List Stmt}{t:TS}(h:PSs X.nox st t):PSs X st t:=fun pins s σ H D I hw =>
 wpAny_mono (h pins s σ H D (I.wish _) hw) (fun _ _ q=>q.unwish) fun _ _ z=>False.elim z
end
section
variable {X:Cx} {st:Stmt} {rest:List Stmt} {t u:TS} {e:Expr} {te:TE} {pos:Pos}
def aG9:TS:=fun D σ H=>D.nx σ H
def aK4 (t u:TS):TS:=fun D σ H=>t { D with nx:=u D } σ H
theorem o9:PSs X [] aG9:=fun _ _ σ H _ I h=>wpAny_execs_nil ⟨σ,H,I,h⟩
theorem c8 (h1:PS X st t)(h2:PSs X rest u):PSs X (st::rest) (aK4 t u):=by
 intro pins s σ H D I h
 refine wpAny_execs_cons (thn (h1 pins s σ H { D with nx:=u D } I h) fun f s1 q=>?_)
 cases f with
 | next =>
  obtain⟨σ',H',I',q⟩:=q
  exact h2 pins s1 σ' H' D I' q
 | ret v=>exact q
 | brk=>exact q
 | cont=>exact q
theorem j6 (h1:PS X st t):PSs X [st] t:=by
 intro pins s σ H D I h
 refine wpAny_execs_cons (thn (h1 pins s σ H D I h) fun f s1 q=>?_)
 cases f with
 | next=>exact wpAny_execs_nil q
 | ret v=>exact q
 | brk=>exact q
 | cont=>exact q
theorem Inv.quiet {pins:List (Addr × Obj)}{σ:St}{H:Hp}{s:Shared}(I:Inv X pins σ H s):interactive X.env=false:=by simp[interactive,I.ok.kind]
def aH0 (te:TE):TS:=fun D σ H=>te σ H fun _ H1=>D.nx σ H1
theorem B2 (he:PE X e te)(hs:swapsWith e none pos.line X.env=pure false:=by rfl):PS X (.Expr e pos) (aH0 te):=by
 intro pins s σ H D I h
 exact wpAny_Expr_any (thn (he pins s σ H _ I h) fun v s1 ⟨x,H1,I1,r1,q1⟩=>⟨σ,H1,I1,q1⟩) I.quiet hs
def aK5 (te:TE):TS:=fun D σ H=>te σ H D.rt
theorem u3 (he:PE X e te):PS X (.Return (some e) pos) (aK5 te):=by
 intro pins s σ H D I h
 exact wpAny_Return_some (thn (he pins s σ H _ I h) fun v s1 ⟨x,H1,I1,r1,q1⟩=>⟨x,σ,H1,I1,r1,q1⟩)
def aK9 (c:TT)(t u:TS):TS:=fun D σ H=>c σ H fun b H1=>if b=true then t D σ H1 else u D σ H1
theorem w9 {c:Expr}{a b:List Stmt}{tc:TT}(hc:PT X c tc)(ha:PSs X a t)(hb:PSs X b u):PS X (.If c a b pos) (aK9 tc t u):=by
 intro pins s σ H D I h
 refine wpAny_If (thn (hc pins s σ H _ I h) fun d s1 ⟨H1,I1,q1⟩=>?_)
 cases d with
 | true=>exact ha pins s1 σ H1 D I1 q1
 | false=>exact hb pins s1 σ H1 D I1 q1
def aB8:TS:=fun _ _ _=>False
theorem p7 {sts:List Stmt}:PSs X sts aB8:=fun _ _ _ _ _ _ h=>h.elim
end
abbrev TG:=V->St->Hp->(St->Hp->Prop)->Prop
abbrev TGs:=List V->St->Hp->(St->Hp->Prop)->Prop
def PG (X:Cx)(target:Expr)(t:TG):Prop:=
 ∀ (pins:List (Addr × Obj)) (s:Shared) (σ:St) (H:Hp) (v:V) (u:Value) (Q:St->Hp->Prop),Inv X pins σ H s->RelV v u->t v σ H Q ->
  wpAny (model X.prog X.w) X.A (assign target X.env u) (fun _ s'=>∃ σ' H',Inv X pins σ' H' s'/\Q σ' H') X.xe s
def PGs (X:Cx)(ts:List Expr)(t:TGs):Prop:=
 ∀ (pins:List (Addr × Obj)) (s:Shared) (σ:St) (H:Hp) (vs:List V) (us:List Value) (Q:St->Hp->Prop),Inv X pins σ H s->l7 vs us->t vs σ H Q ->
  wpAny (model X.prog X.w) X.A (assignInOrder ((assignEach ts X.env).map (·.2)) us) (fun _ s'=>∃ σ' H',Inv X pins σ' H' s'/\Q σ' H') X.xe s
abbrev aF2:=V->V->V->Hp->(Hp->Prop)->Prop
def aK2 (X:Cx)(t:aF2):Prop:=
 ∀ (pins:List (Addr × Obj)) (s:Shared) (σ:St) (H:Hp) (o i v:V) (ov iv u:Value) (Q:Hp->Prop),Inv X pins σ H s->RelV o ov->RelV i iv->RelV v u->t o i v H Q ->
  wpAny (model X.prog X.w) X.A (setItem ov iv u) (fun _ s'=>∃ H',Inv X pins σ H' s'/\Q H') X.xe s
section
variable {X:Cx} {pos:Pos}
def R3 (i:Nat):TG:=fun v σ H Q=>Q (σ.set i (some v)) H
theorem p0 {i:Nat}{x:Str}(hN:X.N.Nodup)(hi:X.N[i]?=some x)(hx:Loc X.env.scope x)(hf:X.fn x=true\/X.env.scope.names.lookup x=some .local:=by first | exact .inl rfl | exact .inr rfl | assumption):PG X (.Name x pos) (R3 i):=by
 intro pins s σ H v u Q I r h
 exact wpAny_assign_Name (X8 I hN hi hx r (fun s' I'=>⟨_,H,I',h⟩) hf)
def aM2:TGs:=fun vs σ H Q=>vs=[]/\Q σ H
def aJ7 (t:TG)(u:TGs):TGs:=fun vs σ H Q=>∃ v r,vs=v::r/\t v σ H fun σ' H'=>u r σ' H' Q
theorem V9:PGs X [] aM2:=by
 intro pins s σ H vs us Q I r h
 obtain⟨e,h⟩:=h
 subst e
 cases r
 exact assignInOrder_nil ⟨σ,H,I,h⟩
theorem B6 {e:Expr}{es:List Expr}{t:TG}{u:TGs}(h1:PG X e t)(h2:PGs X es u)
  (hs:(assignEach (e::es) X.env).map (·.2)=assign e X.env::(assignEach es X.env).map (·.2):=by rfl):PGs X (e::es) (aJ7 t u):=by
 intro pins s σ H vs us Q I r h
 obtain⟨v,vr,e1,h⟩:=h
 subst e1
 cases r with
 | cons r rr =>
  rw[hs]
  refine assignInOrder_cons (thn (h1 pins s σ H _ _ _ I r h) fun _ s1 ⟨σ1,H1,I1,q1⟩=>?_)
  exact h2 pins s1 σ1 H1 _ _ Q I1 rr q1
def aJ6 (K:W.Frag)(n:Nat)(t:TGs):TG:=fun v σ H Q=>∃ a xs,v=.ref a/\SqT K H a xs/\xs.length=n/\t xs σ H Q
theorem ad0 {es:List Expr}{k:Nat}{t:TGs}{n:Nat}(hc:X.calm=true)(h:PGs X es t)
  (hn:(assignEach es X.env).length=n:=by rfl)(hst:(assignEach es X.env).findIdx? (·.1)=none:=by rfl):PG X (.Tuple es k pos) (aJ6 X.K n t):=by
 intro pins s σ H v u Q I r hw
 obtain⟨a,xs,e1,hq,hl,hw⟩:=hw
 subst e1
 cases r
 obtain⟨its,rv,ht,hz⟩:=I.tuple hq
 refine assign_Tuple_tuple (I.ok.hd hc) ht (by simp[hn,<- hl,rv.length]) hst fun h' hx=>?_
 have I1:Inv X pins σ H { s with heap:=h' }:=I.kept (t':=s.toks) fun b o e=>hx b o (c3 (b0 e)) e
 exact h pins _ σ H xs _ Q I1 (by simpa using rv) hw
def aM1 (to ti:TE)(t:aF2):TG:=fun v σ H Q=>to σ H fun o H1=>ti σ H1 fun i H2=>t o i v H2 fun H3=>Q σ H3
theorem ap3 {o i:Expr} {to ti:TE} {t:aF2} (ho:PE X o to) (hi:PE X i ti) (hs:aK2 X t)
  (ha : ∀ v, assign (.Subscript o i pos) X.env v = (do
   let ov <- holding [v] (eval o X.env)
   let iv <- holding [v,ov] (eval i X.env)
   standAt pos
   holding [v,ov,iv] (setItem ov iv v)
   release [v,ov,iv] []):=by intro _;rfl):PG X (.Subscript o i pos) (aM1 to ti t):=by
 intro pins s σ H v u Q I r h
 rw[ha]
 refine wpAny_bind (wpAny_holding (thn (ho pins s σ H _ I h) fun ov s1 ⟨x,H1,I1,r1,q1⟩=>?_))
 refine wpAny_bind (wpAny_holding (thn (hi pins s1 σ H1 _ I1 q1) fun iv s2 ⟨y,H2,I2,r2,q2⟩=>?_))
 refine wpAny_bind (wpAny_standAt (wpAny_bind (wpAny_holding (thn (hs pins s2 σ H2 x y v ov iv u _ I2 r1 r2 r q2) fun _ s3 ⟨H3,I3,q3⟩=>?_))))
 exact wpAny_release ⟨σ,H3,I3,q3⟩
def aH4 (te:TE)(g:TG):TS:=fun D σ H=>te σ H fun x H1=>g x σ H1 D.nx
theorem ap0 {tg e:Expr}{te:TE}{g:TG}(he:PE X e te)(hg:PG X tg g)(hs:swapsWithSole [tg] e pos.line X.env=pure false:=by rfl)(hw:swappedStores [tg] e X.env=pure none:=by rfl)
  (h1:(assignEach [tg] X.env).map (·.2)=[assign tg X.env]:=by rfl):PS X (.Assign [tg] e pos) (aH4 te g):=by
 intro pins s σ H D I h
 refine wpAny_Assign_stores (thn (he pins s σ H _ I h) fun v s1 ⟨x,H1,I1,r1,q1⟩=>?_) hs hw
 rw[h1]
 exact thn (hg pins s1 σ H1 x v _ I1 r1 q1) fun _ s2 q=>q
theorem m8 {i:Nat}{x:Str}{e:Expr}{te:TE}{pos':Pos}(hN:X.N.Nodup)(hi:X.N[i]?=some x)(hx:Loc X.env.scope x)(he:PE X e te)(hs:swapsWith e (some (.Name x pos')) pos.line X.env=pure false:=by rfl)(hf:X.fn x=true\/X.env.scope.names.lookup x=some .local:=by first | exact .inl rfl | exact .inr rfl | assumption) :
  PS X (.Assign [.Name x pos'] e pos) (aH4 te (R3 i)):=by
 intro pins s σ H D I h
 refine wpAny_Assign_Name (thn (he pins s σ H _ I h) fun v s1 ⟨y,H1,I1,r1,q1⟩=>?_) hs
 exact X8 I1 hN hi hx r1 (fun s2 I2=>⟨_,H1,I2,q1⟩) hf
end
section
variable {X:Cx} {pos:Pos}
def aB7 (c:TT)(tb:TS):TS:=fun D σ H=>∃ W:Nat->St->Hp->Prop,(∃ m,W m σ H)/\∀ m σ H,W m σ H ->
 c σ H fun b H1=>if b=true then ∃ N:St->Hp->Prop,(∀ σ' H',N σ' H'->∃ m',m'<m/\W m' σ' H')/\tb { D with nx:=N,ct:=N,bk:=D.nx } σ H1 else D.nx σ H1
theorem Z0 {c:Expr}{body:List Stmt}{tc:TT}{tb:TS}(hp:PassesOwn (model X.prog X.w) X.A X.env X.xe)(hc:PT X c tc)(hb:PSs X body tb):PS X (.While c body [] pos) (aB7 tc tb):=by
 intro pins s σ H D I h
 obtain⟨W,⟨m0,w0⟩,turn⟩:=h
 refine wpAny_While (codeAny_whileLoop (fun n s'=>∃ σ' H',Inv X pins σ' H' s'/\W n σ' H') ?_ m0 ⟨σ,H,I,w0⟩)
 rintro n s1 ⟨σ1,H1,I1,w1⟩
 refine wpAny_passesOwn hp (thn (hc pins s1 σ1 H1 _ I1 (turn n σ1 H1 w1)) fun b s2 ⟨H2,I2,q2⟩=>?_)
 cases b with
 | true =>
  obtain⟨N,hN,q2⟩:=q2
  rw[if_pos rfl]
  refine wpAny_passesOwn hp (thn (hb pins s2 σ1 H2 _ I2 q2) fun f s3 q3=>?_)
  cases f with
  | next =>
   obtain⟨σ3,H3,I3,n3⟩:=q3
   obtain⟨m',hm,w3⟩:=hN σ3 H3 n3
   exact⟨m',hm,σ3,H3,I3,w3⟩
  | cont =>
   obtain⟨σ3,H3,I3,n3⟩:=q3
   obtain⟨m',hm,w3⟩:=hN σ3 H3 n3
   exact⟨m',hm,σ3,H3,I3,w3⟩
  | brk=>exact q3
  | ret v=>exact q3
 | false =>
  rw[if_neg b7]
  exact wpAny_execs_nil ⟨σ1,H2,I2,q2⟩
end
structure It where
 go:Nat->Hp->Prop
 yld:Nat->Hp->V->Hp->Prop
 stop:Nat->Hp->Prop
def K6 (X:Cx)(pins:List (Addr × Obj))(H:Hp)(b:Addr):Prop:=
 H b=none/\b≠X.env.locals/\b∉X.fs/\(b∈X.ex\/X.s₀.heap.objs.size<=b)/\(∀ x c,X.env.cells.lookup x=some c->c≠b)/\∀ p∈X.pn++pins,p.1≠b
theorem Inv.fpOk {X:Cx}{pins:List (Addr × Obj)}{σ:St}{H H':Hp}{s:Shared}{b:Addr}(I:Inv X pins σ H s)(hb:s.heap.objs.size<=b)(hn:H' b=none):K6 X pins H' b:=by
 refine⟨hn,u5 (g9 I.lt hb),I.nofs hb,.inr (m9 I.sz hb),fun x c e z=>?_,fun p hp z=>?_⟩
 ·obtain⟨v,q⟩:=I.cell x c e
  exact absurd (g9 q.lt (by rw[z];exact hb)) (l6 _)
 ·exact absurd (g9 (b0 (I.pin p hp).1) (by rw[z];exact hb)) (l6 _)
structure Turn (P:Program) (w:World) (K:W.Frag) (tg:Expr) (J:It) (fp:List Addr) (it:Addr) (tn:Nat->Heap->Prop):Prop where
 mem:it∈fp
 obj:∀ i h,tn i h->∀ b∈fp,∃ o,h.get? b=some o/\∀ v,o.data≠.cell v
 keep:∀ i h h',tn i h->(∀ b∈fp,∀ o,h.get? b=some o->h'.get? b=some o)->tn i h'
 item:∀ (X:Cx),X.prog=P->X.w=w->X.K=K->X.calm=true->∀ (i:Nat) (pins:List (Addr × Obj)) (s:Shared) (σ:St) (H:Hp) (E:Value->Shared->Prop),Inv X pins σ H s->(∀ b∈fp,K6 X pins H b)->tn i s.heap->J.go i H ->
  wpAny (model P w) X.A (pyNext (.ref it)) (fun r s1=>∃ u,r=some u /\
   wpAny (model P w) X.A (letOwnedTupleGo tg (.ref it) u) (fun _ s2=>∃ x H',Inv X pins σ H' s2/\RelV x u/\J.yld i H x H'/\tn (i+1) s2.heap/\∀ b∈fp,H' b=none) E s1) E s
 done:∀ (X:Cx),X.prog=P->X.w=w->X.K=K->X.calm=true->∀ (i:Nat) (pins:List (Addr × Obj)) (s:Shared) (σ:St) (H:Hp) (E:Value->Shared->Prop),Inv X pins σ H s->(∀ b∈fp,K6 X pins H b)->tn i s.heap->J.stop i H ->
  wpAny (model P w) X.A (pyNext (.ref it)) (fun r s1=>r=none/\Inv X pins σ H s1) E s
 self:∀ (A:Around) (i:Nat) (s:Shared) (Q:Value->Shared->Prop) (E:Value->Shared->Prop),tn i s.heap->Q (.ref it) s->wpAny (model P w) A (pyIter (.ref it)) Q E s
abbrev TI:=St->Hp->(It->Hp->Prop)->Prop
def PIE (X:Cx)(pins:List (Addr × Obj))(σ:St)(tg:Expr)(R:It->Hp->Prop)(itv:Value)(s2:Shared):Prop:=
 ∃ (it:Addr) (fp:List Addr) (tn:Nat->Heap->Prop) (J:It) (H':Hp),itv=.ref it/\Inv X pins σ H' s2/\Turn X.prog X.w X.K tg J fp it tn/\tn 0 s2.heap/\(∀ b∈fp,K6 X pins H' b)/\R J H'
def PI (X:Cx)(tg iter:Expr)(wi:TI):Prop:=
 ∀ (pins:List (Addr × Obj)) (s:Shared) (σ:St) (H:Hp) (R:It->Hp->Prop),Inv X pins σ H s->wi σ H R ->
  wpAny (model X.prog X.w) X.A (eval iter X.env) (fun v s1=>wpAny (model X.prog X.w) X.A (pyIter v) (PIE X pins σ tg R) X.xe s1) X.xe s
theorem ar8 {M:Model} {A:Around} {E:Value->Shared->Prop} {s:Shared} {tg:Expr} {it:Addr} {u:Value} {o:Obj} {n:String} {vs:Array Value} {Q:Unit->Shared->Prop} (ho:s.heap.get? it=some o) (hc:o.cls=.type n) (hd:o.data=.fields vs)
    (hn:["enumerate","zip","dict_itemiterator","dict_reverseitemiterator","odict_iterator","itertools.zip_longest","itertools.pairwise"].contains n=false) (hQ:Q () s):wpAny M A (letOwnedTupleGo tg (.ref it) u) Q E s:=by
  unfold letOwnedTupleGo
  cases tg<;>first
    | exact wpAny_pure hQ
    | (cases u<;>first
        | exact wpAny_pure hQ
        | (refine wpAny_bind (wpAny_load ho ?_)
           rw[hc,hd]
           show wpAny M A (if (["enumerate","zip","dict_itemiterator","dict_reverseitemiterator","odict_iterator","itertools.zip_longest","itertools.pairwise"].contains n && vs[0]? == some (rawInt _))=true then _ else _) Q E s
           rw[if_neg (by intro h;rw[hn,Bool.false_and]at h;cases h)]
           exact wpAny_pure hQ))
def Itl (K:W.Frag)(a:Addr):It:=
 ⟨fun i H=>∃ xs x,SqL K H a xs/\xs[i]?=some x,fun i H x H'=>H'=H/\∀ xs,SqL K H a xs->xs[i]?=some x,fun i H=>∃ xs,SqL K H a xs/\xs.length<=i⟩
def Itt (K:W.Frag)(a:Addr):It:=
 ⟨fun i H=>∃ xs x,SqT K H a xs/\xs[i]?=some x,fun i H x H'=>H'=H/\∀ xs,SqT K H a xs->xs[i]?=some x,fun i H=>∃ xs,SqT K H a xs/\xs.length<=i⟩
def Itr (lo:Int)(n:Nat):It:=⟨fun i _=>i<n,fun i H x H'=>H'=H/\x=.int (lo+i),fun i _=>n<=i⟩
theorem aj0 {P:Program}{w:World}{K:W.Frag}{tg:Expr}(a it:Addr):Turn P w K tg (Itl K a) [it] it (fun i h=>h.IsListIter it a i) where
 mem:=by simp
 obj:=fun i h st b hb=>by
  have e:b=it:=by simpa using hb
  subst e
  obtain⟨o,e,c,d⟩:=st
  exact⟨o,e,fun v z=>by rw[d]at z;cases z⟩
 keep:=fun i h h' st k=>st.at fun o e=>k it (by simp) o e
 item:=by
  intro X hP hw hK hc i pins s σ H E I hf st hg
  subst hP hw hK
  obtain⟨xs,x,hq,hx⟩:=hg
  obtain⟨its,rv,p,hz⟩:=I.list hq
  obtain⟨u,hu,ru⟩:=rv.get hx
  obtain⟨f0,f1,f2,f3,f4,f5⟩:=hf it (by simp)
  refine wpAny_pyNext_list_item st p.isList (x:=u) (by simpa using hu) fun h' st' sb=>?_
  have I1:Inv X pins σ H { s with heap:=h' }:=I.turned (t':=s.toks) (fun b o hb e=>(sb.2 b hb).trans e) f0 f1 f3 f4 f5
  obtain⟨o,e,c,d⟩:=id st'
  exact⟨u,rfl,ar8 (s:={ s with heap:=h' }) e c d (by decide) ⟨x,H,I1,ru,⟨rfl,fun ys hy=>by rw[I.list_inj hy hq];exact hx⟩,st',fun b hb=>(hf b hb).1⟩⟩
 done:=by
  intro X hP hw hK hc i pins s σ H E I hf st hg
  subst hP hw hK
  obtain⟨xs,hq,hx⟩:=hg
  obtain⟨its,rv,p,hz⟩:=I.list hq
  obtain⟨f0,f1,f2,f3,f4,f5⟩:=hf it (by simp)
  have hl:=rv.length
  exact wpAny_pyNext_list_end (I.ok.hd hc) st p.isList (by simp;omega) fun h' eb=>⟨rfl,I.turned (t':=s.toks) (fun b o hb e=>eb b o hb e) f0 f1 f3 f4 f5⟩
 self:=fun _ _ _ _ _ st h=>wpAny_pyIter_listiter st h
theorem ab9 {P:Program}{w:World}{K:W.Frag}{tg:Expr}(a it:Addr):Turn P w K tg (Itt K a) [it] it (fun i h=>h.IsTupleIter it a i) where
 mem:=by simp
 obj:=fun i h st b hb=>by
  have e:b=it:=by simpa using hb
  subst e
  obtain⟨o,e,c,d⟩:=st
  exact⟨o,e,fun v z=>by rw[d]at z;cases z⟩
 keep:=fun i h h' st k=>st.at fun o e=>k it (by simp) o e
 item:=by
  intro X hP hw hK hc i pins s σ H E I hf st hg
  subst hP hw hK
  obtain⟨xs,x,hq,hx⟩:=hg
  obtain⟨its,rv,p,hz⟩:=I.tuple hq
  obtain⟨u,hu,ru⟩:=rv.get hx
  obtain⟨f0,f1,f2,f3,f4,f5⟩:=hf it (by simp)
  refine wpAny_pyNext_tuple_item st (show s.heap.IsTuple a its.toArray from p) (x:=u) (by simpa using hu) fun h' st' sb=>?_
  have I1:Inv X pins σ H { s with heap:=h' }:=I.turned (t':=s.toks) (fun b o hb e=>(sb.2 b hb).trans e) f0 f1 f3 f4 f5
  obtain⟨o,e,c,d⟩:=id st'
  exact⟨u,rfl,ar8 (s:={ s with heap:=h' }) e c d (by decide) ⟨x,H,I1,ru,⟨rfl,fun ys hy=>by rw[I.tuple_inj hy hq];exact hx⟩,st',fun b hb=>(hf b hb).1⟩⟩
 done:=by
  intro X hP hw hK hc i pins s σ H E I hf st hg
  subst hP hw hK
  obtain⟨xs,hq,hx⟩:=hg
  obtain⟨its,rv,p,hz⟩:=I.tuple hq
  obtain⟨f0,f1,f2,f3,f4,f5⟩:=hf it (by simp)
  have hl:=rv.length
  exact wpAny_pyNext_tuple_end (I.ok.hd hc) st (show s.heap.IsTuple a its.toArray from p) (by simp;omega) fun h' eb=>⟨rfl,I.turned (t':=s.toks) (fun b o hb e=>eb b o hb e) f0 f1 f3 f4 f5⟩
 self:=fun _ _ _ _ _ st h=>wpAny_pyIter_tupleiter st h
theorem ac0 {P:Program}{w:World}{K:W.Frag}{tg:Expr}(it:Addr)(lo:Int)(n:Nat):Turn P w K tg (Itr lo n) [it] it (fun i h=>IsRangeIter h it (lo+(i:Nat)*1) ((n:Int) - (i:Nat)) 1) where
 mem:=by simp
 obj:=fun i h st b hb=>by
  have e:b=it:=by simpa using hb
  subst e
  exact⟨_,st,fun v z=>by
   have z':Data.fields _=Data.cell v:=z
   cases z'⟩
 keep:=fun i h h' st k=>k it (by simp) _ st
 item:=by
  intro X hP hw hK hc i pins s σ H E I hf st hg
  subst hP hw hK
  obtain⟨f0,f1,f2,f3,f4,f5⟩:=hf it (by simp)
  have W:=Walks.range (prog:=X.prog) (w:=X.w) (I.ok.hd hc) it lo 1 n
  refine W.item i s _ _ hg st fun v h' tk hv st' kk=>?_
  obtain⟨t,rfl⟩:=hv
  have I1:Inv X pins σ H { s with heap:=h',toks:=tk }:=I.turned (fun b o hb e=>kk b o (by simpa using hb) e) f0 f1 f3 f4 f5
  refine⟨_,rfl,ar8 (s:={ s with heap:=h',toks:=tk }) (n:="range_iterator") st' rfl rfl (by decide) ⟨.int (lo+i),H,I1,⟨t,?_⟩,⟨rfl,rfl⟩,st',fun b hb=>(hf b hb).1⟩⟩
  rw[Int.mul_one]
 done:=by
  intro X hP hw hK hc i pins s σ H E I hf st hg
  subst hP hw hK
  obtain⟨f0,f1,f2,f3,f4,f5⟩:=hf it (by simp)
  exact wpAny_pyNext_range_end (I.ok.hd hc) st (by have:n<=i:=hg;omega) fun h' eb=>⟨rfl,I.turned (t':=s.toks) (fun b o hb e=>eb b o hb e) f0 f1 f3 f4 f5⟩
 self:=fun _ _ _ _ _ st h=>wpAny_pyIter_rangeiter st h
section
variable {X:Cx} {tg:Expr}
def aJ4 (K:W.Frag)(tl:TE):TI:=fun σ H R=>tl σ H fun x H1=>∃ a,x=.ref a/\(∃ xs,SqL K H1 a xs)/\R (Itl K a) H1
def aM0 (K:W.Frag)(tl:TE):TI:=fun σ H R=>tl σ H fun x H1=>∃ a,x=.ref a/\(∃ xs,SqT K H1 a xs)/\R (Itt K a) H1
theorem V8 {l:Expr}{tl:TE}(hl:PE X l tl):PI X tg l (aJ4 X.K tl):=by
 intro pins s σ H R I h
 refine thn (hl pins s σ H _ I h) fun v s1 ⟨x,H1,I1,r1,q1⟩=>?_
 obtain⟨a,e,⟨xs,hq⟩,q⟩:=q1
 subst e
 cases r1
 obtain⟨its,rv,p,hz⟩:=I1.list hq
 refine wpAny_pyIter_list p.isList ?_
 refine⟨s1.heap.objs.size,[s1.heap.objs.size],_,_,H1,rfl,I1.kept (t':=s1.toks) fun b o e=>a7 _ e,aj0 a _,⟨_,b5 _ rfl,rfl,rfl⟩,fun b hb=>?_,q⟩
 have e:b=s1.heap.objs.size:=by simpa using hb
 subst e
 exact I1.fpOk (a8 _) (I1.hok.fresh (a8 _))
theorem ac9 {l:Expr}{tl:TE}(hl:PE X l tl):PI X tg l (aM0 X.K tl):=by
 intro pins s σ H R I h
 refine thn (hl pins s σ H _ I h) fun v s1 ⟨x,H1,I1,r1,q1⟩=>?_
 obtain⟨a,e,⟨xs,hq⟩,q⟩:=q1
 subst e
 cases r1
 obtain⟨its,rv,p,hz⟩:=I1.tuple hq
 refine wpAny_pyIter_tuple (show s1.heap.IsTuple a its.toArray from p) ?_
 refine⟨s1.heap.objs.size,[s1.heap.objs.size],_,_,H1,rfl,I1.kept (t':=s1.toks) fun b o e=>a7 _ e,ab9 a _,⟨_,b5 _ rfl,rfl,rfl⟩,fun b hb=>?_,q⟩
 have e:b=s1.heap.objs.size:=by simpa using hb
 subst e
 exact I1.fpOk (a8 _) (I1.hok.fresh (a8 _))
theorem Y9 {pins:List (Addr × Obj)}{σ:St}{H:Hp}{s:Shared}{R:It->Hp->Prop}{E:Value->Shared->Prop}{lo hi:Int}{t u v:Tok}{tk:Nat}(I:Inv X pins σ H s)(h1:-(2 ^ 62)<=lo)(h2:lo<2 ^ 62)(h3:-(2 ^ 62)<=hi)(h4:hi<2 ^ 62)
  (q:R (Itr lo (hi - lo).toNat) H):wpAny (model X.prog X.w) X.A (pyIter (.ref s.heap.objs.size)) (PIE X pins σ tg R) E { s with heap:=s.heap.push { cls:=.type "range",data:=.fields #[.int lo t,.int hi u,.int 1 v] },toks:=tk }:=by
 refine wpAny_pyIter_range (IsRange.new ..) (small_one h1 h2 h3 h4) ?_
 have I1:Inv X pins σ H { s with heap:=s.heap.push { cls:=.type "range",data:=.fields #[.int lo t,.int hi u,.int 1 v] },toks:=tk }:=I.kept fun b o e=>a7 _ e
 refine⟨(s.heap.push { cls:=.type "range",data:=.fields #[.int lo t,.int hi u,.int 1 v] }).objs.size,[(s.heap.push { cls:=.type "range",data:=.fields #[.int lo t,.int hi u,.int 1 v] }).objs.size],_,_,H,rfl,
  I1.kept (t':=tk) fun b o e=>a7 _ e,ac0 _ lo (hi - lo).toNat,?_,fun b hb=>?_,q⟩
 ·have e1:lo+((0:Nat):Int)*1=lo:=by simp
  have e2:(((hi - lo).toNat:Nat):Int) - ((0:Nat):Int)=Builtin.Range.rangeSize lo hi 1:=by rw[rangeSize_one];split<;>omega
  show IsRangeIter _ _ (lo+((0:Nat):Int)*1) ((((hi - lo).toNat:Nat):Int) - ((0:Nat):Int)) 1
  rw[e1,e2]
  exact b5 _ rfl
 ·have e:b=(s.heap.push { cls:=.type "range",data:=.fields #[.int lo t,.int hi u,.int 1 v] }).objs.size:=by simpa using hb
  subst e
  exact I1.fpOk (a8 _) (I1.hok.fresh (a8 _))
def aJ3 (ta:TA):TI:=fun σ H R=>ta σ H fun vs H1=>∃ j:Int,vs=[.int j] /\ -(2 ^ 62)<=j/\j<2 ^ 62/\R (Itr 0 j.toNat) H1
def aJ2 (ta:TA):TI:=fun σ H R=>ta σ H fun vs H1=>∃ i j:Int,vs=[.int i,.int j]/\(-(2 ^ 62)<=i/\i<2 ^ 62 /\ -(2 ^ 62)<=j/\j<2 ^ 62)/\R (Itr i (j - i).toNat) H1
theorem y0 {a:Expr}{ta:TA}{p pos:Pos}(hg:Gl X "range")(hm:X.mg "range"=none)(ha:PA X [a] ta)(hs:starEach [a] X.env=[(false,eval a X.env)]:=by rfl):PI X tg (.Call (.Name "range" p) [a] [] pos) (aJ3 ta):=by
 intro pins s σ H R I h
 refine Call_ (F1 I hg hm boot_range (PyProof.Rows.callWith_type1 (thn (ha pos pins s σ H _ I h) fun us s1 ⟨vs,H1,I1,r1,q1⟩=>?_) hs rfl))
 obtain⟨j,e,q1,q2,q⟩:=q1
 subst e
 cases r1 with
 | cons r rr =>
  cases rr
  obtain⟨t,rfl⟩:=r
  exact call_range_1 (Y9 I1 (by omega) (by omega) q1 q2 (by simpa using q))
theorem aj5 {a b:Expr}{ta:TA}{p pos:Pos}(hg:Gl X "range")(hm:X.mg "range"=none)(ha:PA X [a,b] ta)(hs:starEach [a,b] X.env=[(false,eval a X.env),(false,eval b X.env)]:=by rfl)(hs2:starEach [b] X.env=[(false,eval b X.env)]:=by rfl) :
  PI X tg (.Call (.Name "range" p) [a,b] [] pos) (aJ2 ta):=by
 intro pins s σ H R I h
 refine Call_ (F1 I hg hm boot_range (PyProof.Rows.callWith_type1 (thn (ha pos pins s σ H _ I h) fun us s1 ⟨vs,H1,I1,r1,q1⟩=>?_) (by rw[hs,hs2]) (by rw[hs2];rfl)))
 obtain⟨i,j,e,⟨q1,q2,q3,q4⟩,q⟩:=q1
 subst e
 cases r1 with
 | cons r rr =>
  cases rr with
  | cons r' rr =>
   cases rr
   obtain⟨t,rfl⟩:=r
   obtain⟨t',rfl⟩:=r'
   exact call_range_2 (Y9 I1 q1 q2 q3 q4 q)
def aL0 (wi:TI)(g:TG)(tb:TS):TS:=fun D σ H=>wi σ H fun J H1=>∃ W:Nat->Nat->St->Hp->Prop,(∃ m,W 0 m σ H1)/\∀ i m σ H,W i m σ H ->
 (J.stop i H/\D.nx σ H)\/(J.go i H/\∃ N:St->Hp->Prop,(∀ σ' H',N σ' H'->∃ m',m'<m/\W (i+1) m' σ' H')/\∀ x H',J.yld i H x H'->g x σ H' fun σ2 H2=>tb { D with nx:=N,ct:=N,bk:=D.nx } σ2 H2)
def J1 (fp:List Addr)(h:Heap):List (Addr × Obj):=fp.filterMap fun b=>(h.get? b).map fun o=>(b,o)
theorem u7 {fp:List Addr}{h:Heap}{b:Addr}{o:Obj}(hb:b∈fp)(e:h.get? b=some o):(b,o)∈J1 fp h:=S1.mpr ⟨b,hb,by rw[e];rfl⟩
theorem aj8 {fp:List Addr}{h:Heap}{p:Addr × Obj}(hp:p∈J1 fp h):p.1∈fp/\h.get? p.1=some p.2:=by
 obtain⟨b,hb,e⟩:=S1.mp hp
 cases q:h.get? b with
 | none=>rw[q]at e;cases e
 | some o =>
  rw[q]at e
  have e':(b,o)=p:=Option.some.inj e
  subst e'
  exact⟨hb,q⟩
theorem Inv.pinned {pins:List (Addr × Obj)}{σ:St}{H:Hp}{s:Shared}{fp:List Addr}(I:Inv X pins σ H s)(hf:∀ b∈fp,K6 X pins H b)(ho:∀ b∈fp,∃ o,s.heap.get? b=some o/\∀ v,o.data≠.cell v):Inv X (pins++J1 fp s.heap) σ H s:=
 I.pins_of fun p hp=>(g7.mp hp).elim (fun z=>I.pin p (c4 _ z)) fun z=>by
  obtain⟨hb,e⟩:=aj8 z
  obtain⟨f0,f1,f2,_⟩:=hf p.1 hb
  obtain⟨o,e',d⟩:=ho p.1 hb
  rw[e]at e';cases e'
  exact⟨e,f0,f1,f2,d⟩
theorem Inv.unpinned {pins pl:List (Addr × Obj)}{σ:St}{H:Hp}{s:Shared}(I:Inv X (pins++pl) σ H s):Inv X pins σ H s:=I.pins_of fun p hp=>I.pin p (c4 _ (o8 _ hp))
theorem E7 {iter:Expr}{body:List Stmt}{wi:TI}{g:TG}{tb:TS}{pos:Pos}(hp:PassesOwn (model X.prog X.w) X.A X.env X.xe)(hc:X.calm=true)(hi:PI X tg iter wi)(hg:PG X tg g)(hb:PSs X body tb)
  (hs:∀ x,foldedSetIterable iter X.env x=pure x:=by intro _;rfl):PS X (.For tg iter body [] pos) (aL0 wi g tb):=by
 intro pins s σ H D I h
 refine wpAny_For (thn (hi pins s σ H _ I h) fun v s1 h1=>thn h1 fun itv s2 h2=>?_) hs
 obtain⟨it,fp,tn,J,H2,e,I2,T,st2,f2,W,⟨m0,w0⟩,turn⟩:=h2
 subst e
 have stat:∀ {H':Hp},(∀ b∈fp,H' b=none)->∀ b∈fp,K6 X pins H' b:=fun hn b hb=>⟨hn b hb,(f2 b hb).2⟩
 refine codeAny_forLoop_any (fun n s'=>∃ i σ' H',Inv X pins σ' H' s'/\tn i s'.heap/\(∀ b∈fp,H' b=none)/\W i n σ' H') ?_ m0 ⟨0,σ,H2,I2,st2,fun b hb=>(f2 b hb).1,w0⟩
 rintro n s3 ⟨i,σ3,H3,I3,st3,fr3,w3⟩
 rcases turn i n σ3 H3 w3 with⟨stop,qn⟩ | ⟨go,N,hN,step⟩
 ·refine wpAny_passesOwn hp (thn (T.done X rfl rfl rfl hc i pins s3 σ3 H3 X.xe I3 (stat fr3) st3 stop) fun r s4 ⟨hr,I4⟩=>?_)
  subst hr
  exact wpAny_execs_nil ⟨σ3,H3,I4,qn⟩
 ·refine wpAny_passesOwn hp (thn (T.item X rfl rfl rfl hc i pins s3 σ3 H3 X.xe I3 (stat fr3) st3 go) fun r s4 ⟨u,hr,h4⟩=>?_)
  subst hr
  refine wpAny_passesOwn hp (thn h4 fun _ s5 ⟨x,H5,I5,r5,y5,st5,fr5⟩=>?_)
  have I5':=I5.pinned (stat fr5) (T.obj _ _ st5)
  refine wpAny_passesOwn hp (thn (hg _ s5 σ3 H5 x u _ I5' r5 (step x H5 y5)) fun _ s6 ⟨σ6,H6,I6,q6⟩=>?_)
  refine wpAny_passesOwn hp (thn (hb _ s6 σ6 H6 _ I6 q6) fun f s7 q7=>?_)
  have again:∀ {σ7:St} {H7:Hp},Inv X (pins++J1 fp s5.heap) σ7 H7 s7->N σ7 H7->∃ m,m<n/\∃ i σ' H',Inv X pins σ' H' s7/\tn i s7.heap/\(∀ b∈fp,H' b=none)/\W i m σ' H':=fun {σ7 H7} I7 n7=>by
   obtain⟨m',hm,w7⟩:=hN σ7 H7 n7
   refine⟨m',hm,i+1,σ7,H7,I7.unpinned,T.keep _ _ _ st5 fun b hb o e=>(I7.pin (b,o) (c4 _ (c4 _ (u7 hb e)))).1,fun b hb=>?_,w7⟩
   obtain⟨o,e,d⟩:=T.obj _ _ st5 b hb
   exact(I7.pin (b,o) (c4 _ (c4 _ (u7 hb e)))).2.1
  cases f with
  | next=>obtain⟨σ7,H7,I7,n7⟩:=q7;exact again I7 n7
  | cont=>obtain⟨σ7,H7,I7,n7⟩:=q7;exact again I7 n7
  | brk=>obtain⟨σ7,H7,I7,q7⟩:=q7;exact⟨σ7,H7,I7.unpinned,q7⟩
  | ret v=>obtain⟨x7,σ7,H7,I7,r7,q7⟩:=q7;exact⟨x7,σ7,H7,I7.unpinned,r7,q7⟩
end
theorem aa3 {K:W.Frag}{a:Addr}{xs:List V}{g:TG}{tb:TS}{D:Ends}{σ:St}{H:Hp}(Pv:Nat->St->Hp->Prop)(h0:Pv 0 σ H)(hl:∀ i σ H,i<=xs.length->Pv i σ H->SqL K H a xs)
  (hs:∀ i x σ H,xs[i]?=some x->Pv i σ H->g x σ H fun σ2 H2=>tb { D with nx:=Pv (i+1),ct:=Pv (i+1),bk:=D.nx } σ2 H2)(hd:∀ σ H,Pv xs.length σ H->D.nx σ H) :
  ∃ W:Nat->Nat->St->Hp->Prop,(∃ m,W 0 m σ H)/\∀ i m σ H,W i m σ H ->
   ((Itl K a).stop i H/\D.nx σ H)\/((Itl K a).go i H/\∃ N:St->Hp->Prop,(∀ σ' H',N σ' H'->∃ m',m'<m/\W (i+1) m' σ' H')/\∀ x H',(Itl K a).yld i H x H'->g x σ H' fun σ2 H2=>tb { D with nx:=N,ct:=N,bk:=D.nx } σ2 H2):=by
 refine⟨fun i m σ H=>m=xs.length - i/\i<=xs.length/\Pv i σ H,⟨xs.length,by simp,i3 _,h0⟩,?_⟩
 rintro i m σ H ⟨rfl,hi,p⟩
 have q:=hl i σ H hi p
 by_cases hlt:i<xs.length
 ·refine .inr ⟨⟨xs,xs[i],q,by simp[hlt]⟩,Pv (i+1),fun σ' H' p'=>⟨xs.length - (i+1),by omega,rfl,hlt,p'⟩,fun x H' y=>?_⟩
  obtain⟨e,y⟩:=y
  subst e
  exact hs i x σ _ (y xs q) p
 ·have e:i=xs.length:=by omega
  subst e
  exact .inl ⟨⟨xs,q,a8 _⟩,hd σ H p⟩
theorem ai1 {K:W.Frag}{a:Addr}{xs:List V}{g:TG}{tb:TS}{D:Ends}{σ:St}{H:Hp}(Pv:Nat->St->Hp->Prop)(h0:Pv 0 σ H)(hl:∀ i σ H,i<=xs.length->Pv i σ H->SqT K H a xs)
  (hs:∀ i x σ H,xs[i]?=some x->Pv i σ H->g x σ H fun σ2 H2=>tb { D with nx:=Pv (i+1),ct:=Pv (i+1),bk:=D.nx } σ2 H2)(hd:∀ σ H,Pv xs.length σ H->D.nx σ H) :
  ∃ W:Nat->Nat->St->Hp->Prop,(∃ m,W 0 m σ H)/\∀ i m σ H,W i m σ H ->
   ((Itt K a).stop i H/\D.nx σ H)\/((Itt K a).go i H/\∃ N:St->Hp->Prop,(∀ σ' H',N σ' H'->∃ m',m'<m/\W (i+1) m' σ' H')/\∀ x H',(Itt K a).yld i H x H'->g x σ H' fun σ2 H2=>tb { D with nx:=N,ct:=N,bk:=D.nx } σ2 H2):=by
 refine⟨fun i m σ H=>m=xs.length - i/\i<=xs.length/\Pv i σ H,⟨xs.length,by simp,i3 _,h0⟩,?_⟩
 rintro i m σ H ⟨rfl,hi,p⟩
 have q:=hl i σ H hi p
 by_cases hlt:i<xs.length
 ·refine .inr ⟨⟨xs,xs[i],q,by simp[hlt]⟩,Pv (i+1),fun σ' H' p'=>⟨xs.length - (i+1),by omega,rfl,hlt,p'⟩,fun x H' y=>?_⟩
  obtain⟨e,y⟩:=y
  subst e
  exact hs i x σ _ (y xs q) p
 ·have e:i=xs.length:=by omega
  subst e
  exact .inl ⟨⟨xs,q,a8 _⟩,hd σ H p⟩
theorem F9 {lo:Int}{n:Nat}{g:TG}{tb:TS}{D:Ends}{σ:St}{H:Hp}(Pv:Nat->St->Hp->Prop)(h0:Pv 0 σ H)
  (hs:∀ i σ H,i<n->Pv i σ H->g (.int (lo+i)) σ H fun σ2 H2=>tb { D with nx:=Pv (i+1),ct:=Pv (i+1),bk:=D.nx } σ2 H2)(hd:∀ σ H,Pv n σ H->D.nx σ H) :
  ∃ W:Nat->Nat->St->Hp->Prop,(∃ m,W 0 m σ H)/\∀ i m σ H,W i m σ H ->
   ((Itr lo n).stop i H/\D.nx σ H)\/((Itr lo n).go i H/\∃ N:St->Hp->Prop,(∀ σ' H',N σ' H'->∃ m',m'<m/\W (i+1) m' σ' H')/\∀ x H',(Itr lo n).yld i H x H'->g x σ H' fun σ2 H2=>tb { D with nx:=N,ct:=N,bk:=D.nx } σ2 H2):=by
 refine⟨fun i m σ H=>m=n - i/\i<=n/\Pv i σ H,⟨n,by simp,i3 _,h0⟩,?_⟩
 rintro i m σ H ⟨rfl,hi,p⟩
 by_cases hlt:i<n
 ·refine .inr ⟨hlt,Pv (i+1),fun σ' H' p'=>⟨n - (i+1),by omega,rfl,hlt,p'⟩,fun x H' y=>?_⟩
  obtain⟨e,y⟩:=y
  subst e y
  exact hs i σ _ hlt p
 ·have e:i=n:=by omega
  subst e
  exact .inl ⟨a8 _,hd σ H p⟩
abbrev R2:=V->V->Hp->VK->Prop
def OpR (X:Cx)(f:Value->Value->Sem Value)(r:R2):Prop:=
 ∀ (pins:List (Addr × Obj)) (s:Shared) (σ:St) (H:Hp) (x y:V) (v u:Value) (Q:VK),Inv X pins σ H s->RelV x v->RelV y u->r x y H Q ->
  wpAny (model X.prog X.w) X.A (f v u) (EP X pins σ Q) X.xe s
def A9 (X:Cx)(f:Value)(r:List V->Hp->VK->Prop):Prop:=
 ∀ (pins:List (Addr × Obj)) (s:Shared) (σ:St) (H:Hp) (xs:List V) (us:List Value) (Q:VK),Inv X pins σ H s->l7 xs us->r xs H Q ->
  wpAny (model X.prog X.w) X.A (call f us) (EP X pins σ Q) X.xe s
def aM4 (X:Cx)(r:V->Hp->(Bool->Hp->Prop)->Prop):Prop:=
 ∀ (pins:List (Addr × Obj)) (s:Shared) (σ:St) (H:Hp) (x:V) (v:Value) (Q:Bool->Hp->Prop),Inv X pins σ H s->RelV x v->r x H Q ->
  wpAny (model X.prog X.w) X.A (truthy v) (TP X pins σ Q) X.xe s
def tOp (r:R2)(ta tb:TE):TE:=fun σ H Q=>ta σ H fun x H1=>tb σ H1 fun y H2=>r x y H2 Q
def rI (C:Int->Int->Prop)(g:Int->Int->V):R2:=fun x y H Q=>∃ i j,x=.int i/\y=.int j/\C i j/\Q (g i j) H
def rI0 (g:Int->Int->V):R2:=fun x y H Q=>∃ i j,x=.int i/\y=.int j/\Q (g i j) H
section
variable {X:Cx} {a b c:Expr} {ta tb tc:TE} {pos:Pos}
theorem aF0 (ha:PE X a ta)(hb:PE X b tb){pins:List (Addr × Obj)}{s:Shared}{σ:St}{H:Hp}{R:V->V->Hp->Prop}(I:Inv X pins σ H s)
  (h:ta σ H fun x H1=>tb σ H1 fun y H2=>R x y H2){Q:Value->Shared->Prop}{f:Value->Value->Sem Value}
  (hf:∀ v u s2 x y H2,Inv X pins σ H2 s2->RelV x v->RelV y u->R x y H2->wpAny (model X.prog X.w) X.A (f v u) Q X.xe s2) :
  wpAny (model X.prog X.w) X.A (eval a X.env) (fun v s₁=>wpAny (model X.prog X.w) X.A (eval b X.env) (fun u s₂=>wpAny (model X.prog X.w) X.A (f v u) Q X.xe s₂) X.xe s₁) X.xe s:=by
 refine thn (ha pins s σ H _ I h) fun v s1 ⟨x,H1,I1,r1,q1⟩=>?_
 refine thn (hb pins s1 σ H1 _ I1 q1) fun u s2 ⟨y,H2,I2,r2,q2⟩=>?_
 exact hf v u s2 x y H2 I2 r1 r2 q2
theorem o3 {op:Operator}{r:R2}(ho:OpR X (binaryOp op) r)(ha:PE X a ta)(hb:PE X b tb):PE X (.BinOp a op b pos) (tOp r ta tb):=by
 intro pins s σ H Q I h
 exact wpAny_BinOp (aF0 ha hb I h fun v u s2 x y H2 I2 rx ry q=>ho pins s2 σ H2 x y v u Q I2 rx ry q)
theorem opI {f:Value->Value->Sem Value}{C:Int->Int->Prop}{g:Int->Int->Int}
  (rule:∀ (i j:Int) (t u:Tok) (s:Shared) (Q:Value->Shared->Prop) (E:Value->Shared->Prop),C i j->Q (.int (g i j) s.toks) { s with toks:=s.toks+1 }->wpAny (model X.prog X.w) X.A (f (.int i t) (.int j u)) Q E s) :
  OpR X f (rI C fun i j=>.int (g i j)):=by
 intro pins s σ H x y v u Q I rx ry h
 obtain⟨i,j,rfl,rfl,hc,q⟩:=h
 obtain⟨t,rfl⟩:=rx
 obtain⟨t',rfl⟩:=ry
 exact rule i j t t' s _ _ hc ⟨.int (g i j),H,I.tok _,⟨_,rfl⟩,q⟩
theorem aL8 {f:Value->Value->Sem Value}{g:Int->Int->Int}
  (rule:∀ (i j:Int) (t u:Tok) (s:Shared) (Q:Value->Shared->Prop) (E:Value->Shared->Prop),Q (.int (g i j) s.toks) { s with toks:=s.toks+1 }->wpAny (model X.prog X.w) X.A (f (.int i t) (.int j u)) Q E s) :
  OpR X f (rI0 fun i j=>.int (g i j)):=by
 intro pins s σ H x y v u Q I rx ry h
 obtain⟨i,j,rfl,rfl,q⟩:=h
 obtain⟨t,rfl⟩:=rx
 obtain⟨t',rfl⟩:=ry
 exact rule i j t t' s _ _ ⟨.int (g i j),H,I.tok _,⟨_,rfl⟩,q⟩
theorem aC7 {f:Value->Value->Sem Value}{g:Int->Int->Bool}
  (rule:∀ (i j:Int) (t u:Tok) (s:Shared) (Q:Value->Shared->Prop) (E:Value->Shared->Prop),Q (.bool (g i j)) s->wpAny (model X.prog X.w) X.A (f (.int i t) (.int j u)) Q E s) :
  OpR X f (rI0 fun i j=>.bl (g i j)):=by
 intro pins s σ H x y v u Q I rx ry h
 obtain⟨i,j,rfl,rfl,q⟩:=h
 obtain⟨t,rfl⟩:=rx
 obtain⟨t',rfl⟩:=ry
 exact rule i j t t' s _ _ ⟨.bl (g i j),H,I,rfl,q⟩
def aM7 (i j:Int):Prop:=0<j/\j<1073741824
def aM6 (i j:Int):Prop:=0<=j/\j<=1000000/\i.natAbs<2 ^ 64
def aF7 (i j:Int):Prop:=(-(2 ^ 64)<i/\i<2 ^ 64)\/(-(2 ^ 64)<j/\j<2 ^ 64)
theorem aF7.ok {i j:Int}(h:aF7 i j):IntMulOk i j:=by
 rcases h with⟨h1,h2⟩ | ⟨h1,h2⟩
 ·exact .of_left (intBits_le_64 h1 h2)
 ·exact .of_right (intBits_le_64 h1 h2)
theorem Q0:OpR X (binaryOp .Add) (rI0 fun i j=>.int (i+j)):=aL8 fun _ _ _ _ _ _ _ q=>add_int q
theorem ad3:OpR X (binaryOp .Mult) (rI aF7 fun i j=>.int (i*j)):=opI fun _ _ _ _ _ _ _ hc q=>mul_int q hc.ok
theorem C4:OpR X (binaryOp .FloorDiv) (rI aM7 fun i j=>.int (i / j)):=opI fun i j _ _ _ _ _ hc q=>by
 have h1:(0:Int)<j:=hc.1
 have h2:j<1073741824:=hc.2
 exact floordiv_int (by omega) (by rw[Int.fdiv_eq_ediv_of_nonneg i (by omega)];exact q) (.inl (PyProof.noPylong_small (by omega)))
theorem x5:OpR X (binaryOp .Mod) (rI (fun _ j=>0<j) fun i j=>.int (i % j)):=opI fun i j _ _ _ _ _ hc q=>by
 have h1:(0:Int)<j:=hc
 exact mod_int' (by omega) (by rw[Int.fmod_eq_emod_of_nonneg i (by omega)];exact q)
theorem ad2:OpR X (binaryOp .Pow) (rI aM6 fun i j=>.int (i ^ j.toNat)):=opI fun _ _ _ _ _ _ _ hc q=>pow_int_small hc.1 hc.2.1 hc.2.2 q
end
def aH7:V->V->Bool
 | .non,.non=>true | .non,.int _=>true | .int _,.non=>true | .non,.bl _=>true | .bl _,.non=>true | .non,.str _=>true | .str _,.non=>true
 | .int _,.int _=>true | .bl _,.bl _=>true | .str _,.str _=>true | .byt _,.byt _=>true
 | .int _,.str _=>true | .str _,.int _=>true | .bl _,.str _=>true | .str _,.bl _=>true
 | _,_=>false
def rEq:R2:=fun x y H Q=>aH7 x y=true/\Q (.bl (decide (x=y))) H
def rNe:R2:=fun x y H Q=>aH7 x y=true/\Q (.bl (!decide (x=y))) H
theorem ai3 {i j:Int}:decide (V.int i=V.int j)=(i == j):=by
 rw[K7]
 simp
theorem as2 {i j:Bool}:decide (V.bl i=V.bl j)=(i == j):=by
 rw[K7]
 simp
theorem ai2 {i j:Str}:decide (V.str i=V.str j)=(i == j):=by
 rw[K7]
 simp
theorem ai4 {i j:Array UInt8}:decide (V.byt i=V.byt j)=(i.toList == j.toList):=by
 rw[K7]
 cases i
 cases j
 simp
section
variable {X:Cx} {a b c:Expr} {ta tb tc:TE} {pos:Pos}
theorem m3 {pins:List (Addr × Obj)}{σ:St}{H:Hp}{s:Shared}{Q:VK}{k k':Bool}(I:Inv X pins σ H s)(q:Q (.bl k) H)(e:k=k'):EP X pins σ Q (.bool k') s:=by
 subst e
 exact⟨.bl k,H,I,rfl,q⟩
theorem G5:OpR X (compareOp .Eq) rEq:=by
 intro pins s σ H x y v u Q I rx ry h
 obtain⟨hs,q⟩:=h
 cases x with
 | non =>
  cases rx
  cases y with
  | non=>cases ry;exact PySem.EqNone.eq_none_none (m3 I q (by simp))
  | bl j=>cases ry;exact PySem.EqNone.eq_none_bool (m3 I q (by simp))
  | int j=>obtain⟨t',rfl⟩:=ry;exact PySem.EqNone.eq_none_int (m3 I q (by simp))
  | str j=>obtain⟨t',rfl⟩:=ry;exact PySem.EqNone.eq_none_str (m3 I q (by simp))
  | _=>exact absurd (show false=true from hs) b7
 | bl i =>
  cases rx
  cases y with
  | non=>cases ry;exact PySem.EqNone.eq_bool_none (m3 I q (by simp))
  | bl j=>cases ry;exact eq_bool (m3 I q as2)
  | str j=>obtain⟨t',rfl⟩:=ry;exact PySem.EqMixed.eq_bool_str (m3 I q (by simp))
  | _=>exact absurd (show false=true from hs) b7
 | int i =>
  obtain⟨t,rfl⟩:=rx
  cases y with
  | non=>cases ry;exact PySem.EqNone.eq_int_none (m3 I q (by simp))
  | int j=>obtain⟨t',rfl⟩:=ry;exact eq_int (m3 I q ai3)
  | str j=>obtain⟨t',rfl⟩:=ry;exact PySem.EqMixed.eq_int_str (m3 I q (by simp))
  | _=>exact absurd (show false=true from hs) b7
 | str i =>
  obtain⟨t,rfl⟩:=rx
  cases y with
  | non=>cases ry;exact PySem.EqNone.eq_str_none (m3 I q (by simp))
  | bl j=>cases ry;exact PySem.EqMixed.eq_str_bool (m3 I q (by simp))
  | int j=>obtain⟨t',rfl⟩:=ry;exact PySem.EqMixed.eq_str_int (m3 I q (by simp))
  | str j=>obtain⟨t',rfl⟩:=ry;exact eq_str (m3 I q ai2)
  | _=>exact absurd (show false=true from hs) b7
 | byt i =>
  obtain⟨t,rfl⟩:=rx
  cases y with
  | byt j=>obtain⟨t',rfl⟩:=ry;exact PySem.W.eq_bytes (m3 I q ai4)
  | _=>exact absurd (show false=true from hs) b7
 | _=>cases y<;>exact absurd (show false=true from hs) b7
theorem aI6:OpR X (compareOp .NotEq) rNe:=by
 intro pins s σ H x y v u Q I rx ry h
 obtain⟨hs,q⟩:=h
 cases x with
 | non =>
  cases rx
  cases y with
  | non=>cases ry;exact PySem.EqNone.ne_none_none (m3 I q (by simp))
  | bl j=>cases ry;exact PySem.EqNone.ne_none_bool (m3 I q (by simp))
  | int j=>obtain⟨t',rfl⟩:=ry;exact PySem.EqNone.ne_none_int (m3 I q (by simp))
  | str j=>obtain⟨t',rfl⟩:=ry;exact PySem.EqNone.ne_none_str (m3 I q (by simp))
  | _=>exact absurd (show false=true from hs) b7
 | bl i =>
  cases rx
  cases y with
  | non=>cases ry;exact PySem.EqNone.ne_bool_none (m3 I q (by simp))
  | bl j=>cases ry;exact ne_bool (m3 I q (congrArg not as2))
  | str j=>obtain⟨t',rfl⟩:=ry;exact PySem.EqMixed.ne_bool_str (m3 I q (by simp))
  | _=>exact absurd (show false=true from hs) b7
 | int i =>
  obtain⟨t,rfl⟩:=rx
  cases y with
  | non=>cases ry;exact PySem.EqNone.ne_int_none (m3 I q (by simp))
  | int j=>obtain⟨t',rfl⟩:=ry;exact ne_int (m3 I q (congrArg not ai3))
  | str j=>obtain⟨t',rfl⟩:=ry;exact PySem.EqMixed.ne_int_str (m3 I q (by simp))
  | _=>exact absurd (show false=true from hs) b7
 | str i =>
  obtain⟨t,rfl⟩:=rx
  cases y with
  | non=>cases ry;exact PySem.EqNone.ne_str_none (m3 I q (by simp))
  | bl j=>cases ry;exact PySem.EqMixed.ne_str_bool (m3 I q (by simp))
  | int j=>obtain⟨t',rfl⟩:=ry;exact PySem.EqMixed.ne_str_int (m3 I q (by simp))
  | str j=>obtain⟨t',rfl⟩:=ry;exact ne_str (m3 I q (congrArg not ai2))
  | _=>exact absurd (show false=true from hs) b7
 | byt i =>
  obtain⟨t,rfl⟩:=rx
  cases y with
  | byt j=>obtain⟨t',rfl⟩:=ry;exact PySem.W.ne_bytes (m3 I q (congrArg not ai4))
  | _=>exact absurd (show false=true from hs) b7
 | _=>cases y<;>exact absurd (show false=true from hs) b7
theorem ap9:OpR X (compareOp .Lt) (rI0 fun i j=>.bl (decide (i<j))):=aC7 fun _ _ _ _ _ _ _ q=>lt_int q
theorem aq0:OpR X (compareOp .LtE) (rI0 fun i j=>.bl (decide (i<=j))):=aC7 fun _ _ _ _ _ _ _ q=>le_int q
theorem aA3:OpR X (compareOp .Gt) (rI0 fun i j=>.bl (decide (j<i))):=aC7 fun _ _ _ _ _ _ _ q=>gt_int q
theorem aq1:OpR X (compareOp .Is) (fun x y H Q=>y=.non/\Q (.bl (decide (x=.non))) H):=by
 intro pins s σ H x y v u Q I rx ry h
 obtain⟨rfl,q⟩:=h
 cases ry
 refine is_none_gen (m3 I q ?_)
 cases x<;>first
  | (cases rx;rfl)
  | (obtain⟨t,rfl⟩:=rx;rfl)
theorem u6 (b:Expr){op:CmpOp}(h:op≠.In:=by decide)(h2:op≠.NotIn:=by decide):behindInMarks op b=false:=by
 have e1:(op == CmpOp.In)=false:=by cases op<;>first | rfl | exact absurd rfl h
 have e2:(op == CmpOp.NotIn)=false:=by cases op<;>first | rfl | exact absurd rfl h2
 cases b<;>simp[behindInMarks,e1,e2]
theorem O2 {op:CmpOp}{r:R2}(ho:OpR X (compareOp op) r)(ha:PE X a ta)(hb:PE X b tb)(hm:behindInMarks op b=false):PE X (.Compare a [op] [b] pos) (tOp r ta tb):=by
 intro pins s σ H Q I h
 exact wpAny_Compare1 (aF0 ha hb I h fun v u s2 x y H2 I2 rx ry q=>ho pins s2 σ H2 x y v u Q I2 rx ry q) hm
def az4 (t:TE):TT:=fun σ H Q=>t σ H fun x H'=>∃ k,x=.bl k/\Q k H'
theorem v8 {op:CmpOp}{r:R2}(ho:OpR X (compareOp op) r)(ha:PE X a ta)(hb:PE X b tb)(hm:behindInMarks op b=false):PT X (.Compare a [op] [b] pos) (az4 (tOp r ta tb)):=by
 intro pins s σ H Q I h
 refine wpAny_isTrue_Compare1 (thn (ha pins s σ H _ I h) fun v s1 ⟨x,H1,I1,r1,q1⟩=>thn (hb pins s1 σ H1 _ I1 q1) fun u s2 ⟨y,H2,I2,r2,q2⟩ =>
  thn (ho pins s2 σ H2 x y v u _ I2 r1 r2 q2) fun c s3 ⟨z,H3,I3,r3,k,e,q3⟩=>?_) hm
 subst e
 cases r3
 exact wpAny_truthy_bool ⟨H3,I3,q3⟩
def am7 (r r':R2)(ta tb tc:TE):TE:=fun σ H Q=>ta σ H fun x H1=>tb σ H1 fun y H2=>r x y H2 fun z H3=>∃ k,z=.bl k /\
 (if k=true then tc σ H3 fun w' H4=>r' y w' H4 Q else Q (.bl false) H3)
theorem ap6 {op op':CmpOp}{r r':R2}(ho:OpR X (compareOp op) r)(ho':OpR X (compareOp op') r')(ha:PE X a ta)(hb:PE X b tb)(hc:PE X c tc)
  (hm:lastMarks [op,op'] [b,c]=false:=by with_unfolding_all rfl):PE X (.Compare a [op,op'] [b,c] pos) (am7 r r' ta tb tc):=by
 intro pins s σ H Q I h
 refine Compare_chain (thn (ha pins s σ H _ I h) fun v s1 ⟨x,H1,I1,r1,q1⟩=>chain_link (thn (hb pins s1 σ H1 _ I1 q1) fun u s2 ⟨y,H2,I2,r2,q2⟩ =>
  thn (ho pins s2 σ H2 x y v u _ I2 r1 r2 q2) fun d s3 ⟨z,H3,I3,r3,k,e,q3⟩=>?_)) hm
 subst e
 cases r3
 refine wpAny_truthy_bool ?_
 cases k with
 | false=>exact ite_ff ⟨.bl false,H3,I3,rfl,q3⟩
 | true=>exact ite_tt (chain_last (thn (hc pins s3 σ H3 _ I3 q3) fun w' s4 ⟨z',H4,I4,r4,q4⟩=>ho' pins s4 σ H4 y z' u w' Q I4 r2 r4 q4))
theorem ao8 {op op':CmpOp}{r r':R2}(ho:OpR X (compareOp op) r)(ho':OpR X (compareOp op') r')(ha:PE X a ta)(hb:PE X b tb)(hc:PE X c tc)
  (hm:lastMarks [op,op'] [b,c]=false:=by with_unfolding_all rfl):PT X (.Compare a [op,op'] [b,c] pos) (az4 (am7 r r' ta tb tc)):=by
 intro pins s σ H Q I h
 refine isTrue_chain (thn (ha pins s σ H _ I h) fun v s1 ⟨x,H1,I1,r1,q1⟩=>test_link (thn (hb pins s1 σ H1 _ I1 q1) fun u s2 ⟨y,H2,I2,r2,q2⟩ =>
  thn (ho pins s2 σ H2 x y v u _ I2 r1 r2 q2) fun d s3 ⟨z,H3,I3,r3,k,e,q3⟩=>?_)) hm
 subst e
 cases r3
 refine wpAny_truthy_bool ?_
 cases k with
 | false =>
  obtain⟨k',e',q'⟩:=q3
  cases e'
  exact ite_ff ⟨H3,I3,q'⟩
 | true =>
  refine ite_tt (test_last (thn (hc pins s3 σ H3 _ I3 q3) fun w' s4 ⟨z',H4,I4,r4,q4⟩=>thn (ho' pins s4 σ H4 y z' u w' _ I4 r2 r4 q4) fun d' s5 ⟨z2,H5,I5,r5,k2,e2,q5⟩=>?_))
  subst e2
  cases r5
  exact wpAny_truthy_bool ⟨H5,I5,q5⟩
def aK1 (K:W.Frag)(x:V)(H:Hp)(k:Bool):Prop:=
 match x with
 | .non=>k=false
 | .bl b=>k=b
 | .int i=>k=(i != 0)
 | .str y=>y.length<=sizeLine/\k=((y.length:Int) != 0)
 | .byt y=>y.size<=sizeLine/\k=((y.size:Int) != 0)
 | .ref p=>(∃ xs,SqL K H p xs/\k=!xs.isEmpty)\/(∃ xs,SqT K H p xs/\k=!xs.isEmpty)\/∃ kvs,H p=some (.dK kvs)/\k=!kvs.isEmpty
 | _=>False
theorem ae0 {κ:Type}{kvs:List (κ × V)}{vs:List (κ × Value)}(r:KV kvs vs):(!vs.isEmpty)=!kvs.isEmpty:=by
 cases r<;>rfl
theorem Q8 {xs:List V}{its:List Value}(r:l7 xs its):(!its.toArray.isEmpty)=!xs.isEmpty:=by
 cases r<;>simp
theorem L8:(sizeLine:Nat)<2 ^ 63:=by rw[sizeLine_eq];decide
theorem aB6:aM4 X (fun x H Q=>∃ k,aK1 X.K x H k/\Q k H):=by
 intro pins s σ H x v Q I rx h
 obtain⟨k,e,q⟩:=h
 have hl:=L8
 have hs:sizeLine=16777216:=sizeLine_eq
 cases x with
 | non =>
  cases rx
  have e':k=false:=e
  subst e'
  exact truthy_none ⟨H,I,q⟩
 | bl b =>
  cases rx
  have e':k=b:=e
  subst e'
  exact wpAny_truthy_bool ⟨H,I,q⟩
 | int i =>
  obtain⟨t,rfl⟩:=rx
  have e':k=(i != 0):=e
  subst e'
  exact PySem.P.truthy_int ⟨H,I,q⟩
 | str y =>
  obtain⟨t,rfl⟩:=rx
  obtain⟨hy,e'⟩:y.length<=sizeLine/\k=((y.length:Int) != 0):=e
  subst e'
  exact PySem.P.truthy_str (by omega) ⟨H,I.tok _,q⟩
 | byt y =>
  obtain⟨t,rfl⟩:=rx
  obtain⟨hy,e'⟩:y.size<=sizeLine/\k=((y.size:Int) != 0):=e
  subst e'
  exact PySem.W.truthy_bytes (by omega) ⟨H,I.tok _,q⟩
 | ref p =>
  cases rx
  have e':(∃ xs,SqL X.K H p xs/\k=!xs.isEmpty)\/(∃ xs,SqT X.K H p xs/\k=!xs.isEmpty)\/∃ kvs,H p=some (.dK kvs)/\k=!kvs.isEmpty:=e
  rcases e' with⟨xs,hx,e'⟩ | ⟨xs,hx,e'⟩ | ⟨kvs,hx,e'⟩
  ·subst e'
   obtain⟨its,r,pl,hz⟩:=I.list hx
   have hlen:=r.length
   exact wpAny_truthy_list pl.isList (by simp only[c7];omega) ⟨H,I.tok _,by rw[Q8 r];exact q⟩
  ·subst e'
   obtain⟨its,r,pl,hz⟩:=I.tuple hx
   have hlen:=r.length
   exact truthy_tuple pl (by simp only[c7];omega) ⟨H,I.tok _,by rw[Q8 r];exact q⟩
  ·subst e'
   obtain⟨hz,hS,vs,r,m⟩:kvs.length<=sizeLine/\(p == sysModules)=false/\∃ vs,KV kvs vs/\s.heap.DictOf (p5 X.prog X.w) p vs:=I.hok p _ hx
   have hlen:kvs.length=vs.length:=Paired.length r
   exact wpAny_truthy_dict hS m (by omega) ⟨H,I.tok _,by rw[ae0 r];exact q⟩
 | _=>exact(show False from e).elim
theorem ao7 (ha:PE X a ta)(he:∀ whole,isTrue a X.env whole=(do let v <- whole;standAt a.pos;holding [v] (truthy v))) :
  PT X a (fun σ H Q=>ta σ H fun x H'=>∃ k,aK1 X.K x H' k/\Q k H'):=by
 intro pins s σ H Q I h
 exact isTrue_plain (thn (ha pins s σ H _ I h) fun v s1 ⟨x,H1,I1,r1,q1⟩=>aB6 pins s1 σ H1 x v Q I1 r1 q1) (he _)
theorem vals1 {x:V}{us:List Value}(r:l7 [x] us):∃ u,us=[u]/\RelV x u:=by
 cases r with
 | cons r1 r2=>cases r2;exact⟨_,rfl,r1⟩
theorem vals2 {x y:V}{us:List Value}(r:l7 [x,y] us):∃ u w',us=[u,w']/\RelV x u/\RelV y w':=by
 cases r with
 | cons r1 r2 =>
  cases r2 with
  | cons r3 r4=>cases r4;exact⟨_,_,rfl,r1,r3⟩
theorem al5 (hc:X.calm=true):A9 X (.builtin "max") (fun xs H Q=>∃ i j,xs=[.int i,.int j]/\Q (.int (if j > i then j else i)) H):=by
 intro pins s σ H xs us Q I r h
 obtain⟨i,j,rfl,q⟩:=h
 obtain⟨u,w',rfl,⟨t,rfl⟩,⟨t',rfl⟩⟩:=vals2 r
 refine max_two_ints (I.ok.hd hc) fun h' tk k=>⟨_,H,I.kept k,?_,q⟩
 by_cases hj:j > i
 ·rw[if_pos hj,if_pos hj];exact⟨_,rfl⟩
 ·rw[if_neg hj,if_neg hj];exact⟨_,rfl⟩
theorem U4 (hc:X.calm=true):A9 X (.builtin "min") (fun xs H Q=>∃ i j,xs=[.int i,.int j]/\Q (.int (if j<i then j else i)) H):=by
 intro pins s σ H xs us Q I r h
 obtain⟨i,j,rfl,q⟩:=h
 obtain⟨u,w',rfl,⟨t,rfl⟩,⟨t',rfl⟩⟩:=vals2 r
 refine min_two_ints (I.ok.hd hc) fun h' tk k=>⟨_,H,I.kept k,?_,q⟩
 by_cases hj:j<i
 ·rw[if_pos hj,if_pos hj];exact⟨_,rfl⟩
 ·rw[if_neg hj,if_neg hj];exact⟨_,rfl⟩
end
structure aF5 (h:Heap) (x dx C:Addr) (mA:Str->Option Value):Prop where
 obj:h.get? x=some (PySem.W.instObj C dx)
 ns:h.Ns1 dx mA
 ne:dx≠x
theorem ak1 {h:Heap}{dx:Addr}{mA:Str->Option Value}(n:h.Ns1 dx mA):∃ od,h.get? dx=some od/\∀ name,PySem.W.lookIn name od=some (mA name):=by
 obtain⟨o,es,ep,ho,hd,hk,_,hm⟩:=n
 refine⟨o,ho,fun name=>?_⟩
 have e:=hm name
 unfold nsFind findBy at e
 rw[<- Array.find?_toList]at e
 unfold PySem.W.lookIn
 rw[hd]
 dsimp only
 split
 ·rename_i y q
  rw[q]at e
  exact congrArg some e
 ·rename_i q
  rw[q]at e
  have a:es.toList.any (·.refKey)=false:=by
   rw[List.any_eq_false]
   intro y hy
   obtain⟨z,t,hkey⟩:=hk y (L0.mp hy)
   simp[DictEntry.refKey,hkey]
  have a':¬ es.toList.any (·.refKey)=true:=by rw[a];exact b7
  rw[if_neg a']
  exact congrArg some e
theorem aF5.look {h:Heap}{x dx C:Addr}{mA:Str->Option Value}(I:aF5 h x dx C mA):∃ od,PySem.W.InstAt h x (PySem.W.instObj C dx) C (some od)/\∀ name,PySem.W.lookIn name od=some (mA name):=
 let ⟨od,ho,hl⟩:=ak1 I.ns
 ⟨od,⟨I.obj,rfl,rfl,ho⟩,hl⟩
section
variable {prog:Program} {w:World} {A:Around} {E:Value->Shared->Prop} {s:Shared} {K:W.Frag} {x dx C f:Addr} {mA:Str->Option Value} {name:Str} {v:Value}
end
section
variable {P:Program} {w:World} {H H':Hp} {h h':Heap} {a C dx:Addr} {fs fs':List (Str × V)}
theorem ax9 (hok:HOk P w H h)(e:H a=some (.ins C dx fs)):∃ mA,aF5 h a dx C mA/\(∀ f,af0 (fs.lookup f) (mA f))/\PySem.Within mA (fs.map (·.1))/\fs.length<=1000/\H dx=some (.own a):=by
 obtain⟨d,z,ne,ob,mA,n,r,q⟩:=(show q0 P w H h a (.ins C dx fs) from hok a _ e)
 exact⟨mA,⟨ob,n,ne⟩,r,q,z,d⟩
end
structure Cls (K:W.Frag) (C:Addr):Prop where
 pg:PySem.W.plainGet K C Str.empty=true
 hd:PySem.W.hasDictIn K C=true
 po:PySem.W.plainOver K C=true
 sa:PySem.W.findIn K (.ref C) "__setattr__"=some (some (.builtin "object.__setattr__"))
theorem Cls.get {K:W.Frag}{C:Addr}(c:Cls K C)(f:Str):PySem.W.plainGet K C f=true:=c.pg
structure Con (K:W.Frag) (C:Addr) (f:Str) (v:V) (u:Value):Prop where
 at_:PySem.W.findIn K (.ref C) f=some (some u)
 rel:RelV v u
 get:PySem.W.specialIn K u "__get__"=some none
 cp:PySem.W.copiedNames.contains f=false
structure aM8 (K:W.Frag) (C:Addr) (m:Str) (f:Addr):Prop where
 at_:PySem.W.findIn K (.ref C) m=some (some (.ref f))
 fn:PySem.W.isFn K (.ref f)=true
 kp:j2 K (.ref f)=true
section
variable {X:Cx} {pins:List (Addr × Obj)} {σ:St} {H:Hp} {s:Shared} {a C dx:Addr} {fs:List (Str × V)} {f:Str} {v:V} {A:Around} {E:Value->Shared->Prop}
end
section
variable {X:Cx} {o e value:Expr} {f:Str} {pos pos' tpos:Pos} {ta tv:TE}
end
section
variable {X:Cx} {pins:List (Addr × Obj)} {σ:St} {H:Hp} {s:Shared} {A:Around} {E:Value->Shared->Prop} {Q:Value->Shared->Prop} {c:Value} {b:Bool}
inductive K4 (K:W.Frag) (H:Hp):V->Value->Prop where
 | non:K4 K H .non (.type "NoneType")
 | bl (x:Bool):K4 K H (.bl x) (.type "bool")
 | int (i:Int):K4 K H (.int i) (.type "int")
 | str (x:Str):K4 K H (.str x) (.type "str")
 | flt (x:UInt64):K4 K H (.flt x) (.type "float")
 | lst {a:Addr} {xs:List V} (e:H a=some (.lst xs)):K4 K H (.ref a) (.type "list")
 | frz {a:Addr} {o:Obj} {xs:List V} (e:H a=some (.frz o (.lst xs))):K4 K H (.ref a) (.type "list")
 | tup {a:Addr} {xs:List V} (e:H a=some (.tup xs)):K4 K H (.ref a) (.type "tuple")
 | dK {a:Addr} {kvs:List (Key × V)} (e:H a=some (.dK kvs)):K4 K H (.ref a) (.type "dict")
 | dT {a:Addr} {kvs:List (List Key × V)} (e:H a=some (.dT kvs)):K4 K H (.ref a) (.type "dict")
 | ins {a C dx:Addr} {fs:List (Str × V)} (e:H a=some (.ins C dx fs)) (cl:Cls K C) (ha:PySem.W.findIn K (.ref C) "__class__"=some (some (.builtin "object.__class__")))
   (hn:PySem.W.specialIn K (.builtin "object.__class__") "__get__"=some (some (.builtin "getset_descriptor.__get__"))) (htk:PySem.W.takesIn K (.builtin "object.__class__")=some true)
   (hm:PySem.W.mroIn K C (.type "object")=some true):K4 K H (.ref a) (.ref C)
theorem ak4 {x:V}{u t:Value}(I:Inv X pins σ H s)(rx:RelV x u)(ty:K4 X.K H x t)(e:PySem.W.kitOne X.K t c=some b)(h:∀ tk,Q (.bool b) { s with toks:=tk }) :
  wpAny (model X.prog X.w) A (call (.builtin "isinstance") [u,c]) Q E s:=by
 cases ty with
 | non=>cases (show u=Value.none from rx);exact PySem.W.kia_one PySem.W.kitx_none I.kIn True.intro e (fun z=>nomatch z) h
 | bl y=>cases (show u=Value.bool y from rx);exact PySem.W.kia_one PySem.W.kitx_bool I.kIn True.intro e (fun z=>nomatch z) h
 | int i=>obtain⟨t,q⟩:=(show ∃ t,u=Value.int i t from rx);cases q;exact PySem.W.kia_one PySem.W.kitx_int I.kIn True.intro e (fun z=>nomatch z) h
 | str y=>obtain⟨t,q⟩:=(show ∃ t,u=Value.str y t from rx);cases q;exact PySem.W.kia_one PySem.W.kitx_str I.kIn True.intro e (fun z=>nomatch z) h
 | flt y=>obtain⟨t,q⟩:=(show ∃ t,u=Value.float y t from rx);cases q;exact PySem.W.kia_one PySem.W.kitx_float I.kIn True.intro e (fun z=>nomatch z) h
 | @lst a xs ea =>
  cases (show u=Value.ref a from rx)
  obtain⟨_,_,n,_,h1⟩:=(show q0 X.prog X.w H s.heap a (.lst xs) from I.hok a _ ea)
  exact PySem.W.kia_one PySem.W.kitx_list I.kIn ⟨_,h1,rfl⟩ e (fun z=>nomatch z) h
 | @frz a ob xs ea =>
  cases (show u=Value.ref a from rx)
  obtain⟨_,_,_,n,_,h1⟩:=(show q0 X.prog X.w H s.heap a (.frz ob (.lst xs)) from I.hok a _ ea)
  exact PySem.W.kia_one PySem.W.kitx_list I.kIn ⟨_,h1,rfl⟩ e (fun z=>nomatch z) h
 | @tup a xs ea =>
  cases (show u=Value.ref a from rx)
  obtain⟨_,_,_,p⟩:=(show q0 X.prog X.w H s.heap a (.tup xs) from I.hok a _ ea)
  obtain⟨o,h1,h2,_⟩:=p
  exact PySem.W.kia_one PySem.W.kitx_tuple I.kIn ⟨o,h1,h2⟩ e (fun z=>nomatch z) h
 | @dK a kvs ea =>
  cases (show u=Value.ref a from rx)
  obtain⟨_,_,vs,_,p⟩:=(show q0 X.prog X.w H s.heap a (.dK kvs) from I.hok a _ ea)
  obtain⟨o,es,ep,h1,h2,_⟩:=p
  exact PySem.W.kia_one PySem.W.kitx_dict I.kIn ⟨o,h1,h2.1⟩ e (fun z=>nomatch z) h
 | @dT a kvs ea =>
  cases (show u=Value.ref a from rx)
  obtain⟨_,_,xs,_,o,es,ep,h1,h2,_⟩:=(show q0 X.prog X.w H s.heap a (.dT kvs) from I.hok a _ ea)
  exact PySem.W.kia_one PySem.W.kitx_dict I.kIn ⟨o,h1,h2.1⟩ e (fun z=>nomatch z) h
 | @ins a C dx fs ea cl ha hn htk hm =>
  cases (show u=Value.ref a from rx)
  obtain⟨mA,O,_⟩:=ax9 I.hok ea
  obtain⟨od,J,_⟩:=O.look
  exact PySem.W.kia_one (PySem.W.kitx_own (cl.get _) cl.hd ha hn htk hm) I.kIn J e (fun z=>nomatch z) h
end
structure B9 (k:Nat) (A:Around):Prop where
 hd:A.handled=none
 dp:A.depth+3*k+5<recursionLimit
 un:A.units+16*k+200<cLine
theorem B9.mono {j k:Nat}{A:Around}(r:B9 k A)(h:j<=k):B9 j A:=⟨r.hd,by have:=r.dp;omega,by have:=r.un;omega⟩
theorem B9.deeper {k:Nat}{A:Around}(r:B9 (k+1) A)(env:Env):B9 k (A.deeper env):=
 ⟨r.hd,by have:=r.dp;show A.depth+1+3*k+5<_;omega,by have:=r.un;show A.units+3+16*k+200<_;omega⟩
theorem B9.depth {k:Nat}{A:Around}(r:B9 k A):A.depth<recursionLimit:=by have:=r.dp;omega
theorem B9.units {k:Nat}{A:Around}(r:B9 k A):A.units+64<cLine:=by have:=r.un;omega
def aK7:TA:=fun _ H Q=>Q [] H
def aH2 (ta:TE)(tr:TA):TA:=fun σ H Q=>ta σ H fun x H1=>tr σ H1 fun xs H2=>Q (x::xs) H2
section
variable {X:Cx} {e:Expr} {es:List Expr} {te:TE} {t:TA} {pos:Pos}
theorem d6:PA X [] aK7:=fun _ _ _ _ H Q I h=>Calls.spliced_nil ⟨[],H,I,.nil,h⟩
theorem a9 (ha:PE X e te)(hr:PA X es t)(hs:starEach (e::es) X.env=(false,eval e X.env)::starEach es X.env:=by rfl):PA X (e::es) (aH2 te t):=by
 intro pos pins s σ H Q I h
 rw[hs]
 show wpAny _ _ (spliced ((false,eval e X.env)::backTo pos (starEach es X.env))) _ _ s
 refine Calls.spliced_cons (thn (ha pins s σ H _ I h) fun u s1 ⟨x,H1,I1,r1,q1⟩=>?_)
 exact thn (hr pos pins s1 σ H1 _ I1 q1) fun us s2 ⟨xs,H2,I2,r2,q2⟩=>⟨x::xs,H2,I2,.cons r1 r2,q2⟩
def aK3 (t:TA):TE:=fun σ H Q=>t σ H fun xs H1=>xs.length<=sizeLine/\∀ p,H1 p=none->Q (.ref p) (upd H1 p (.tup xs))
def aK8 (t:TA):TE:=fun σ H Q=>t σ H fun xs H1=>xs.length<=sizeLine/\∀ p,H1 p=none->Q (.ref p) (upd H1 p (.lst xs))
theorem ad1 {x1}(h:PA X es t):PE X (.Tuple es x1 pos) (aK3 t):=by
 intro pins s σ H Q I hq
 refine wpAny_Tuple_spliced (thn (h pos pins s σ H _ I hq) fun us s1 ⟨xs,H1,I1,r,z,q⟩=>⟨by rw[<- r.length];exact z,?_⟩)
 have hf:H1 s1.heap.objs.size=none:=I1.hok.fresh (a8 _)
 refine⟨.ref s1.heap.objs.size,upd H1 s1.heap.objs.size (.tup xs),I1.laid (t':=s1.toks) (fun b u e=>a7 _ e) (a8 _) ?_,rfl,q _ hf⟩
 exact⟨z,us,r,⟨_,b5 _ rfl,rfl,_,rfl⟩⟩
theorem J2 (h:PA X es t):PE X (.List es pos) (aK8 t):=by
 intro pins s σ H Q I hq
 refine wpAny_List_spliced (thn (h pos pins s σ H _ I hq) fun us s1 ⟨xs,H1,I1,r,z,q⟩=>⟨by rw[<- r.length];exact z,?_⟩)
 have hf:H1 s1.heap.objs.size=none:=I1.hok.fresh (a8 _)
 refine⟨.ref s1.heap.objs.size,upd H1 s1.heap.objs.size (.lst xs),I1.laid (t':=s1.toks) (fun b u e=>a7 _ e) (a8 _) ?_,rfl,q _ hf⟩
 exact⟨z,us,0,r,b5 _ rfl⟩
end
abbrev Sp:=List V->Hp->VK->XK->Prop
abbrev CXT:=List Env->Hp->Shared->XK->Value->Shared->Prop
structure ay8 (P:Program) (w:World) (K:W.Frag) (mg:Str->Option Value) (base:Heap) (A:Around) (outer:List Env) (s:Shared) (H:Hp):Prop where
 frames:A.frames=some outer
 mod:Mod K mg base
 bs:∀ b o,base.get? b=some o->s.heap.get? b=some o/\H b=none
 bsz:base.objs.size<=s.heap.objs.size
 funs:s.heap.FunFrames base outer
 frf:∀ b∈frs outer,H b=none
 hok:HOk P w H s.heap
 bare:AllBare s.gens
def CE (outer:List Env)(P:Program)(w:World)(H:Hp)(s:Shared)(Q:VK)(u:Value)(s':Shared):Prop:=
 ∃ v H',s'.os=s.os/\AllBare s'.gens/\Un (frs outer) [] H H' s.heap s'.heap/\HOk P w H' s'.heap/\RelV v u/\Q v H'
def CR (CX:CXT)(outer:List Env)(P:Program)(w:World)(H:Hp)(s:Shared)(Q:VK)(E:XK)(r:Result)(s':Shared):Prop:=
 match r with
 | .ok (.ret u)=>CE outer P w H s Q u s'
 | .ok _=>False
 | .error e=>CX outer H s E e s'
structure u0 (P:Program) (w:World) (K:W.Frag) (mg:Str->Option Value) (base:Heap) (CX:CXT) (k:Nat) (f:Addr) (fd:FuncData) (ps:List Str) (sp:Sp):Prop where
 len:∀ vs H Q E,sp vs H Q E->vs.length=ps.length
 run:∀ (A:Around) (outer:List Env) (s:Shared) (H:Hp) (args:Args) (us:List Value) (vs:List V) (Q:VK) (E:XK),B9 k A->ay8 P w K mg base A outer s H->BindsTo s fd args (ps.zip us)->l7 vs us->sp vs H Q E ->
  codeAny (model P w) A (.call (.ref f) args) (CR CX outer P w H s Q E) s
theorem u0.mono {P:Program}{w:World}{K:W.Frag}{mg:Str->Option Value}{base:Heap}{CX:CXT}{j k:Nat}{f:Addr}{fd:FuncData}{ps:List Str}{sp:Sp}(F:u0 P w K mg base CX j f fd ps sp)(h:j<=k) :
  u0 P w K mg base CX k f fd ps sp:=⟨F.len,fun A outer s H args us vs Q E hr=>F.run A outer s H args us vs Q E (hr.mono h)⟩
section
variable {X:Cx} {pins:List (Addr × Obj)} {σ:St} {H:Hp} {s s':Shared}
theorem Inv.env0 (I:Inv X pins σ H s):ay8 X.prog X.w X.K X.mg X.base X.A X.stack s H:=
 ⟨I.ok.frames,I.ok.mod,I.bs,m9 I.ok.bsz I.sz,I.stack,I.stkFree,I.hok,I.bare⟩
theorem Inv.after {Q:VK}{u:Value}(I:Inv X pins σ H s)(h:CE X.stack X.prog X.w H s Q u s'):EP X pins σ Q u s':=by
 obtain⟨v,H',os,bare,un,hok,r,q⟩:=h
 obtain⟨hh,g,d,t,os'⟩:=s'
 obtain rfl:os'=s.os:=os
 exact⟨v,H',I.call (h':=hh) (g':=g) (d':=d) (t':=t) (ch:=[]) un hok bare (fun b z=>absurd z (by simp)),r,q⟩
end
def aH3 (sp:Sp)(dvs:List V)(E:XK)(t:TA):TE:=fun σ H Q=>t σ H fun vs H1=>sp (vs++dvs) H1 Q E
def Binds (K:W.Frag)(fd:FuncData)(ps:List Str)(ds:List Value):Prop:=
 ∀ (s:Shared) (us:List Value),K.In s.heap->(us++ds).length=ps.length->BindsTo s fd ⟨us,[]⟩ (ps.zip (us++ds))
theorem Binds.all {K:W.Frag}{fd:FuncData}{ps:List Str}(h:∀ us:List Value,us.length=ps.length->bindArgs fd ⟨us,[]⟩=pure (ps.zip us)):Binds K fd ps []:=fun s us _ hl=>by
 rw[z0]at hl ⊢
 exact .of_eq (h us hl)
def af1 (CX:CXT)(X:Cx)(E:XK):Prop:=∀ (pins:List (Addr × Obj)) (σ:St) (H:Hp) (s:Shared) (e:Value) (s':Shared),Inv X pins σ H s->CX X.stack H s E e s'->X.xe e s'
section
variable {X:Cx} {CX:CXT} {k:Nat} {f C:Addr} {fd:FuncData} {ps:List Str} {sp:Sp} {dvs:List V} {ds:List Value} {E:XK} {x m:Str} {p pos apos:Pos} {e o:Expr} {es:List Expr} {ta:TE} {t:TA}
theorem aC0 {pins:List (Addr × Obj)}{σ:St}{H:Hp}{s:Shared}{Q:VK}{us:List Value}{vs:List V}(F:u0 X.prog X.w X.K X.mg X.base CX k f fd ps sp)(hr:B9 k X.A)(hb:Binds X.K fd ps ds)(hd:l7 dvs ds)(hx:af1 CX X E)
  (I:Inv X pins σ H s)(r:l7 vs us)(h:sp (vs++dvs) H Q E):wpAny (model X.prog X.w) X.A (call (.ref f) us) (EP X pins σ Q) X.xe s:=by
 have r2:l7 (vs++dvs) (us++ds):=r.append hd
 have hl:(us++ds).length=ps.length:=by rw[<- r2.length];exact F.len _ _ _ _ h
 refine wpAny_call (codeAny_mono (F.run X.A X.stack s H ⟨us,[]⟩ (us++ds) (vs++dvs) Q E hr I.env0 (hb s us I.kIn hl) r2 h) fun r s' hq=>?_)
 cases r with
 | error e=>exact hx pins σ H s e s' I hq
 | ok fl =>
  cases fl with
  | ret u=>exact I.after hq
  | next=>exact False.elim hq
  | brk=>exact False.elim hq
  | cont=>exact False.elim hq
theorem p9 (F:u0 X.prog X.w X.K X.mg X.base CX k f fd ps sp)(hr:B9 k X.A)(hg:Gl X x)(hm:X.mg x=some (.ref f))(hk:j2 X.K (.ref f)=true)(hb:Binds X.K fd ps ds)(hd:l7 dvs ds)(hx:af1 CX X E)
  (ha:PA X (e::es) t)(hdb:(x == ("__debug__":Str))=false:=by decide)(he:starEach (e::es) X.env=(false,eval e X.env)::starEach es X.env:=by rfl)(hpl:(backTo pos (starEach es X.env)).any (·.1)=false:=by rfl) :
  PE X (.Call (.Name x p) (e::es) [] pos) (aH3 sp dvs E t):=by
 intro pins s σ H Q I h
 refine wpAny_Call_Name_kw (ah6 I hg hm ?_ hdb)
 refine PySem.W.callWith_K (h₀:=X.base) I.ok.mod.kin hk (thn (ha pos pins s σ H _ I h) fun us s1 ⟨vs,H1,I1,r,q⟩=>⟨I1.kIn,?_⟩) he hpl
 exact aC0 F hr hb hd hx I1 r q
structure Mk (K:W.Frag) (C f:Addr):Prop where
 makes:PySem.W.makesIn K C=true
 init:PySem.W.findIn K (.ref C) "__init__"=some (some (.ref f))
 fn:PySem.W.isFn K (.ref f)=true
 kp:j2 K (.ref C)=true
end
section
variable {X:Cx} {CX:CXT} {k:Nat} {f C:Addr} {fd:FuncData} {ps ks:List Str} {sp:Sp} {E:XK} {x m:Str} {p pos apos kpos:Pos} {e o:Expr} {es:List Expr} {kws:List Keyword} {te ta:TE} {t tk:TA} {nm:Option Str}
structure aM5 (K:W.Frag) (fd:FuncData) (ps ks:List Str) (g:List Value->List Value->List Value) (gV:List V->List V->List V):Prop where
 to:∀ (s:Shared) (us ws:List Value),K.In s.heap->(g us ws).length=ps.length->BindsTo s fd ⟨us,ks.zip ws⟩ (ps.zip (g us ws))
 rel:∀ {vs:List V} {us:List Value} {zs:List V} {ws:List Value},l7 vs us->l7 zs ws->l7 (gV vs zs) (g us ws)
variable {g:List Value->List Value->List Value} {gV:List V->List V->List V}
end
structure r6 (N P:List Str) (sc:Scope):Prop where
 kind:sc.kind=.function
 co:sc.isCoroutine=false
 gen:sc.isGenerator=false
 nd:N.Nodup
 pre:N.take P.length=P
 par:∀ x∈P,sc.names.lookup x=some .local\/sc.names.lookup x=some .cell
 nofree:∀ y∈sc.names,y.2≠.free
theorem U5 {kindOf:Str->Option NameKind}{x:Str}:∀ {binds:List (Str × Value)} {m:Str->Option Value},(∀ v,(x,v)∉binds)->bindL kindOf binds m x=m x
 | [],_,_=>rfl
 | (n,v)::r,m,h=>by
  unfold bindL
  rw[U5 fun w hw=>h w (c6 _ hw)]
  split
  ·have:x≠n:=by rintro rfl;exact h v c9
   simp[this]
  ·rfl
theorem U7 {kindOf:Str->Option NameKind}{x:Str}:∀ {binds:List (Str × Value)} {m:Str->Option Value},(∀ v,(x,v)∉binds)->bindC kindOf binds m x=m x
 | [],_,_=>rfl
 | (n,v)::r,m,h=>by
  unfold bindC
  rw[U7 fun w hw=>h w (c6 _ hw)]
  split
  ·rfl
  ·have:x≠n:=by rintro rfl;exact h v c9
   simp[this]
theorem U6 {kindOf:Str->Option NameKind}{x:Str}{v:Value}:∀ {P:List Str} {vs:List Value} {i:Nat} {m:Str->Option Value},P.Nodup->P[i]?=some x->vs[i]?=some v->kindOf x=some .local ->
  bindL kindOf (P.zip vs) m x=some v
 | [],_,_,_,_,h,_,_=>by simp at h
 | _::_,[],_,_,_,_,h,_=>by simp at h
 | p::P,w::vs,0,m,nd,h1,h2,hk=>by
  simp at h1 h2;subst h1;subst h2
  show bindL kindOf ((p,w)::P.zip vs) m p=_
  unfold bindL
  rw[U5 fun v hv=>(m6.mp nd).1 (ab3 hv).1,if_pos hk]
  simp
 | p::P,w::vs,i+1,m,nd,h1,h2,hk=>by
  show bindL kindOf ((p,w)::P.zip vs) m x=_
  unfold bindL
  exact U6 (i:=i) (m6.mp nd).2 (by simpa using h1) (by simpa using h2) hk
theorem U8 {kindOf:Str->Option NameKind}{x:Str}{v:Value}:∀ {P:List Str} {vs:List Value} {i:Nat} {m:Str->Option Value},P.Nodup->P[i]?=some x->vs[i]?=some v->kindOf x≠some .local ->
  bindC kindOf (P.zip vs) m x=some v
 | [],_,_,_,_,h,_,_=>by simp at h
 | _::_,[],_,_,_,_,h,_=>by simp at h
 | p::P,w::vs,0,m,nd,h1,h2,hk=>by
  simp at h1 h2;subst h1;subst h2
  show bindC kindOf ((p,w)::P.zip vs) m p=_
  unfold bindC
  rw[U7 fun v hv=>(m6.mp nd).1 (ab3 hv).1,if_neg hk]
  simp
 | p::P,w::vs,i+1,m,nd,h1,h2,hk=>by
  show bindC kindOf ((p,w)::P.zip vs) m x=_
  unfold bindC
  exact U8 (i:=i) (m6.mp nd).2 (by simpa using h1) (by simpa using h2) hk
def start (N:List Str)(vs:List V):St:=vs.map some++List.replicate (N.length - vs.length) none
def ak9 (CX:CXT)(P:Program)(w:World)(K:W.Frag)(mg:Str->Option Value)(base:Heap)(N:List Str)(qual:Str)(scope:Scope)(f:Addr)(cd:Value)(A:Around)(outer:List Env)(s:Shared)(H:Hp)(E:XK):Cx where
 prog:=P
 w:=w
 K:=K
 mg:=mg
 base:=base
 A:=A.deeper (envOfC qual scope s.heap.objs.size f cd)
 N:=N
 s₀:=s
 H₀:=H
 env:=envOfC qual scope s.heap.objs.size f cd
 outer:=outer
 stack:=envOfC qual scope s.heap.objs.size f cd::outer
 ex:=[]
 calm:=true
 fn:=fun _=>true
 pn:=[]
 xe:=fun e s'=>wpAny (model P w) (A.deeper (envOfC qual scope s.heap.objs.size f cd)) (leaving (envOfC qual scope s.heap.objs.size f cd) e) (fun _ s''=>CX outer H s E e s'') (fun e' s''=>CX outer H s E e' s'') s'
theorem aa8 {sc:Scope}{n:Nat}{x:Str}(h:sc.names.lookup x=some .cell):∃ c,(cellsFrom n sc.names []).lookup x=some c:=by
 have q:=PySem.W.cellsFrom_some sc.names n [] (.inl h)
 exact t9.mp q
theorem ak5 {CX:CXT}{P:Program}{w:World}{K:W.Frag}{mg:Str->Option Value}{base:Heap}{N ps:List Str}{qual:Str}{scope:Scope}{f:Addr}{cd:Value}{A:Around}{outer:List Env}{s s1:Shared}{H:Hp}{E:XK}{us:List Value}{vs:List V}
  (S:r6 N ps scope)(hd:A.handled=none)(e0:ay8 P w K mg base A outer s H)(hl:vs.length=ps.length)(r:l7 vs us)
  (x:InCallC s s.heap.objs.size (bindL (envOfC qual scope s.heap.objs.size f cd).kindOf (ps.zip us) fun _=>none) (cellsFrom (s.heap.objs.size+1) scope.names []) (bindC (envOfC qual scope s.heap.objs.size f cd).kindOf (ps.zip us) fun _=>none) s1) :
  Inv (ak9 CX P w K mg base N qual scope f cd A outer s H E) [] (start N vs) H s1:=by
 have hpl:ps.length<=N.length:=by have:=congrArg List.length S.pre;rw[v3]at this;omega
 obtain⟨h1,tk,rfl,hk⟩:=x.done
 have noA:∀ b:Addr,b∉(ak9 CX P w K mg base N qual scope f cd A outer s H E).ex:=fun b z=>absurd (show b∈([]:List Addr) from z) (by simp)
 refine⟨⟨e0.mod,S.kind,rfl,rfl,a8 _,fun y z c h1 h2=>?_,fun y hy=>?_,fun y c _ h=>?_,fun _=>hd,Around.frames_deeper e0.frames,.inr ⟨rfl,rfl⟩,fun b z=>absurd z (noA b),e0.bs,e0.bsz,fun b _ _=>noA b,fun b z=>absurd z (noA b),e0.funs,e0.frf⟩,
  rfl,e0.bare,Un.kept hk,⟨_,x.toInCall.ns,fun i y v h1 h2 h3=>?_⟩,fun y c h=>⟨_,x.cell y c h⟩,e0.hok.fresh (a8 _),fun y c h=>?_,fun p hp=>absurd (show p∈([]:List (Addr × Obj)) from hp) (by simp),e0.hok.kept hk,?_⟩
 ·exact name_of_addr x.apart (PySem.mem_of_lookup h1) (PySem.mem_of_lookup h2)
 ·have hy:scope.names.lookup y=some .cell\/scope.names.lookup y=some .free:=hy
  rcases hy with hy | hy
  ·exact aa8 hy
  ·exact absurd rfl (S.nofree _ (PySem.mem_of_lookup hy))
 ·exact K9 (x.above y c (PySem.mem_of_lookup h))
 ·have hi:i<vs.length:=by
   unfold start at h2
   by_cases hi:i<vs.length
   ·exact hi
   ·rw[C7 (by simpa using hi)]at h2
    rw[List.getElem?_replicate]at h2
    split at h2<;>cases h2
  have ha:vs[i]?=some v:=by
   unfold start at h2
   rw[D0 (by simpa using hi),i8]at h2
   cases e:vs[i]? with
   | none=>rw[e]at h2;cases h2
   | some a=>rw[e]at h2;cases h2;rfl
  obtain⟨u,hu,rv⟩:=r.get ha
  have hp:ps[i]?=some y:=by
   rw[<- S.pre,List.getElem?_take_of_lt (by omega)];exact h1
  have ndP:ps.Nodup:=by rw[<- S.pre];exact S.nd.sublist (aF8 _ _)
  refine⟨u,rv,?_⟩
  rcases S.par y (b6 hp) with k | k
  ·exact .inl ⟨k,U6 ndP hp hu k⟩
  ·obtain⟨c,e⟩:=aa8 (n:=s.heap.objs.size+1) k
   refine .inr ⟨.inl k,c,e,?_⟩
   have q:=x.cell y c e
   rw[U8 ndP hp hu (by show scope.names.lookup y≠_;rw[k];decide)]at q
   exact q
 ·exact e0.hok.fresh (K9 (x.above y c (PySem.mem_of_lookup h)))
 ·unfold start
  show _=N.length
  rw[d7,b4,List.length_replicate]
  omega
theorem aJ8 {CX:CXT} {P:Program} {w:World} {K:W.Frag} {mg:Str->Option Value} {base:Heap} {k:Nat} {f:Addr} {name qual:Str} {params:Arguments} {body:List Stmt} {scope:Scope} {dV kV doc pm cdv ct oc:Value} {an od:Option Addr}
  {osl:Array (Option Value)} {N ps:List Str} {sp:Sp} (lk:K.lookup f=some ⟨oc,od,.func (j9 name qual params body scope dV kV doc pm an cdv ct),osl⟩) (hcd:k5 K cdv qual=true) (S:r6 N ps scope)
  (len:∀ vs H Q E,sp vs H Q E->vs.length=ps.length)
  (hbody : ∀ (A : Around) (outer : List Env) (s : Shared) (H : Hp) (vs : List V) (Q : VK) (E : XK), B9 k (A.deeper (envOfC qual scope s.heap.objs.size f cdv)) -> sp vs H Q E ->
   ∃ t,PSs (ak9 CX P w K mg base N qual scope f cdv A outer s H E) body t/\t { nx:=fun _ H'=>Q .non H',rt:=Q } (start N vs) H) :
  u0 P w K mg base CX (k+1) f (j9 name qual params body scope dV kV doc pm an cdv ct) ps sp:=by
 refine⟨len,fun A outer s H args us vs Q E hr e0 hb r hsp=>?_⟩
 have hl:=len _ _ _ _ hsp
 have KX:K.In s.heap:=e0.mod.kin.keeps fun b o e=>(e0.bs b o e).1
 have lim:s.heap.NoLimit:=e0.mod.nolimit.keeps fun b o e=>(e0.bs b o e).1
 have hkind:∀ y∈ps.zip us,scope.names.lookup y.1=some .local\/(scope.names.lookup y.1=some .cell/\((cellsFrom (s.heap.objs.size+1) scope.names []).lookup y.1).isSome=true):=fun⟨n,v⟩ hy=>by
  rcases S.par n (ab3 hy).1 with q | q
  ·exact .inl q
  ·exact .inr ⟨q,PySem.W.cellsFrom_some _ _ _ (.inl q)⟩
 refine codeAny_call_function hr.depth (KX _ _ lk) rfl S.co S.gen rfl (PySem.W.codeRec_of KX hcd) (hb _ _ _ _ ?_)
 refine wpAny_newFunctionEnv_cells S.kind hkind fun env he s1 x=>?_
 subst he
 refine⟨lim.keeps x.toInCall.keep,codeAny_func ?_⟩
 obtain⟨t,ht,hq⟩:=hbody A outer s H vs Q E (hr.deeper _) hsp
 have I:Inv (ak9 CX P w K mg base N qual scope f cdv A outer s H E) [] (start N vs) H s1:=ak5 S hr.hd e0 hl r x
 refine wpAny_mono (ht [] s1 (start N vs) H _ I hq) (fun fl s' hs=>?_) fun e s' hs=>hs
 have fin:∀ {σ':St} {H':Hp} {v:V} {u:Value},Inv (ak9 CX P w K mg base N qual scope f cdv A outer s H E) [] σ' H' s'->RelV v u->Q v H'->CE outer P w H s Q u s':=
  fun {σ' H' v u} J rv q=>⟨v,H',J.os,J.bare,J.base,J.hok,rv,q⟩
 cases fl with
 | ret u =>
  obtain⟨v,σ',H',J,rv,q⟩:=hs
  exact fin J rv q
 | next =>
  obtain⟨σ',H',J,q⟩:=hs
  exact fin (v:=V.non) (u:=Value.none) J rfl q
 | brk =>
  obtain⟨_,_,_,q⟩:=hs
  exact False.elim q
 | cont =>
  obtain⟨_,_,_,q⟩:=hs
  exact False.elim q
section
variable {X:Cx} {x:Str} {p pos:Pos} {e:Expr} {es:List Expr} {t:TA} {id T:String} {r:List V->Hp->VK->Prop}
def tCB (r:List V->Hp->VK->Prop)(t:TA):TE:=fun σ H Q=>t σ H fun vs H1=>r vs H1 Q
theorem l4 (hc:A9 X (.builtin id) r)(hg:Gl X x)(hm:X.mg x=none)(hv:bootBuiltins x=some (.builtin id))(ha:PA X (e::es) t)(hn:x≠"__name__":=by decide)(hdb:(x == ("__debug__":Str))=false:=by decide)
  (he:starEach (e::es) X.env=(false,eval e X.env)::starEach es X.env:=by rfl)(hpl:(backTo pos (starEach es X.env)).any (·.1)=false:=by rfl):PE X (.Call (.Name x p) (e::es) [] pos) (tCB r t):=by
 intro pins s σ H Q I h
 refine wpAny_Call_Name_kw (F1 I hg hm hv ?_ hn hdb)
 exact PyProof.Rows.callWith_builtin1 (thn (ha pos pins s σ H _ I h) fun us s1 ⟨vs,H1,I1,r1,q1⟩=>hc pins s1 σ H1 vs us Q I1 r1 q1) he hpl
theorem B7 (hc:A9 X (.type T) r)(hg:Gl X x)(hm:X.mg x=none)(hv:bootBuiltins x=some (.type T))(ha:PA X (e::es) t)(hn:x≠"__name__":=by decide)(hdb:(x == ("__debug__":Str))=false:=by decide)
  (he:starEach (e::es) X.env=(false,eval e X.env)::starEach es X.env:=by rfl)(hpl:(backTo pos (starEach es X.env)).any (·.1)=false:=by rfl):PE X (.Call (.Name x p) (e::es) [] pos) (tCB r t):=by
 intro pins s σ H Q I h
 refine wpAny_Call_Name_kw (F1 I hg hm hv ?_ hn hdb)
 exact PyProof.Rows.callWith_type1 (thn (ha pos pins s σ H _ I h) fun us s1 ⟨vs,H1,I1,r1,q1⟩=>hc pins s1 σ H1 vs us Q I1 r1 q1) he hpl
end
end L2
namespace HT
open PySem PyProof.Rows
section
open PySem.SeqAt
open PySem.AutoSeq1 (wpAny_loadPart')
open PySem.MeetsSeq PySem.MeetsSeq2 PySem.MeetsSeq3
end
section
variable {prog:Program} {w:World} {A:Around} {E:Value->Shared->Prop} {s:Shared}
def sIx (n d:Nat):Option Int->Nat
 | none=>d
 | some v=>if v<0 then (v+(n:Int)).toNat else min v.toNat n
end
end HT
namespace L2
open PySem PySem.Spec PyProof.Rows
abbrev TO:=St->Hp->(Option Int->Hp->Prop)->Prop
def PO (X:Cx)(e:Option Expr)(t:TO):Prop:=
 ∀ (pins:List (Addr × Obj)) (s:Shared) (σ:St) (H:Hp) (Q:Option Int->Hp->Prop),Inv X pins σ H s->t σ H Q ->
  wpAny (model X.prog X.w) X.A (evalPart e X.env) (fun u s'=>∃ o H',Inv X pins σ H' s'/\IsPart u o/\Q o H') X.xe s
def aG7 (t:TE):TO:=fun σ H Q=>t σ H fun x H1=>∃ i,x=.int i/\Q (some i) H1
theorem intsAre_of {ns:List Int}:∀ {us:List Value},l7 (ns.map V.int) us->IntsAre us ns:=by
 induction ns with
 | nil=>intro us r;rw[V0]at r;cases r;exact .nil
 | cons n ns ih =>
  intro us r
  rw[k9]at r
  cases r with
  | cons r1 r2 =>
   obtain⟨t,e⟩:=r1
   subst e
   exact .cons n t (ih r2)
section
variable {X:Cx} {e:Expr} {te:TE} {lo hi:Option Expr} {tl th:TO} {pos p2:Pos}
theorem ag6 (h:PE X e te):PO X (some e) (aG7 te):=by
 intro pins s σ H Q I hw
 rw[evalPart_some]
 refine thn (h pins s σ H _ I hw) fun u s1 ⟨x,H1,I1,r1,q1⟩=>?_
 obtain⟨i,rfl,q⟩:=q1
 obtain⟨t,rfl⟩:=r1
 exact⟨some i,H1,I1,.int i t,q⟩
def SlR (X:Cx)(r:V->Option Int->Option Int->Hp->VK->Prop):Prop:=
 ∀ (pins:List (Addr × Obj)) (s:Shared) (σ:St) (H:Hp) (x:V) (v vl vu:Value) (lo hi:Option Int) (sl:Addr) (Q:VK),Inv X pins σ H s->RelV x v->s.heap.IsSliceOf sl vl vu .none->IsPart vl lo->IsPart vu hi->r x lo hi H Q ->
  ∃ T id,typeLookup (.type T) "__getitem__"=pure (some (.builtin id))/\s.TypeIs v T/\wpAny (model X.prog X.w) X.A (getItem v (.ref sl)) (EP X pins σ Q) X.xe s
def tSl (r:V->Option Int->Option Int->Hp->VK->Prop)(te:TE)(tl th:TO):TE:=fun σ H Q=>te σ H fun x H1=>tl σ H1 fun l H2=>th σ H2 fun u H3=>r x l u H3 Q
theorem ap4 {r:V->Option Int->Option Int->Hp->VK->Prop}(hr:SlR X r)(he:PE X e te)(hl:PO X lo tl)(hu:PO X hi th):PE X (.Subscript e (.Slice lo hi none p2) pos) (tSl r te tl th):=by
 intro pins s σ H Q I h
 refine Subscript_ (thn (he pins s σ H _ I h) fun v s1 ⟨x,H1,I1,r1,q1⟩=>?_)
 refine wpAny_Slice (thn (hl pins s1 σ H1 _ I1 q1) fun vl s2 ⟨l,H2,I2,pl,q2⟩=>thn (hu pins s2 σ H2 _ I2 q2) fun vu s3 ⟨u,H3,I3,pu,q3⟩=>?_)
 rw[evalPart_none]
 refine wpAny_pure ?_
 have I4:Inv X pins σ H3 { s3 with heap:=s3.heap.push { cls:=.type "slice",data:=.fields #[vl,vu,.none] } }:=I3.kept (t':=s3.toks) fun b ob q=>a7 _ q
 obtain⟨T,id,hT,ht,hg⟩:=hr pins { s3 with heap:=s3.heap.push { cls:=.type "slice",data:=.fields #[vl,vu,.none] } } σ H3 x v vl vu l u s3.heap.objs.size Q I4 r1 (Heap.IsSliceOf.new ..) pl pu q3
 show wpAny (model X.prog X.w) X.A (subscriptTail e (.Slice lo hi none p2) v (.ref s3.heap.objs.size)) (EP X pins σ Q) X.xe { s3 with heap:=s3.heap.push { cls:=.type "slice",data:=.fields #[vl,vu,.none] } }
 exact tail_any (ops:=[.ref s3.heap.objs.size,v]) ht hT hg (by with_unfolding_all rfl)
def al1 (xs:List V)(lo hi:Option Int):List V:=(xs.drop (HT.sIx xs.length 0 lo)).take (HT.sIx xs.length xs.length hi - HT.sIx xs.length 0 lo)
theorem aa5 (xs:List V)(lo hi:Option Int):(al1 xs lo hi).length<=xs.length:=by
 unfold al1
 rw[v3,X0]
 omega
end
def ixN (n:Nat)(i:Int):Option Nat:=if 0<=i then (if i<n then some i.toNat else none) else if -(n:Int)<=i then some (i+n).toNat else none
def atI {α:Type}(xs:List α)(i:Int):Option α:=(ixN xs.length i).bind fun j=>xs[j]?
theorem ah8 {n:Nat}{i:Int}{j:Nat}(h:ixN n i=some j):seqIndex? i n=some j/\j<n /\ -(n:Int)<=i/\i<n:=by
 unfold ixN at h
 by_cases h0:0<=i
 ·rw[if_pos h0]at h
  by_cases h1:i<n
  ·rw[if_pos h1]at h
   have e:i.toNat=j:=Option.some.inj h
   exact⟨by rw[seqIndex_of h0 h1,e],by omega,by omega,h1⟩
  ·rw[if_neg h1]at h;cases h
 ·rw[if_neg h0]at h
  by_cases h1:-(n:Int)<=i
  ·rw[if_pos h1]at h
   have e:(i+n).toNat=j:=Option.some.inj h
   exact⟨by rw[seqIndex_neg (by omega) h1,e],by omega,h1,by omega⟩
  ·rw[if_neg h1]at h;cases h
theorem W8 {α:Type}{xs:List α}{i:Int}{v:α}(h:atI xs i=some v):∃ j,seqIndex? i xs.length=some j/\xs[j]?=some v/\j<xs.length /\ -(xs.length:Int)<=i/\i<xs.length:=by
 unfold atI at h
 cases e:ixN xs.length i with
 | none=>rw[e]at h;cases h
 | some j =>
  rw[e]at h
  obtain⟨h1,h2,h3,h4⟩:=ah8 e
  exact⟨j,h1,h,h2,h3,h4⟩
theorem n8 {α:Type}{xs:List α}{j:Nat}{v:α}(h:xs[j]?=some v):atI xs (j:Int)=some v:=by
 have hj:j<xs.length:=(d5.mp h).1
 have e:ixN xs.length (j:Int)=some j:=by
  unfold ixN
  rw[if_pos (by omega),if_pos (by omega)];simp
 unfold atI;rw[e];exact h
def ai6 (b:Expr):Prop:=∀ o i,subscripted b false o i=operate [o,i] (getItem o i)
def IxR (X:Cx)(r:R2):Prop:=
 ∀ (value slice:Expr) (pins:List (Addr × Obj)) (s:Shared) (σ:St) (H:Hp) (x y:V) (v u:Value) (Q:VK),Inv X pins σ H s->RelV x v->RelV y u->r x y H Q ->
  subscripted slice false v u=operate [v,u] (getItem v u)->wpAny (model X.prog X.w) X.A (subscriptTail value slice v u) (EP X pins σ Q) X.xe s
def MtR (X:Cx)(id:String)(r:V->List V->Hp->VK->Prop):Prop:=
 ∀ (pins:List (Addr × Obj)) (s:Shared) (σ:St) (H:Hp) (x:V) (xs:List V) (v:Value) (us:List Value) (Q:VK),Inv X pins σ H s->RelV x v->l7 xs us->r x xs H Q ->
  wpAny (model X.prog X.w) X.A (call (.builtin id) (v::us)) (EP X pins σ Q) X.xe s
section
variable {X:Cx} {a b:Expr} {ta tb:TE} {pos:Pos}
theorem IxR.or {r r':R2}(h:IxR X r)(h':IxR X r'):IxR X (fun x y H Q=>r x y H Q\/r' x y H Q):=by
 intro value slice pins s σ H x y v u Q I rx ry q hs
 rcases q with q | q
 ·exact h value slice pins s σ H x y v u Q I rx ry q hs
 ·exact h' value slice pins s σ H x y v u Q I rx ry q hs
theorem u4 {r:R2}(hr:IxR X r)(ha:PE X a ta)(hb:PE X b tb)(hs:ai6 b):PE X (.Subscript a b pos) (tOp r ta tb):=by
 intro pins s σ H Q I h
 exact Subscript_ (aF0 ha hb I h fun v u s2 x y H2 I2 rx ry q=>hr a b pins s2 σ H2 x y v u Q I2 rx ry q (hs _ _))
def aI3 (K:W.Frag):R2:=fun x y H Q=>∃ p xs i v,x=.ref p/\y=.int i/\SqL K H p xs/\atI xs i=some v/\Q v H
def aI1 (K:W.Frag):R2:=fun x y H Q=>∃ p xs i v,x=.ref p/\y=.int i/\SqT K H p xs/\atI xs i=some v/\Q v H
def aI2:R2:=fun x y H Q=>∃ z i c,x=.str z/\y=.int i/\z.length<=sizeLine/\atI z.cps.toList i=some c/\Q (.str ⟨#[c]⟩) H
theorem w4:IxR X (aI3 X.K):=by
 intro value slice pins s σ H x y v u Q I rx ry h hs
 obtain⟨p,xs,i,z,rfl,rfl,hq,he,q⟩:=h
 cases rx
 obtain⟨t,rfl⟩:=ry
 obtain⟨its,r,pl,hz⟩:=I.list hq
 obtain⟨j,h1,h2,h3,h4,h5⟩:=W8 he
 obtain⟨w,ew,rw'⟩:=r.get h2
 have hl:=r.length
 have hn:=L8
 have fin:EP X pins σ Q w s:=⟨z,H,I,rw',q⟩
 by_cases h0:0<=i
 ·have hj:i.toNat=j:=by
   rw[seqIndex_of h0 h5]at h1
   exact Option.some.inj h1
  exact item_listR pl.isList h0 (by omega) (by rw[hj];simpa using ew) fin hs
 ·have hj:(i+(its.toArray.size:Int)).toNat=j:=by
   rw[seqIndex_neg (by omega) h4]at h1
   rw[c7,<- hl]
   exact Option.some.inj h1
  exact subscriptTail_builtinR (x:=w) pl.isList.typeIs slot_list_getitem.lookup
   (wpAny_getItem_list_neg (Q:=fun r s'=>r=w/\EP X pins σ Q r s') pl.isList (by omega) (by rw[c7]<;>omega) (by omega) (by rw[hj];simpa using ew) ⟨rfl,fin⟩) hs
theorem A5:IxR X (aI1 X.K):=by
 intro value slice pins s σ H x y v u Q I rx ry h hs
 obtain⟨p,xs,i,z,rfl,rfl,hq,he,q⟩:=h
 cases rx
 obtain⟨t,rfl⟩:=ry
 obtain⟨its,r,pl,hz⟩:=I.tuple hq
 obtain⟨j,h1,h2,h3,h4,h5⟩:=W8 he
 obtain⟨w,ew,rw'⟩:=r.get h2
 have hl:=r.length
 have hn:=L8
 have fin:EP X pins σ Q w s:=⟨z,H,I,rw',q⟩
 exact subscriptTail_builtinR (x:=w) pl.typeIs slot_tuple_getitem.lookup
  (getItem_tuple (j:=j) (Q:=fun r s'=>r=w/\EP X pins σ Q r s') pl (by omega) (by omega) (by rw[c7,<- hl];exact h1) (by simpa using ew) ⟨rfl,fin⟩) hs
theorem aE0:IxR X aI2:=by
 intro value slice pins s σ H x y v u Q I rx ry h hs
 obtain⟨z,i,c,rfl,rfl,hz,he,q⟩:=h
 obtain⟨t,rfl⟩:=rx
 obtain⟨t',rfl⟩:=ry
 obtain⟨j,h1,h2,h3,h4,h5⟩:=W8 he
 have hl:z.cps.toList.length=z.length:=by simp[Str.length]
 rw[hl]at h1 h4 h5
 have hn:=L8
 exact tail_any (typeIs_str s z t) slot_str_getitem.lookup (getItem_str (c:=c) (by
  have e1:decide (i < -(2 ^ 63:Int))=false:=decide_eq_false (by omega)
  have e2:decide (i≥2 ^ 63)=false:=decide_eq_false (by omega)
  rw[e1,e2,al8]) (by rw[h1];simpa using h2) ⟨.str ⟨#[c]⟩,H,I.tok _,⟨_,rfl⟩,q⟩) hs
def rIx (K:W.Frag):R2:=fun x y H Q=>aI3 K x y H Q\/aI1 K x y H Q\/aI2 x y H Q
theorem aE1:IxR X (rIx X.K):=w4.or (A5.or aE0)
theorem ad4 (its:List Value)(n j:Nat)(u:Value):Obj.mapSeq (·.setIfInBounds j u) { cls:=.type "list",data:=.seq its.toArray n }={ cls:=.type "list",data:=.seq (its.set j u).toArray n }:=by
 simp[Obj.mapSeq]
theorem Inv.lst {pins:List (Addr × Obj)}{σ:St}{H:Hp}{s:Shared}{p:Addr}{xs:List V}(I:Inv X pins σ H s)(h:H p=some (.lst xs)) :
  ∃ (its:List Value) (n:Nat),l7 xs its/\s.heap.get? p=some { cls:=.type "list",data:=.seq its.toArray n }/\xs.length<=sizeLine:=by
 obtain⟨z,its,n,r,e⟩:=I.hok p _ h
 exact⟨its,n,r,e,z⟩
theorem Inv.lstUpd {pins:List (Addr × Obj)}{σ:St}{H:Hp}{s:Shared}{p:Addr}{xs ys:List V}{its its':List Value}{n n':Nat}{f:Obj->Obj}(I:Inv X pins σ H s)(h:H p=some (.lst xs))
  (ho:s.heap.get? p=some { cls:=.type "list",data:=.seq its.toArray n })(hf:f { cls:=.type "list",data:=.seq its.toArray n }={ cls:=.type "list",data:=.seq its'.toArray n' })(r:l7 ys its')(hz:ys.length<=sizeLine)(t:Nat) :
  Inv X pins σ (upd H p (.lst ys)) { s with heap:=s.heap.update p f,toks:=t }:=by
 have e:(s.heap.update p f).get? p=some { cls:=.type "list",data:=.seq its'.toArray n' }:=by
  rw[k6 f ho (by rw[hf]<;>rfl),hf]
 refine I.write (x:=p) (e:=p) (by rw[h];trivial) (.inl rfl) (fun b u hb q=>(k4 _ _ (Ne.symm hb)).trans q) ⟨_,e⟩ ?_
 exact⟨hz,its',n',r,e⟩
def aI0:V->V->V->Hp->(Hp->Prop)->Prop:=fun o i v H Q=>∃ p xs k j,o=.ref p/\i=.int k/\H p=some (.lst xs)/\ixN xs.length k=some j/\Q (upd H p (.lst (xs.set j v)))
theorem set_list:aK2 X aI0:=by
 intro pins s σ H o i v ov iv u Q I ro ri rv h
 obtain⟨p,xs,k,j,rfl,rfl,hp,hj,q⟩:=h
 cases ro
 obtain⟨t,rfl⟩:=ri
 obtain⟨its,n,r,ho,hz⟩:=I.lst hp
 obtain⟨h1,h2,h3,h4⟩:=ah8 hj
 have hl:=r.length
 have hn:=L8
 have I':Inv X pins σ (upd H p (.lst (xs.set j v))) { s with heap:=s.heap.update p (Obj.mapSeq (·.setIfInBounds j u)) }:=
  I.lstUpd hp ho (ad4 its n j u) (r.set rv j) (by rw[A0];exact hz) s.toks
 by_cases h0:0<=k
 ·have hk:k.toNat=j:=by
   rw[seqIndex_of h0 h4]at h1
   exact Option.some.inj h1
  exact PySem.W.ki_setAt ho h0 (by omega) (by rw[c7,<- hl];exact h4) (by rw[hk];exact⟨_,I',q⟩)
 ·have hk:(k+(its.toArray.size:Int)).toNat=j:=by
   rw[seqIndex_neg (by omega) h3]at h1
   rw[c7,<- hl]
   exact Option.some.inj h1
  exact PySem.W.ki_setBack ho (by omega) (by rw[c7,<- hl];exact h3) (by omega) (by rw[hk];exact⟨_,I',q⟩)
theorem V3 (lo hi:Option Int)(n:Nat):(sliceBounds lo hi none n).1=((HT.sIx n 0 lo:Nat):Int)/\(sliceBounds lo hi none n).2.1=((HT.sIx n n hi:Nat):Int)/\(sliceBounds lo hi none n).2.2=1:=by
 refine⟨?_,?_,rfl⟩
 ·cases lo with
  | none=>simp[sliceBounds,HT.sIx]
  | some i =>
   simp only[sliceBounds,HT.sIx,aA8,show (1:Int) > 0 by decide,if_true]
   by_cases h:i<0
   ·simp only[h,if_true]<;>omega
   ·simp only[h,if_false]<;>omega
 ·cases hi with
  | none=>simp[sliceBounds,HT.sIx]
  | some i =>
   simp only[sliceBounds,HT.sIx,aA8,show (1:Int) > 0 by decide,if_true]
   by_cases h:i<0
   ·simp only[h,if_true]<;>omega
   ·simp only[h,if_false]<;>omega
theorem S4 (its:List Value)(lo hi:Option Int):slicePick its.toArray lo hi none=((its.drop (HT.sIx its.length 0 lo)).take (HT.sIx its.length its.length hi - HT.sIx its.length 0 lo)).toArray:=by
 obtain⟨h1,h2,h3⟩:=V3 lo hi its.toArray.size
 unfold slicePick
 rw[h1,h2,h3]
 simp only[sliceRange_one,pick_run,c7]<;>rfl
def aL5 (K:W.Frag):V->Option Int->Option Int->Hp->VK->Prop:=fun x lo hi H Q=>∃ a xs,x=.ref a/\SqL K H a xs/\∀ p,H p=none->Q (.ref p) (upd H p (.lst (al1 xs lo hi)))
theorem au7:SlR X (aL5 X.K):=by
 intro pins s σ H x v vl vu lo hi sl Q I rx hs pl pu h
 obtain⟨a,xs,rfl,hx,q⟩:=h
 cases rx
 obtain⟨its,r,ht,hz⟩:=I.list hx
 have hlen:=r.length
 refine⟨"list",_,slot_list_getitem.lookup,ht.isList.typeIs,?_⟩
 refine wpAny_getItem_list_slice ht.isList hs pl pu .none (by simp) ?_ (by rw[c7]<;>omega)
 rw[S4,<- hlen]
 refine⟨.ref s.heap.objs.size,_,I.laid (t':=s.toks) (o:=.lst (al1 xs lo hi)) (fun b ob q=>a7 _ q) (a8 _) ?_,rfl,q _ (I.hok.fresh (a8 _))⟩
 exact⟨m9 (aa5 xs lo hi) hz,_,0,(r.drop (HT.sIx xs.length 0 lo)).take (HT.sIx xs.length xs.length hi - HT.sIx xs.length 0 lo),b5 _ rfl⟩
theorem t8:A9 X (.builtin "len") (fun xs H Q=>∃ p ys,xs=[.ref p]/\(SqL X.K H p ys\/SqT X.K H p ys)/\Q (.int ys.length) H):=by
 intro pins s σ H xs us Q I r h
 obtain⟨p,ys,rfl,hq,q⟩:=h
 obtain⟨u,rfl,rx⟩:=vals1 r
 cases rx
 have hn:=L8
 rcases hq with hq | hq
 ·obtain⟨its,r',pl,hz⟩:=I.list hq
  have hlen:=r'.length
  exact Calls.call_len_list pl.isList (by simp only[c7]<;>omega) ⟨.int ys.length,H,I.tok _,⟨s.toks+1,by rw[c7,hlen]⟩,q⟩
 ·obtain⟨its,r',pl,hz⟩:=I.tuple hq
  have hlen:=r'.length
  exact len_tuple pl (by simp only[c7]<;>omega) ⟨.int ys.length,H,I.tok _,⟨s.toks+1,by rw[c7,hlen]⟩,q⟩
theorem G7:A9 X (.type "tuple") (fun xs H Q=>∃ p ys,xs=[.ref p]/\((SqL X.K H p ys/\∀ l,H l=none->Q (.ref l) (upd H l (.tup ys)))\/(SqT X.K H p ys/\Q (.ref p) H))):=by
 intro pins s σ H xs us Q I r h
 obtain⟨p,ys,rfl,h⟩:=h
 obtain⟨u,rfl,rx⟩:=vals1 r
 cases rx
 rcases h with⟨hq,q⟩ | ⟨hq,q⟩
 ·obtain⟨its,r',pl,hz⟩:=I.list hq
  have hlen:=r'.length
  refine call_tuple_list pl.isList (fun h' kp=>?_) (by simp only[c7]<;>omega)
  have I1:Inv X pins σ H { s with heap:=h' }:=I.kept (t':=s.toks) kp
  have I2:Inv X pins σ (upd H h'.objs.size (.tup ys)) { s with heap:=h'.push { cls:=.type "tuple",data:=.seq its.toArray } } :=
   I1.laid (t':=s.toks) (fun b o e=>a7 _ e) (a8 _) (show q0 X.prog X.w _ _ _ (.tup ys) from ⟨hz,its,r',IsTup.new _ _⟩)
  exact⟨.ref h'.objs.size,_,I2,rfl,q _ (I1.hok.fresh (a8 _))⟩
 ·obtain⟨its,r',pl,hz⟩:=I.tuple hq
  exact call_tuple_same pl ⟨.ref p,H,I,rfl,q⟩
def tyV (K:W.Frag)(T:String)(x:V)(H:Hp):Prop:=match x with
 | .str _=>T="str"
 | .int _=>T="int"
 | .ref p=>(T="list"/\∃ xs,SqL K H p xs)\/(T="tuple"/\∃ o,K.lookup p=some o/\o.cls=.type "tuple"/\o.dict=none) \/
   (T="dict"/\((∃ kvs,H p=some (.dK kvs))\/∃ kvs,H p=some (.dT kvs)))\/(T="set"/\∃ S n,H p=some (.set S n))
 | _=>False
theorem am6 {pins:List (Addr × Obj)}{σ:St}{H:Hp}{s:Shared}{T:String}{x:V}{v:Value}(I:Inv X pins σ H s)(r:RelV x v)(ty:tyV X.K T x H) :
  s.TypeIs v T/\∀ a,v=.ref a->∃ ob,s.heap.get? a=some ob/\ob.dict=none:=by
 cases x with
 | str z =>
  obtain⟨t,rfl⟩:=r
  cases (show T="str" from ty)
  exact⟨typeIs_str s z t,fun _ e=>nomatch e⟩
 | int i =>
  obtain⟨t,rfl⟩:=r
  cases (show T="int" from ty)
  exact⟨typeIs_int s i t,fun _ e=>nomatch e⟩
 | ref p =>
  cases r
  rcases ty with⟨rfl,xs,hq⟩ | ⟨rfl,o,hk,hc,hd⟩ | ⟨rfl,hk⟩ | ⟨rfl,S,n,hk⟩
  ·obtain⟨its,_,pl,_⟩:=I.list hq
   refine⟨pl.isList.typeIs,fun a e=>?_⟩
   cases e
   obtain⟨o,n,e,c,hd,_⟩:=pl
   exact⟨o,e,hd⟩
  ·refine⟨⟨o,I.kIn p o hk,hc⟩,fun a e=>?_⟩
   cases e
   exact⟨o,I.kIn _ o hk,hd⟩
  ·have z:∃ o,s.heap.get? p=some o/\o.ExactDict:=by
    rcases hk with⟨kvs,hk⟩ | ⟨kvs,hk⟩
    ·obtain⟨_,_,_,_,o,_,_,e,ex,_⟩:=I.hok p _ hk
     exact⟨o,e,ex⟩
    ·obtain⟨_,_,_,_,o,_,_,e,ex,_⟩:=I.hok p _ hk
     exact⟨o,e,ex⟩
   obtain⟨o,e,ex⟩:=z
   refine⟨⟨o,e,ex.1⟩,fun a e2=>?_⟩
   cases e2
   exact⟨o,e,ex.2.1⟩
  ·obtain⟨o,_,_,_,e,ex,_⟩:=I.hok p _ hk
   refine⟨⟨o,e,ex.1⟩,fun a e2=>?_⟩
   cases e2
   exact⟨o,e,ex.2.1⟩
 | _=>exact False.elim ty
def aL2 (K:W.Frag)(T:String)(r:V->List V->Hp->VK->Prop)(to:TE):TE:=fun σ H Q=>to σ H fun x H1=>tyV K T x H1/\r x [] H1 Q
def tBM (K:W.Frag)(T:String)(r:V->List V->Hp->VK->Prop)(to:TE)(t:TA):TE:=fun σ H Q=>to σ H fun x H1=>tyV K T x H1/\t σ H1 fun xs H2=>r x xs H2 Q
variable {o e:Expr} {es:List Expr} {to:TE} {t:TA} {name:Str} {apos cpos:Pos} {T id:String} {r:V->List V->Hp->VK->Prop}
theorem aC5 (pa:PlainAttrs T)(slot:Slot T name id)(hty:typeOf (.builtin id)=pure (.type "method_descriptor"))(hm:MtR X id r)(ho:PE X o to)
  (hbase:attributeBase o name X.env (eval o X.env)=eval o X.env:=by rfl)(hline:(apos.endLine == cpos.line)=true:=by rfl):PE X (.Call (.Attribute o name apos) [] [] cpos) (aL2 X.K T r to):=by
 intro pins s σ H Q I h
 refine wpAny_Call_method0_late hbase hline (thn (ho pins s σ H _ I h) fun v s1 ⟨x,H1,I1,r1,ty,q1⟩=>?_)
 obtain⟨h1,h2⟩:=am6 I1 r1 ty
 exact⟨T,id,pa,slot,hty,h1,h2,Calls.callWith_builtin rfl (PySem.evalArgs_none (hm pins s1 σ H1 x [] v [] Q I1 r1 .nil q1))⟩
theorem M6 (pa:PlainAttrs T) (slot:Slot T name id) (hty:typeOf (.builtin id)=pure (.type "method_descriptor")) (hm:MtR X id r) (ho:PE X o to) (ha:PA X (e::es) t)
  (hbase:attributeBase o name X.env (eval o X.env)=eval o X.env:=by rfl)
  (hfew : ((backTo cpos (starEach (e :: es) X.env)).all (fun x => !x.1) && (backToKw cpos (keywordEach [] X.env)).all (fun x => x.1.isSome)
   && decide ((e::es).length+([]:List Keyword).length+(if ([]:List Keyword).isEmpty then 0 else 1)<30))=true:=by rfl)
  (hline:(apos.endLine == cpos.line)=true:=by rfl) (hs:starEach (e::es) X.env=(false,eval e X.env)::starEach es X.env:=by rfl) (hplain:(backTo cpos (starEach es X.env)).any (·.1)=false:=by rfl) :
  PE X (.Call (.Attribute o name apos) (e::es) [] cpos) (tBM X.K T r to t):=by
 intro pins s σ H Q I h
 refine wpAny_Call_method_late hbase hfew hline rfl (thn (ho pins s σ H _ I h) fun v s1 ⟨x,H1,I1,r1,ty,q1⟩=>?_)
 obtain⟨h1,h2⟩:=am6 I1 r1 ty
 refine⟨T,id,pa,slot,hty,h1,h2,?_⟩
 have hA:=ha cpos pins s1 σ H1 _ I1 q1
 rw[hs]at hA ⊢
 refine Calls.callWith_builtin (by show (false || (backTo cpos (starEach es X.env)).any (·.1))=false;rw[hplain]<;>rfl) (Calls.evalArgs_plain ?_)
 exact thn hA fun us s2 ⟨vs,H2,I2,r2,q2⟩=>hm pins s2 σ H2 x vs v us Q I2 r1 r2 q2
/- xs.append(e),list.index on a module's tuple .. are MtR facts of 06m -/
end
def MtM (X:Cx)(id:String)(r:V->List V->Hp->VK->Prop):Prop:=
 ∀ (pins:List (Addr × Obj)) (s:Shared) (σ:St) (H:Hp) (x:V) (xs:List V) (v:Value) (us:List Value) (Q:VK),Inv X pins σ H s->RelV x v->l7 xs us->r x xs H Q ->
  wpAny (model X.prog X.w) X.A (call (.builtin id) (v::us)) (EP X pins σ Q) X.xe s
theorem l7.one:∀ {x:V} {us:List Value},l7 [x] us->∃ u,us=[u]/\RelV x u
 | _,_,.cons r .nil=>⟨_,rfl,r⟩
theorem l7.two:∀ {x y:V} {us:List Value},l7 [x,y] us->∃ u v,us=[u,v]/\RelV x u/\RelV y v
 | _,_,_,.cons r (.cons q .nil)=>⟨_,_,rfl,r,q⟩
theorem l7.zero:∀ {us:List Value},l7 [] us->us=[]
 | _,.nil=>rfl
theorem l7.dropLast {xs:List V}{us:List Value}(h:l7 xs us):l7 xs.dropLast us.dropLast:=by
 induction h with
 | nil=>exact .nil
 | cons r t ih =>
  cases t with
  | nil=>exact .nil
  | cons q t'=>exact .cons r ih
theorem ae2 {α:Type}(l:List α):l.eraseIdx (l.length - 1)=l.dropLast:=by
 induction l with
 | nil=>rfl
 | cons a r ih =>
  cases r with
  | nil=>rfl
  | cons b r =>
   have e:(a::b::r).length - 1=((b::r).length - 1)+1:=by
    have h1:(a::b::r).length=r.length+2:=rfl
    have h2:(b::r).length=r.length+1:=rfl
    omega
   rw[e,List.eraseIdx_cons_succ,ih]
   all_goals rfl
section
variable {X:Cx} {pins:List (Addr × Obj)} {σ:St} {H:Hp} {s:Shared} {l b:Addr} {xs ys zs:List V}
theorem Inv.lset {its its':List Value}{n:Nat}{f:Array Value->Array Value}{t':Nat}(I:Inv X pins σ H s)(hH:H l=some (.lst xs))
  (e:s.heap.get? l=some { cls:=.type "list",data:=.seq its.toArray n })(hf:f its.toArray=its'.toArray)(hv:l7 ys its')(hz:ys.length<=sizeLine) :
  Inv X pins σ (upd H l (.lst ys)) { s with heap:=s.heap.update l (Obj.mapSeq f),toks:=t' }:=by
 have q:=PySem.IsL.update e f
 rw[hf]at q
 refine I.write (x:=l) (e:=l) (by rw[hH];exact trivial) (.inl rfl) (fun b' u hb hu=>(k4 s.heap (Obj.mapSeq f) (Ne.symm hb)).trans hu) ⟨_,q⟩ ?_
 exact⟨hz,its',_,hv,q⟩
theorem Inv.lnew {its:List Value}{t':Nat}(I:Inv X pins σ H s)(hv:l7 ys its)(hz:ys.length<=sizeLine) :
  Inv X pins σ (upd H s.heap.objs.size (.lst ys)) { s with heap:=s.heap.push { cls:=.type "list",data:=.seq its.toArray },toks:=t' } :=
 I.laid (fun _ _ q=>a7 _ q) (a8 _) ⟨hz,its,0,hv,b5 _ rfl⟩
theorem Inv.fresh (I:Inv X pins σ H s):H s.heap.objs.size=none:=I.hok.fresh (a8 _)
theorem Inv.lstM (I:Inv X pins σ H s)(hH:H l=some (.lst xs)):xs.length<=sizeLine/\∃ (its:List Value) (n:Nat),l7 xs its/\xs.length=its.length/\s.heap.get? l=some { cls:=.type "list",data:=.seq its.toArray n }:=by
 obtain⟨z,its,n,r,e⟩:=I.hok l _ hH
 exact⟨z,its,n,r,r.length,e⟩
end
section
variable {X:Cx}
def av2:V->List V->Hp->VK->Prop:=fun x vs H Q=>∃ l xs y,x=.ref l/\vs=[y]/\H l=some (.lst xs)/\xs.length<sizeLine/\Q .non (upd H l (.lst (xs++[y])))
theorem r9:MtM X "list.append" av2:=by
 intro pins s σ H x vs v us Q I rx rv h
 obtain⟨l,xs,y,rfl,rfl,hH,hz,q⟩:=h
 cases rx
 obtain⟨u,rfl,ru⟩:=rv.one
 obtain⟨z,its,n,r,hl,e⟩:=I.lstM hH
 refine call_meets F.slot_list_append ⟨_,e,rfl⟩ F.entry_list_append (F.args_list_append_2 _ _) (PySem.list_append l its.toArray n u (by rw[c7];omega)) ⟨e,?_⟩
 refine⟨.non,_,I.lset (its':=its++[u]) hH e (by simp) (r.append (.cons ru .nil)) ?_,rfl,q⟩
 rw[d7,B0]
 omega
def aL6:V->List V->Hp->VK->Prop:=fun x vs H Q=>∃ l xs y,x=.ref l/\vs=[]/\H l=some (.lst xs)/\xs[xs.length - 1]?=some y/\Q y (upd H l (.lst xs.dropLast))
theorem aD4:MtM X "list.pop" aL6:=by
 intro pins s σ H x vs v us Q I rx rv h
 obtain⟨l,xs,y,rfl,rfl,hH,hy,q⟩:=h
 cases rx
 have hus:=rv.zero
 subst hus
 obtain⟨z,its,n,r,hl,e⟩:=I.lstM hH
 obtain⟨u,hu,ru⟩:=r.get hy
 have hy':its.toArray[its.toArray.size - 1]?=some u:=by
  show its.toArray[its.length - 1]?=some u
  rw[<- c5,<- hl]
  exact hu
 refine call_meets F.slot_list_pop ⟨_,e,rfl⟩ F.entry_list_pop (F.args_list_pop_1 _) (MeetsSeq.list_pop_last l its.toArray n u hy' (by rw[c7];omega)) ⟨e,?_⟩
 refine⟨y,_,I.lset (its':=its.dropLast) hH e ?_ r.dropLast ?_,ru,q⟩
 ·show its.toArray.eraseIdxIfInBounds (its.toArray.size - 1)=its.dropLast.toArray
  rw[c7,List.eraseIdxIfInBounds_toArray,ae2]
 ·rw[List.length_dropLast]
  omega
def aL7:R2:=fun x y H Q=>∃ l b xs zs,x=.ref l/\y=.ref b/\H l=some (.lst xs)/\H b=some (.lst zs)/\xs.length+zs.length<=sizeLine/\∀ p,H p=none->Q (.ref p) (upd H p (.lst (xs++zs)))
theorem aC6:OpR X (binaryOp .Add) aL7:=by
 intro pins s σ H x y v u Q I rx ry h
 obtain⟨l,b,xs,zs,rfl,rfl,hH,hB,hz,q⟩:=h
 cases rx
 cases ry
 obtain⟨z,its,n,r,hl,e⟩:=I.lstM hH
 obtain⟨z2,its2,n2,r2,hl2,e2⟩:=I.lstM hB
 refine PySem.P.add_list e e2 ?_ (by rw[c7,c7];omega)
 have ea:its.toArray++its2.toArray=(its++its2).toArray:=by simp
 rw[ea]
 exact⟨.ref _,_,I.lnew (t':=s.toks) (r.append r2) (by rw[d7];omega),rfl,q _ I.fresh⟩
end
section
variable {prog:Program} {w:World} {A:Around} {E:Value->Shared->Prop} {s:Shared}
end
section
variable {X:Cx}
end
end L2
namespace Att
open PySem PySem.W PySem.Calls PyProof.Rows
theorem M9 {P:Params}{h:Heap}:∀ (ns:List Int) (vs:List Value),WellAll P h vs (ns.map WData.int)->IntsAre vs ns:=by
 intro ns
 induction ns with
 | nil =>
  intro vs w
  rw[V0]at w
  cases w
  exact .nil
 | cons n ns ih =>
  intro vs w
  rw[k9]at w
  cases w with
  | cons a b =>
   cases a
   exact .cons _ _ (ih _ b)
theorem aj2 {l:OpenLaw}{n:Nat}(hn:l.most=some n){P:Params}{h:Heap}{args:List WData}{vals:List Value}
  (hpre:l.row.toRowW.claim.pre args=true)(hwl:WellAll P h vals args) :
  ∃ a vs ns,vals=[Value.ref a]/\args=[WData.list (ns.map WData.int)]/\h.get? a=some { cls:=.type "list",data:=.seq vs.toArray }/\IntsAre vs ns/\ns.length<=n:=by
 have hsh:WShape.hasAll [] args [.list .int]=true:=(pre_splitW hpre).1
 have hc:l.pre.holds [] { args:=args }=true:=(pre_splitW hpre).2
 obtain⟨d,r,rfl,h1,h2⟩:=hasAllW_cons hsh
 obtain rfl:=hasAllW_nil h2
 obtain⟨xs,rfl,h3⟩:=hasW_list h1
 obtain⟨ns,rfl⟩:=items_int h3
 have hlen:ns.length<=n:=by
  unfold OpenLaw.pre at hc
  have h4:(WTm.not (.lt (.lit (.int (n:Int))) (.len (.arg 0)))).holds [] { args:=[.list (ns.map .int)] }=true:=by
   have h4:=(holds_andW hc).1
   rw[hn]at h4
   exact h4
  have h5:=condW_of h4 (w_not (w_lt w_lit (w_len_list (w_arg rfl))))
  rw[b4]at h5
  refine Nat.le_of_not_lt fun q=>?_
  have q':(n:Int)<((ns.length:Nat):Int):=by omega
  first
   | (rw[decide_eq_true q']at h5;exact absurd h5 (by decide))
   | (simp at h5;omega)
 cases hwl with
 | cons w1 w2 =>
  cases w2
  cases w1 with
  | list ho hall=>exact⟨_,_,ns,rfl,rfl,ho,M9 ns _ hall,hlen⟩
theorem aj4 (l:OpenLaw)(args:List WData):l.row.toRowW.claim.post args (.bool true) args=true:=
 postW_of (r:=l.row.toRowW) (X:=(true == true))
  (show WShape.has [] (.bool true) .bool=true by first | rfl | decide | simp[WShape.has,WShape.arms,WShape.armsAll])
  (show (WTm.eq .res (.lit (.bool true))).value [] { args:=args,res:=some (.bool true),after:=args }=some (.bool (true == true)) from w_eq_bool (w_res rfl) w_lit) rfl
theorem attach_call {l:OpenLaw} {n:Nat} {q:Program} {loose:List Str} {XP:(Str->Option Value)->Heap->Prop} {YP:World->Heap->Prop} {d:DefRec}
  (hn:l.most=some n) (hdf:d.params.defaults=[])
  (call : ∀ (w : World) (s₀ s₁ : Shared) (mg mb : Str -> Option Value) (fa : Addr) (o : Obj) (pm cd doc : Value) (a : Addr) (vs : List Value) (ns : List Int),
   Ground q loose [] XP w s₀ mg mb s₁.heap->YP w s₁.heap ->
   s₁.heap.get? fa=some o->o.data=.func (docDef d.name d.params d.body d.scope pm cd doc)->s₁.heap.CodeRec cd d.name->mg d.name=some (.ref fa) ->
   s₁.heap.get? a=some { cls:=.type "list",data:=.seq vs.toArray }->IntsAre vs ns->ns.length<=n->s₁.gens=#[] ->
   codeAny (model l.prog w) callerA (.call (.ref fa) ⟨[.ref a],[]⟩) (fun r s'=>r=.ok (.ret (.bool true))/\OldK s₁.heap s'.heap/\s'.os=s₁.os/\AllBare s'.gens) s₁) :
  WalkO q loose XP YP l.row.toRowW d [] (fun f vs=>PySem.call f vs):=by
 intro w s₀ s₁ mg mb G Y fa o pm cd doc dV kV ho hd hcd hD hmg hg args vals as hpre hlay hrd hwl hlo
 obtain rfl:dV=.none:=Dflts.none hD hdf
 obtain rfl:kV=.none:=Dflts.noKw hD
 obtain⟨a,vs,ns,rfl,rfl,hobj,hints,hlen⟩:=aj2 hn hpre hwl
 refine enter_call (codeAny_mono (call w s₀ s₁ mg mb fa o pm cd doc a vs ns G Y ho (fd_plain hd) hcd hmg hobj hints hlen hg) fun r s' hq=>?_)
 obtain⟨rfl,h2,h3,h4⟩:=hq
 exact⟨.inl ⟨.bool true,.bool true,[],rfl,fun _=>rfl,.bool true,aj4 l _,fun _=>⟨List.Pairwise.nil,fun _ hm=>(nomatch hm)⟩⟩,h2,h3,h4⟩
section
variable {prog:Program} {w:World} {A:Around} {E:Value->Shared->Prop} {s:Shared} {K:Frag}
end
end Att
namespace L2
open PySem PySem.Spec PyProof.Rows
theorem F5:∀ {vs:List Value} {ns:List Int},IntsAre vs ns->l7 (ns.map V.int) vs
 | _,_,.nil=>.nil
 | _,_,.cons n t h=>.cons ⟨t,rfl⟩ (F5 h)
def aF4 (H:Hp):Prop:=∀ b,H b=none\/∃ o xs,H b=some (.frz o (.lst xs))
theorem ar1 {P:Program}{w:World}{K:W.Frag}{mg mb:Str->Option Value}{CX:CXT}{k:Nat}{fa a:Addr}{fd:FuncData}{x:Str}{sp:Sp}{s₁:Shared}{vs:List Value}{ns:List Int}
  (KX:K.In s₁.heap)(hns:s₁.heap.Ns mainGlobals mg)(hb:s₁.heap.Ns builtinsNs mb)(hbb:∀ x:Str,x≠"__name__"->mb x=bootBuiltins x)(hlim:s₁.heap.NoLimit)(hg:s₁.gens=#[])
  (ha:s₁.heap.get? a=some { cls:=.type "list",data:=.seq vs.toArray })(hi:IntsAre vs ns)(hl:ns.length<=sizeLine)(hr:B9 k callerA)
  (F:∀ base:Heap,K.In base->base.Ns mainGlobals mg->u0 P w K mg base CX k fa fd [x] sp)(hbind:∀ (s:Shared) (u:Value),BindsTo s fd ⟨[u],[]⟩ [(x,u)])
  (hsp:∀ H:Hp,aF4 H->SqL K H a (ns.map V.int)->sp [.ref a] H (fun v _=>v=.bl true) fun _ _ _=>False)
  (hCX:∀ H e s',CX [] H s₁ (fun _ _ _=>False) e s'->False) :
  codeAny (model P w) callerA (.call (.ref fa) ⟨[.ref a],[]⟩) (fun r s'=>r=.ok (.ret (.bool true))/\OldK s₁.heap s'.heap/\s'.os=s₁.os/\AllBare s'.gens) s₁:=by
 have rv:=F5 hi
 have lenV:=hi.length
 have core:∀ H:Hp,aF4 H->SqL K H a (ns.map V.int)->HOk P w H s₁.heap->(∀ b,H b≠none->b=a)->(H a≠none->K.lookup a=none) ->
   codeAny (model P w) callerA (.call (.ref fa) ⟨[.ref a],[]⟩) (fun r s'=>r=.ok (.ret (.bool true))/\OldK s₁.heap s'.heap/\s'.os=s₁.os/\AllBare s'.gens) s₁:=by
  intro H hO hS hok hA hK
  have base_of:∀ {b:Addr} {o:Obj},s₁.heap.get? b=some o->H b=none->(W5 s₁.heap H).get? b=some o:=fun e n=>ar6 e n
  have noA:∀ {b:Addr} {o:Obj} {es:Array DictEntry} {ep:Nat},s₁.heap.get? b=some o->o.data=.dict es ep->H b=none:=fun {b o es ep} e d=>by
   cases q:H b with
   | none=>rfl
   | some u =>
    have e':b=a:=hA b (by rw[q];simp)
    subst e'
    rw[ha]at e;cases e
    have d':Data.seq vs.toArray _=Data.dict es ep:=d
    cases d'
  have nsK:∀ {b:Addr} {m:Str->Option Value},s₁.heap.Ns b m->(W5 s₁.heap H).Ns b m:=fun {b m} ⟨o,es,ep,e,d,r⟩=>⟨o,es,ep,base_of e (noA e d),d,r⟩
  have hKb:K.In (W5 s₁.heap H):=fun b o e=>base_of (KX b o e) (by
   cases q:H b with
   | none=>rfl
   | some u =>
    have e':b=a:=hA b (by rw[q];simp)
    subst e'
    rw[hK (by rw[q];simp)]at e;cases e)
  have hM:Mod K mg (W5 s₁.heap H):=⟨hKb,nsK hns,⟨mb,nsK hb,hbb⟩,let ⟨mc,h1,h2⟩:=hlim;⟨mc,nsK h1,h2⟩⟩
  have e0:ay8 P w K mg (W5 s₁.heap H) callerA [] s₁ H:=⟨rfl,hM,fun b o e=>aw8 e,Nat.le_of_eq (ak6 _ _),trivial,fun b hb=>absurd (show b∈([]:List Addr) from hb) (by simp),hok,.of_eq hg⟩
  refine codeAny_mono ((F _ hKb (nsK hns)).run callerA [] s₁ H ⟨[.ref a],[]⟩ [.ref a] [.ref a] _ _ hr e0 (hbind s₁ (.ref a)) (.cons rfl .nil) (hsp H hO hS)) fun r s' h=>?_
  cases r with
  | error e=>exact(hCX H e s' h).elim
  | ok fl =>
   cases fl with
   | next=>exact False.elim h
   | brk=>exact False.elim h
   | cont=>exact False.elim h
   | ret u =>
    obtain⟨v,H',os,bare,un,hok',r',q⟩:=h
    have q':v=.bl true:=q
    subst q'
    obtain rfl:u=Value.bool true:=r'
    refine⟨rfl,OldK.of_keep fun b o e=>?_,os,bare⟩
    cases q:H b with
    | none=>exact un.keep b o e q (by intro z;exact absurd (show b∈([]:List Addr) from z) (by simp)) (by simp)
    | some u =>
     rcases hO b with z | ⟨ob,xs,z⟩
     ·rw[q]at z;cases z
     ·have z2:=un.frzs b ob _ z
      obtain⟨e1,_⟩:=hok b _ z
      obtain⟨e2,_⟩:=hok' b _ z2
      rw[e]at e1;cases e1
      exact e2
 cases hk:K.lookup a with
 | some o =>
  have e:=KX a o hk
  rw[ha]at e
  cases e
  refine core (fun _=>none) (fun _=>.inl rfl) (.inr ⟨_,vs.toArray,_,hk,rfl,rfl,rfl,by rw[c7,lenV];exact hl,by simpa using rv⟩) (fun b u z=>by have z':(none:Option HO)=some u:=z;cases z') (fun b z=>absurd rfl z) fun z=>absurd rfl z
 | none =>
  refine core (fun b=>if b=a then some (.frz { cls:=.type "list",data:=.seq vs.toArray } (.lst (ns.map V.int))) else none) (fun b=>?_) (.inl (.inr ⟨{ cls:=.type "list",data:=.seq vs.toArray },if_pos rfl⟩)) (fun b u z=>?_) (fun b z=>?_) fun _=>hk
  ·by_cases hb:b=a
   ·exact .inr ⟨_,_,if_pos hb⟩
   ·exact .inl (if_neg hb)
  ·by_cases hb:b=a
   ·have z':=(if_pos hb).symm.trans z
    cases z'
    subst hb
    exact⟨ha,by rw[b4];exact hl,vs,_,rv,ha⟩
   ·have z':=(if_neg hb).symm.trans z
    cases z'
  ·by_cases hb:b=a
   ·exact hb
   ·exact absurd (if_neg hb) z
theorem walk_of {l:PySem.W.OpenLaw} {n k:Nat} {q:Program} {loose:List Str} {XP:(Str->Option Value)->Heap->Prop} {YP:World->Heap->Prop} {d:DefRec} {K:Params->PySem.W.Frag} {CX:World->CXT} {sp:World->Sp} {x:Str}
  (hn:l.most=some n) (hn2:n<=sizeLine) (hdf:d.params.defaults=[]) (hr:B9 k callerA)
  (hY:∀ (w:World) (h:Heap),YP w h->(K w.params).In h)
  (F : ∀ (w : World) (mg : Str -> Option Value) (fa : Addr) (h : Heap), (K w.params).In h -> h.Ns mainGlobals mg -> mg d.name = some (.ref fa) ->
   ∃ fd:FuncData,(∀ (s:Shared) (u:Value),BindsTo s fd ⟨[u],[]⟩ [(x,u)]) /\
    ∀ base:Heap,(K w.params).In base->base.Ns mainGlobals mg->u0 l.prog w (K w.params) mg base (CX w) k fa fd [x] (sp w))
  (hsp:∀ (w:World) (H:Hp) (a:Addr) (ns:List Int),ns.length<=n->aF4 H->SqL (K w.params) H a (ns.map V.int)->sp w [.ref a] H (fun v _=>v=.bl true) fun _ _ _=>False)
  (hCX:∀ (w:World) (H:Hp) (s:Shared) (e:Value) (s':Shared),CX w [] H s (fun _ _ _=>False) e s'->False) :
  PySem.W.WalkO q loose XP YP l.row.toRowW d [] (fun f vs=>PySem.call f vs):=by
 refine Att.attach_call hn hdf fun w s₀ s₁ mg mb fa o pm cd doc a vs ns G Y ho hd hcd hmg hobj hints hlen hg=>?_
 have KX:=hY w _ Y
 obtain⟨fd,hb,hF⟩:=F w mg fa _ KX G.T.g hmg
 exact ar1 KX G.T.g G.T.b G.T.builtins G.T.nolimit hg hobj hints (m9 hlen hn2) hr hF hb (fun H hO hS=>hsp w H a ns hlen hO hS) fun H e s'=>hCX w H s₁ e s'
end L2
namespace L2
open PySem PySem.Spec PyProof.Rows
def p6 (s:Stmt):Arguments:=match s with
 | .FunctionDef _ a _ _ _ _ _ _ _ _=>a
 | _=>{ posonlyargs:=[],args:=[],vararg:=none,kwonlyargs:=[],kw_defaults:=[],kwarg:=none,defaults:=[] }
def o4 (s:Stmt):List Stmt:=match s with
 | .FunctionDef _ _ b _ _ _ _ _ _ _=>b
 | _=>[]
def i5 (s:Stmt):Scope:=match s with
 | .FunctionDef _ _ _ _ _ _ sc _ _ _=>sc
 | _=>{ kind:=.function,names:=[],isGenerator:=false,isCoroutine:=false }
abbrev CX0:CXT:=fun _ _ _ _ _ _=>False
abbrev E0:XK:=fun _ _ _=>False
theorem y7 {X:Cx}:af1 CX0 X E0:=fun _ _ _ _ _ _ _ h=>h.elim
structure Fun (K:W.Frag) (x qual:Str) (st:Stmt) (f:Addr) (fd:FuncData):Prop where
 ex:∃ (oc:Value) (od:Option Addr) (kV doc pm:Value) (an:Option Addr) (cdv ct:Value) (osl:Array (Option Value)),
  fd=j9 x qual (p6 st) (o4 st) (i5 st) .none kV doc pm an cdv ct/\K.lookup f=some ⟨oc,od,.func fd,osl⟩/\k5 K cdv qual=true
 kp:j2 K (.ref f)=true
section
variable {P:Program} {w:World} {K:W.Frag} {mg:Str->Option Value} {base:Heap}
theorem Fun.ok {x qual:Str} {st:Stmt} {f:Addr} {fd:FuncData} {N ps:List Str} {k:Nat} {sp:Sp} (F:Fun K x qual st f fd) (S:r6 N ps (i5 st)) (len:∀ vs H Q E,sp vs H Q E->vs.length=ps.length)
  (hbody : ∀ (cdv : Value) (A : Around) (outer : List Env) (s : Shared) (H : Hp) (vs : List V) (Q : VK) (E : XK), B9 k (A.deeper (envOfC qual (i5 st) s.heap.objs.size f cdv)) -> sp vs H Q E ->
   ∃ t,PSs (ak9 CX0 P w K mg base N qual (i5 st) f cdv A outer s H E).nox (o4 st) t/\t { nx:=fun _ H'=>Q .non H',rt:=Q } (start N vs) H):u0 P w K mg base CX0 (k+1) f fd ps sp:=by
 obtain⟨oc,od,kV,doc,pm,an,cdv,ct,osl,rfl,lk,hcd⟩:=F.ex
 refine aJ8 lk hcd S len fun A outer s H vs Q E hr hsp=>?_
 obtain⟨t,h,q⟩:=hbody cdv A outer s H vs Q E hr hsp
 exact⟨t,h.nox,q⟩
theorem Fun.binds {x qual:Str}{st:Stmt}{f:Addr}{fd:FuncData}{ps:List Str}(F:Fun K x qual st f fd)
  (h:∀ (kV doc pm:Value) (an:Option Addr) (cdv ct:Value) (us:List Value),us.length=ps.length->bindArgs (j9 x qual (p6 st) (o4 st) (i5 st) .none kV doc pm an cdv ct) ⟨us,[]⟩=pure (ps.zip us)):Binds K fd ps []:=by
 obtain⟨oc,od,kV,doc,pm,an,cdv,ct,osl,rfl,lk,hcd⟩:=F.ex
 exact .all (h kV doc pm an cdv ct)
theorem y3 {x qual:Str}{st:Stmt}{f:Addr}{oc:Value}{od an:Option Addr}{osl:Array (Option Value)}{kV doc pm cdv ct:Value}(l:K.lookup f=some ⟨oc,od,.func (j9 x qual (p6 st) (o4 st) (i5 st) .none kV doc pm an cdv ct),osl⟩)
  (c:k5 K cdv qual=true)(k:j2 K (.ref f)=true):Fun K x qual st f (j9 x qual (p6 st) (o4 st) (i5 st) .none kV doc pm an cdv ct):=⟨⟨oc,od,kV,doc,pm,an,cdv,ct,osl,rfl,l,c⟩,k⟩
end
section
variable {X:Cx}
theorem pv (i:Nat){x:Str}{pos:Pos}(hN:X.N[i]?=some x:=by rfl)(hv:Vis X.env.scope x:=by first | exact Or.inl rfl | exact Or.inr (Or.inl rfl) | exact Or.inr (Or.inr rfl))(hd:(x == ("__debug__":Str))=false:=by decide)
  (hcd:(x == ("__classdict__":Str))=false:=by decide):PE X (.Name x pos) (aG5 i):=aC3 hN hv hd hcd
end
theorem y1 {A B:Prop}(h:B):if false=true then A else B:=by
 rw[if_neg b7]
 exact h
theorem B4 {A B:Prop}(h:A):if true=true then A else B:=by
 rw[if_pos rfl]
 exact h
theorem ax6 {c A B:Prop}[Decidable c](h1:c->A)(h2:¬ c->B):if c then A else B:=by
 by_cases h:c
 ·rw[if_pos h]
  exact h1 h
 ·rw[if_neg h]
  exact h2 h
theorem aJ1 {c A B:Prop}[Decidable c](hc:c)(h:B):if (!decide c)=true then A else B:=by
 rw[decide_eq_true hc]
 exact y1 h
def m5 (H H':Hp):Prop:=∀ b o,H b=some o->H' b=some o
theorem m5.refl (H:Hp):m5 H H:=fun _ _ h=>h
theorem m5.trans {H H1 H2:Hp}(a:m5 H H1)(b:m5 H1 H2):m5 H H2:=fun c o h=>b c o (a c o h)
theorem m5.free {H H':Hp}(e:m5 H H'){l:Addr}(h:H' l=Option.none):H l=Option.none:=by
 cases q:H l with
 | none=>rfl
 | some o =>
  rw[e l o q]at h
  cases h
theorem m5.seq {K:W.Frag}{H H':Hp}{a:Addr}{xs:List V}(e:m5 H H')(h:SqL K H a xs):SqL K H' a xs:=by
 rcases h with(h | ⟨o,h⟩) | h
 ·exact .inl (.inl (e _ _ h))
 ·exact .inl (.inr ⟨o,e _ _ h⟩)
 ·exact .inr h
end L2
namespace Tim
open PySem PyProof.Rows
structure Ord (B:Keyed->Keyed->Bool):Prop where
 irr:∀ x,B x x=false
 tr:∀ x y z,B x y=true->B y z=true->B x z=true
 ng:∀ x y z,B x z=true->B x y=true\/B y z=true
def le (B:Keyed->Keyed->Bool)(x y:Keyed):Prop:=B y x=false
section
variable {prog:Program} {w:World} {A:Around} {E:Value->Shared->Prop} {s:Shared} {κ:SortKind} {S:Keyed->Prop} {B:Keyed->Keyed->Bool}
def Cmp (prog:Program)(w:World)(A:Around)(E:Value->Shared->Prop)(s:Shared)(κ:SortKind)(S:Keyed->Prop)(B:Keyed->Keyed->Bool):Prop:=
 ∀ (x y:Keyed),S x->S y->∀ (Q:Bool->Shared->Prop),Q (B x y) s->wpAny (model prog w) A (keyLt' κ x.1 y.1) Q (fun _ _=>False) s
theorem aB4 (C:Cmp prog w A E s κ S B){x y:Keyed}{st:SortSt}{Q:Option Bool->SortSt->Prop}(hk:kindOf st=κ)(hx:S x)(hy:S y)(h:Q (some (B x y)) st):wpS (model prog w) A E s (lt' x y) Q st:=by
 rw[lt'_eq]
 refine wpS_bind (wpS_get ?_)
 rw[hk]
 refine wpS_bind (wpS_lift (wpAny_attempt ?_))
 refine wpAny_mono (C x y hx hy (fun b s'=>s'=s/\b=B x y) ⟨rfl,rfl⟩) (fun b s' hb=>?_) (fun _ _ f=>f.elim)
 obtain⟨rfl,rfl⟩:=hb
 exact⟨rfl,wpS_pure h⟩
theorem X4 {arr:Array Keyed}{i:Nat}{x:Keyed}{st:SortSt}{Q:Keyed->SortSt->Prop}(hi:arr[i]?=some x)(h:Q x st):wpS (model prog w) A E s (elem' arr i) Q st:=by
 rw[elem'_eq,hi]
 exact wpS_pure h
theorem ai9 (C:Cmp prog w A E s κ S B){i j:Nat}{x y:Keyed}{st:SortSt}{Q:Option Bool->SortSt->Prop}(hk:kindOf st=κ)(hi:(arrOf st)[i]?=some x)(hj:(arrOf st)[j]?=some y)(hx:S x)(hy:S y)(h:Q (some (B x y)) st) :
  wpS (model prog w) A E s (ltAt' i j) Q st:=by
 rw[ltAt'_eq]
 refine wpS_bind (wpS_get ?_)
 show wpS _ _ _ _ (do let x <- elem' (arrOf st) i;let y <- elem' (arrOf st) j;lt' x y) Q st
 exact wpS_bind (X4 hi (wpS_bind (X4 hj (aB4 C hk hx hy h))))
end
structure MI (R:Keyed->Keyed->Prop) (out ra rb all:List Keyed):Prop where
 so:out.Pairwise R
 oa:∀ x∈out,∀ y∈ra,R x y
 ob:∀ x∈out,∀ y∈rb,R x y
 sa:ra.Pairwise R
 sb:rb.Pairwise R
 pm:(out++(ra++rb)).Perm all
structure Sm (st st':SortSt):Prop where
 k:kindOf st'=kindOf st
 a:arrOf st'=arrOf st
 p:pendingOf st'=pendingOf st
 f:failedOf st'=failedOf st
section
variable {prog:Program} {w:World} {A:Around} {E:Value->Shared->Prop} {s:Shared} {κ:SortKind} {S:Keyed->Prop} {B:Keyed->Keyed->Bool}
structure LoI (B:Keyed->Keyed->Bool) (a b out:Array Keyed) (ia ib:Nat):Prop where
 m:MI (le B) out.toList (a.toList.drop ia) (b.toList.drop ib) (a.toList++b.toList)
 ha:ia+1<a.size
 hb:ib<b.size
 sz:out.size=ia+ib
def Good (B:Keyed->Keyed->Bool)(a b r:Array Keyed):Prop:=r.toList.Pairwise (le B)/\r.toList.Perm (a.toList++b.toList)
end
section
variable {prog:Program} {w:World} {A:Around} {E:Value->Shared->Prop} {s:Shared} {κ:SortKind} {S:Keyed->Prop} {B:Keyed->Keyed->Bool}
abbrev HM (B:Keyed->Keyed->Bool)(a b out:Array Keyed)(na nb:Nat):Prop:=MI (fun x y=>le B y x) out.toList (a.toList.take na).reverse (b.toList.take nb).reverse (a.toList++b.toList)
structure HiI (B:Keyed->Keyed->Bool) (a b out:Array Keyed) (na nb:Nat):Prop where
 m:HM B a b out na nb
 ha:0<na
 ha':na<=a.size
 hb:1<nb
 hb':nb<=b.size
 sz:out.size+na+nb=a.size+b.size
end
def KF {O:KeyOrd}(f:Keyed->O.α)(d:O.α)(xs:Array Keyed)(i:Nat):O.α:=match xs[i]? with
 | some p=>f p
 | none=>d
def Bf {O:KeyOrd}(f:Keyed->O.α)(x y:Keyed):Bool:=O.blt (f x) (f y)
section
variable {O:KeyOrd} {f:Keyed->O.α} {d:O.α}
theorem W9 {xs:Array Keyed}{i:Nat}{x:Keyed}(h:xs[i]?=some x):KF f d xs i=f x:=by unfold KF;rw[h]
end
def K5 {O:KeyOrd}(f:Keyed->O.α)(d:O.α)(lo:Nat)(xs:Array Keyed)(k:Nat):Prop:=∀ i j,i<=j->j<k->O.kle (KF f d xs (lo+i)) (KF f d xs (lo+j))
structure SI (a₀:Array Keyed) (κ:SortKind) (p:Array (Nat × Nat × Nat)) (st:SortSt):Prop where
 perm:(arrOf st).Perm a₀
 kind:kindOf st=κ
 failed:failedOf st=none
 pend:pendingOf st=p
section
variable {prog:Program} {w:World} {A:Around} {E:Value->Shared->Prop} {s:Shared} {κ:SortKind} {a₀:Array Keyed} {p:Array (Nat × Nat × Nat)} {O:KeyOrd} {f:Keyed->O.α} {d:O.α}
theorem SI.size {st:SortSt}(h:SI a₀ κ p st):(arrOf st).size=a₀.size:=h.perm.size_eq
theorem SI.at {st:SortSt}(h:SI a₀ κ p st){i:Nat}(hi:i<a₀.size):∃ x,(arrOf st)[i]?=some x/\x∈a₀.toList:=by
 have hi':i<(arrOf st).size:=by rw[h.size];exact hi
 exact⟨(arrOf st)[i],getElem?_pos _ i hi',(Array.perm_iff_toList_perm.mp h.perm).mem_iff.mp (by simp)⟩
abbrev aF6 (prog:Program)(w:World)(A:Around)(E:Value->Shared->Prop)(s:Shared)(κ:SortKind)(a₀:Array Keyed){O:KeyOrd}(f:Keyed->O.α):Prop:=Cmp prog w A E s κ (·∈a₀.toList) (Bf f)
theorem au0 (C:aF6 prog w A E s κ a₀ f){st:SortSt}{i j:Nat}{Q:Option Bool->SortSt->Prop}(hB:SI a₀ κ p st)(hi:i<a₀.size)(hj:j<a₀.size)
  (h:Q (some (O.blt (KF f d (arrOf st) i) (KF f d (arrOf st) j))) st):wpS (model prog w) A E s (ltAt' i j) Q st:=by
 obtain⟨x,e1,hx⟩:=hB.at hi
 obtain⟨y,e2,hy⟩:=hB.at hj
 rw[W9 e1,W9 e2]at h
 exact ai9 C hB.kind e1 e2 hx hy h
theorem au1 {st:SortSt} {lo a nrem:Nat} {Q:Option (Option Nat) × Nat->SortSt->Prop} {b:Nat->Option (Option Nat) × Nat->StateT SortSt Sem (ForInStep (Option (Option Nat) × Nat))} (ha:1<=a) (han:a<=nrem)
  (hb : ∀ x n (R : ForInStep (Option (Option Nat) × Nat) -> SortSt -> Prop), 1 <= n -> n < nrem -> (O.klt (KF f d (arrOf st) (lo + n)) (KF f d (arrOf st) (lo + n - 1)) -> R (.done (none, n)) st) ->
   (O.kle (KF f d (arrOf st) (lo+n - 1)) (KF f d (arrOf st) (lo+n))->R (.yield (none,n+1)) st)->wpS (model prog w) A E s (b x (none,n)) R st)
  (hs:K5 f d lo (arrOf st) a)
  (h:∀ n,a<=n->n<=nrem->K5 f d lo (arrOf st) n->(n=nrem\/O.klt (KF f d (arrOf st) (lo+n)) (KF f d (arrOf st) (lo+n - 1)))->Q (none,n) st) :
  wpS (model prog w) A E s (forIn [a:nrem] (none,a) b) Q st:=by
 refine wpS_forRange (I:=fun x c st'=>st'=st/\c=(none,x)/\K5 f d lo (arrOf st) x) ?step ?fin ⟨rfl,rfl,hs⟩
 case fin =>
  rintro c st' ⟨rfl,rfl,hs'⟩
  rw[show max a nrem=nrem by omega]at hs' ⊢
  exact h nrem han (a8 _) hs' (.inl rfl)
 case step =>
  rintro x c st' hax hxn ⟨rfl,rfl,hs'⟩
  refine hb x x _ (by omega) hxn (fun q=>h x hax (by omega) hs' (.inr q)) (fun q=>⟨rfl,rfl,fun i j hij hj=>?_⟩)
  by_cases hjx:j<x
  ·exact hs' i j hij hjx
  ·have hj':j=x:=by omega
   subst hj'
   by_cases hi':i=j
   ·subst hi';exact KeyOrd.kle_refl _
   ·refine KeyOrd.kle_trans (hs' i (j - 1) (by omega) (by omega)) ?_
    rw[show lo+(j - 1)=lo+j - 1 by omega]
    exact q
end
def shape (ps:List (Nat × Nat × Nat)):List (Nat × Nat):=ps.map fun x=>(x.1,x.2.1)
def aI8:Nat->List (List Keyed)->List (Nat × Nat)
 | _,[]=>[]
 | k,r::rs=>(k,r.length)::aI8 (k+r.length) rs
structure SR (a₀:Array Keyed) (κ:SortKind) (B:Keyed->Keyed->Bool) (runs:List (List Keyed)) (suf:List Keyed) (st:SortSt):Prop where
 perm:(arrOf st).Perm a₀
 kind:kindOf st=κ
 failed:failedOf st=none
 sh:shape (pendingOf st).toList=aI8 0 runs
 ok:∀ r∈runs,r≠[]/\r.Pairwise (le B)
 arr:(arrOf st).toList=runs.flatten++suf
section
variable {prog:Program} {w:World} {A:Around} {E:Value->Shared->Prop} {s:Shared} {κ:SortKind} {a₀:Array Keyed} {B:Keyed->Keyed->Bool}
end
section
variable {prog:Program} {w:World} {A:Around} {E:Value->Shared->Prop} {s:Shared} {κ:SortKind} {a₀:Array Keyed} {O:KeyOrd} {f:Keyed->O.α}
end
end Tim
namespace Tim
open PySem PyProof.Rows PySem.W
def v9:List Int->List Int->Bool
 | [],[]=>false
 | [],_::_=>true
 | _::_,[]=>false
 | a::x,b::y=>if a=b then v9 x y else decide (a<b)
theorem K2:∀ x,v9 x x=false
 | []=>rfl
 | a::x=>by unfold v9;rw[if_pos rfl];exact K2 x
theorem W1:∀ x y z,v9 x y=true->v9 y z=true->v9 x z=true
 | [],[],z,h,_=>by cases h
 | [],_::_,[],_,h=>by cases h
 | [],_::_,_::_,_,_=>rfl
 | _::_,[],z,h,_=>by cases h
 | _::_,_::_,[],_,h=>by cases h
 | a::x,b::y,c::z,h1,h2=>by
  unfold v9 at h1 h2 ⊢
  by_cases e1:a=b
  ·subst e1
   rw[if_pos rfl]at h1
   by_cases e2:a=c
   ·rw[if_pos e2]at h2 ⊢
    exact W1 x y z h1 h2
   ·rw[if_neg e2]at h2 ⊢
    exact h2
  ·rw[if_neg e1,decide_eq_true_eq]at h1
   by_cases e2:b=c
   ·subst e2
    rw[if_neg e1,decide_eq_true_eq]
    exact h1
   ·rw[if_neg e2,decide_eq_true_eq]at h2
    rw[if_neg (by omega),decide_eq_true_eq]
    omega
theorem Q5:∀ x y,v9 x y=false->v9 y x=false->x=y
 | [],[],_,_=>rfl
 | [],_::_,h,_=>by cases h
 | _::_,[],_,h=>by cases h
 | a::x,b::y,h1,h2=>by
  unfold v9 at h1 h2
  by_cases e:a=b
  ·subst e
   rw[if_pos rfl]at h1 h2
   rw[Q5 x y h1 h2]
  ·rw[if_neg e,decide_eq_false_iff_not]at h1
   rw[if_neg (Ne.symm e),decide_eq_false_iff_not]at h2
   omega
theorem ax3 (x y z:List Int)(h:v9 x z=true):v9 x y=true\/v9 y z=true:=by
 cases e1:v9 x y with
 | true=>exact .inl rfl
 | false =>
  cases e2:v9 y x with
  | true=>exact .inr (W1 _ _ _ e2 h)
  | false=>rw[Q5 x y e1 e2]at h;exact .inr h
def aD5:KeyOrd:=⟨List Int,v9,K2,W1,ax3,Q5⟩
section
variable {prog:Program} {w:World}
def IsK (prog:Program)(w:World)(h:Heap)(k:List Int)(v:Value):Prop:=∃ a,v=.ref a/\IsTupleKey (intKind prog w) h k a
theorem IsK.inj {h:Heap}{k k':List Int}{v:Value}(x:IsK prog w h k v)(y:IsK prog w h k' v):k=k':=by
 obtain⟨a,rfl,h1⟩:=x
 obtain⟨b,e,h2⟩:=y
 cases e
 exact h1.inj h2
open Classical in
noncomputable def y9 (prog:Program)(w:World)(h:Heap)(v:Value):List Int:=if q:∃ k,IsK prog w h k v then Classical.choose q else []
theorem F2 {h:Heap}{k:List Int}{v:Value}(x:IsK prog w h k v):y9 prog w h v=k:=by
 unfold y9
 rw[dif_pos ⟨k,x⟩]
 exact(Classical.choose_spec (⟨k,x⟩:∃ k,IsK prog w h k v)).inj x
theorem IsK.up {h h':Heap}{k:List Int}{v:Value}(x:IsK prog w h k v)(hs:∀ b o,h.get? b=some o->h'.get? b=some o):IsK prog w h' k v:=by
 obtain⟨a,e,o,items,n,h2,h3⟩:=x
 exact⟨a,e,o,items,n,hs a o h2,h3⟩
variable {A:Around} {E:Value->Shared->Prop} {s:Shared}
theorem T7 {b:Bool}{Q:Bool->Shared->Prop}(hb:b=true):∀ (x y:List Int) (vs us:List Value) (i:Nat) (fin:Bool),ItemsAre (intKind prog w) x vs->ItemsAre (intKind prog w) y us->(x.length<y.length↔fin=true)->Q (v9 x y) s->KatLex prog w A b fin Q (vs.zip us) i s
 | [],[],_,_,i,fin,.nil,.nil,hf,h=>by
  have:fin=false:=by cases fin with | false=>rfl | true=>exact absurd (hf.mpr rfl) (by simp)
  subst this
  exact kat_nil h
 | [],_::_,_,_,i,fin,.nil,.cons _ _,hf,h=>by
  have:fin=true:=hf.mp (by simp)
  subst this
  exact kat_nil h
 | _::_,[],_,_,i,fin,.cons _ _,.nil,hf,h=>by
  have:fin=false:=by cases fin with | false=>rfl | true=>exact absurd (hf.mpr rfl) (by simp)
  subst this
  exact kat_nil h
 | a::x,c::y,_,_,i,fin,.cons h1 t1,.cons h2 t2,hf,h=>by
  obtain⟨t,rfl⟩:=Value.isInt_shape h1
  obtain⟨u,rfl⟩:=Value.isInt_shape h2
  rw[List.zip_cons_cons]
  refine kat_cons (wpAny_eqBool_int ?_)
  unfold v9 at h
  by_cases e:a=c
  ·subst e
   rw[if_pos rfl]at h
   rw[show (a == a)=true by simp]
   exact kat_yes (T7 hb x y _ _ (i+1) fin t1 t2 (by rw[<- hf];simp) h)
  ·rw[if_neg e]at h
   rw[show (a == c)=false by simpa using e]
   refine kat_no ?_
   cases hi:(b && i == 0) with
   | true=>exact oneLt_int h
   | false=>exact kat_one _ _ (lt_int h)
theorem aq9 {x y:Value}{k k':List Int}{Q:Bool->Shared->Prop}(hx:IsK prog w s.heap k x)(hy:IsK prog w s.heap k' y)(h:Q (v9 k k') s):wpAny (model prog w) A (keyLt' (tuples' true) x y) Q E s:=by
 obtain⟨a,rfl,o,xs,n,ho,hc,hd,hi⟩:=hx
 obtain⟨b,rfl,o',ys,n',ho',hc',hd',hi'⟩:=hy
 refine kat_lt ho hd ho' hd' (T7 rfl k k' _ _ 0 _ hi hi' ?_ h)
 have e1:k.length=xs.size:=by have:=hi.length;simpa using this
 have e2:k'.length=ys.size:=by have:=hi'.length;simpa using this
 rw[e1,e2]
 simp
theorem ad6 {vs:List Value}{Q:SortKind->Shared->Prop}(hne:0<vs.length)(hv:∀ v∈vs,∃ i k,IsK prog w s.heap (i::k) v)(h:Q (tuples' true) s):wpAny (model prog w) A (keyKind' vs.toArray) Q E s:=by
 have ex:∀ l:List Value,(∀ v∈l,∃ i k,IsK prog w s.heap (i::k) v)->∃ fs:List Value,KatTups s.heap l fs/\fs.length=l.length/\∀ v∈fs,∃ i t,v=.int i t:=fun l=>by
  induction l with
  | nil=>intro _;exact⟨[],KatTups.nil,rfl,(fun _ h=>nomatch h)⟩
  | cons v l ih =>
   intro hl
   obtain⟨i,k,a,rfl,o,xs,n,ho,hc,hd,hi⟩:=hl v c9
   obtain⟨fs,f1,f2,f3⟩:=ih fun v hv=>hl v (c6 _ hv)
   obtain⟨f,hf,t,rfl⟩:∃ f,xs[0]?=some f/\∃ t,f=.int i t:=by
    cases e:xs.toList with
    | nil=>rw[e]at hi;cases hi
    | cons f r =>
     rw[e]at hi
     cases hi with
     | cons h1 _ =>
      obtain⟨t,et⟩:=Value.isInt_shape h1
      exact⟨f,by rw[<- c5,e];rfl,t,et⟩
   refine⟨.int i t::fs,KatTups.cons ho hc hd hf f1,by rw[j3,f2,j3],fun v hv=>?_⟩
   rcases b9.mp hv with rfl | hv
   ·exact⟨i,t,rfl⟩
   ·exact f3 v hv
 obtain⟨fs,f1,f2,f3⟩:=ex vs hv
 refine kat_kind (T:=.type "int") f1 (by omega) (fun v hv=>?_) (by decide) ?_
 ·obtain⟨i,t,rfl⟩:=f3 v hv
  exact .now
 ·exact h
end
end Tim
namespace Sett
open PySem PySem.SetTable
theorem ae1 {P:Nat->Prop}(h:∃ n,P n):∃ n,P n/\∀ m,m<n->¬ P m:=by
 obtain⟨n,hn⟩:=h
 induction n using Nat.strongRecOn with
 | ind n ih =>
  by_cases q:∃ m,m<n/\P m
  ·obtain⟨m,hm,pm⟩:=q
   exact ih m hm pm
  ·exact⟨n,hn,fun m hm pm=>q ⟨m,hm,pm⟩⟩
def st (m i pt:Nat):Probe:={ j:=i,more:=runEnd m i - i,i:=i,perturb:=pt,dummy:=none }
def it (t:SetTable):Nat->Probe->Probe
 | 0,p=>p
 | n+1,p=>it t n (t.advance p)
theorem W4 (t:SetTable):∀ (a b:Nat) (p:Probe),it t (a+b) p=it t b (it t a p)
 | 0,b,p=>by rw[L1];rfl
 | a+1,b,p=>by
  rw[show a+1+b=(a+b)+1 by omega]
  exact W4 t a b (t.advance p)
theorem F8 (t:SetTable)(n:Nat)(p:Probe):it t (n+1) p=t.advance (it t n p):=W4 t n 1 p
theorem L6 (m i:Nat):i<=runEnd m i/\runEnd m i<=i+9:=by unfold runEnd;split<;>omega
theorem Y7 {m i:Nat}(h:i<=m):runEnd m i<=m:=by unfold runEnd;split<;>omega
theorem W2 (t:SetTable)(i pt:Nat):∀ k,k<=runEnd t.mask i - i->it t k (st t.mask i pt)={ j:=i+k,more:=runEnd t.mask i - i - k,i:=i,perturb:=pt,dummy:=none }
 | 0,_=>rfl
 | k+1,h=>by
  rw[F8,W2 t i pt k (by omega)]
  unfold advance
  dsimp only
  rw[if_pos (by omega)]
  simp only[Probe.mk.injEq,and_true,true_and]
  omega
theorem W3 (t:SetTable)(i pt:Nat):it t (runEnd t.mask i - i+1) (st t.mask i pt)=st t.mask (leap t.mask i pt).1 (leap t.mask i pt).2:=by
 rw[F8,W2 t i pt _ (a8 _)]
 unfold advance
 dsimp only
 rw[if_neg (by omega)]
 rfl
def rn (m i pt:Nat):Nat->Nat × Nat
 | 0=>(i,pt)
 | r+1=>leap m (rn m i pt r).1 (rn m i pt r).2
theorem aA0 (m i pt:Nat):∀ r,(rn m i pt r).2=pt / 32 ^ r
 | 0=>by simp[rn]
 | r+1=>by
  show (rn m i pt r).2 / 32=_
  rw[aA0 m i pt r,at0,Nat.pow_succ]
theorem aA1 (m i pt:Nat)(h:i<=m):∀ r,(rn m i pt r).1<=m
 | 0=>h
 | r+1=>G0 (al9 _ (D1 m))
theorem aA4 (t:SetTable)(i pt:Nat):∀ r,∃ n,n<=10*r/\it t n (st t.mask i pt)=st t.mask (rn t.mask i pt r).1 (rn t.mask i pt r).2
 | 0=>⟨0,a8 _,rfl⟩
 | r+1=>by
  obtain⟨n,hn,e⟩:=aA4 t i pt r
  have h9:=L6 t.mask (rn t.mask i pt r).1
  refine⟨n+(runEnd t.mask (rn t.mask i pt r).1 - (rn t.mask i pt r).1+1),by omega,?_⟩
  rw[W4,e,W3]
  rfl
def f5 (m i:Nat):Nat:=(i*5+1) % (m+1)
def orb (m:Nat):Nat->Nat->List Nat
 | 0,_=>[]
 | k+1,i=>i::orb m k (f5 m i)
def Full (m:Nat):Prop:=∀ b,b<=m->∀ a,a<=m->∃ n,n<=m/\Nat.repeat (f5 m) n a=b
def chk (m:Nat):Bool:=(orb m (m+1) 0).foldl (fun acc i=>acc ||| 2 ^ i) 0 == 2 ^ (m+1) - 1
theorem ab0:∀ (l:List Nat) (acc b:Nat),(l.foldl (fun acc i=>acc ||| 2 ^ i) acc).testBit b=true->acc.testBit b=true\/b∈l
 | [],acc,b,h=>.inl h
 | i::l,acc,b,h=>by
  rcases ab0 l _ b h with q | q
  ·rw[Nat.testBit_or,Bool.or_eq_true]at q
   rcases q with q | q
   ·exact .inl q
   ·rw[aA9]at q
    exact .inr (by rw[of_decide_eq_true q];exact c9)
  ·exact .inr (c6 _ q)
theorem K0 (f:Nat->Nat)(a:Nat):∀ n k,Nat.repeat f (n+k) a=Nat.repeat f k (Nat.repeat f n a)
 | n,0=>rfl
 | n,k+1=>by
  show f (Nat.repeat f (n+k) a)=f (Nat.repeat f k (Nat.repeat f n a))
  rw[K0 f a n k]
theorem ag8 (m:Nat):∀ k i x,x∈orb m k i->∃ n,n<k/\Nat.repeat (f5 m) n i=x
 | 0,i,x,h=>by cases h
 | k+1,i,x,h=>by
  rcases b9.mp h with rfl | h
  ·exact⟨0,D1 _,rfl⟩
  ·obtain⟨n,hn,e⟩:=ag8 m k (f5 m i) x h
   refine⟨n+1,by omega,?_⟩
   rw[Nat.add_comm n 1,K0]
   exact e
theorem O6 {m:Nat}(hc:chk m=true)(hz:Nat.repeat (f5 m) (m+1) 0=0):Full m:=by
 intro b hb a ha
 unfold chk at hc
 have hc:=eq_of_beq hc
 have get:∀ x,x<=m->∃ n,n<m+1/\Nat.repeat (f5 m) n 0=x:=fun x hx=>by
  have hb:(2 ^ (m+1) - 1).testBit x=true:=by rw[Nat.testBit_two_pow_sub_one];exact decide_eq_true (by omega)
  rw[<- hc]at hb
  rcases ab0 _ _ _ hb with q | q
  ·simp at q
  ·exact ag8 m (m+1) 0 x q
 obtain⟨p,hp,ep⟩:=get a ha
 obtain⟨q,hq,eq⟩:=get b hb
 by_cases h:p<=q
 ·refine⟨q - p,by omega,?_⟩
  rw[<- ep,<- K0,show p+(q - p)=q by omega,eq]
 ·refine⟨m+1 - p+q,by omega,?_⟩
  rw[<- ep,<- K0,show p+(m+1 - p+q)=(m+1)+q by omega,K0,hz,eq]
def Good (m:Nat):Prop:=m=7\/m=31\/m=127\/m=511
set_option maxRecDepth 100000 in
theorem Good.full {m:Nat}(h:Good m):Full m:=by
 rcases h with rfl | rfl | rfl | rfl
 ·exact O6 (by decide +kernel) (by decide +kernel)
 ·exact O6 (by decide +kernel) (by decide +kernel)
 ·exact O6 (by decide +kernel) (by decide +kernel)
 ·exact O6 (by decide +kernel) (by decide +kernel)
theorem ag3 (m i pt:Nat)(hp:pt<2 ^ 64):∀ k,(rn m i pt (13+k)).1=Nat.repeat (f5 m) k (rn m i pt 13).1
 | 0=>rfl
 | k+1=>by
  show (leap m (rn m i pt (13+k)).1 (rn m i pt (13+k)).2).1=f5 m (Nat.repeat (f5 m) k (rn m i pt 13).1)
  rw[<- ag3 m i pt hp k]
  unfold leap f5
  have:(rn m i pt (13+k)).2 / 32=0:=by
   rw[aA0,Nat.pow_add,<- at0]
   have:pt / 32 ^ 13=0:=Nat.div_eq_of_lt (at7 hp (by decide))
   rw[this]
   simp
  dsimp only
  rw[this,Nat.add_zero]
theorem ag4 {m i pt b:Nat}(g:Good m)(hi:i<=m)(hp:pt<2 ^ 64)(hb:b<=m):∃ r,r<turns m/\(rn m i pt r).1=b:=by
 obtain⟨n,hn,e⟩:=g.full b hb (rn m i pt 13).1 (aA1 m i pt hi 13)
 exact⟨13+n,by unfold turns;omega,by rw[ag3 m i pt hp];exact e⟩
theorem ax7 (t:SetTable){i pt b:Nat}(g:Good t.mask)(hi:i<=t.mask)(hp:pt<2 ^ 64)(hb:b<=t.mask):∃ n,n<10*turns t.mask/\(it t n (st t.mask i pt)).j=b:=by
 obtain⟨r,hr,e⟩:=ag4 g hi hp hb
 obtain⟨n,hn,e'⟩:=aA4 t i pt r
 refine⟨n,by omega,?_⟩
 rw[e']
 exact e
theorem Q7 (t:SetTable):∀ (n:Nat) (p:Probe),(it t n p).dummy=p.dummy
 | 0,p=>rfl
 | n+1,p=>by
  show (it t n (t.advance p)).dummy=_
  rw[Q7 t n]
  unfold advance
  split<;>rfl
theorem ai5 (h:Int):bits h<2 ^ 64:=by
 unfold bits
 have h1:=L3 h (show (2 ^ 64:Int)≠0 by decide)
 have h2:=D2 h (show (0:Int)<2 ^ 64 by decide)
 omega
theorem D9 (t:SetTable)(h:Int):t.probeStart h=st t.mask (bits h % (t.mask+1)) (bits h):=rfl
theorem O5 {t t':SetTable}(h:t'.mask=t.mask):∀ (n:Nat) (p:Probe),it t' n p=it t n p
 | 0,p=>rfl
 | n+1,p=>by
  show it t' n (t'.advance p)=it t n (t.advance p)
  have:t'.advance p=t.advance p:=by unfold advance;rw[h]
  rw[this,O5 h n]
def Asc (xs:Array Nat):Prop:=∀ (i j a b:Nat),i<j->xs[i]?=some a->xs[j]?=some b->a<b
theorem R8 {xs:Array Nat}(asc:Asc xs)(j:Nat):∀ (fuel lo hi:Nat),hi - lo<=fuel->lo<=hi->hi<=xs.size->(∀ i a,i<lo->xs[i]?=some a->a<j)->(∀ i a,hi<=i->xs[i]?=some a->j<=a) ->
  (below.go xs j fuel lo hi)<=xs.size/\(∀ i a,i<below.go xs j fuel lo hi->xs[i]?=some a->a<j)/\(∀ i a,below.go xs j fuel lo hi<=i->xs[i]?=some a->j<=a)
 | 0,lo,hi,h0,h1,h2,h3,h4=>by
  have:lo=hi:=by omega
  subst this
  exact⟨h2,h3,h4⟩
 | fuel+1,lo,hi,h0,h1,h2,h3,h4=>by
  unfold below.go
  by_cases hlt:lo<hi
  ·rw[if_pos hlt]
   dsimp only
   have hm:(lo+hi) / 2<xs.size:=by omega
   have hg:xs.getD ((lo+hi) / 2) j=xs[(lo+hi) / 2]:=by simp[aB0,hm]
   have hq:xs[(lo+hi) / 2]?=some xs[(lo+hi) / 2]:=getElem?_pos xs _ hm
   by_cases hc:xs.getD ((lo+hi) / 2) j<j
   ·rw[if_pos hc]
    refine R8 asc j fuel _ hi (by omega) (by omega) h2 (fun i a hi' e=>?_) h4
    rw[hg]at hc
    by_cases he:i=(lo+hi) / 2
    ·subst he;rw[hq]at e;cases e;exact hc
    ·have:=asc i _ a _ (by omega) e hq
     omega
   ·rw[if_neg hc]
    refine R8 asc j fuel lo _ (by omega) (by omega) (by omega) h3 (fun i a hi' e=>?_)
    rw[hg]at hc
    by_cases he:i=(lo+hi) / 2
    ·subst he;rw[hq]at e;cases e;omega
    ·have:=asc _ i _ a (by omega) hq e
     omega
  ·rw[if_neg hlt]
   have:lo=hi:=by omega
   subst this
   exact⟨h2,h3,h4⟩
theorem C6 {xs:Array Nat}(asc:Asc xs)(j:Nat):below xs j<=xs.size/\(∀ i a,i<below xs j->xs[i]?=some a->a<j)/\(∀ i a,below xs j<=i->xs[i]?=some a->j<=a):=
 R8 asc j xs.size 0 xs.size (by omega) (by omega) (a8 _) (fun i a h=>by omega) fun i a h e=>by
  have:=(getElem?_eq_some_iff.mp e).1
  omega
theorem below_at {xs:Array Nat}(asc:Asc xs){i j:Nat}(h:xs[i]?=some j):below xs j=i:=by
 obtain⟨h1,h2,h3⟩:=C6 asc j
 rcases A7 (below xs j) i with q | q | q
 ·exfalso
  have hlt:below xs j<xs.size:=at7 q (getElem?_eq_some_iff.mp h).1
  have e:=getElem?_pos xs (below xs j) hlt
  have a1:=h3 (below xs j) _ (a8 _) e
  have a2:=asc _ _ _ _ q e h
  omega
 ·exact q
 ·have:=h2 i j q h
  omega
theorem F6 {t:SetTable}(asc:Asc t.place){i j:Nat}(h:t.place[i]?=some j):t.slot j=.live i:=by
 unfold slot
 dsimp only
 rw[below_at asc h,h]
 simp
theorem P2 {t:SetTable}(hd:t.dummies=#[]){j:Nat}(h:∀ i:Nat,t.place[i]?≠some j):t.slot j=.empty:=by
 unfold slot
 dsimp only
 rw[if_neg (by simpa using h _),if_neg (by rw[hd];simp[has])]
theorem R0 {t:SetTable}{hashAt:Nat->Int}{h:Int}:∀ (n fuel:Nat) (p:Probe),n<fuel->(∀ k,k<n->∃ i,t.slot (it t k p).j=.live i/\hashAt i≠h)->t.slot (it t n p).j=.empty ->
  probe.go t hashAt h fuel p=some (.empty (it t n p).j (it t n p).dummy)
 | 0,fuel+1,p,_,_,he=>by
  unfold probe.go
  have he':t.slot p.j=.empty:=he
  rw[he']
  rfl
 | n+1,fuel+1,p,hl,hk,he=>by
  obtain⟨i,e,hne⟩:=hk 0 (D1 _)
  have e':t.slot p.j=.live i:=e
  unfold probe.go
  rw[e']
  dsimp only
  rw[if_neg (by simpa using hne)]
  exact R0 n fuel (t.advance p) (by omega) (fun k hk'=>hk (k+1) (by omega)) he
theorem ai0 {t:SetTable}{hashAt:Nat->Int}{h:Int}{i:Nat}:∀ (n fuel:Nat) (p:Probe),n<fuel->(∀ k,k<n->∃ i,t.slot (it t k p).j=.live i/\hashAt i≠h)->t.slot (it t n p).j=.live i->hashAt i=h ->
  ∃ q,probe.go t hashAt h fuel p=some (.candidate (it t n p).j i q)
 | 0,fuel+1,p,_,_,he,hh=>by
  unfold probe.go
  have he':t.slot p.j=.live i:=he
  rw[he']
  dsimp only
  rw[if_pos (by simpa using hh)]
  exact⟨_,rfl⟩
 | n+1,fuel+1,p,hl,hk,he,hh=>by
  obtain⟨i',e,hne⟩:=hk 0 (D1 _)
  have e':t.slot p.j=.live i':=e
  unfold probe.go
  rw[e']
  dsimp only
  rw[if_neg (by simpa using hne)]
  exact ai0 n fuel (t.advance p) (by omega) (fun k hk'=>hk (k+1) (by omega)) he hh
abbrev En:=Int × Value
structure Tb (t:SetTable) (es:Array En):Prop where
 dum:t.dummies=#[]
 len:t.place.size=es.size
 asc:Asc t.place
 bnd:∀ (i j:Nat),t.place[i]?=some j->j<=t.mask
 good:Good t.mask
 nf:es.size*5<t.mask*3
 path:∀ (i:Nat) (e:En),es[i]?=some e->∃ n,n<10*turns t.mask/\t.place[i]?=some (it t n (t.probeStart e.1)).j/\∀ k,k<n->∃ i':Nat,t.place[i']?=some (it t k (t.probeStart e.1)).j
theorem as6 {xs:Array Nat}(asc:Asc xs):∀ (i a:Nat),xs[i]?=some a->i<=a
 | 0,a,_=>i3 _
 | i+1,a,h=>by
  have hi:i+1<xs.size:=(getElem?_eq_some_iff.mp h).1
  have e:=getElem?_pos xs i (by omega)
  have h1:=as6 asc i _ e
  have h2:=asc i (i+1) _ a (by omega) e h
  omega
theorem ak7 {xs:Array Nat}(asc:Asc xs){m:Nat}(h:xs.size<=m):∃ b,b<=m/\∀ i:Nat,xs[i]?≠some b:=by
 by_cases q:∃ i,i<xs.size/\xs[i]?≠some i
 ·obtain⟨i,⟨hi,hne⟩,hmin⟩:=ae1 q
  refine⟨i,by omega,fun k e=>?_⟩
  have hk:=as6 asc k i e
  rcases S3 hk with hlt | rfl
  ·have ek:xs[k]?=some k:=Classical.byContradiction fun z=>hmin k hlt ⟨by omega,z⟩
   rw[ek]at e
   cases e
   omega
  ·exact hne e
 ·refine⟨xs.size,h,fun k e=>?_⟩
  have hk:k<xs.size:=(getElem?_eq_some_iff.mp e).1
  have ek:xs[k]?=some k:=Classical.byContradiction fun z=>q ⟨k,hk,z⟩
  rw[ek]at e
  cases e
  omega
theorem Tb.small {t:SetTable}{es:Array En}(T:Tb t es):es.size<=t.mask:=by
 have:=T.nf
 omega
theorem Tb.fits {t:SetTable}{es:Array En}(T:Tb t es):t.fits es.size=true:=by
 unfold SetTable.fits fill
 rw[T.dum,T.len]
 have:=T.small
 simp
 exact this
theorem Tb.odd {t:SetTable}{es:Array En}(T:Tb t es):t.gaveWay=false:=by
 unfold gaveWay
 rcases T.good with e | e | e | e<;>rw[e]<;>rfl
def hashOf (es:Array En)(i:Nat):Int:=(es[i]?.map (·.1)).getD 0
theorem B3 {es:Array En}{i:Nat}{e:En}(h:es[i]?=some e):hashOf es i=e.1:=by unfold hashOf;rw[h];rfl
theorem D8 (t:SetTable)(h:Int):bits h % (t.mask+1)<=t.mask:=G0 (al9 _ (D1 _))
theorem Tb.absent {t:SetTable}{es:Array En}(T:Tb t es){h:Int}(hh:∀ e∈es.toList,e.1≠h):∃ n,n<10*turns t.mask/\(∀ i:Nat,t.place[i]?≠some (it t n (t.probeStart h)).j)/\(it t n (t.probeStart h)).j<=t.mask /\
  (∀ k,k<n->∃ i':Nat,t.place[i']?=some (it t k (t.probeStart h)).j)/\t.probe (hashOf es) h (t.probeStart h)=some (.empty (it t n (t.probeStart h)).j none):=by
 obtain⟨b,hb,hfree⟩:=ak7 T.asc (m:=t.mask) (by rw[T.len];exact T.small)
 obtain⟨n0,hn0,e0⟩:=ax7 t T.good (D8 t h) (ai5 h) hb
 rw[<- D9]at e0
 obtain⟨n,⟨hfr,hn,hle⟩,hmin⟩:=ae1 (P:=fun n=>(∀ i:Nat,t.place[i]?≠some (it t n (t.probeStart h)).j)/\n<=n0/\(it t n (t.probeStart h)).j<=t.mask) ⟨n0,by rw[e0];exact hfree,a8 _,by rw[e0];exact hb⟩
 have hocc:∀ k,k<n->∃ i':Nat,t.place[i']?=some (it t k (t.probeStart h)).j:=fun k hk=>Classical.byContradiction fun z=>by
  have hk':∀ i:Nat,t.place[i]?≠some (it t k (t.probeStart h)).j:=fun i e=>z ⟨i,e⟩
  by_cases hkm:(it t k (t.probeStart h)).j<=t.mask
  ·exact hmin k hk ⟨hk',by omega,hkm⟩
  ·-- every place on the way is a slot
   exact hkm (by
    clear z hk' hkm hmin hfr hle hn hk
    rw[D9]
    induction k with
    | zero=>exact D8 t h
    | succ k ih =>
     have key:∀ k,∃ r c,c<=runEnd t.mask (rn t.mask (bits h % (t.mask+1)) (bits h) r).1 - (rn t.mask (bits h % (t.mask+1)) (bits h) r).1 /\
       it t k (st t.mask (bits h % (t.mask+1)) (bits h))=it t c (st t.mask (rn t.mask (bits h % (t.mask+1)) (bits h) r).1 (rn t.mask (bits h % (t.mask+1)) (bits h) r).2):=fun k=>by
      induction k with
      | zero=>exact⟨0,0,i3 _,rfl⟩
      | succ k ih =>
       obtain⟨r,c,hc,e⟩:=ih
       rcases S3 hc with hlt | heq
       ·exact⟨r,c+1,hlt,by rw[F8,e,<- F8]⟩
       ·refine⟨r+1,0,i3 _,?_⟩
        rw[F8,e,<- F8,heq,W3]
        rfl
     obtain⟨r,c,hc,e⟩:=key (k+1)
     rw[e,W2 t _ _ c hc]
     have h1:=aA1 t.mask (bits h % (t.mask+1)) (bits h) (D8 t h) r
     have h2:=Y7 h1
     have h3:=L6 t.mask (rn t.mask (bits h % (t.mask+1)) (bits h) r).1
     show (rn t.mask (bits h % (t.mask+1)) (bits h) r).1+c<=t.mask
     omega)
 refine⟨n,by omega,hfr,hle,hocc,?_⟩
 unfold probe
 have:=R0 (hashAt:=hashOf es) (h:=h) n (10*turns t.mask) (t.probeStart h) (by omega) (fun k hk=>?_) (P2 T.dum hfr)
 ·rw[this,Q7]
  rfl
 ·obtain⟨i',e⟩:=hocc k hk
  refine⟨i',F6 T.asc e,?_⟩
  have hi:i'<es.size:=by rw[<- T.len];exact(getElem?_eq_some_iff.mp e).1
  have e2:=getElem?_pos es i' hi
  rw[B3 e2]
  exact hh _ (by simp)
theorem Tb.present {t:SetTable}{es:Array En}(T:Tb t es){i:Nat}{e:En}(he:es[i]?=some e)(hu:∀ (k:Nat) (e':En),es[k]?=some e'->e'.1=e.1->k=i):∃ j q,t.probe (hashOf es) e.1 (t.probeStart e.1)=some (.candidate j i q):=by
 obtain⟨n,hn,hp,hocc⟩:=T.path i e he
 unfold probe
 obtain⟨m,⟨hm,i1,hi1,hs1⟩,hmin⟩:=ae1 (P:=fun m=>m<=n/\∃ i1:Nat,t.place[i1]?=some (it t m (t.probeStart e.1)).j/\hashOf es i1=e.1) ⟨n,a8 _,i,hp,B3 he⟩
 have hi2:i1<es.size:=by rw[<- T.len];exact(getElem?_eq_some_iff.mp hi1).1
 have e2:=getElem?_pos es i1 hi2
 rw[B3 e2]at hs1
 have hii:i1=i:=hu i1 _ e2 hs1
 subst hii
 obtain⟨q,hq⟩:=ai0 (hashAt:=hashOf es) (h:=e.1) (i:=i1) m (10*turns t.mask) (t.probeStart e.1) (by omega) (fun k hk=>by
  obtain⟨i',e3⟩:=hocc k (by omega)
  exact⟨i',F6 T.asc e3,fun z=>hmin k hk ⟨by omega,i',e3,z⟩⟩) (F6 T.asc hi1) (B3 he)
 exact⟨_,q,hq⟩
theorem get_ins {α:Type}{xs:Array α}{p:Nat}{x:α}(hp:p<=xs.size)(i:Nat):(insertAt xs p x)[i]?=if i<p then xs[i]? else if i=p then some x else xs[i - 1]?:=by
 unfold insertAt
 have e0:((xs.extract 0 p).push x).size=p+1:=by rw[aG0,y6];omega
 by_cases h1:i<p
 ·rw[if_pos h1,ab4 (by omega),Array.getElem?_push_lt (by rw[y6];omega)]
  rw[Array.getElem_extract]
  simp only[L1]
  exact(getElem?_pos xs i (by omega)).symm
 ·rw[if_neg h1]
  by_cases h2:i=p
  ·subst h2
   rw[if_pos rfl,ab4 (by omega)]
   have e1:(xs.extract 0 i).size=i:=by rw[y6];omega
   rw[Array.getElem?_push,e1,if_pos rfl]
  ·rw[if_neg h2,Array.getElem?_append_right (by omega),e0,Array.getElem?_extract]
   split
   ·congr 1;omega
   ·rw[getElem?_neg]
    omega
theorem E2 {α:Type}{xs:Array α}{p:Nat}{x:α}(hp:p<=xs.size):(insertAt xs p x).size=xs.size+1:=by
 unfold insertAt
 rw[Array.size_append,aG0,y6,y6]
 omega
theorem ah4 {α:Type}{xs:Array α}{p:Nat}{x:α}(hp:p<=xs.size)(y:α):y∈(insertAt xs p x).toList↔y=x\/y∈xs.toList:=by
 constructor
 ·intro h
  obtain⟨i,hi⟩:=t5.mp h
  rw[c5,get_ins hp]at hi
  split at hi
  ·exact .inr (b6 (by rw[c5];exact hi))
  ·split at hi
   ·cases hi;exact .inl rfl
   ·exact .inr (b6 (by rw[c5];exact hi))
 ·rintro(rfl | h)
  ·exact b6 (i:=p) (by rw[c5,get_ins hp,if_neg (l6 _),if_pos rfl])
  ·obtain⟨i,hi⟩:=t5.mp h
   rw[c5]at hi
   have hi':i<xs.size:=(getElem?_eq_some_iff.mp hi).1
   by_cases q:i<p
   ·exact b6 (i:=i) (by rw[c5,get_ins hp,if_pos q];exact hi)
   ·exact b6 (i:=i+1) (by rw[c5,get_ins hp,if_neg (by omega),if_neg (by omega)];simpa using hi)
structure Tb' (t:SetTable) (es:Array En):Prop where
 dum:t.dummies=#[]
 len:t.place.size=es.size
 asc:Asc t.place
 bnd:∀ (i j:Nat),t.place[i]?=some j->j<=t.mask
 good:Good t.mask
 fil:es.size<=t.mask
 path:∀ (i:Nat) (e:En),es[i]?=some e->∃ n,n<10*turns t.mask/\t.place[i]?=some (it t n (t.probeStart e.1)).j/\∀ k,k<n->∃ i':Nat,t.place[i']?=some (it t k (t.probeStart e.1)).j
theorem Tb'.full {t:SetTable}{es:Array En}(T:Tb' t es)(h:es.size*5<t.mask*3):Tb t es:=⟨T.dum,T.len,T.asc,T.bnd,T.good,h,T.path⟩
theorem Tb'.fits {t:SetTable}{es:Array En}(T:Tb' t es):t.fits es.size=true:=by
 unfold SetTable.fits fill
 rw[T.dum,T.len]
 have:=T.fil
 simp
 exact this
theorem Tb'.plain {t:SetTable}{es:Array En}(T:Tb' t es)(b:Bool):Tb' { t with plain:=b } es:=by
 have e:∀ n (p:Probe),it { t with plain:=b } n p=it t n p:=fun n p=>O5 (t:=t) (t':={ t with plain:=b }) rfl n p
 refine⟨T.dum,T.len,T.asc,T.bnd,T.good,T.fil,fun i x hx=>?_⟩
 obtain⟨n,h1,h2,h3⟩:=T.path i x hx
 exact⟨n,h1,by rw[e];exact h2,fun k hk=>by rw[e];exact h3 k hk⟩
theorem Tb.put {t:SetTable}{es:Array En}(T:Tb t es){h:Int}{x:Value}{n:Nat}(hn:n<10*turns t.mask)(hfr:∀ i:Nat,t.place[i]?≠some (it t n (t.probeStart h)).j)(hle:(it t n (t.probeStart h)).j<=t.mask)
  (hocc:∀ k,k<n->∃ i':Nat,t.place[i']?=some (it t k (t.probeStart h)).j) :
  (t.put (it t n (t.probeStart h)).j).2<=es.size/\Tb' (t.put (it t n (t.probeStart h)).j).1 (insertAt es (t.put (it t n (t.probeStart h)).j).2 (h,x)):=by
 generalize hj:(it t n (t.probeStart h)).j=j at *
 obtain⟨b1,b2,b3⟩:=C6 T.asc j
 have hp:(t.put j).2=below t.place j:=rfl
 have hd:has t.dummies j=false:=by rw[T.dum];simp[has]
 have ht:(t.put j).1={ t with place:=insertAt t.place (below t.place j) j }:=by
  unfold SetTable.put
  dsimp only
  rw[if_neg (by rw[hd];exact b7)]
 have hm:(t.put j).1.mask=t.mask:=by rw[ht]
 have hpl:(t.put j).1.place=insertAt t.place (below t.place j) j:=by rw[ht]
 have hsz:=T.nf
 have old:∀ (i a:Nat),t.place[i]?=some a->∃ i':Nat,(insertAt t.place (below t.place j) j)[i']?=some a:=fun i a e=>by
  by_cases q:i<below t.place j
  ·exact⟨i,by rw[get_ins b1,if_pos q];exact e⟩
  ·exact⟨i+1,by rw[get_ins b1,if_neg (by omega),if_neg (by omega)];simpa using e⟩
 have hit:∀ k (p:Probe),it (t.put j).1 k p=it t k p:=fun k p=>O5 hm k p
 have hst:∀ z:Int,(t.put j).1.probeStart z=t.probeStart z:=fun z=>by rw[D9,D9,hm]
 refine⟨by rw[hp,<- T.len];exact b1,?_⟩
 rw[hp]
 refine⟨by rw[ht];exact T.dum,by rw[hpl,E2 b1,E2 (by rw[<- T.len];exact b1),T.len],?_,?_,by rw[hm];exact T.good,?_,?_⟩
 ·rw[hpl]
  intro i k a c hik ea ec
  rw[get_ins b1]at ea ec
  split at ea
  ·rename_i hi
   split at ec
   ·exact T.asc i k a c hik ea ec
   ·split at ec
    ·cases ec;exact b2 i a hi ea
    ·exact T.asc i (k - 1) a c (by omega) ea ec
  ·split at ea
   ·rename_i hi1 hi2
    cases ea
    rw[if_neg (by omega),if_neg (by omega)]at ec
    have h1:=b3 (k - 1) c (by omega) ec
    rcases S3 h1 with h2 | h2
    ·exact h2
    ·subst h2;exact absurd ec (hfr (k - 1))
   ·rw[if_neg (by omega),if_neg (by omega)]at ec
    exact T.asc (i - 1) (k - 1) a c (by omega) ea ec
 ·rw[hpl,hm]
  intro i a ea
  rw[get_ins b1]at ea
  split at ea
  ·exact T.bnd i a ea
  ·split at ea
   ·cases ea;exact hle
   ·exact T.bnd _ a ea
 ·rw[hm,E2 (by rw[<- T.len];exact b1)]
  have:=T.good
  unfold Good at this
  omega
 ·intro i e he
  rw[hpl,hm]
  have b1':below t.place j<=es.size:=by rw[<- T.len];exact b1
  rw[get_ins b1']at he
  have lift:∀ (i0:Nat) (i':Nat),es[i0]?=some e->(∀ a,t.place[i0]?=some a->(insertAt t.place (below t.place j) j)[i']?=some a) ->
    ∃ n,n<10*turns t.mask/\(insertAt t.place (below t.place j) j)[i']?=some (it (t.put j).1 n ((t.put j).1.probeStart e.1)).j/\∀ k,k<n->∃ i':Nat,(insertAt t.place (below t.place j) j)[i']?=some (it (t.put j).1 k ((t.put j).1.probeStart e.1)).j:=fun i0 i' h0 h1=>by
   obtain⟨n',q1,q2,q3⟩:=T.path i0 e h0
   refine⟨n',q1,?_,fun k hk=>?_⟩
   ·rw[hit,hst];exact h1 _ q2
   ·obtain⟨i2,e2⟩:=q3 k hk
    rw[hit,hst]
    exact old i2 _ e2
  split at he
  ·rename_i hi
   exact lift i i he fun a ea=>by rw[get_ins b1,if_pos hi];exact ea
  ·split at he
   ·rename_i hi1 hi2
    cases he
    refine⟨n,hn,?_,fun k hk=>?_⟩
    ·rw[hit,hst,hj,get_ins b1,if_neg hi1,if_pos hi2]
    ·obtain⟨i2,e2⟩:=hocc k hk
     rw[hit,hst]
     exact old i2 _ e2
   ·rename_i hi1 hi2
    exact lift (i - 1) i he fun a ea=>by rw[get_ins b1,if_neg hi1,if_neg hi2];exact ea
theorem V7:∀ (k n:Nat) (g:Nat->Nat),(∀ i,i<n->g i<k)->(∀ i j,i<n->j<n->g i=g j->i=j)->n<=k
 | 0,n,g,h,_=>by
  rcases D4 n with e | e
  ·omega
  ·exact absurd (h 0 e) (C2 _)
 | k+1,0,g,_,_=>i3 _
 | k+1,n+1,g,h,inj=>by
  by_cases q:∃ i0,i0<n+1/\g i0=k
  ·obtain⟨i0,h0,e0⟩:=q
   have:=V7 k n (fun i=>if i=i0 then g n else g i) (fun i hi=>?_) (fun i j hi hj e=>?_)
   ·omega
   ·try dsimp only
    split
    ·rename_i hii
     have h1:=h n (by omega)
     have h2:g n≠k:=fun z=>by have:=inj n i0 (by omega) h0 (by rw[z,e0]);omega
     omega
    ·have h1:=h i (by omega)
     have h2:g i≠k:=fun z=>by have:=inj i i0 (by omega) h0 (by rw[z,e0]);omega
     omega
   ·try dsimp only at e
    split at e
    ·split at e
     ·omega
     ·have:=inj n j (by omega) (by omega) e;omega
    ·split at e
     ·have:=inj i n (by omega) (by omega) e;omega
     ·exact inj i j (by omega) (by omega) e
  ·have:=V7 k (n+1) g (fun i hi=>?_) inj
   ·omega
   ·have h1:=h i hi
    have h2:g i≠k:=fun z=>q ⟨i,hi,z⟩
    omega
structure LI (t:SetTable) (hs:Array Int) (owner:Array (Option Nat)) (k:Nat):Prop where
 size:owner.size=t.mask+1
 lt:∀ (j i:Nat),owner[j]?=some (some i)->i<k
 inj:∀ (j j' i:Nat),owner[j]?=some (some i)->owner[j']?=some (some i)->j=j'
 has:∀ (i:Nat) (h:Int),i<k->hs[i]?=some h->∃ n,n<10*turns t.mask/\owner[(it t n (t.probeStart h)).j]?=some (some i)/\∀ c,c<n->∃ i':Nat,owner[(it t c (t.probeStart h)).j]?=some (some i')
theorem LI.free {t:SetTable}{hs:Array Int}{owner:Array (Option Nat)}{k:Nat}(L:LI t hs owner k)(hk:k<=t.mask):∃ b,b<=t.mask/\owner[b]?=some none:=by
 apply Classical.byContradiction
 intro z
 have all:∀ b,b<=t.mask->∃ i,owner[b]?=some (some i):=fun b hb=>by
  have e:=getElem?_pos owner b (by rw[L.size];omega)
  cases q:owner[b]'(by rw[L.size];omega) with
  | none=>rw[q]at e;exact absurd ⟨b,hb,e⟩ z
  | some i=>rw[q]at e;exact⟨i,e⟩
 have:=V7 k (t.mask+1) (fun b=>match owner[b]? with | some (some i)=>i | _=>0) (fun b hb=>?_) (fun b b' hb hb' e=>?_)
 ·omega
 ·obtain⟨i,e⟩:=all b (by omega)
  try dsimp only
  rw[e]
  exact L.lt b i e
 ·obtain⟨i,e1⟩:=all b (by omega)
  obtain⟨i',e2⟩:=all b' (by omega)
  try dsimp only at e
  rw[e1,e2]at e
  dsimp only at e
  subst e
  exact L.inj b b' i e1 e2
theorem U0 (t:SetTable)(owner:Array (Option Nat))(hz:owner.size=t.mask+1):∀ (fuel i pt:Nat),i<=t.mask->(∃ r,r<fuel/\∃ b,b=(rn t.mask i pt r).1/\owner[b]?=some none) ->
  ∃ n,n<10*fuel/\layClean.free t.mask owner fuel i pt=some (it t n (st t.mask i pt)).j/\owner[(it t n (st t.mask i pt)).j]?=some none/\∀ c,c<n->∃ i':Nat,owner[(it t c (st t.mask i pt)).j]?=some (some i')
 | 0,i,pt,_,⟨r,hr,_⟩=>absurd hr (C2 _)
 | fuel+1,i,pt,hi,⟨r,hr,b,hb,hbo⟩=>by
  have h9:=L6 t.mask i
  have hm:=Y7 hi
  unfold layClean.free
  have slotOf:∀ k,k<=runEnd t.mask i - i->(it t k (st t.mask i pt)).j=i+k:=fun k hk=>by rw[W2 t i pt k hk]
  have getS:∀ k,k<=runEnd t.mask i - i->(owner.getD (i+k) (some 0)).isNone=false->∃ i':Nat,owner[i+k]?=some (some i'):=fun k hk e=>by
   have hlt:i+k<owner.size:=by omega
   have e1:=getElem?_pos owner (i+k) hlt
   have e2:owner.getD (i+k) (some 0)=owner[i+k]:=by simp[aB0,hlt]
   rw[e2]at e
   cases q:owner[i+k] with
   | none=>rw[q]at e;cases e
   | some i'=>rw[q]at e1;exact⟨i',e1⟩
  cases hf:(i7 (runEnd t.mask i+1 - i)).find? (fun k=>(owner.getD (i+k) (some 0)).isNone) with
  | some k =>
   dsimp only
   rw[List.find?_eq_some_iff_getElem]at hf
   obtain⟨hp,k',hk',ek,hbef⟩:=hf
   rw[u2]at hk'
   rw[C8]at ek
   subst ek
   refine⟨k',by omega,by rw[slotOf k' (by omega)],?_,fun c hc=>?_⟩
   ·rw[slotOf k' (by omega)]
    have hlt:i+k'<owner.size:=by omega
    have e2:owner.getD (i+k') (some 0)=owner[i+k']:=by simp[aB0,hlt]
    rw[e2]at hp
    rw[getElem?_pos owner _ hlt]
    cases q:owner[i+k'] with
    | none=>rfl
    | some z=>rw[q]at hp;cases hp
   ·rw[slotOf c (by omega)]
    have:=hbef c hc
    rw[C8]at this
    exact getS c (by omega) (by simpa using this)
  | none =>
   dsimp only
   rw[List.find?_eq_none]at hf
   have all:∀ c,c<=runEnd t.mask i - i->∃ i':Nat,owner[i+c]?=some (some i'):=fun c hc=>getS c hc (by simpa only [Bool.not_eq_true] using hf c (j7.mpr (by omega)))
   have hr0:r≠0:=fun z=>by
    subst z
    obtain⟨i',e⟩:=all 0 (i3 _)
    have hb':b=i:=hb
    rw[hb']at hbo
    rw[Nat.add_zero,hbo]at e
    cases e
   obtain⟨r',rfl⟩:∃ r',r=r'+1:=⟨r - 1,by omega⟩
   have shift:∀ r,rn t.mask (leap t.mask i pt).1 (leap t.mask i pt).2 r=rn t.mask i pt (r+1):=fun r=>by
    induction r with
    | zero=>rfl
    | succ r ih =>
     show leap t.mask _ _=leap t.mask _ _
     rw[ih]
   obtain⟨n,hn,e1,e2,e3⟩:=U0 t owner hz fuel (leap t.mask i pt).1 (leap t.mask i pt).2 (G0 (al9 _ (D1 _))) ⟨r',by omega,b,by rw[hb,shift],hbo⟩
   have sh:∀ c,it t (runEnd t.mask i - i+1+c) (st t.mask i pt)=it t c (st t.mask (leap t.mask i pt).1 (leap t.mask i pt).2):=fun c=>by rw[W4,W3]
   refine⟨runEnd t.mask i - i+1+n,by omega,by rw[sh];exact e1,by rw[sh];exact e2,fun c hc=>?_⟩
   by_cases q:c<=runEnd t.mask i - i
   ·rw[slotOf c q]
    exact all c q
   ·have:=e3 (c - (runEnd t.mask i - i+1)) (by omega)
    rw[<- sh,show runEnd t.mask i - i+1+(c - (runEnd t.mask i - i+1))=c by omega]at this
    exact this
theorem Z8 (t:SetTable)(g:Good t.mask)(hs:Array Int)(hsz:hs.size<=t.mask):∀ (l:List Int) (k:Nat) (owner:Array (Option Nat)),LI t hs owner k->hs.toList.drop k=l ->
  ∃ owner',(l.foldl (fun acc h=>do
   let (owner,k) <- acc
   let j <- layClean.free t.mask owner (turns t.mask) (bits h % (t.mask+1)) (bits h)
   pure (owner.setIfInBounds j (some k),k+1)) (some (owner,k)))=some (owner',k+l.length)/\LI t hs owner' (k+l.length)
 | [],k,owner,L,_=>⟨owner,rfl,L⟩
 | h::l,k,owner,L,hd=>by
  have hk:k<hs.size:=by
   apply Classical.byContradiction
   intro z
   rw[List.drop_of_length_le (by rw[d8];omega)]at hd
   cases hd
  have hget:hs[k]?=some h:=by
   rw[<- c5]
   have:=congrArg (fun l=>l[0]?) hd
   simpa using this
  obtain⟨b,hb,hbo⟩:=L.free (by omega)
  obtain⟨r,hr,er⟩:=ag4 g (D8 t h) (ai5 h) hb
  obtain⟨n,hn,e1,e2,e3⟩:=U0 t owner L.size (turns t.mask) (bits h % (t.mask+1)) (bits h) (D8 t h) ⟨r,hr,b,er.symm,hbo⟩
  rw[<- D9]at e1 e2 e3
  have hjs:(it t n (t.probeStart h)).j<owner.size:=(getElem?_eq_some_iff.mp e2).1
  have gs:∀ x,(owner.setIfInBounds (it t n (t.probeStart h)).j (some k))[x]?=if (it t n (t.probeStart h)).j=x then some (some k) else owner[x]?:=fun x=>by
   rw[Array.getElem?_setIfInBounds]
   split
   ·rename_i hx;subst hx;simp[hjs]
   ·rfl
  have occ:∀ (x i:Nat),owner[x]?=some (some i)->∃ i':Nat,(owner.setIfInBounds (it t n (t.probeStart h)).j (some k))[x]?=some (some i'):=fun x i e=>by
   rw[gs];split
   ·exact⟨k,rfl⟩
   ·exact⟨i,e⟩
  have L':LI t hs (owner.setIfInBounds (it t n (t.probeStart h)).j (some k)) (k+1):=by
   refine⟨by rw[Array.size_setIfInBounds];exact L.size,fun j i e=>?_,fun j j' i ea ec=>?_,fun i h' hi hh=>?_⟩
   ·rw[gs]at e
    split at e
    ·cases e;omega
    ·have:=L.lt j i e;omega
   ·rw[gs]at ea ec
    split at ea
    ·rename_i q1
     cases ea
     split at ec
     ·rename_i q2;rw[<- q1,<- q2]
     ·have:=L.lt j' k ec;omega
    ·split at ec
     ·cases ec
      have:=L.lt j k ea;omega
     ·exact L.inj j j' i ea ec
   ·by_cases q:i=k
    ·subst q
     rw[hget]at hh
     cases hh
     refine⟨n,hn,by rw[gs,if_pos rfl],fun c hc=>?_⟩
     obtain⟨i',e⟩:=e3 c hc
     exact occ _ i' e
    ·obtain⟨n',q1,q2,q3⟩:=L.has i h' (by omega) hh
     refine⟨n',q1,?_,fun c hc=>?_⟩
     ·rw[gs]
      split
      ·rename_i q4
       rw[q4]at e2
       rw[e2]at q2
       cases q2
      ·exact q2
     ·obtain⟨i',e⟩:=q3 c hc
      exact occ _ i' e
  obtain⟨owner',f1,f2⟩:=Z8 t g hs hsz l (k+1) _ L' (by
   have e5:hs.toList.drop (k+1)=(hs.toList.drop k).drop 1:=by rw[List.drop_drop]
   rw[e5,hd]
   rfl)
  refine⟨owner',?_,?_⟩
  ·rw[A1]
   have:(do
     let (owner,k) <- some (owner,k)
     let j <- layClean.free t.mask owner (turns t.mask) (bits h % (t.mask+1)) (bits h)
     pure (owner.setIfInBounds j (some k),k+1))=some (owner.setIfInBounds (it t n (t.probeStart h)).j (some k),k+1):=by
    show (layClean.free t.mask owner (turns t.mask) (bits h % (t.mask+1)) (bits h) >>= fun j=>pure (owner.setIfInBounds j (some k),k+1))=_
    rw[e1]
    rfl
   rw[this,f1,j3]
   congr 2
   omega
  ·rw[j3,show k+(l.length+1)=k+1+l.length by omega]
   exact f2
theorem Z9 {M finger moves:Nat}{led plain:Bool}{es:Array En}(g:Good M)(hsz:es.size*5<M*3) :
  ∃ t2 order,laid M finger moves led plain (es.map (·.1))=some (t2,order)/\Tb t2 (order.filterMap (es[·]?))/\(order.filterMap (es[·]?)).toList.Perm es.toList/\order.toList.Perm (i7 es.size)/\t2.led=led/\t2.plain=plain:=by
 let t:SetTable:={ mask:=M,place:=#[],dummies:=#[],finger:=finger,led:=led,moves:=moves,plain:=plain }
 have ht:t.mask=M:=rfl
 have h0:LI t (es.map (·.1)) (Array.replicate (M+1) none) 0:=by
  refine⟨by simp[ht],fun j i e=>?_,fun j j' i e=>?_,fun i h hi=>by omega⟩
  ·rw[af3]at e;split at e<;>cases e
  ·rw[af3]at e;split at e<;>cases e
 obtain⟨owner,f1,L⟩:=Z8 t g (es.map (·.1)) (by rw[ab6,ht];omega) (es.map (·.1)).toList 0 _ h0 rfl
 rw[L1,d8,ab6]at f1 L
 have hlay:layClean M (es.map (·.1))=some owner:=by
  unfold layClean
  rw[<- Array.foldl_toList]
  have:(List.foldl _ _ (es.map (·.1)).toList)=some (owner,es.size):=f1
  rw[this]
  rfl
 let live:List (Nat × Nat):=(i7 (M+1)).filterMap fun j=>(owner.getD j none).map (j,·)
 have hlive:∀ p:Nat × Nat,p∈live↔owner[p.1]?=some (some p.2):=fun p=>by
  obtain⟨j,i⟩:=p
  have hg:∀ j,owner.getD j none=(owner[j]?).getD none:=fun j=>by simp
  show (j,i)∈List.filterMap _ _↔_
  rw[S1]
  constructor
  ·rintro⟨j',hj',e⟩
   rw[hg]at e
   cases q:owner[j']? with
   | none=>rw[q]at e;cases e
   | some z =>
    rw[q]at e
    cases z with
    | none=>cases e
    | some i' =>
     have e':(j',i')=(j,i):=Option.some.inj e
     cases e'
     exact q
  ·intro e
   have hj:j<owner.size:=(getElem?_eq_some_iff.mp e).1
   refine⟨j,j7.mpr (by rw[L.size,ht]at hj;exact hj),?_⟩
   rw[hg,e]
   rfl
 have hpw:live.Pairwise (fun a b=>a.1<b.1):=by
  show (List.filterMap _ _).Pairwise _
  rw[List.pairwise_filterMap]
  refine List.Pairwise.imp ?_ A6
  intro a b hab p hp q hq
  cases h1:owner.getD a none with
  | none=>rw[h1]at hp;cases hp
  | some i =>
   cases h2:owner.getD b none with
   | none=>rw[h2]at hq;cases hq
   | some i' =>
    rw[h1]at hp
    rw[h2]at hq
    have e1:(a,i)=p:=Option.some.inj hp
    have e2:(b,i')=q:=Option.some.inj hq
    subst e1 e2
    exact hab
 have hnd:(live.map (·.2)).Nodup:=by
  unfold List.Nodup
  rw[w8]
  refine List.Pairwise.imp_of_mem ?_ hpw
  intro a b ha hb hab e
  have h1:=(hlive a).mp ha
  have h2:=(hlive b).mp hb
  rw[<- e]at h2
  have:=L.inj _ _ _ h1 h2
  omega
 have hord:(live.map (·.2)).Perm (i7 es.size):=by
  refine(List.perm_ext_iff_of_nodup hnd List.nodup_range).mpr fun i=>?_
  rw[j7,k7]
  constructor
  ·rintro⟨p,hp,rfl⟩
   exact L.lt _ _ ((hlive p).mp hp)
  ·intro hi
   obtain⟨n,_,q,_⟩:=L.has i ((es.map (·.1))[i]'(by rw[ab6];exact hi)) hi (getElem?_pos _ _ _)
   exact⟨(_,i),(hlive _).mpr q,rfl⟩
 have hlen:live.length=es.size:=by have:=hord.length_eq;simpa using this
 have hes:∀ i,i∈live.map (·.2)->∃ e,es[i]?=some e:=fun i hi=>by
  have:=hord.mem_iff.mp hi
  rw[j7]at this
  exact⟨es[i],getElem?_pos es i this⟩
 have fm:∀ (l:List Nat),(∀ i∈l,∃ e,es[i]?=some e)->(l.filterMap (es[·]?)).length=l.length/\∀ (p:Nat),(l.filterMap (es[·]?))[p]?=(l[p]?).bind (es[·]?):=fun l=>by
  induction l with
  | nil=>intro _;exact⟨rfl,fun p=>rfl⟩
  | cons a l ih =>
   intro h
   obtain⟨e,he⟩:=h a c9
   obtain⟨i1,i2⟩:=ih fun i hi=>h i (c6 _ hi)
   rw[List.filterMap_cons_some he]
   refine⟨by rw[j3,i1,j3],fun p=>?_⟩
   cases p with
   | zero=>simp[he]
   | succ p=>simpa using i2 p
 obtain⟨fl,fg⟩:=fm _ hes
 have hperm:((live.map (·.2)).filterMap (es[·]?)).Perm es.toList:=by
  refine(hord.filterMap _).trans (List.Perm.of_eq ?_)
  apply S9
  intro p
  obtain⟨_,g2⟩:=fm (i7 es.size) fun i hi=>⟨es[i]'(j7.mp hi),getElem?_pos es i (j7.mp hi)⟩
  rw[g2,show es.toList[p]?=es[p]? from c5 ..]
  by_cases hp:p<es.size
  ·rw[x8 hp];rfl
  ·rw[at1 (by simp;omega),getElem?_neg es p hp];rfl
 let t2:SetTable:={ mask:=M,place:=(live.map (·.1)).toArray,dummies:=#[],finger:=finger,led:=led,moves:=moves,plain:=plain }
 have hes':((live.map (·.2)).toArray.filterMap (es[·]?)).toList=(live.map (·.2)).filterMap (es[·]?):=by simp
 have getE:∀ (p:Nat) (e:En),((live.map (·.2)).toArray.filterMap (es[·]?))[p]?=some e->∃ j i:Nat,live[p]?=some (j,i)/\es[i]?=some e:=fun p e h=>by
  rw[<- c5,hes',fg,i8]at h
  cases q:live[p]? with
  | none=>rw[q]at h;cases h
  | some ji=>rw[q]at h;exact⟨ji.1,ji.2,rfl,h⟩
 have getP:∀ (p:Nat) (j:Nat),t2.place[p]?=some j↔∃ i,live[p]?=some (j,i):=fun p j=>by
  show (live.map (·.1)).toArray[p]?=some j↔_
  rw[List.getElem?_toArray,i8]
  cases q:live[p]? with
  | none=>simp
  | some ji =>
   obtain⟨a,b⟩:=ji
   simp
 have itE:∀ n (p:Probe),it t2 n p=it t n p:=fun n p=>O5 (t:=t) (t':=t2) rfl n p
 refine⟨t2,(live.map (·.2)).toArray,?_,?_,(by rw[hes'];exact hperm),hord,rfl,rfl⟩
 ·unfold laid
  rw[hlay]
  rfl
 ·refine⟨rfl,?_,?_,?_,g,?_,?_⟩
  ·show (live.map (·.1)).toArray.size=_
   rw[c7,b4,<- d8,hes',fl,b4]
  ·intro i j a b hij ea eb
   obtain⟨_,ea⟩:=(getP i a).mp ea
   obtain⟨_,eb⟩:=(getP j b).mp eb
   obtain⟨h1,e1⟩:=d5.mp ea
   obtain⟨h2,e2⟩:=d5.mp eb
   have:=m7.mp hpw i j h1 h2 hij
   rw[e1,e2]at this
   exact this
  ·intro i j e
   obtain⟨i',e⟩:=(getP i j).mp e
   have:=(hlive _).mp (b6 e)
   have hj:j<owner.size:=(getElem?_eq_some_iff.mp this).1
   rw[L.size]at hj
   show j<=M
   exact G0 hj
  ·rw[<- d8,hes',fl,b4,hlen]
   exact hsz
  ·intro p e he
   obtain⟨j,i,hl,hi⟩:=getE p e he
   have ho:=(hlive _).mp (b6 hl)
   have hi':i<es.size:=(getElem?_eq_some_iff.mp hi).1
   obtain⟨n,q1,q2,q3⟩:=L.has i e.1 hi' (by rw[Array.getElem?_map,hi];rfl)
   have ej:=L.inj _ _ _ ho q2
   refine⟨n,q1,?_,fun c hc=>?_⟩
   ·rw[itE]
    exact(getP p _).mpr ⟨i,by rw[hl];congr 2⟩
   ·obtain⟨i',e'⟩:=q3 c hc
    obtain⟨p',hp'⟩:=t5.mp ((hlive (_,i')).mpr e')
    exact⟨p',by rw[itE];exact(getP p' _).mpr ⟨i',hp'⟩⟩
theorem ax4 {M finger moves:Nat}{led plain:Bool}{es:Array En}(g:Good M)(hsz:es.size*5<M*3) :
  ∃ t2 order,laid M finger moves led plain (es.map (·.1))=some (t2,order)/\Tb t2 (order.filterMap (es[·]?))/\(order.filterMap (es[·]?)).toList.Perm es.toList:=
 let ⟨a,b,c,d,e,_⟩:=Z9 (finger:=finger) (moves:=moves) (led:=led) (plain:=plain) g hsz;⟨a,b,c,d,e⟩
end Sett
namespace Sett
open PySem PySem.SetTable PyProof.Rows
def F7:List Nat->Nat->Bool
 | [],_=>true
 | x::l,acc=>!acc.testBit x && F7 l (acc ||| 2 ^ x)
theorem K1:∀ (l:List Nat) (acc:Nat),F7 l acc=true->l.Nodup/\∀ x∈l,acc.testBit x=false
 | [],_,_=>⟨D5,(fun _ h=>nomatch h)⟩
 | x::l,acc,h=>by
  unfold F7 at h
  rw[v5]at h
  obtain⟨h1,h2⟩:=h
  obtain⟨n,m⟩:=K1 l _ h2
  have m':∀ y∈l,acc.testBit y=false/\x≠y:=fun y hy=>by
   have:=m y hy
   rw[Nat.testBit_or,Bool.or_eq_false_iff,aA9]at this
   exact⟨this.1,of_decide_eq_false this.2⟩
  refine⟨m6.mpr ⟨fun hx=>(m' x hx).2 rfl,n⟩,fun y hy=>?_⟩
  rcases b9.mp hy with rfl | hy
  ·simpa using h1
  ·exact(m' y hy).1
def hp (n:Nat):Nat:=bits (reduceHash (Builtin.Tuple.tupleHashOf [hashInt ((n / 24:Nat):Int),hashInt ((n % 24:Nat):Int)])) % 3708
set_option maxRecDepth 100000 in
theorem aE8:F7 ((i7 576).map hp) 0=true:=by decide +kernel
theorem aE7 {a b:Nat}(ha:a<576)(hb:b<576)(h:hp a=hp b):a=b:=by
 have:=(K1 _ _ aE8).1
 unfold List.Nodup at this
 rw[w8]at this
 rw[m7]at this
 rcases A7 a b with q | q | q
 ·have:=this a b (by simpa using ha) (by simpa using hb) q
  simp only[C8]at this
  exact absurd h this
 ·exact q
 ·have:=this b a (by simpa using hb) (by simpa using ha) q
  simp only[C8]at this
  exact absurd h.symm this
def M7 (ks:List Int):Prop:=∃ i j:Nat,i<24/\j<24/\ks=[(i:Int),(j:Int)]
theorem aa2 {prog:Program}{w:World}{k k':List Int}(h1:M7 k)(h2:M7 k')(e:tupleKeyHash (intKind prog w) k=tupleKeyHash (intKind prog w) k'):k=k':=by
 obtain⟨i,j,hi,hj,rfl⟩:=h1
 obtain⟨i',j',hi',hj',rfl⟩:=h2
 have e2:hp (24*i+j)=hp (24*i'+j'):=by
  unfold hp
  rw[show (24*i+j) / 24=i by omega,show (24*i+j) % 24=j by omega,show (24*i'+j') / 24=i' by omega,show (24*i'+j') % 24=j' by omega]
  exact congrArg (fun z=>bits z % 3708) e
 have:=aE7 (by omega) (by omega) e2
 have h3:i=i':=by omega
 have h4:j=j':=by omega
 rw[h3,h4]
section
variable {prog:Program} {w:World}
def G1 (prog:Program)(w:World)(h:Heap)(k:List Int)(e:En):Prop:=∃ a,e.2=.ref a/\IsTupleKey (intKind prog w) h k a/\e.1=tupleKeyHash (intKind prog w) k
def N5 (prog:Program)(w:World)(hk h:Heap)(S:Addr)(ks:List (List Int)):Prop:=
 ∃ o es ep t,h.get? S=some o/\o.ExactSet/\o.data=.set es ep t/\Tb t es/\es.size=ks.length/\ks.Nodup/\(∀ k∈ks,M7 k)/\(∀ k∈ks,∃ e∈es.toList,G1 prog w hk k e)/\∀ e∈es.toList,∃ k∈ks,G1 prog w hk k e
theorem ar2 {h h':Heap}{k:List Int}{a:Addr}(x:IsTupleKey (intKind prog w) h k a)(hs:∀ b o,h.get? b=some o->h'.get? b=some o):IsTupleKey (intKind prog w) h' k a:=by
 obtain⟨o,items,n,h2,h3⟩:=x
 exact⟨o,items,n,hs a o h2,h3⟩
theorem G1.up {h h':Heap}{k:List Int}{e:En}(x:G1 prog w h k e)(hs:∀ b o,h.get? b=some o->h'.get? b=some o):G1 prog w h' k e:=by
 obtain⟨a,h1,h2,h6⟩:=x
 exact⟨a,h1,ar2 h2 hs,h6⟩
theorem G1.inj {h:Heap}{k k':List Int}{e:En}(x:G1 prog w h k e)(y:G1 prog w h k' e):k=k':=by
 obtain⟨a,h1,h2,_⟩:=x
 obtain⟨b,h3,h4,_⟩:=y
 rw[h1]at h3
 cases h3
 exact h2.inj h4
variable {A:Around} {E:Value->Shared->Prop} {s:Shared}
theorem ae7 (x:Addr)(es:Array En):byScan (.ref x) es=false:=by
 unfold byScan Value.scannable
 rfl
theorem L9 {k:List Int}{x:Addr}{Q:Bool->Shared->Prop}(hx:IsTupleKey (intKind prog w) s.heap k x)(h:Q true s):wpAny (model prog w) A (hashByValue 8 (.ref x)) Q E s:=by
 have hT:=hx.typeIs
 obtain⟨o,items,n,ho,hc,hd,hi⟩:=hx
 unfold hashByValue
 refine wpAny_bind (wpAny_specialOf hT F.slot_tuple_hash.lookup ?_)
 dsimp only
 refine wpAny_bind (wpAny_seqItems ho hd ?_)
 show wpAny _ _ (forIn items _ _ >>= _) _ _ s
 rw[<- ay9]
 have hv:∀ v∈items.toList,∃ i t,v=.int i t:=fun v hv=>by
  clear ho hd
  generalize items.toList=l at hi hv
  induction hi with
  | nil=>cases hv
  | cons h1 _ ih =>
   rcases b9.mp hv with rfl | hv
   ·obtain⟨t,e⟩:=Value.isInt_shape h1
    exact⟨_,t,e⟩
   ·exact ih hv
 refine wpAny_bind (wpAny_forIn_list _ (fun rest r s'=>r.1=none/\s'=s/\∀ v∈rest,∃ i t,v=.int i t) _ ?_ ?_ _ _ ⟨rfl,rfl,hv⟩)
 ·rintro v rest r s' ⟨hr,rfl,hall⟩
  obtain⟨i,t,rfl⟩:=hall v c9
  have e:hashByValue 7 (.int i t)=pure true:=by unfold hashByValue;rfl
  rw[e]
  refine wpAny_bind (wpAny_pure ?_)
  simp only[G2,e8,if_false]
  exact wpAny_pure ⟨rfl,rfl,fun u hu'=>hall u (c6 _ hu')⟩
 ·rintro⟨r1,r2⟩ s' ⟨hr,rfl,_⟩
  simp only at hr
  subst hr
  exact wpAny_pure h
end
section
variable {prog:Program} {w:World} {A:Around} {E:Value->Shared->Prop} {s:Shared}
theorem S5 {S x:Addr}{o:Obj}{es:Array En}{ep:Nat}{t:SetTable}{h:Int}{Q:SetFound->Shared->Prop}(ho:s.heap.get? S=some o)(hd:o.data=.set es ep t)(T:Tb t es)(hh:∀ e∈es.toList,e.1≠h)
  (hq:∀ n,n<10*turns t.mask->(∀ i:Nat,t.place[i]?≠some (it t n (t.probeStart h)).j)->(it t n (t.probeStart h)).j<=t.mask->(∀ k,k<n->∃ i':Nat,t.place[i']?=some (it t k (t.probeStart h)).j)->Q (.free (it t n (t.probeStart h)).j false) s) :
  wpAny (model prog w) A (setSearch S (.ref x) h true) Q E s:=by
 obtain⟨n,h1,h2,h3,h4,h5⟩:=T.absent hh
 unfold setSearch setSearchFrom
 refine wpAny_bind (wpAny_setState_of ho hd T.fits ?_)
 dsimp only
 rw[T.odd]
 simp only[e8,if_false]
 split
 ·rename_i met hm
  have e:=hm.symm.trans h5
  cases e
  exact wpAny_pure (hq n h1 h2 h3 h4)
 ·rename_i hm
  exact absurd h5 (fun z=>hm _ z)
theorem aa7 {k:List Int}{x:Addr}{Q:Bool->Shared->Prop}(hx:IsTupleKey (intKind prog w) s.heap k x)(h:Q false s):wpAny (model prog w) A (ofAClassStatement 8 (.ref x)) Q E s:=by
 have hT:=hx.typeIs
 obtain⟨o,items,n,ho,hc,hd,hi⟩:=hx
 unfold ofAClassStatement
 refine wpAny_bind (wpAny_typeOf hT ?_)
 dsimp only
 rw[if_pos (by decide)]
 refine wpAny_bind (wpAny_pure ?_)
 simp only[G2,e8,if_false]
 refine wpAny_bind (wpAny_seqItems ho hd ?_)
 dsimp only
 rw[<- ay9]
 have hv:∀ v∈items.toList,∃ i t,v=.int i t:=fun v hv=>by
  clear ho hd
  generalize items.toList=l at hi hv
  induction hi with
  | nil=>cases hv
  | cons h1 _ ih =>
   rcases b9.mp hv with rfl | hv
   ·obtain⟨t,e⟩:=Value.isInt_shape h1
    exact⟨_,t,e⟩
   ·exact ih hv
 refine wpAny_bind (wpAny_forIn_list _ (fun rest r s'=>r.1=none/\s'=s/\∀ v∈rest,∃ i t,v=.int i t) _ ?_ ?_ _ _ ⟨rfl,rfl,hv⟩)
 ·rintro v rest r s' ⟨hr,rfl,hall⟩
  obtain⟨i,t,rfl⟩:=hall v c9
  have e:ofAClassStatement 7 (.int i t)=pure false:=by unfold ofAClassStatement;rfl
  rw[e]
  refine wpAny_bind (wpAny_pure ?_)
  simp only[e8,if_false]
  exact wpAny_pure ⟨rfl,rfl,fun u hu'=>hall u (c6 _ hu')⟩
 ·rintro⟨r1,r2⟩ s' ⟨hr,rfl,_⟩
  simp only at hr
  subst hr
  exact wpAny_pure h
theorem aB5 {k:List Int}{x:Addr}{l:List Value}{Q:Bool->Shared->Prop}(hx:IsTupleKey (intKind prog w) s.heap k x)(hl:∀ v∈l,∃ a k',v=.ref a/\IsTupleKey (intKind prog w) s.heap k' a)(h:Q false s) :
  wpAny (model prog w) A (searchCouldBeSeen (.ref x) l) Q E s:=by
 unfold searchCouldBeSeen
 refine wpAny_bind (wpAny_forIn_list _ (fun rest r s'=>r.1=none/\s'=s/\∀ v∈rest,∃ a k',v=.ref a/\IsTupleKey (intKind prog w) s.heap k' a) _ ?_ ?_ _ _ ⟨rfl,rfl,hl⟩)
 ·rintro v rest r s' ⟨hr,rfl,hall⟩
  obtain⟨a,k',rfl,ha⟩:=hall v c9
  have hrest:∀ v∈rest,∃ a k',v=.ref a/\IsTupleKey (intKind prog w) s'.heap k' a:=fun u hu'=>hall u (c6 _ hu')
  dsimp only
  split
  ·exact wpAny_pure ⟨rfl,rfl,hrest⟩
  ·refine wpAny_bind (wpAny_eqIsQuiet_tuple hx ?_)
   simp only[G2,e8,if_false]
   refine wpAny_bind (wpAny_eqIsQuiet_tuple ha ?_)
   simp only[G2,e8,if_false]
   refine wpAny_bind (aa7 hx ?_)
   simp only[e8,if_false]
   refine wpAny_bind (aa7 ha ?_)
   simp only[e8,if_false]
   exact wpAny_pure ⟨rfl,rfl,hrest⟩
 ·rintro⟨r1,r2⟩ s' ⟨hr,rfl,_⟩
  simp only at hr
  subst hr
  exact wpAny_pure h
theorem P4 {S x:Addr}{o:Obj}{es:Array En}{ep:Nat}{t:SetTable}{k:List Int}{i:Nat}{e:En}{Q:SetFound->Shared->Prop}(hu:A.units<cLine)(ho:s.heap.get? S=some o)(hd:o.data=.set es ep t)(T:Tb t es)
  (hx:IsTupleKey (intKind prog w) s.heap k x)(he:es[i]?=some e)(hk:G1 prog w s.heap k e)(hall:∀ e∈es.toList,∃ k,G1 prog w s.heap k e)(huq:∀ (c:Nat) (e':En),es[c]?=some e'->e'.1=e.1->c=i)
  (hq:Q (.there none) s):wpAny (model prog w) A (setSearch S (.ref x) (tupleKeyHash (intKind prog w) k) true) Q E s:=by
 obtain⟨y,hy1,hy2,hy3⟩:=hk
 obtain⟨j,q,hp⟩:=T.present he huq
 rw[hy3]at hp
 unfold setSearch setSearchFrom
 refine wpAny_bind (wpAny_setState_of ho hd T.fits ?_)
 dsimp only
 rw[T.odd]
 simp only[e8,if_false]
 have fin:wpAny (model prog w) A (do
   let some (_,y):=es[i]? | unsupported "internal:set-entry"
   let equal <- holding [y] (eqBool y (.ref x))
   let (es',_,t') <- setState S
   if true && equal then return .there none
   let some same:=t'.sameMemory t.moves t.mask | unsupported "set.changed-during-lookup:is-the-new-block-at-the-old-address"
   let still <- match (if same then t'.slot j else .empty) with
    | .live i'=>match es'[i']? with
     | some (_,y')=>do pure (if <- isSame y' y then some i' else none)
     | none=>pure none
    | _=>pure none
   match still with
   | none=>rule "set.search.anew";setSearchFrom S (.ref x) (tupleKeyHash (intKind prog w) k) true 99999 none
   | some i'=>if equal then return .there (some i') else setSearchFrom S (.ref x) (tupleKeyHash (intKind prog w) k) true 99999 (some q)) Q E s:=by
  rw[he]
  obtain⟨e1,e2⟩:=e
  have hy1:e2=.ref y:=hy1
  subst hy1
  dsimp only
  refine wpAny_bind (wpAny_holding (wpAny_eqBool_tuple hu hy2 hx ?_))
  refine wpAny_bind (wpAny_setState_of ho hd T.fits ?_)
  dsimp only
  rw[decide_eq_true rfl]
  simp only[Bool.and_self,if_true]
  exact wpAny_pure hq
 split
 ·rename_i met hm
  have e9:=hm.symm.trans hp
  cases e9
  dsimp only
  cases hled:t.led with
  | true =>
   simp only[G2,e8,if_false]
   exact fin
  | false =>
   simp only[af4,if_true]
   refine wpAny_bind (aB5 hx (fun v hv=>?_) ?_)
   ·rw[k7]at hv
    obtain⟨e',he',rfl⟩:=hv
    have he'':e'∈es.toList:=by
     have:=Array.mem_filter.mp (L0.mp he')
     exact L0.mpr this.1
    obtain⟨k',a,h1,h2,_⟩:=hall e' he''
    exact⟨a,k',h1,h2⟩
   ·simp only[e8,if_false]
    exact fin
 ·rename_i hm
  exact absurd hp (fun z=>hm _ z)
end
theorem thr {n m:Nat}(g:Good m)(h1:n*5<m*3)(h2:m*3<=(n+1)*5)(h3:n<300):(m=7/\n+1=5)\/(m=31/\n+1=19)\/(m=127/\n+1=77):=by
 rcases g with rfl | rfl | rfl | rfl<;>omega
theorem Q9 {n m:Nat}(g:Good m)(h1:n*5<m*3)(h2:m*3<=(n+1)*5)(h3:n<300):Good (sizeAbove (grown (n+1)) - 1)/\(n+1)*5<(sizeAbove (grown (n+1)) - 1)*3/\sizeAbove (grown (n+1))<=4096:=by
 rcases thr g h1 h2 h3 with⟨_,e⟩ | ⟨_,e⟩ | ⟨_,e⟩<;>rw[e]<;>refine⟨?_,by decide +kernel,by decide +kernel⟩
 ·exact .inr (.inl (by decide +kernel))
 ·exact .inr (.inr (.inl (by decide +kernel)))
 ·exact .inr (.inr (.inr (by decide +kernel)))
theorem af7 {t:SetTable}{es:Array En}(T:Tb' t es):t.tooFull=decide (t.mask*3<=es.size*5):=by
 unfold tooFull PySem.SetTable.fill
 rw[T.dum,T.len]
 rfl
section
variable {prog:Program} {w:World} {A:Around} {E:Value->Shared->Prop} {s:Shared}
theorem stored {S:Addr}{o:Obj}{es es':Array En}{ep:Nat}{t t':SetTable}{h:Heap}(ho:h.get? S=some o)(hd:o.data=.set es ep t) :
  (h.update S (Obj.putSet es' t')).get? S=some { o with data:=.set es' (ep+1) t' }:=by
 have:=k6 (Obj.putSet es' t') ho (by rw[putSet_of es' t' hd];rfl)
 rw[putSet_of es' t' hd]at this
 exact this
theorem Y3 {S x:Addr}{ks:List (List Int)}{k:List Int}{Q:Bool->Shared->Prop}{hp:Heap}(hup:∀ b o,hp.get? b=some o->s.heap.get? b=some o)(hu:A.units<cLine)(hS:N5 prog w hp s.heap S ks)(hx0:IsTupleKey (intKind prog w) hp k x)(hk:M7 k)(hn:ks.length<300)
  (hq:∀ (b:Bool) (h':Heap) (tk:Nat),s.toks<=tk->Heap.SameBut S s.heap h'->N5 prog w hp h' S (if k∈ks then ks else k::ks)->Q b { s with heap:=h',toks:=tk }) :
  wpAny (model prog w) A (setAdd S (.ref x)) Q E s:=by
 have hx:=ar2 hx0 hup
 unfold setAdd
 refine wpAny_holding (wpAny_bind (wpAny_pyHash_tuple hu hx ?_))
 obtain⟨o,es,ep,t,ho,hex,hd,T,hsz,hnd,hok,hto,hfrom⟩:=hS
 unfold setAddHashed
 refine wpAny_holding ?_
 unfold setAddHashedIn
 refine wpAny_bind (wpAny_setState_of (s:={ s with toks:=s.toks+(k.length+1) }) ho hd T.fits ?_)
 dsimp only
 rw[ae7]
 simp only[e8,if_false]
 by_cases hmem:k∈ks
 ·-- it is there
  obtain⟨e,he,hek⟩:=hto k hmem
  obtain⟨i,hi⟩:=t5.mp he
  rw[c5]at hi
  have huq:∀ (c:Nat) (e':En),es[c]?=some e'->e'.1=e.1->c=i:=fun c e' hc hh=>by
   apply Classical.byContradiction
   intro hci
   have hkey:∀ (c:Nat),c<es.size->∃ kk,kk∈ks/\∃ e,es[c]?=some e/\G1 prog w hp kk e:=fun c hc=>by
    have e:=getElem?_pos es c hc
    obtain⟨kk,h1,h2⟩:=hfrom es[c] (by simp)
    exact⟨kk,h1,_,e,h2⟩
   have e'k:G1 prog w hp k e':=by
    obtain⟨kk,h1,h2⟩:=hfrom e' (b6 (by rw[c5];exact hc))
    have h3:=h2
    obtain⟨_,_,_,h4⟩:=h2
    have h5:=hek
    obtain⟨_,_,_,h6⟩:=h5
    have:kk=k:=aa2 (prog:=prog) (w:=w) (hok kk h1) hk (by rw[<- h4,hh,h6])
    rw[<- this]
    exact h3
   have hch:∀ n,n<ks.length->∃ c,c<es.size/\∃ e,es[c]?=some e/\∃ kk,ks[n]?=some kk/\G1 prog w hp kk e:=fun n hn'=>by
    obtain⟨e,he,hek⟩:=hto ks[n] (G8 hn')
    obtain⟨c,hc⟩:=t5.mp he
    rw[c5]at hc
    exact⟨c,(getElem?_eq_some_iff.mp hc).1,e,hc,ks[n],d4 hn',hek⟩
   have:=V7 (es.size - 1) ks.length (fun n=>if hn':n<ks.length then (let c0:=Classical.choose (hch n hn');let c1:=if c0=c then i else c0;if c1<c then c1 else c1 - 1) else 0) ?_ ?_
   ·have hc':=(getElem?_eq_some_iff.mp hc).1
    omega
   ·intro n hn'
    dsimp only
    rw[dif_pos hn']
    have hp:=Classical.choose_spec (hch n hn')
    generalize Classical.choose (hch n hn')=c0 at hp
    obtain⟨p1,_⟩:=hp
    have hc':=(getElem?_eq_some_iff.mp hc).1
    have hi':=(getElem?_eq_some_iff.mp hi).1
    split<;>split<;>omega
   ·intro n n' hn1 hn2 eqn
    dsimp only at eqn
    rw[dif_pos hn1,dif_pos hn2]at eqn
    have hp:=Classical.choose_spec (hch n hn1)
    have hp':=Classical.choose_spec (hch n' hn2)
    generalize Classical.choose (hch n hn1)=c0 at hp eqn
    generalize Classical.choose (hch n' hn2)=c0' at hp' eqn
    obtain⟨p1,e1,p2,kk,p3,p4⟩:=hp
    obtain⟨p1',e1',p2',kk',p3',p4'⟩:=hp'
    have same:kk=kk':=by
     have r1:G1 prog w hp kk (if c0=c then e else e1):=by
      split
      ·rename_i hcc
       subst hcc
       rw[hc]at p2
       cases p2
       have:=p4.inj e'k
       rw[this]
       exact hek
      ·exact p4
     have r2:G1 prog w hp kk' (if c0'=c then e else e1'):=by
      split
      ·rename_i hcc
       subst hcc
       rw[hc]at p2'
       cases p2'
       have:=p4'.inj e'k
       rw[this]
       exact hek
      ·exact p4'
     have g1:es[if c0=c then i else c0]?=some (if c0=c then e else e1):=by split<;>assumption
     have g2:es[if c0'=c then i else c0']?=some (if c0'=c then e else e1'):=by split<;>assumption
     have ne1:(if c0=c then i else c0)≠c:=by split<;>omega
     have ne2:(if c0'=c then i else c0')≠c:=by split<;>omega
     have eqc:(if c0=c then i else c0)=(if c0'=c then i else c0'):=by
      generalize (if c0=c then i else c0)=u at eqn ne1
      generalize (if c0'=c then i else c0')=v at eqn ne2
      split at eqn<;>split at eqn<;>omega
     rw[eqc,g2]at g1
     rw[<- Option.some.inj g1]at r1
     exact r1.inj r2
    subst same
    obtain⟨q1,q2⟩:=d5.mp p3
    obtain⟨q3,q4⟩:=d5.mp p3'
    rcases A7 n n' with z | z | z
    ·exact absurd (q2.trans q4.symm) (m7.mp hnd n n' q1 q3 z)
    ·exact z
    ·exact absurd (q4.trans q2.symm) (m7.mp hnd n' n q3 q1 z)
  refine wpAny_bind (P4 (s:={ s with toks:=s.toks+(k.length+1) }) hu ho hd T hx hi (hek.up hup) (fun e he=>?_) huq ?_)
  ·obtain⟨kk,_,h2⟩:=hfrom e he
   exact⟨kk,h2.up hup⟩
  ·refine wpAny_pure ?_
   have:=hq false s.heap (s.toks+(k.length+1)) (X3 _ _) (Heap.SameBut.refl S s.heap)
   rw[if_pos hmem]at this
   exact this ⟨o,es,ep,t,ho,hex,hd,T,hsz,hnd,hok,hto,hfrom⟩
 ·-- it is new
  have hh:∀ e∈es.toList,e.1≠tupleKeyHash (intKind prog w) k:=fun e he z=>by
   obtain⟨kk,h1,h2⟩:=hfrom e he
   obtain⟨_,_,_,h4⟩:=h2
   have:kk=k:=aa2 (prog:=prog) (w:=w) (hok kk h1) hk (by rw[<- h4,z])
   exact hmem (this ▸ h1)
  refine wpAny_bind (S5 (s:={ s with toks:=s.toks+(k.length+1) }) ho hd T hh fun n hn1 hfr hle hocc=>?_)
  dsimp only
  refine wpAny_bind (wpAny_setState_of (s:={ s with toks:=s.toks+(k.length+1) }) ho hd T.fits ?_)
  dsimp only
  obtain⟨hp1,T1⟩:=T.put (h:=tupleKeyHash (intKind prog w) k) (x:=Value.ref x) hn1 hfr hle hocc
  generalize hpt:t.put (it t n (t.probeStart (tupleKeyHash (intKind prog w) k))).j=tp at hp1 T1 ⊢
  have hled:tp.1.mask=t.mask:=by
   rw[<- hpt]
   unfold SetTable.put
   rfl
  obtain⟨t1,p⟩:=tp
  dsimp only at hp1 T1 hled ⊢
  have hsz1:(insertAt es p (tupleKeyHash (intKind prog w) k,Value.ref x)).size=es.size+1:=E2 hp1
  have fits1:(insertAt es p (tupleKeyHash (intKind prog w) k,Value.ref x)).size<=sizeLine:=by rw[hsz1,hsz,sizeLine_eq];omega
  have made:∀ (h':Heap) (o':Obj) (es':Array En) (ep':Nat) (t':SetTable),Heap.SameBut S s.heap h'->h'.get? S=some o'->o'.ExactSet->o'.data=.set es' ep' t'->Tb t' es' ->
    es'.toList.Perm (insertAt es p (tupleKeyHash (intKind prog w) k,Value.ref x)).toList->N5 prog w hp h' S (k::ks):=fun h' o' es' ep' t' hsb ho' hex' hd' T' hpm=>by
   have hmemE:∀ e,e∈es'.toList↔e=(tupleKeyHash (intKind prog w) k,Value.ref x)\/e∈es.toList:=fun e=>by rw[hpm.mem_iff];exact ah4 hp1 e
   have hnew:G1 prog w hp k (tupleKeyHash (intKind prog w) k,Value.ref x):=⟨x,rfl,hx0,rfl⟩
   refine⟨o',es',ep',t',ho',hex',hd',T',?_,m6.mpr ⟨hmem,hnd⟩,fun kk hkk=>?_,fun kk hkk=>?_,fun e he=>?_⟩
   ·have:=hpm.length_eq
    rw[d8,d8,hsz1,hsz]at this
    rw[this,j3]
   ·rcases b9.mp hkk with rfl | hkk
    ·exact hk
    ·exact hok kk hkk
   ·rcases b9.mp hkk with rfl | hkk
    ·exact⟨_,(hmemE _).mpr (.inl rfl),hnew⟩
    ·obtain⟨e,he,hek⟩:=hto kk hkk
     exact⟨e,(hmemE e).mpr (.inr he),hek⟩
   ·rcases(hmemE e).mp he with rfl | he
    ·exact⟨k,c9,hnew⟩
    ·obtain⟨kk,h1,h2⟩:=hfrom e he
     exact⟨kk,c6 _ h1,h2⟩
  have rest:∀ b:Bool,wpAny (model prog w) A (do
    storeSet S (insertAt es p (tupleKeyHash (intKind prog w) k,Value.ref x)) (if b=true then t1 else { t1 with plain:=false })
    if (!false && (if b=true then t1 else { t1 with plain:=false }).tooFull)=true then do
     setRelay S (grown (es.size+1))
     pure true
    else pure true) Q E { s with toks:=s.toks+(k.length+1) }:=fun b=>by
   have T2:Tb' (if b=true then t1 else { t1 with plain:=false }) (insertAt es p (tupleKeyHash (intKind prog w) k,Value.ref x)):=by
    split
    ·exact T1
    ·exact T1.plain false
   have hm2:(if b=true then t1 else { t1 with plain:=false }).mask=t.mask:=by split<;>exact hled
   generalize (if b=true then t1 else { t1 with plain:=false })=t2 at T2 hm2
   refine wpAny_bind (wpAny_storeSet_of (s:={ s with toks:=s.toks+(k.length+1) }) ho hd ?_ fits1)
   have ho1:=stored (es':=insertAt es p (tupleKeyHash (intKind prog w) k,Value.ref x)) (t':=t2) ho hd
   have hsb1:=Heap.SameBut.update s.heap S (Obj.putSet (insertAt es p (tupleKeyHash (intKind prog w) k,Value.ref x)) t2)
   rw[af7 T2]
   simp only[af4,am0,decide_eq_true_eq]
   by_cases hful:t2.mask*3<=(insertAt es p (tupleKeyHash (intKind prog w) k,Value.ref x)).size*5
   ·rw[if_pos hful]
    rw[hsz1,hm2]at hful
    obtain⟨g1,g2,g3⟩:=Q9 T.good T.nf hful (by rw[hsz];exact hn)
    unfold setRelay
    refine wpAny_bind (wpAny_bind (wpAny_setState_of (s:={ s with heap:=s.heap.update S (Obj.putSet (insertAt es p (tupleKeyHash (intKind prog w) k,Value.ref x)) t2),toks:=s.toks+(k.length+1) }) ho1 rfl T2.fits ?_))
    dsimp only
    rw[if_neg (by rw[sizeLine_eq];omega)]
    obtain⟨t3,order,hl3,T3,hpm3⟩:=ax4 (M:=sizeAbove (grown (es.size+1)) - 1) (finger:=t2.finger) (moves:=t2.movedTo (sizeAbove (grown (es.size+1)) - 1)) (led:=t2.led) (plain:=t2.plain) (es:=insertAt es p (tupleKeyHash (intKind prog w) k,Value.ref x)) g1 (by rw[hsz1];exact g2)
    have hrel:t2.relaid ((insertAt es p (tupleKeyHash (intKind prog w) k,Value.ref x)).map (·.1)) (grown (es.size+1))=some (t3,order):=by
     unfold relaid
     exact hl3
    rw[hrel]
    have hsz3:(order.filterMap ((insertAt es p (tupleKeyHash (intKind prog w) k,Value.ref x))[·]?)).size=(insertAt es p (tupleKeyHash (intKind prog w) k,Value.ref x)).size:=by
     rw[<- d8,hpm3.length_eq,d8]
    refine wpAny_bind ?_
    show wpAny _ _ (if ((order.filterMap ((insertAt es p (tupleKeyHash (intKind prog w) k,Value.ref x))[·]?)).size != (insertAt es p (tupleKeyHash (intKind prog w) k,Value.ref x)).size)=true then _ else _) _ _ _
    rw[if_neg (by rw[hsz3];simp)]
    first | refine wpAny_pure ?_ | refine wpAny_bind (wpAny_pure (wpAny_pure ?_))
    dsimp only
    refine wpAny_storeSet_of (s:={ s with heap:=s.heap.update S (Obj.putSet (insertAt es p (tupleKeyHash (intKind prog w) k,Value.ref x)) t2),toks:=s.toks+(k.length+1) }) ho1 rfl ?_ (by rw[hsz3];exact fits1)
    refine wpAny_pure ?_
    have ho2:=stored (es':=order.filterMap ((insertAt es p (tupleKeyHash (intKind prog w) k,Value.ref x))[·]?)) (t':=t3) ho1 rfl
    have hsb2:=hsb1.trans (Heap.SameBut.update _ S (Obj.putSet (order.filterMap ((insertAt es p (tupleKeyHash (intKind prog w) k,Value.ref x))[·]?)) t3))
    have:=hq true _ (s.toks+(k.length+1)) (X3 _ _) hsb2
    rw[if_neg hmem]at this
    exact this (made _ _ _ _ _ hsb2 ho2 hex rfl T3 hpm3)
   ·rw[if_neg hful]
    refine wpAny_pure ?_
    have:=hq true _ (s.toks+(k.length+1)) (X3 _ _) hsb1
    rw[if_neg hmem]at this
    exact this (made _ _ _ _ _ hsb1 ho1 hex rfl (T2.full (by omega)) (List.Perm.refl _))
  cases hpl:t1.plain with
  | true =>
   rw[if_pos rfl]
   refine wpAny_bind (L9 (s:={ s with toks:=s.toks+(k.length+1) }) hx ?_)
   exact rest true
  | false =>
   rw[if_neg b7]
   refine wpAny_bind (wpAny_pure ?_)
   exact rest true
end
def B5 (ks:List (List Int))(k:List Int):List (List Int):=if k∈ks then ks else k::ks
theorem ar3 (ks:List (List Int))(k:List Int):(B5 ks k).length<=ks.length+1:=by unfold B5;split<;>simp
theorem O7:∀ (l ks:List (List Int)),(l.foldl B5 ks).length<=ks.length+l.length
 | [],ks=>by simp
 | k::l,ks=>by
  rw[A1]
  have h1:=O7 l (B5 ks k)
  have h2:=ar3 ks k
  rw[j3]
  omega
theorem U2:∀ (l ks:List (List Int)),(l.foldl B5 ks).length=ks.length+l.length↔l.Nodup/\∀ x∈l,x∉ks
 | [],ks=>by simp
 | k::l,ks=>by
  rw[A1,j3,m6]
  by_cases h:k∈ks
  ·have e:B5 ks k=ks:=by unfold B5;rw[if_pos h]
   rw[e]
   have:=O7 l ks
   constructor
   ·intro q;omega
   ·rintro⟨_,q⟩
    exact absurd h (q k c9)
  ·have e:B5 ks k=k::ks:=by unfold B5;rw[if_neg h]
   rw[e]
   have:=U2 l (k::ks)
   rw[j3]at this
   constructor
   ·intro q
    obtain⟨q1,q2⟩:=this.mp (by omega)
    refine⟨⟨fun hk=>q2 k hk c9,q1⟩,fun x hx=>?_⟩
    rcases b9.mp hx with rfl | hx
    ·exact h
    ·exact fun z=>q2 x hx (c6 _ z)
   ·rintro⟨⟨q1,q2⟩,q3⟩
    have:=this.mpr ⟨q2,fun x hx z=>by
     rcases b9.mp z with rfl | z
     ·exact q1 hx
     ·exact q3 x (c6 _ hx) z⟩
    omega
section
variable {prog:Program} {w:World}
theorem X5 {A:Around}{R:Result->Shared->Prop}{I:Addr}{fp wr:List Addr}{G:Array GenState->Array GenState->Prop}{n:Nat}{P:Nat->Value->Prop}{St:Nat->Shared->Prop}
  (W:WalksS prog w A.in1 I fp wr G n P St)(hu:A.in1.units<cLine)(S:Addr)(hSf:S∉fp)(hp:Heap)(hS0:hp.get? S=none)(hw0:∀ b∈wr,hp.get? b=none)(keys:List (List Int))(hn:keys.length=n)(hb:n<300)
  (hkey:∀ i v,P i v->∃ x k,v=.ref x/\keys[i]?=some k/\M7 k/\IsTupleKey (intKind prog w) hp k x) :
  ∀ (c i:Nat) (s:Shared),n - i=c->i<=n->St i s->(∀ b o,hp.get? b=some o->s.heap.get? b=some o)->N5 prog w hp s.heap S ((keys.take i).foldl B5 []) ->
   (∀ s',Moved (S::wr) G s s'->N5 prog w hp s'.heap S (keys.foldl B5 [])->R (.ok (.ret .none)) s') ->
   codeAny (model prog w) A (.builtin "set.update.loop" ⟨[.ref S,.ref I],[]⟩) R s:=by
 have hSw:S∉wr:=fun h=>hSf (W.sub _ h)
 have hsub:∀ b∈wr,b∈S::wr:=fun b hb=>c6 _ hb
 have nw:∀ b o,hp.get? b=some o->b∉wr:=fun b o e hm=>by rw[hw0 b hm]at e;cases e
 have nS:∀ b o,hp.get? b=some o->b≠S:=fun b o e hm=>by rw[hm,hS0]at e;cases e
 have setKept:∀ {s s':Shared} {ks:List (List Int)},N5 prog w hp s.heap S ks->(∀ b o,b∉wr->s.heap.get? b=some o->s'.heap.get? b=some o)->N5 prog w hp s'.heap S ks:=fun {s s' ks} hS hk=>by
  obtain⟨o,es,ep,t,ho,rest⟩:=hS
  exact⟨o,es,ep,t,hk S o hSw ho,rest⟩
 intro c
 induction c with
 | zero =>
  intro i s hk hi hst hup hS hR
  have hin:i=n:=by omega
  subst hin
  refine codeAny_builtin PyProof.Rows.F.entry_set_update_loop ?_
  rw[Around.under_plainId PyProof.Rows.F.plain_set_update_loop _]
  show wpAny _ A.in1 (pyNext (.ref I) >>= _) _ _ s
  refine wpAny_bind (W.done s _ _ hst fun s' hm=>?_)
  show wpAny _ A.in1 (ret Value.none) _ _ s'
  refine wpAny_pure (hR s' (hm.mono hsub) ?_)
  have:=setKept hS hm.heap
  rw[w5 (by omega)]at this
  exact this
 | succ c ih =>
  intro i s hk hi hst hup hS hR
  have hlt:i<n:=by omega
  refine codeAny_builtin PyProof.Rows.F.entry_set_update_loop ?_
  rw[Around.under_plainId PyProof.Rows.F.plain_set_update_loop _]
  show wpAny _ A.in1 (pyNext (.ref I) >>= _) _ _ s
  refine wpAny_bind (W.item i s _ _ hlt hst fun v s' hP hst' hm=>?_)
  obtain⟨x,k,rfl,hki,hok,hx⟩:=hkey i v hP
  have hup':∀ b o,hp.get? b=some o->s'.heap.get? b=some o:=fun b o e=>hm.heap b o (nw b o e) (hup b o e)
  have hS':=setKept (s':=s') hS hm.heap
  show wpAny _ A.in1 (holding [Value.ref x] (setAdd S (.ref x)) >>= _) _ _ s'
  refine wpAny_bind (wpAny_holding ?_)
  have hlen:((keys.take i).foldl B5 []).length<300:=by
   have:=O7 (keys.take i) []
   rw[v3]at this
   simp only[C0]at this
   omega
  refine Y3 hup' hu hS' hx hok hlen fun b h' tk htk hsb hS2=>?_
  have hS3:N5 prog w hp h' S ((keys.take (i+1)).foldl B5 []):=by
   rw[n6,hki,aF9]
   exact hS2
  refine wpAny_pure ⟨plainId_quiet PyProof.Rows.F.plain_set_update_loop _,ih (i+1) _ (by omega) hlt (W.frame _ s' _ _ hst' htk fun b hb o e=>?_) (fun b o e=>?_) hS3 fun s'' hm'' hS''=>?_⟩
  ·rw[hsb.2 b (fun h:b=S=>hSf (h ▸ hb))];exact e
  ·show h'.get? b=some o
   rw[hsb.2 b (nS b o e)]
   exact hup' b o e
  ·refine hR s'' (Moved.trans W.gtrans ((hm.mono hsub).then_heap htk fun b o hb e=>?_) hm'') hS''
   rw[hsb.2 b (fun h:b=S=>hb (h ▸ c9))];exact e
variable {A:Around} {E:Value->Shared->Prop} {s:Shared}
set_option maxRecDepth 100000 in
set_option maxHeartbeats 3200000 in
theorem Y0 {l:Addr}{items:Array Value}{keys:List (List Int)}{Q:Value->Shared->Prop}(hh:A.handled=none)(hu:A.units+8<cLine)(hl:s.heap.IsList l items)(hn:keys.length=items.size)(hb:items.size<300)
  (hkey:∀ (i:Nat) (v:Value),items[i]?=some v->∃ x k,v=.ref x/\keys[i]?=some k/\M7 k/\IsTupleKey (intKind prog w) s.heap k x)
  (h:∀ (h':Heap) (tk:Nat),N5 prog w s.heap h' s.heap.objs.size (keys.foldl B5 [])->(∀ b o,s.heap.get? b=some o->h'.get? b=some o)->Q (.ref s.heap.objs.size) { s with heap:=h',toks:=tk }) :
  wpAny (model prog w) A (call (.type "set") [.ref l]) Q E s:=by
 obtain⟨c,tl,hmro⟩:=F.called_set.mro
 have hmade:=F.called_set.made
 have hsub:=F.called_set.sub
 refine wpAny_call (codeAny_of_tree ?_)
 show wpAny _ _ (callAny (.type "set") _) _ _ _
 refine wpAny_pure ⟨Code.quiet_builtin _ (by decide +kernel),codeAny_builtin F.entry_type_call ?_⟩
 rw[Around.under_plain (weight_type_call_type "set" [.ref l] []) rfl]
 have h1:=F.called_set.notType
 have h2:=F.called_set.canCreate
 have hct:=F.typeCall_set_1 (.ref l)
 repeat (any_goals (first | assumption | wp_step))
 refine codeAny_mono (code_set_new_1 (.ref l) (E:=E) (Q₁:=fun obj s₁=>∃ led:Bool,obj=.ref s.heap.objs.size/\s₁={ s with heap:=s.heap.push { cls:=.type "set",dict:=none,data:=.set #[] 0 (.fresh 0 0 led) } }) fun led=>⟨led,rfl,rfl⟩) fun r s₁ hr=>?_
 cases r with
 | error e=>exact hr
 | ok fl =>
  cases fl with
  | ret obj =>
   obtain⟨led,rfl,rfl⟩:=hr
   have hS:(s.heap.push { cls:=.type "set",dict:=none,data:=.set #[] 0 (.fresh 0 0 led) }).get? s.heap.objs.size=some { cls:=.type "set",dict:=none,data:=.set #[] 0 (.fresh 0 0 led) }:=b5 _ rfl
   have hT:Shared.TypeIs { s with heap:=s.heap.push { cls:=.type "set",dict:=none,data:=.set #[] 0 (.fresh 0 0 led) } } (.ref s.heap.objs.size) "set":=⟨_,hS,rfl⟩
   have hli:=F.called_set.init.lookup
   have hbi:=F.called_set.init.bind (.ref s.heap.objs.size)
   repeat (any_goals (first | assumption | wp_step))
   refine codeAny_mono (codeAny_call_builtin (R:=wants (fun r s₂=>r=.none/\∃ h' tk,s₂={ s with heap:=h',toks:=tk }/\N5 prog w s.heap h' s.heap.objs.size (keys.foldl B5 [])/\(∀ b o,s.heap.get? b=some o->h'.get? b=some o)) E) F.called_set.init.plain F.entry_set_init (check_set_init_1 hT ?_)) fun r₂ s₂ hr₂=>?_
   ·obtain⟨ol,hol,hcl,nl,hdl⟩:=hl
    obtain⟨ocls,odict,odata,oslots⟩:=ol
    simp only at hcl hdl
    subst hcl;subst hdl
    have hol':(s.heap.push { cls:=.type "set",dict:=none,data:=.set #[] 0 (.fresh 0 0 led) }).get? l=some { cls:=.type "list",dict:=odict,data:=.seq items nl,slots:=oslots }:=a7 _ hol
    have hsls:=F.sub_list_set
    have hslf:=F.sub_list_frozenset
    have hne:(Value.type "list" == Value.type "dict")=false:=by decide
    have hl1:(s.heap.push { cls:=.type "set",dict:=none,data:=.set #[] 0 (.fresh 0 0 led) }).IsList l items:=⟨_,hol',rfl,nl,rfl⟩
    unfold Builtin.«set.__init__» noKeywords Builtin.Frozenset.updateFrom
    generalize hPI:pyIter=PI
    wp_walk
    subst hPI
    refine wpAny_pyIter_list hl1 ?_
    refine wpAny_bind (wpAny_runValue ?_)
    have hlS:l<s.heap.objs.size:=b0 hol
    have hh3:A.in1.in1.in1.handled=none:=by simp[hh]
    have hneI:l≠(s.heap.push { cls:=.type "set",dict:=none,data:=.set #[] 0 (.fresh 0 0 led) }).objs.size:=by
     rw[l8];exact c3 (j0 hlS)
    have hSf:s.heap.objs.size∉[(s.heap.push { cls:=.type "set",dict:=none,data:=.set #[] 0 (.fresh 0 0 led) }).objs.size,l]:=by
     rw[l8];simp only[b9,b8,j5,or_false,not_or]
     exact⟨c3 (Nat.lt_succ_self _),u5 hlS⟩
    refine X5 ((Walks.list hh3 _ l hneI items).toS) ?hu s.heap.objs.size hSf s.heap ?hn ?hw keys hn hb hkey (items.size - 0) 0 _ (by omega) (i3 _)
     ⟨⟨_,b5 _ rfl,rfl,rfl⟩,(hl1.push _)⟩ (fun b o e=>a7 _ (a7 _ e)) ?hS0 ?hR
    case hu=>show A.units+1+1+1<cLine;omega
    case hn=>exact M0 (a8 _)
    case hw =>
     intro b hb
     have e:b=(s.heap.push { cls:=.type "set",dict:=none,data:=.set #[] 0 (.fresh 0 0 led) }).objs.size:=by simpa using hb
     rw[e]
     exact M0 (by rw[l8];exact t7 _)
    case hS0 =>
     have hget:((s.heap.push { cls:=.type "set",dict:=none,data:=.set #[] 0 (.fresh 0 0 led) }).push { cls:=.type "list_iterator",data:=.fields #[.ref l,.int 0 0] }).get? s.heap.objs.size
       = some { cls:=.type "set",dict:=none,data:=.set #[] 0 (.fresh 0 0 led) }:=a7 _ hS
     refine⟨_,_,_,_,hget,⟨rfl,rfl,rfl⟩,rfl,⟨rfl,rfl,?_,?_,.inl rfl,by show 0*5<7*3;decide,?_⟩,rfl,D5,(fun _ h=>nomatch h),(fun _ h=>nomatch h),(fun _ h=>nomatch h)⟩
     ·intro i j a b hij ea
      simp[SetTable.fresh]at ea
     ·intro i j ea
      simp[SetTable.fresh]at ea
     ·intro i e ea
      simp at ea
    case hR =>
     intro s' hm hS'
     obtain⟨h',g',d',tk',os'⟩:=s'
     have eg:g'=s.gens:=hm.gens
     have ed:d'=s.drawn:=hm.drawn
     have eo:os'=s.os:=hm.os
     subst eg;subst ed;subst eo
     show wpAny _ _ _ _ _ _
     refine wpAny_pure ?_
     show wpAny _ _ (ret Value.none) _ _ _
     refine wpAny_pure ⟨rfl,h',tk',rfl,hS',fun b o e=>?_⟩
     have hlt:=b0 e
     have hb1:b≠s.heap.objs.size:=c3 hlt
     have hb2:b≠(s.heap.push { cls:=.type "set",dict:=none,data:=.set #[] 0 (.fresh 0 0 led) }).objs.size:=by
      rw[l8];exact c3 (j0 hlt)
     exact hm.heap b o (by simp only[b9,b8,j5,or_false,not_or];exact⟨hb1,hb2⟩) (a7 _ (a7 _ e))
   ·cases r₂ with
    | error e=>exact hr₂
    | ok fl₂ =>
     cases fl₂ with
     | ret r =>
      obtain⟨rfl,h',tk,rfl,hS',hk'⟩:=hr₂
      repeat (any_goals (first | assumption | wp_step))
      exact h _ _ hS' hk'
     | _=>exact hr₂.elim
  | _=>exact hr.elim
theorem ad5 {S:Addr}{hp:Heap}{ks:List (List Int)}{Q:Value->Shared->Prop}(hS:N5 prog w hp s.heap S ks)(hn:ks.length<300)(h:∀ t tk,Q (.int ks.length t) { s with toks:=tk }) :
  wpAny (model prog w) A (call (.builtin "len") [.ref S]) Q E s:=by
 obtain⟨o,es,ep,t,ho,hex,hd,T,hsz,_⟩:=hS
 refine call_len_set ho hex hd T.fits (by omega) ?_
 rw[hsz]
 exact h _ _
end
end Sett
namespace L2
open PySem PySem.Spec PyProof.Rows
def o6 (K:W.Frag)(H:Hp)(ys:List V)(ks:List (List Int)):Prop:=Paired (fun y k=>∃ a,y=V.ref a/\SqT K H a (k.map V.int)) ys ks
theorem o6.len {K:W.Frag}{H:Hp}{ys:List V}{ks:List (List Int)}(t:o6 K H ys ks):ys.length=ks.length:=Paired.length t
theorem o6.get {K:W.Frag}{H:Hp}:∀ {ys:List V} {ks:List (List Int)} {i:Nat} {y:V},o6 K H ys ks->ys[i]?=some y->∃ a k,y=V.ref a/\ks[i]?=some k/\SqT K H a (k.map V.int)
 | _,_,_,_,.nil,e=>by simp at e
 | _,_,0,_,.cons r _,e=>by
  simp at e
  subst e
  obtain⟨a,h1,h2⟩:=r
  exact⟨a,_,h1,rfl,h2⟩
 | _,_,i+1,y,.cons _ t,e=>by
  obtain⟨a,k,h1,h2,h3⟩:=o6.get (i:=i) (y:=y) t (by simpa using e)
  exact⟨a,k,h1,by simpa using h2,h3⟩
theorem o6.same {K:W.Frag}{H H':Hp}(hs:∀ b o,H b=some o->H' b=some o):∀ {ys:List V} {ks:List (List Int)},o6 K H ys ks->o6 K H' ys ks
 | _,_,.nil=>.nil
 | _,_,.cons r t=>by
  obtain⟨a,h1,h2⟩:=r
  refine .cons ⟨a,h1,?_⟩ (o6.same hs t)
  rcases h2 with(h | ⟨o,h⟩) | h
  ·exact .inl (.inl (hs _ _ h))
  ·exact .inl (.inr ⟨o,hs _ _ h⟩)
  ·exact .inr h
theorem o6.append {K:W.Frag}{H:Hp}:∀ {ys zs:List V} {ks ls:List (List Int)},o6 K H ys ks->o6 K H zs ls->o6 K H (ys++zs) (ks++ls)
 | _,_,_,_,.nil,s=>s
 | _,_,_,_,.cons r t,s=>.cons r (o6.append t s)
section
variable {X:Cx} {pins:List (Addr × Obj)} {σ:St} {H:Hp} {s:Shared}
theorem aa0 {prog:Program}{w:World}:∀ {k:List Int} {its:List Value},l7 (k.map V.int) its->ItemsAre (intKind prog w) k its
 | [],_,.nil=>.nil
 | i::k,_,.cons r t=>by
  obtain⟨tk,rfl⟩:=r
  exact .cons (by simp[intKind,Value.isInt]) (aa0 t)
theorem au3 (I:Inv X pins σ H s){a:Addr}{k:List Int}(h:SqT X.K H a (k.map V.int)):IsTupleKey (intKind X.prog X.w) s.heap k a:=by
 obtain⟨its,r,⟨o,ho,hc,n,hd⟩,_⟩:=I.tuple h
 exact⟨o,its.toArray,n,ho,hc,hd,by simpa using aa0 r⟩
theorem L4 (I:Inv X pins σ H s):∀ {ys:List V} {ks:List (List Int)} {us:List Value},o6 X.K H ys ks->l7 ys us->Paired (fun u k=>∃ a,u=Value.ref a/\IsTupleKey (intKind X.prog X.w) s.heap k a) us ks
 | _,_,_,.nil,.nil=>.nil
 | _,_,_,.cons r t,.cons q v=>by
  obtain⟨a,rfl,h⟩:=r
  cases q
  exact .cons ⟨a,rfl,au3 I h⟩ (L4 I t v)
theorem J3 {α β:Type}{R:α->β->Prop}:∀ {l:List α} {m:List β} {i:Nat} {x:α},Paired R l m->l[i]?=some x->∃ y,m[i]?=some y/\R x y
 | _,_,_,_,.nil,e=>by simp at e
 | _,_,0,_,.cons r _,e=>by simp at e;subst e;exact⟨_,rfl,r⟩
 | _,_,i+1,x,.cons _ t,e=>by
  obtain⟨y,h1,h2⟩:=J3 (i:=i) (x:=x) t (by simpa using e)
  exact⟨y,by simpa using h1,h2⟩
end
section
variable {X:Cx}
def as7 (P:Program)(w:World)(S:Addr)(n:Nat):HO:=.ext fun h=>∃ hk ks,ks.length=n/\n<300/\Sett.N5 P w hk h S ks
theorem as4 (hc:X.calm=true)(hu:X.A.units+8<cLine):A9 X (.type "set") (fun xs H Q=>∃ p ys ks,xs=[.ref p]/\SqL X.K H p ys/\o6 X.K H ys ks/\(∀ k∈ks,Sett.M7 k)/\ks.length<300 /\
  ∀ S,H S=none->Q (.ref S) (upd H S (as7 X.prog X.w S (ks.foldl Sett.B5 []).length))):=by
 intro pins s σ H xs us Q I r h
 obtain⟨p,ys,ks,rfl,hq,ht,hok,hb,q⟩:=h
 obtain⟨u,rfl,rx⟩:=vals1 r
 cases rx
 obtain⟨its,r',pl,hz⟩:=I.list hq
 have hlen:=r'.length
 have hk:=L4 I ht r'
 have hkl:=ht.len
 refine Sett.Y0 (keys:=ks) (I.ok.hd hc) hu pl.isList (by simp;omega) (by simp;omega) (fun i v hv=>?_) fun h' tk hS kp=>?_
 ·obtain⟨k,h1,a,rfl,h2⟩:=J3 hk (by simpa using hv)
  exact⟨a,k,rfl,h1,hok k (b6 h1),h2⟩
 ·have hle:=Sett.O7 ks []
  simp only[C0]at hle
  refine⟨.ref s.heap.objs.size,_,I.laid (o:=as7 X.prog X.w s.heap.objs.size (ks.foldl Sett.B5 []).length) (t':=tk) kp (a8 _) ?_,rfl,q _ (I.hok.fresh (a8 _))⟩
  refine⟨⟨s.heap,ks.foldl Sett.B5 [],rfl,by omega,hS⟩,?_,fun h1 h2 ⟨hk1,ks1,e1,e2,hS1⟩ hkeep=>⟨hk1,ks1,e1,e2,?_⟩⟩
  ·obtain⟨o,_,_,_,ho,_⟩:=hS
   exact⟨o,ho⟩
  ·obtain⟨o,es,ep,t,ho,rest⟩:=hS1
   exact⟨o,es,ep,t,hkeep o ho,rest⟩
theorem call_len_set:A9 X (.builtin "len") (fun xs H Q=>∃ S n,xs=[.ref S]/\H S=some (as7 X.prog X.w S n)/\Q (.int n) H):=by
 intro pins s σ H xs us Q I r h
 obtain⟨S,n,rfl,hS,q⟩:=h
 obtain⟨u,rfl,rx⟩:=vals1 r
 cases rx
 obtain⟨⟨hk,ks,e1,e2,hS1⟩,_⟩:=I.hok S _ hS
 refine Sett.ad5 hS1 (by omega) fun t tk=>?_
 exact⟨.int n,H,I.tok _,⟨t,by rw[e1]⟩,q⟩
end
def n4 (X:Cx)(scope:Scope)(cl:List (Str × Addr))(N':List Str)(s₃:Shared)(H₃:Hp)(fp:List Addr)(xe':Value->Shared->Prop):Cx:=
 { X with N:=N',s₀:=s₃,H₀:=H₃,env:=compEnvC scope cl s₃.heap.objs.size X.env,outer:=X.stack,ex:=fp,fn:=fun _=>false,pn:=[],xe:=xe' }
def S0 (env:Env):List (Str × Addr)->Prop
 | []=>True
 | (x,c)::r=>env.cells.lookup x=some c/\S0 env r
theorem S0.get {env:Env}:∀ {cl:List (Str × Addr)} {x:Str} {c:Addr},S0 env cl->cl.lookup x=some c->env.cells.lookup x=some c
 | [],_,_,_,h=>by cases h
 | (y,d)::r,x,c,⟨h1,h2⟩,h=>by
  rw[x6]at h
  cases e:x == y with
  | true =>
   rw[e]at h
   cases h
   rw[eq_of_beq e]
   exact h1
  | false =>
   rw[e]at h
   exact S0.get h2 h
def af2 (names:List (Str × NameKind))(cl:List (Str × Addr)):Bool:=names.all fun y=>y.2 != .cell && (y.2 != .free || (cl.lookup y.1).isSome)
theorem u9 {env:Env}:∀ {names:List (Str × NameKind)} {x:Str} {k:NameKind},(names.map fun(n,k)=>if (k == NameKind.free && env.scope.kind == .function && env.kindOf n == some .cell) then (n,NameKind.cell) else (n,k)).lookup x=some k ->
  ∃ k',(x,k')∈names/\(k'=k\/(k'=.free/\k=.cell))
 | [],_,_,h=>by cases h
 | (n,k0)::r,x,k,h=>by
  rw[k9]at h
  have hn:∀ k1,(List.lookup x ((n,k1)::r.map fun(n,k)=>if (k == NameKind.free && env.scope.kind == .function && env.kindOf n == some .cell) then (n,NameKind.cell) else (n,k)))=some k->(x=n/\k1=k)\/∃ k',(x,k')∈r/\(k'=k\/(k'=.free/\k=.cell)):=fun k1 h=>by
   rw[x6]at h
   cases e:x == n with
   | true=>rw[e]at h;cases h;exact .inl ⟨eq_of_beq e,rfl⟩
   | false=>rw[e]at h;exact .inr (u9 h)
  dsimp only at h
  by_cases hc:(k0 == NameKind.free && env.scope.kind == .function && env.kindOf n == some .cell)=true
  ·rw[if_pos hc]at h
   rcases hn _ h with⟨rfl,rfl⟩ | ⟨k',h1,h2⟩
   ·simp only[v5]at hc
    have e0:k0=.free:=eq_of_beq hc.1.1
    exact⟨k0,c9,.inr ⟨e0,rfl⟩⟩
   ·exact⟨k',c6 _ h1,h2⟩
  ·rw[if_neg hc]at h
   rcases hn _ h with⟨rfl,rfl⟩ | ⟨k',h1,h2⟩
   ·exact⟨k0,c9,.inl rfl⟩
   ·exact⟨k',c6 _ h1,h2⟩
def F4 (lk:List (Option Nat))(σ:St):St:=lk.map fun o=>o.bind fun j=>(σ[j]?).join
def ab1 (X:Cx)(N':List Str)(lk:List (Option Nat))(scope:Scope)(cl:List (Str × Addr)):Prop:=
 lk.length=N'.length/\∀ (i j:Nat) (x:Str),N'[i]?=some x->lk[i]?=some (some j)->X.N[j]?=some x/\(X.env.scope.names.lookup x=some .cell\/X.env.scope.names.lookup x=some .free)/\(cl.lookup x).isSome=true /\
  ((compEnvC scope cl 0 X.env).kindOf x=some .cell\/(compEnvC scope cl 0 X.env).kindOf x=some .free)
section
variable {X:Cx}
theorem R5 {pins:List (Addr × Obj)}{σ:St}{H3:Hp}{s3:Shared}{h1:Heap}{tk:Nat}{scope:Scope}{cl:List (Str × Addr)}{N':List Str}{lk:List (Option Nat)}{fp:List Addr}{xe':Value->Shared->Prop}{m0:Str->Option Value}
  (I:Inv X pins σ H3 s3)(hf:∀ b∈fp,K6 X pins H3 b)(hkind:scope.kind=.function)(hcl:S0 X.env cl)(hfr:af2 scope.names cl=true)(hlk:ab1 X N' lk scope cl)
  (hn:h1.Ns s3.heap.objs.size m0)(hk:∀ b u,s3.heap.get? b=some u->h1.get? b=some u)(hfs:∀ b∈fp,b<s3.heap.objs.size):Inv (n4 X scope cl N' s3 H3 fp xe') [] (F4 lk σ) H3 { s3 with heap:=h1,toks:=tk }:=by
 have hC:H3 s3.heap.objs.size=none:=I.hok.fresh (a8 _)
 have hmem:∀ y∈scope.names,y.2≠.cell/\(y.2=.free->(cl.lookup y.1).isSome=true):=fun y hy=>by
  unfold af2 at hfr
  rw[G9]at hfr
  have:=hfr y hy
  rw[v5]at this
  refine⟨by simpa using this.1,fun e=>?_⟩
  have h2:=this.2
  rw[e]at h2
  simpa using h2
 have hcell:∀ x c,cl.lookup x=some c->X.env.cells.lookup x=some c:=fun x c e=>hcl.get e
 have clt:∀ x c,cl.lookup x=some c->c<s3.heap.objs.size:=fun x c e=>by
  obtain⟨v,q⟩:=I.cell x c (hcell x c e)
  exact q.lt
 refine⟨⟨I.ok.mod,hkind,I.ok.glob,I.ok.blt,a8 _,fun x y c e1 e2=>I.ok.inj x y c (hcell x c e1) (hcell y c e2),fun x hx=>?_,(fun x c e=>by cases e),I.ok.hd,I.ok.frames,.inl rfl,fun b hb=>?_,fun b o e=>I.bs b o e,m9 I.ok.bsz I.sz,fun b o e hb=>?_,fun b hb z=>?_,I.stack,I.stkFree⟩,
  rfl,I.bare,Un.kept hk,⟨m0,hn,fun i x v e1 e2 e3=>?_⟩,fun x c e=>?_,hC,fun x c e=>?_,(fun p hp=>nomatch hp),I.hok.kept hk,?_⟩
 ·have hx':(relabel scope X.env).names.lookup x=some .cell\/(relabel scope X.env).names.lookup x=some .free:=hx
  have:∃ k',(x,k')∈scope.names/\k'=.free:=by
   rcases hx' with h | h
   ·obtain⟨k',h1,h2⟩:=u9 h
    rcases h2 with h2 | h2
    ·exact absurd h2 (hmem _ h1).1
    ·exact⟨k',h1,h2.1⟩
   ·obtain⟨k',h1,h2⟩:=u9 h
    rcases h2 with h2 | h2
    ·exact⟨k',h1,h2⟩
    ·exact⟨k',h1,h2.1⟩
  obtain⟨k',h1,h2⟩:=this
  exact t9.mp ((hmem _ h1).2 h2)
 ·obtain⟨f0,f1,f2,f3,f4,f5⟩:=hf b hb
  exact⟨c3 (hfs b hb),fun x c e=>f4 x c (hcell x c e)⟩
 ·obtain⟨f0,f1,f2,f3,f4,f5⟩:=hf b hb
  rcases f3 with f3 | f3
  ·exact I.ok.noex b o e f3
  ·exact absurd (g9 (b0 e) (m9 I.ok.bsz f3)) (l6 _)
 ·obtain⟨f0,f1,f2,f3,f4,f5⟩:=hf b hb
  rcases b9.mp (I.stkSub b z) with e | e
  ·exact f1 e
  ·exact f2 e
 ·-- a captured name
  have e2':(F4 lk σ)[i]?=some (some v):=e2
  unfold F4 at e2'
  rw[i8]at e2'
  cases hq:lk[i]? with
  | none=>rw[hq]at e2';cases e2'
  | some o =>
   rw[hq]at e2'
   have e2'':(o.bind fun j=>(σ[j]?).join)=some v:=Option.some.inj e2'
   cases o with
   | none=>cases e2''
   | some j =>
    obtain⟨q1,q2,q3,q4⟩:=hlk.2 i j x e1 hq
    have hσ:σ[j]?=some (some v):=by
     have z:(σ[j]?).join=some v:=e2''
     cases hh:σ[j]? with
     | none=>rw[hh]at z;cases z
     | some o=>rw[hh]at z;rw[show o=some v from z]
    obtain⟨m,hnX,hl⟩:=I.loc
    obtain⟨u,r,lo⟩:=hl j x v q1 hσ (q2.elim (fun a=>.inr (.inl a)) (fun a=>.inr (.inr a)))
    refine⟨u,r,.inr ?_⟩
    obtain⟨c,hc⟩:=t9.mp q3
    refine⟨q4,c,hc,?_⟩
    have hcX:=hcell x c hc
    rcases lo with⟨k,_⟩ | ⟨_,c',hc',z⟩
    ·have k':X.env.scope.names.lookup x=some .local:=k
     rw[k']at q2
     rcases q2 with q2 | q2<;>cases q2
    ·rw[hcX]at hc'
     cases hc'
     obtain⟨o,ho,hd⟩:=z
     exact⟨o,hk c o ho,hd⟩
 ·obtain⟨v,o,ho,hd⟩:=I.cell x c (hcell x c e)
  exact⟨v,o,hk c o ho,hd⟩
 ·exact I.freeC x c (hcell x c e)
 ·show (F4 lk σ).length=N'.length
  unfold F4
  rw[b4]
  exact hlk.1
def PTs (X:Cx)(ifs:List Expr)(t:TT):Prop:=
 ∀ (pins:List (Addr × Obj)) (s:Shared) (σ:St) (H:Hp) (Q:Bool->Hp->Prop),Inv X pins σ H s->t σ H Q->wpAny (model X.prog X.w) X.A (forIn ifs true fun c r=>if r=true then do let ok <- isTrue c X.env (eval c X.env);pure (ForInStep.yield ok) else pure (ForInStep.yield r)) (TP X pins σ Q) X.xe s
def az3:TT:=fun _ H Q=>Q true H
theorem N9:PTs X [] az3:=fun pins s σ H Q I h=>wpAny_tests_nil ⟨H,I,h⟩
theorem V6 {c:Expr}{t:TT}(h:PT X c t):PTs X [c] t:=fun pins s σ H Q I q=>wpAny_tests_one (h pins s σ H Q I q)
def X7 (wi:TI)(lk:List (Option Nat))(g:TG)(tt:TT)(te:TE):TE:=fun σ H Q=>wi σ H fun J H1=>∀ D,H1 D=none->∃ W:Nat->Nat->List V->St->Hp->Prop,(∃ m,W 0 m [] (F4 lk σ) (upd H1 D (.lst [])))/\∀ i m xs σ' H',W i m xs σ' H' ->
 H' D=some (.lst xs)/\((J.stop i H'/\Q (.ref D) H')\/(J.go i H'/\xs.length<sizeLine/\∀ x H'',J.yld i H' x H''->g x σ' H'' fun σ2 H2=>tt σ2 H2 fun b H3 =>
  if b=true then te σ2 H3 fun v H4=>H4 D=some (.lst xs)/\∃ m',m'<m/\W (i+1) m' (xs++[v]) σ2 (upd H4 D (.lst (xs++[v]))) else ∃ m',m'<m/\W (i+1) m' xs σ2 H3))
theorem O1 {elt iter tg:Expr}{ifs:List Expr}{scope:Scope}{pos:Pos}{cl:List (Str × Addr)}{N':List Str}{lk:List (Option Nat)}{wi:TI}{g:TG}{tt:TT}{te:TE}(hc:X.calm=true)(hi:PI X tg iter wi)(hclos:closureFor scope X.env=pure cl)(hkind:scope.kind=.function)
  (hnames:∀ y∈scope.names,y.2=.local->scope.names.lookup y.1=some .local)(hcl:S0 X.env cl)(hfr:af2 scope.names cl=true)(hlk:ab1 X N' lk scope cl)
  (hg:∀ s3 H3 fp,PG (n4 X scope cl N' s3 H3 fp fun _ _=>False) tg g)(ht:∀ s3 H3 fp,PTs (n4 X scope cl N' s3 H3 fp fun _ _=>False) ifs tt)(he:∀ s3 H3 fp,PE (n4 X scope cl N' s3 H3 fp fun _ _=>False) elt te)
  (hs:∀ x,foldedSetIterable iter X.env x=pure x:=by intro _;rfl):PE X (.ListComp elt [⟨tg,iter,ifs,0⟩] scope pos) (X7 wi lk g tt te):=by
 intro pins s σ H Q I h
 rw[eval_ListComp]
 have hcellN:∀ y∈scope.names,y.2≠.cell:=fun y hy=>by
  unfold af2 at hfr
  rw[G9]at hfr
  have:=hfr y hy
  rw[v5]at this
  simpa using this.1
 refine wpAny_comprehension_free (use:=none) rfl hs hclos hkind hnames (thn (hi pins s σ H _ I h) fun v s1 h1=>thn h1 fun itv s2 h2=>?_)
 obtain⟨it,fp,tn,J,H2,e,I2,T,st2,f2,q⟩:=h2
 subst e
 refine wpAny_newList ?_ (i3 _)
 have hD:H2 s2.heap.objs.size=none:=I2.hok.fresh (a8 _)
 have I3:=I2.lnew (ys:=[]) (its:=[]) (t':=s2.toks) .nil (i3 _)
 obtain⟨W,⟨m0,w0⟩,turn⟩:=q s2.heap.objs.size hD
 have fpl:∀ b∈fp,b<s2.heap.objs.size:=fun b hb=>by
  obtain⟨o,ho,_⟩:=T.obj 0 s2.heap st2 b hb
  exact b0 ho
 refine wpAny_newFunctionEnv hcellN (by intro y hy;cases hy) (fun h1 hns1 hsb1=>?_) hkind
 dsimp only at hns1 hsb1 ⊢
 have e3:s2.heap.push { cls:=.type "list",dict:=none,data:=.seq ([]:List Value).toArray }=s2.heap.push { cls:=.type "list",data:=.seq ([]:List Value).toArray }:=rfl
 generalize hh3:s2.heap.push { cls:=.type "list",dict:=none,data:=.seq ([]:List Value).toArray }=h3 at *
 have I3':Inv X pins σ (upd H2 s2.heap.objs.size (.lst [])) { s2 with heap:=h3,toks:=s2.toks }:=I3
 have size3:h3.objs.size=s2.heap.objs.size+1:=by rw[<- hh3,l8]
 have f3:∀ b∈fp,K6 X pins (upd H2 s2.heap.objs.size (.lst [])) b:=fun b hb=>by
  obtain⟨f0,fr⟩:=f2 b hb
  exact⟨by rw[j1 (c3 (fpl b hb))];exact f0,fr⟩
 have up:∀ b u,h3.get? b=some u->h1.get? b=some u:=fun b u eb=>by
  rw[hsb1.2 b (c3 (b0 eb))]
  exact a7 _ eb
 have I4:Inv (n4 X scope cl N' { s2 with heap:=h3,toks:=s2.toks } (upd H2 s2.heap.objs.size (.lst [])) fp fun _ _=>False) [] (F4 lk σ) (upd H2 s2.heap.objs.size (.lst [])) { s2 with heap:=h1,toks:=s2.toks+([]:List (Str × Value)).length }:=
  R5 (s3:={ s2 with heap:=h3,toks:=s2.toks }) I3' f3 hkind hcl hfr hlk hns1 up fun b hb=>by show b<h3.objs.size;rw[size3];exact j0 (fpl b hb)
 have st4:tn 0 h1:=T.keep 0 s2.heap h1 st2 fun b hb o eb=>up b o (by rw[<- hh3];exact a7 _ eb)
 have hCs:h3.objs.size=(compEnvC scope cl h3.objs.size X.env).locals:=rfl
 have stat:∀ {H':Hp},(∀ b∈fp,H' b=none)->∀ b∈fp,K6 (n4 X scope cl N' { s2 with heap:=h3,toks:=s2.toks } (upd H2 s2.heap.objs.size (.lst [])) fp fun _ _=>False) [] H' b:=fun {H'} hn b hb=>by
  obtain⟨f0,f1,f2',f3',f4,f5⟩:=f3 b hb
  refine⟨hn b hb,?_,fun z=>?_,.inl hb,fun x c ex=>f4 x c (hcl.get ex),fun p hp=>nomatch hp⟩
  ·show b≠h3.objs.size
   rw[size3]
   exact c3 (j0 (fpl b hb))
  ·rcases b9.mp (I3'.stkSub b z) with q | q
   ·exact f1 q
   ·exact f2' q
 have fin:∀ (s':Shared) (σ':St) (H':Hp),Inv (n4 X scope cl N' { s2 with heap:=h3,toks:=s2.toks } (upd H2 s2.heap.objs.size (.lst [])) fp fun _ _=>False) [] σ' H' s'->Q (.ref s2.heap.objs.size) H' ->
   compPost (model X.prog X.w) X.A X.xe none (EP X pins σ Q) (.ref s2.heap.objs.size) h3.objs.size (.ok .next) s':=fun s' σ' H' I' q'=>by
  obtain⟨m,hm,_⟩:=id I'.loc
  have I5:Inv X pins σ H' s':=I3'.call' (ch:=fp) I'.os I'.base I'.hok I'.bare fun b hb=>by
   obtain⟨f0,f1,f2',f3',f4,f5⟩:=f3 b hb
   exact⟨f3',f1,f4,f5⟩
  refine⟨m,hm,fun h' hsb=>?_⟩
  refine⟨.ref s2.heap.objs.size,H',?_,rfl,q'⟩
  have hfc:H' h3.objs.size=none:=I'.free
  have hcl1:∀ b o,h3.get? b=some o->b≠h3.objs.size:=fun b o eb=>c3 (b0 eb)
  obtain⟨h0',g0,d0,t0,o0⟩:=s'
  refine I5.turned (t':=t0) (it:=h3.objs.size) (fun b o hb eb=>(hsb.2 b hb).trans eb) hfc ?_ (.inr I3'.sz) (fun x c ex z=>?_) (fun p hp z=>?_)
  ·exact u5 I3'.lt
  ·obtain⟨v',q2⟩:=I3'.cell x c ex
   exact absurd q2.lt (by rw[z];exact l6 _)
  ·exact absurd (b0 (I3'.pin p hp).1) (by rw[z];exact l6 _)
 have loop:∀ s5:Shared,s5={ s2 with heap:=h1,toks:=s2.toks+([]:List (Str × Value)).length } ->
   codeAny (model X.prog X.w) X.A (.compLoop (.ListComp elt [⟨tg,iter,ifs,0⟩] scope pos) 0 (.ref it) (.ref s2.heap.objs.size) (compEnvC scope cl h3.objs.size X.env)) (compPost (model X.prog X.w) X.A X.xe none (EP X pins σ Q) (.ref s2.heap.objs.size) h3.objs.size) s5:=by
  rintro s5 rfl
  refine codeAny_loop rfl (fun n s'=>∃ i xs σ' H',Inv (n4 X scope cl N' { s2 with heap:=h3,toks:=s2.toks } (upd H2 s2.heap.objs.size (.lst [])) fp fun _ _=>False) [] σ' H' s'/\tn i s'.heap/\(∀ b∈fp,H' b=none)/\W i n xs σ' H')
   (fun n s6 hI=>?_) m0 ⟨0,[],F4 lk σ,_,I4,st4,fun b hb=>(f3 b hb).1,w0⟩
  obtain⟨i,xs,σ6,H6,I6,st6,fr6,w6⟩:=hI
  show wpAny _ X.A ((compTurn (.ListComp elt [⟨tg,iter,ifs,0⟩] scope pos) 0 (.ref it) (.ref s2.heap.objs.size) (compEnvC scope cl h3.objs.size X.env)).onRaise (fun x=>do noteFrame x (compEnvC scope cl h3.objs.size X.env);theTreesLotGoes x)) _ _ s6
  refine wpAny_noted ?_
  rw[compTurn_list]
  refine wpAny_bind (wpAny_standAt (wpAny_bind ?_))
  obtain⟨hD6,hw⟩:=turn i n xs σ6 H6 w6
  rcases hw with⟨stop,qn⟩ | ⟨go,hlen,step⟩
  ·refine thn (T.done (n4 X scope cl N' { s2 with heap:=h3,toks:=s2.toks } (upd H2 s2.heap.objs.size (.lst [])) fp fun _ _=>False) rfl rfl rfl hc i [] s6 σ6 H6 _ I6 (stat fr6) st6 stop) fun r s7 ⟨hr,I7⟩=>?_
   subst hr
   exact wpAny_pure (fin s7 σ6 H6 I7 qn)
  ·refine thn (T.item (n4 X scope cl N' { s2 with heap:=h3,toks:=s2.toks } (upd H2 s2.heap.objs.size (.lst [])) fp fun _ _=>False) rfl rfl rfl hc i [] s6 σ6 H6 _ I6 (stat fr6) st6 go) fun r s7 ⟨u,hr,h7⟩=>?_
   subst hr
   refine wpAny_bind (thn h7 fun _ s8 ⟨x,H8,I8,r8,y8,st8,fr8⟩=>?_)
   have I8':=I8.pinned (stat fr8) (T.obj _ _ st8)
   refine wpAny_bind (wpAny_mono (hg _ _ _ _ s8 σ6 H8 x u _ I8' r8 (step x H8 y8)) (fun _ s9 ⟨σ9,H9,I9,q9⟩=>?_) (fun _ _ z=>False.elim z))
   refine wpAny_bind (wpAny_mono (ht _ _ _ _ s9 σ9 H9 _ I9 q9) (fun ok s10 ⟨H10,I10,q10⟩=>?_) (fun _ _ z=>False.elim z))
   have again:∀ {σ':St} {H':Hp} {ys:List V} {s':Shared},Inv (n4 X scope cl N' { s2 with heap:=h3,toks:=s2.toks } (upd H2 s2.heap.objs.size (.lst [])) fp fun _ _=>False) ([]++J1 fp s8.heap) σ' H' s'->(∃ m',m'<n/\W (i+1) m' ys σ' H') ->
     ∃ m',m'<n/\∃ i xs σ' H',Inv (n4 X scope cl N' { s2 with heap:=h3,toks:=s2.toks } (upd H2 s2.heap.objs.size (.lst [])) fp fun _ _=>False) [] σ' H' s'/\tn i s'.heap/\(∀ b∈fp,H' b=none)/\W i m' xs σ' H':=fun {σ' H' ys s'} I' ⟨m',hm,w'⟩=>by
    refine⟨m',hm,i+1,ys,σ',H',I'.unpinned,T.keep _ _ _ st8 fun b hb o eb=>(I'.pin (b,o) (c4 _ (c4 _ (u7 hb eb)))).1,fun b hb=>?_,w'⟩
    obtain⟨o,eb,_⟩:=T.obj _ _ st8 b hb
    exact(I'.pin (b,o) (c4 _ (c4 _ (u7 hb eb)))).2.1
   cases ok with
   | false =>
    have q10':∃ m',m'<n/\W (i+1) m' xs σ9 H10:=by simpa using q10
    exact wpAny_pure ⟨rfl,again I10 q10'⟩
   | true =>
    rw[if_pos rfl]at q10
    refine wpAny_bind (wpAny_bind (wpAny_mono (he _ _ _ _ s10 σ9 H10 _ I10 q10) (fun y s11 ⟨v11,H11,I11,r11,hD11,q11⟩=>?_) (fun _ _ z=>False.elim z)))
    refine wpAny_bind (wpAny_mono (r9 (X:=n4 X scope cl N' { s2 with heap:=h3,toks:=s2.toks } (upd H2 s2.heap.objs.size (.lst [])) fp fun _ _=>False) _ s11 σ9 H11 (.ref s2.heap.objs.size) [v11] (.ref s2.heap.objs.size) [y] (fun _ H'=>∃ m',m'<n/\W (i+1) m' (xs++[v11]) σ9 H') I11 rfl (.cons r11 .nil) ⟨s2.heap.objs.size,xs,v11,rfl,rfl,hD11,hlen,q11⟩) (fun _ s12 ⟨_,H12,I12,_,q12⟩=>?_) (fun _ _ z=>False.elim z))
    exact wpAny_pure (wpAny_pure ⟨rfl,again I12 q12⟩)
 exact codeAny_compStart_list (loop _ rfl) (T.self X.A 0 _ _ _ st4 (loop _ rfl))
end
def Itn (K:W.Frag)(a:Addr):It:=
 ⟨fun i H=>∃ xs x,SqL K H a xs/\xs[i]?=some x,fun i H x H'=>∃ t v,H t=none/\x=.ref t/\(∀ xs,SqL K H a xs->xs[i]?=some v)/\H'=upd H t (.tup [.int i,v]),fun i H=>∃ xs,SqL K H a xs/\xs.length<=i⟩
def aJ5 (K:W.Frag)(ta:TA):TI:=fun σ H R=>ta σ H fun vs H1=>∃ a,vs=[.ref a]/\(∃ xs,SqL K H1 a xs)/\R (Itn K a) H1
theorem aj1 {P:Program}{w:World}{K:W.Frag}{elts:List Expr}{x1:Nat}{pos:Pos}(a it e:Addr)(hne:e≠it):Turn P w K (.Tuple elts x1 pos) (Itn K a) [e,it] e (fun i h=>(∃ old,IsEnum h e it (i:Int) old)/\h.IsListIter it a i) where
 mem:=by simp
 obj:=fun i h st b hb=>by
  obtain⟨⟨old,he⟩,o,ho,hc,hd⟩:=st
  rcases b9.mp hb with rfl | hb
  ·exact⟨_,he,fun v z=>by cases z⟩
  ·have eb:b=it:=by simpa using hb
   subst eb
   exact⟨o,ho,fun v z=>by rw[hd]at z;cases z⟩
 keep:=fun i h h' st k=>by
  obtain⟨⟨old,he⟩,hit⟩:=st
  exact⟨⟨old,k e (by simp) _ he⟩,hit.at fun o q=>k it (by simp) o q⟩
 item:=by
  intro X hP hw hK hc i pins s σ H E I hf st hg
  subst hP hw hK
  obtain⟨xs,x,hq,hx⟩:=hg
  obtain⟨⟨old,he⟩,hit⟩:=st
  obtain⟨its,rv,p,hz⟩:=I.list hq
  obtain⟨u,hu,ru⟩:=rv.get hx
  obtain⟨f0,f1,f2,f3,f4,f5⟩:=hf e (by simp)
  obtain⟨g0,g1,g2,g3,g4,g5⟩:=hf it (by simp)
  refine wpAny_pyNext_enum_item he hit p.isList (x:=u) (by simpa using hu) hne fun h1 heo hit1 ht1 hz1 hk1=>?_
  refine⟨_,rfl,?_⟩
  refine wpAny_letOwnedTupleGo_enum heo fun h2 he2 hs2=>?_
  have hlt:e<s.heap.objs.size:=b0 he
  have hs2':Heap.SameBut e h1 h2:=hs2
  have ht2:h2.get? s.heap.objs.size=some { cls:=.type "tuple",data:=.seq #[.int i s.toks,u] }:=(hs2'.2 _ (u5 hlt)).trans ht1
  have kp:∀ b o,b≠e->b≠it->s.heap.get? b=some o->h2.get? b=some o:=fun b o h1' h2' q=>(hs2'.2 b h1').trans (hk1 b o h1' h2' q)
  have hT:H s.heap.objs.size=none:=I.hok.fresh (a8 _)
  have nH:∀ b,H b≠none->b≠e/\b≠it:=fun b hb=>⟨fun z=>hb (z ▸ f0),fun z=>hb (z ▸ g0)⟩
  have keepH:∀ b o,H b=some o->upd H s.heap.objs.size (.tup [.int i,x]) b=some o:=fun b o q=>by rw[j1 (l5 q hT)];exact q
  have hok2:HOk X.prog X.w (upd H s.heap.objs.size (.tup [.int i,x])) h2:=fun b o eb=>by
   by_cases hb:b=s.heap.objs.size
   ·subst hb
    rw[d3]at eb
    cases eb
    exact⟨by show 2<=sizeLine;decide,[.int i s.toks,u],.cons ⟨_,rfl⟩ (.cons ru .nil),⟨_,ht2,rfl,_,rfl⟩⟩
   ·rw[j1 hb]at eb
    refine(I.hok b o eb).stay (fun c v hcc q=>kp c v ?_ ?_ q) (fun c q=>keepH c _ q) fun c ys q=>keepH c _ q
    ·rcases hcc with z | z
     ·exact(nH c (by rw[z,eb];simp)).1
     ·exact(nH c (by rw[z];simp)).1
    ·rcases hcc with z | z
     ·exact(nH c (by rw[z,eb];simp)).2
     ·exact(nH c (by rw[z];simp)).2
  have I2:Inv X pins σ (upd H s.heap.objs.size (.tup [.int i,x])) { s with heap:=h2,toks:=s.toks+1 }:=by
   refine I.step (g':=s.gens) (d':=s.drawn) (t':=s.toks+1) (ch:=[e,it]) (fun b hb=>?_) (fun b o _ _ hcc q _=>kp b o (fun z=>hcc (by simp[z])) (fun z=>hcc (by simp[z])) q) (fun b o _ _ hcc q _=>⟨o.slots,kp b o (fun z=>hcc (by simp[z])) (fun z=>hcc (by simp[z])) q⟩) (fun b o _ q n=>?_)
    (fun b o hcc q=>⟨o,kp b o (fun z=>hcc (by simp[z])) (fun z=>hcc (by simp[z])) q⟩) (fun b ys q=>keepH b _ q) (fun b o v q=>keepH b _ q) (fun b ps q=>⟨#[],by rw[keepH b _ q];simp⟩) (fun m hm=>?_) hok2 I.bare
   ·rcases b9.mp hb with rfl | hb
    ·exact⟨f3,f1,f4,f5⟩
    ·have eb:b=it:=by simpa using hb
     subst eb
     exact⟨g3,g1,g4,g5⟩
   ·rw[j1 (c3 (b0 q))]
    exact n
   ·obtain⟨o,es,ep,ho,r⟩:=hm
    exact⟨o,es,ep,kp _ o (Ne.symm f1) (Ne.symm g1) ho,r⟩
  have hilt:it<s.heap.objs.size:=by
   obtain⟨o,ho,_⟩:=id hit
   exact b0 ho
  refine⟨.ref s.heap.objs.size,_,I2,rfl,⟨s.heap.objs.size,x,hT,rfl,fun ys hy=>by rw[I.list_inj hy hq];exact hx,rfl⟩,⟨⟨u,?_⟩,?_⟩,fun b hb=>?_⟩
  ·have:=he2
   rw[show ((i:Int)+1)=(((i+1:Nat):Int)) by simp]at this
   exact this
  ·exact hit1.at fun o q=>(hs2'.2 it (Ne.symm hne)).trans q
  ·rcases b9.mp hb with rfl | hb
   ·rw[j1 (c3 hlt)];exact f0
   ·have eb:b=it:=by simpa using hb
    subst eb
    rw[j1 (c3 hilt)]
    exact g0
 done:=by
  intro X hP hw hK hc i pins s σ H E I hf st hg
  subst hP hw hK
  obtain⟨xs,hq,hx⟩:=hg
  obtain⟨⟨old,he⟩,hit⟩:=st
  obtain⟨its,rv,p,hz⟩:=I.list hq
  obtain⟨g0,g1,g2,g3,g4,g5⟩:=hf it (by simp)
  have hl:=rv.length
  exact wpAny_pyNext_enum_end (I.ok.hd hc) he hit p.isList (by simp;omega) fun h' eb=>⟨rfl,I.turned (t':=s.toks) (fun b o hb q=>eb b o hb q) g0 g1 g3 g4 g5⟩
 self:=fun _ _ _ _ _ st h=>by
  obtain⟨⟨old,he⟩,_⟩:=st
  exact wpAny_pyIter_enum he h
section
variable {X:Cx}
theorem av6 {a:Expr}{ta:TA}{elts:List Expr}{x1:Nat}{tpos p pos:Pos}(hg:Gl X "enumerate")(hm:X.mg "enumerate"=none)(ha:PA X [a] ta)(hv:bootBuiltins "enumerate"=some (.type "enumerate"):=by rfl)(hs:starEach [a] X.env=[(false,eval a X.env)]:=by rfl) :
  PI X (.Tuple elts x1 tpos) (.Call (.Name "enumerate" p) [a] [] pos) (aJ5 X.K ta):=by
 intro pins s σ H R I h
 refine Call_ (F1 I hg hm hv (PyProof.Rows.callWith_type1 (thn (ha pos pins s σ H _ I h) fun us s1 ⟨vs,H1,I1,r1,q1⟩=>?_) hs rfl))
 obtain⟨b,e,⟨xs,hq⟩,q⟩:=q1
 subst e
 obtain⟨u,rfl,rx⟩:=vals1 r1
 cases rx
 obtain⟨its,rv,pl,hz⟩:=I1.list hq
 refine call_enumerate_list pl.isList fun h' he hit hsz kp=>?_
 refine wpAny_pyIter_enum he ?_
 have hne:s1.heap.objs.size+1≠s1.heap.objs.size:=Nat.succ_ne_self _
 refine⟨s1.heap.objs.size+1,[s1.heap.objs.size+1,s1.heap.objs.size],_,_,H1,rfl,I1.kept (t':=s1.toks) kp,aj1 b s1.heap.objs.size (s1.heap.objs.size+1) hne,⟨⟨_,he⟩,hit⟩,fun c hc=>?_,q⟩
 rcases b9.mp hc with rfl | hc
 ·exact I1.fpOk (t7 _) (I1.hok.fresh (t7 _))
 ·have e:c=s1.heap.objs.size:=by simpa using hc
  subst e
  exact I1.fpOk (a8 _) (I1.hok.fresh (a8 _))
end
theorem al2 {K:W.Frag}{a D:Addr}{ys:List V}{g:TG}{tt:TT}{te:TE}{Qd:Hp->Prop}{σ0:St}{H0:Hp}(Pv:Nat->List V->St->Hp->Prop)(h0:Pv 0 [] σ0 H0)(hz:ys.length<=sizeLine)(hl:∀ i xs σ H,i<=ys.length->Pv i xs σ H->SqL K H a ys/\H D=some (.lst xs)/\xs.length<=i)
  (hs:∀ i xs x σ H (N:List V->St->Hp->Prop),(∀ xs' σ' H',Pv (i+1) xs' σ' H'->N xs' σ' H')->ys[i]?=some x->Pv i xs σ H->g x σ H fun σ2 H2=>tt σ2 H2 fun b H3=>if b=true then te σ2 H3 fun v H4=>H4 D=some (.lst xs)/\N (xs++[v]) σ2 (upd H4 D (.lst (xs++[v]))) else N xs σ2 H3)
  (hd:∀ xs σ H,Pv ys.length xs σ H->Qd H) :
  ∃ W:Nat->Nat->List V->St->Hp->Prop,(∃ m,W 0 m [] σ0 H0)/\∀ i m xs σ' H',W i m xs σ' H'->H' D=some (.lst xs)/\(((Itl K a).stop i H'/\Qd H')\/((Itl K a).go i H'/\xs.length<sizeLine/\∀ x H'',(Itl K a).yld i H' x H''->g x σ' H'' fun σ2 H2=>tt σ2 H2 fun b H3 =>
   if b=true then te σ2 H3 fun v H4=>H4 D=some (.lst xs)/\∃ m',m'<m/\W (i+1) m' (xs++[v]) σ2 (upd H4 D (.lst (xs++[v]))) else ∃ m',m'<m/\W (i+1) m' xs σ2 H3)):=by
 refine⟨fun i m xs σ H=>m=ys.length - i/\i<=ys.length/\Pv i xs σ H,⟨ys.length,by simp,i3 _,h0⟩,?_⟩
 rintro i m xs σ H ⟨rfl,hi,p⟩
 obtain⟨q,hD,hx⟩:=hl i xs σ H hi p
 refine⟨hD,?_⟩
 by_cases hlt:i<ys.length
 ·refine .inr ⟨⟨ys,ys[i],q,by simp[hlt]⟩,by omega,fun x H'' y=>?_⟩
  obtain⟨e,y⟩:=y
  subst e
  exact hs i xs x σ _ (fun zs σ' H'=>∃ m',m'<ys.length - i/\m'=ys.length - (i+1)/\i+1<=ys.length/\Pv (i+1) zs σ' H') (fun zs σ' H' r=>⟨_,by omega,rfl,hlt,r⟩) (y ys q) p
 ·have e:i=ys.length:=by omega
  subst e
  exact .inl ⟨⟨ys,q,a8 _⟩,hd xs σ H p⟩
theorem as3 {K:W.Frag}{a D:Addr}{ys:List V}{g:TG}{tt:TT}{te:TE}{Qd:Hp->Prop}{σ0:St}{H0:Hp}(Pv:Nat->List V->St->Hp->Prop)(h0:Pv 0 [] σ0 H0)(hz:ys.length<=sizeLine)(hl:∀ i xs σ H,i<=ys.length->Pv i xs σ H->SqT K H a ys/\H D=some (.lst xs)/\xs.length<=i)
  (hs:∀ i xs x σ H (N:List V->St->Hp->Prop),(∀ xs' σ' H',Pv (i+1) xs' σ' H'->N xs' σ' H')->ys[i]?=some x->Pv i xs σ H->g x σ H fun σ2 H2=>tt σ2 H2 fun b H3=>if b=true then te σ2 H3 fun v H4=>H4 D=some (.lst xs)/\N (xs++[v]) σ2 (upd H4 D (.lst (xs++[v]))) else N xs σ2 H3)
  (hd:∀ xs σ H,Pv ys.length xs σ H->Qd H) :
  ∃ W:Nat->Nat->List V->St->Hp->Prop,(∃ m,W 0 m [] σ0 H0)/\∀ i m xs σ' H',W i m xs σ' H'->H' D=some (.lst xs)/\(((Itt K a).stop i H'/\Qd H')\/((Itt K a).go i H'/\xs.length<sizeLine/\∀ x H'',(Itt K a).yld i H' x H''->g x σ' H'' fun σ2 H2=>tt σ2 H2 fun b H3 =>
   if b=true then te σ2 H3 fun v H4=>H4 D=some (.lst xs)/\∃ m',m'<m/\W (i+1) m' (xs++[v]) σ2 (upd H4 D (.lst (xs++[v]))) else ∃ m',m'<m/\W (i+1) m' xs σ2 H3)):=by
 refine⟨fun i m xs σ H=>m=ys.length - i/\i<=ys.length/\Pv i xs σ H,⟨ys.length,by simp,i3 _,h0⟩,?_⟩
 rintro i m xs σ H ⟨rfl,hi,p⟩
 obtain⟨q,hD,hx⟩:=hl i xs σ H hi p
 refine⟨hD,?_⟩
 by_cases hlt:i<ys.length
 ·refine .inr ⟨⟨ys,ys[i],q,by simp[hlt]⟩,by omega,fun x H'' y=>?_⟩
  obtain⟨e,y⟩:=y
  subst e
  exact hs i xs x σ _ (fun zs σ' H'=>∃ m',m'<ys.length - i/\m'=ys.length - (i+1)/\i+1<=ys.length/\Pv (i+1) zs σ' H') (fun zs σ' H' r=>⟨_,by omega,rfl,hlt,r⟩) (y ys q) p
 ·have e:i=ys.length:=by omega
  subst e
  exact .inl ⟨⟨ys,q,a8 _⟩,hd xs σ H p⟩
mutual
def Dt (K:W.Frag)(H:Hp):PyData->V->Prop
 | .none,v=>v=.non
 | .bool b,v=>v=.bl b
 | .int i,v=>v=.int i
 | .str x,v=>v=.str x
 | .list ds,v=>∃ a xs,v=.ref a/\SqL K H a xs/\x9 K H ds xs
 | .tuple ds,v=>∃ a xs,v=.ref a/\SqT K H a xs/\x9 K H ds xs
 | .dict _,_=>False
def x9 (K:W.Frag)(H:Hp):List PyData->List V->Prop
 | [],xs=>xs=[]
 | d::ds,xs=>∃ y ys,xs=y::ys/\Dt K H d y/\x9 K H ds ys
end
section
variable {X:Cx} {pins:List (Addr × Obj)} {σ:St} {H:Hp} {s:Shared}
mutual
theorem Dt.reads (I:Inv X pins σ H s):∀ (d:PyData) (v:V) (u:Value),Dt X.K H d v->RelV v u->∃ as,Reads s.heap u d as
 | .none,v,u,h,r=>by unfold Dt at h;subst h;cases r;exact⟨_,.none⟩
 | .bool b,v,u,h,r=>by unfold Dt at h;subst h;cases r;exact⟨_,.bool b⟩
 | .int i,v,u,h,r=>by unfold Dt at h;subst h;obtain⟨t,rfl⟩:=r;exact⟨_,.int i t⟩
 | .str x,v,u,h,r=>by unfold Dt at h;subst h;obtain⟨t,rfl⟩:=r;exact⟨_,.str x t⟩
 | .list ds,v,u,h,r=>by
  unfold Dt at h
  obtain⟨a,xs,rfl,hq,hd⟩:=h
  cases r
  obtain⟨its,rv,⟨o,n,ho,hc,_,hdd⟩,_⟩:=I.list hq
  obtain⟨as,ra⟩:=x9.reads I ds xs its hd rv
  exact⟨_,.list ho hc hdd (by simpa using ra)⟩
 | .tuple ds,v,u,h,r=>by
  unfold Dt at h
  obtain⟨a,xs,rfl,hq,hd⟩:=h
  cases r
  obtain⟨its,rv,⟨o,ho,hc,n,hdd⟩,_⟩:=I.tuple hq
  obtain⟨as,ra⟩:=x9.reads I ds xs its hd rv
  exact⟨_,.tuple ho hc hdd (by simpa using ra)⟩
 | .dict _,v,u,h,r=>by unfold Dt at h;exact h.elim
theorem x9.reads (I:Inv X pins σ H s):∀ (ds:List PyData) (xs:List V) (us:List Value),x9 X.K H ds xs->l7 xs us->∃ as,ReadsAll s.heap us ds as
 | [],xs,us,h,r=>by unfold x9 at h;subst h;cases r;exact⟨_,.nil⟩
 | d::ds,xs,us,h,r=>by
  unfold x9 at h
  obtain⟨y,ys,rfl,h1,h2⟩:=h
  cases r with
  | cons q t =>
   obtain⟨as,ra⟩:=Dt.reads I d y _ h1 q
   obtain⟨bs,rb⟩:=x9.reads I ds ys _ h2 t
   exact⟨_,.cons ra rb⟩
end
end
mutual
theorem Dt.same {K:W.Frag}{H H':Hp}(hs:∀ b o,H b=some o->H' b=some o):∀ (d:PyData) (v:V),Dt K H d v->Dt K H' d v
 | .none,v,h=>by unfold Dt at h ⊢;exact h
 | .bool b,v,h=>by unfold Dt at h ⊢;exact h
 | .int i,v,h=>by unfold Dt at h ⊢;exact h
 | .str x,v,h=>by unfold Dt at h ⊢;exact h
 | .list ds,v,h=>by
  unfold Dt at h ⊢
  obtain⟨a,xs,rfl,hq,hd⟩:=h
  refine⟨a,xs,rfl,?_,x9.same hs ds xs hd⟩
  rcases hq with(h | ⟨o,h⟩) | h
  ·exact .inl (.inl (hs _ _ h))
  ·exact .inl (.inr ⟨o,hs _ _ h⟩)
  ·exact .inr h
 | .tuple ds,v,h=>by
  unfold Dt at h ⊢
  obtain⟨a,xs,rfl,hq,hd⟩:=h
  refine⟨a,xs,rfl,?_,x9.same hs ds xs hd⟩
  rcases hq with(h | ⟨o,h⟩) | h
  ·exact .inl (.inl (hs _ _ h))
  ·exact .inl (.inr ⟨o,hs _ _ h⟩)
  ·exact .inr h
 | .dict _,v,h=>by unfold Dt at h;exact h.elim
theorem x9.same {K:W.Frag}{H H':Hp}(hs:∀ b o,H b=some o->H' b=some o):∀ (ds:List PyData) (xs:List V),x9 K H ds xs->x9 K H' ds xs
 | [],xs,h=>by unfold x9 at h ⊢;exact h
 | d::ds,xs,h=>by
  unfold x9 at h ⊢
  obtain⟨y,ys,rfl,h1,h2⟩:=h
  exact⟨y,ys,rfl,Dt.same hs d y h1,x9.same hs ds ys h2⟩
end
section
variable {X:Cx}
theorem aa9:A9 X (.builtin "isinstance") (fun xs H Q=>∃ x c t b,xs=[x,.ty c]/\K4 X.K H x t/\PySem.W.kitOne X.K t (.type c)=some b/\Q (.bl b) H):=by
 intro pins s σ H xs us Q I r h
 obtain⟨x,c,t,b,rfl,ty,e,q⟩:=h
 obtain⟨u,v,rfl,ru,rv⟩:=r.two
 cases (show v=Value.type c from rv)
 exact ak4 I ru ty e fun tk=>⟨.bl b,H,I.tok _,rfl,q⟩
end
end L2
namespace L2
open PySem PySem.Spec PyProof.Rows
section
variable {X:Cx}
end
section
variable {X:Cx}
end
def LkL (X:Cx)(scope:Scope)(cl:List (Str × Addr)):List Str->List (Option Nat)->Prop
 | [],[]=>True
 | _::N,none::lk=>LkL X scope cl N lk
 | x::N,some j::lk=>(X.N[j]?=some x/\(X.env.scope.names.lookup x=some .cell\/X.env.scope.names.lookup x=some .free)/\(cl.lookup x).isSome=true /\
  ((compEnvC scope cl 0 X.env).kindOf x=some .cell\/(compEnvC scope cl 0 X.env).kindOf x=some .free))/\LkL X scope cl N lk
 | _,_=>False
theorem LkL.len {X:Cx}{scope:Scope}{cl:List (Str × Addr)}:∀ {N:List Str} {lk:List (Option Nat)},LkL X scope cl N lk->lk.length=N.length
 | [],[],_=>rfl
 | _::N,none::lk,h=>congrArg (·+1) (LkL.len (N:=N) (lk:=lk) h)
 | _::N,some _::lk,h=>congrArg (·+1) (LkL.len (N:=N) (lk:=lk) h.2)
 | [],_::_,h=>h.elim
 | _::_,[],h=>h.elim
theorem LkL.get {X:Cx}{scope:Scope}{cl:List (Str × Addr)}:∀ {N:List Str} {lk:List (Option Nat)},LkL X scope cl N lk->∀ (i j:Nat) (x:Str),N[i]?=some x->lk[i]?=some (some j) ->
  X.N[j]?=some x/\(X.env.scope.names.lookup x=some .cell\/X.env.scope.names.lookup x=some .free)/\(cl.lookup x).isSome=true/\((compEnvC scope cl 0 X.env).kindOf x=some .cell\/(compEnvC scope cl 0 X.env).kindOf x=some .free)
 | [],[],_,i,j,x,h1,_=>by simp at h1
 | _::N,none::lk,h,0,j,x,h1,h2=>by simp at h2
 | _::N,none::lk,h,i+1,j,x,h1,h2=>LkL.get (N:=N) (lk:=lk) h i j x (by simpa using h1) (by simpa using h2)
 | y::N,some k::lk,h,0,j,x,h1,h2=>by
  simp at h1 h2
  subst h1 h2
  exact h.1
 | _::N,some _::lk,h,i+1,j,x,h1,h2=>LkL.get (N:=N) (lk:=lk) h.2 i j x (by simpa using h1) (by simpa using h2)
 | [],_::_,h,_,_,_,_,_=>h.elim
 | _::_,[],h,_,_,_,_,_=>h.elim
theorem LkL.ok {X:Cx}{scope:Scope}{cl:List (Str × Addr)}{N:List Str}{lk:List (Option Nat)}(h:LkL X scope cl N lk):ab1 X N lk scope cl:=⟨h.len,h.get⟩
theorem J8 {σ:St}{H:Hp}{A B:Hp->Prop}(h:A H):az3 σ H (fun b H3=>if b=true then A H3 else B H3):=by
 show if true=true then A H else B H
 exact B4 h
theorem o7 {i:Nat}{v:V}{σ:St}{H:Hp}{Q:St->Hp->Prop}(h:Q (σ.set i (some v)) H):R3 i v σ H Q:=h
theorem SqT.updL {K:W.Frag}{H:Hp}{a l:Addr}{xs:List V}{ys zs:List V}(h:SqT K H a ys)(hl:H l=some (.lst xs)):SqT K (upd H l (.lst zs)) a ys:=by
 rcases h with(h | ⟨o,h⟩) | h
 ·exact .inl (.inl (by rw[j1 (aq6 h hl (by intro z;cases z))];exact h))
 ·exact .inl (.inr ⟨o,by rw[j1 (aq6 h hl (by intro z;cases z))];exact h⟩)
 ·exact .inr h
theorem o6.updL {K:W.Frag}{H:Hp}{l:Addr}{xs zs:List V}(hl:H l=some (.lst xs)):∀ {ys:List V} {ks:List (List Int)},o6 K H ys ks->o6 K (upd H l (.lst zs)) ys ks
 | _,_,.nil=>.nil
 | _,_,.cons r t=>by
  obtain⟨a,h1,h2⟩:=r
  exact .cons ⟨a,h1,h2.updL hl⟩ (o6.updL hl t)
theorem o6.one {K:W.Frag}{H:Hp}{a:Addr}{k:List Int}(h:SqT K H a (k.map V.int)):o6 K H [.ref a] [k]:=.cons ⟨a,rfl,h⟩ .nil
theorem m5.seqT {K:W.Frag}{H H':Hp}{a:Addr}{xs:List V}(e:m5 H H')(h:SqT K H a xs):SqT K H' a xs:=by
 rcases h with(h | ⟨o,h⟩) | h
 ·exact .inl (.inl (e _ _ h))
 ·exact .inl (.inr ⟨o,e _ _ h⟩)
 ·exact .inr h
theorem m5.tups {K:W.Frag}{H H':Hp}{ys:List V}{ks:List (List Int)}(e:m5 H H')(h:o6 K H ys ks):o6 K H' ys ks:=o6.same e h
theorem m5.upd {H H':Hp}{l:Addr}{o:HO}(e:m5 H H')(h:H l=none):m5 H (upd H' l o):=fun b u q=>by
 rw[j1 (l5 q h)]
 exact e b u q
end L2
namespace L2
open PySem
theorem R1 {i:Nat}{v v':V}{σ:St}{H:Hp}{Q:St->Hp->Prop}(e:v=v')(h:R3 i v' σ H Q):R3 i v σ H Q:=by
 rw[e]
 exact h
theorem n5 {X:Cx}(K:W.Frag)(hK:X.K=K):A9 X (.builtin "isinstance") (fun xs H Q=>∃ x c t b,xs=[x,.ty c]/\K4 K H x t/\PySem.W.kitOne K t (.type c)=some b/\Q (.bl b) H):=by
 subst hK
 exact aa9
theorem y2 {i:Nat}{z:Int}{σ:St}{H:Hp}{Q:St->Hp->Prop}(h:∀ c:Int,c=z->R3 i (.int c) σ H Q):R3 i (.int z) σ H Q:=h z rfl
theorem int_at {ns:List Int}{i:Nat}{x:V}(h:(ns.map V.int)[i]?=some x):∃ z:Int,x=V.int z:=by
 rw[i8]at h
 cases e:ns[i]? with
 | none=>rw[e]at h;cases h
 | some z=>rw[e]at h;exact⟨z,(Option.some.inj h).symm⟩
theorem al0 (ns:List Int)(lo hi:Option Int):∃ ms:List Int,al1 (ns.map V.int) lo hi=ms.map V.int/\ms.length<=ns.length:=by
 unfold al1
 rw[<- List.map_drop,<- List.map_take]
 exact⟨_,rfl,by rw[v3,X0];omega⟩
theorem O4 {n j:Nat}(h:j<n):ixN n (j:Int)=some j:=by
 unfold ixN
 rw[if_pos (by omega),if_pos (by omega)]
 simp
end L2
namespace Web
open PySem L2
def C3 (i m:Nat):List (List Int):=(i7 m).map fun(d:Nat)=>([(i:Int),(i:Int)+1+(d:Int)]:List Int)
def A4 (n:Nat):List (List Int):=(i7 n).flatMap fun i=>C3 i (n - (i+1))
def Up (n:Nat)(k:List Int):Prop:=∃ i j:Nat,i<j/\j<n/\k=[(i:Int),(j:Int)]
theorem ak0 {n:Nat}{k:List Int}(h:k∈A4 n):Up n k:=by
 unfold A4 at h
 obtain⟨i,hi,hk⟩:=X1.mp h
 unfold C3 at hk
 obtain⟨d,hd,rfl⟩:=k7.mp hk
 rw[j7]at hi hd
 exact⟨i,i+1+d,by omega,by omega,by simp⟩
def Asc (ks:List (List Int)):Prop:=ks.Pairwise fun a b=>Tim.v9 a b=true
theorem ay6 (i m:Nat):Asc (C3 i m):=by
 unfold Asc C3
 rw[w8]
 refine List.Pairwise.imp ?_ A6
 intro a b hab
 unfold Tim.v9
 rw[if_pos rfl]
 unfold Tim.v9
 rw[if_neg (by omega)]
 exact decide_eq_true (by omega)
theorem al6 (n:Nat):Asc (A4 n):=by
 unfold Asc A4
 rw[List.pairwise_flatMap]
 refine⟨fun i _=>ay6 i _,?_⟩
 refine List.Pairwise.imp ?_ A6
 intro a b hab x hx y hy
 unfold C3 at hx hy
 obtain⟨d,hd,rfl⟩:=k7.mp hx
 obtain⟨e,he,rfl⟩:=k7.mp hy
 unfold Tim.v9
 rw[if_neg (by omega)]
 exact decide_eq_true (by omega)
theorem T8:∀ n:Nat,n<=24->(A4 n).length<=276:=by decide +kernel
theorem P8 (n i:Nat):((i7 (i+1)).flatMap fun j=>C3 j (n - (j+1)))=((i7 i).flatMap fun j=>C3 j (n - (j+1)))++C3 i (n - (i+1)):=by
 rw[C1,N7]
 simp
theorem aj3 (i m:Nat):C3 i (m+1)=C3 i m++[[(i:Int),(i:Int)+1+(m:Int)]]:=by
 unfold C3
 rw[C1,i9]
 rfl
theorem ar0 (n:Nat):∀ i:Nat,i<=n->((i7 i).flatMap fun j=>C3 j (n - (j+1))).length<=(A4 n).length:=by
 intro i hi
 unfold A4
 obtain⟨d,rfl⟩:=Nat.exists_eq_add_of_le hi
 rw[List.range_add,N7,d7]
 omega
theorem al7 {ks:List (List Int)}(h:Asc ks):ks.Nodup:=by
 refine List.Pairwise.imp ?_ h
 intro a b hab e
 subst e
 rw[Tim.K2]at hab
 cases hab
theorem ay4 {ks ls:List (List Int)}(h:ks.Sublist ls)(a:Asc ls):Asc ks:=List.Pairwise.sublist h a
def up:List Int->List Int
 | [a,b]=>[if b<a then b else a,if b > a then b else a]
 | k=>k
theorem aG4 {n:Nat}{k:List Int}(h:Up n k):up k=k:=by
 obtain⟨i,j,h1,h2,rfl⟩:=h
 show [if (j:Int)<i then (j:Int) else i,if (j:Int) > i then (j:Int) else i]=_
 rw[if_neg (by omega),if_pos (by omega)]
theorem Up.key {n:Nat}{k:List Int}(h:Up n k)(hn:n<=24):Sett.M7 k:=by
 obtain⟨i,j,h1,h2,rfl⟩:=h
 exact⟨i,j,by omega,by omega,rfl⟩
theorem Up.len {n:Nat}{k:List Int}(h:Up n k):k.length=2:=by
 obtain⟨i,j,h1,h2,rfl⟩:=h
 rfl
def ab2 (n:Nat)(k:List Int):Prop:=∃ i j:Nat,i<n/\j<n/\i≠j/\k=[(i:Int),(j:Int)]
theorem Up.ends {n:Nat}{k:List Int}(h:Up n k):ab2 n k:=by
 obtain⟨i,j,h1,h2,rfl⟩:=h
 exact⟨i,j,by omega,h2,by omega,rfl⟩
end Web
namespace L2
open PySem
def B9.around {k:Nat}{A:Around}(_:B9 k A):Around:=A
end L2
namespace L2
open PySem PySem.Spec PyProof.Rows
section
variable {X:Cx} {o e:Expr} {es:List Expr} {to:TE} {t:TA} {name:Str} {apos cpos:Pos} {T id:String} {r:V->List V->Hp->VK->Prop}
end
section
variable {prog:Program} {w:World} {A:Around} {E:Value->Shared->Prop} {s:Shared}
end
section
variable {X:Cx} {pins:List (Addr × Obj)} {σ:St} {H:Hp} {s:Shared} {A:Around} {E:Value->Shared->Prop}
end
section
variable {X:Cx} {pins:List (Addr × Obj)} {σ:St} {H:Hp} {s:Shared} {A:Around} {E:Value->Shared->Prop}
end
section
variable {X:Cx} {pins:List (Addr × Obj)} {σ:St} {H:Hp} {s:Shared} {A:Around} {E:Value->Shared->Prop}
end
section
variable {X:Cx} {pins:List (Addr × Obj)} {σ:St} {H:Hp} {s:Shared} {A:Around}
end
structure aN0 (base:Heap) (mg:Str->Option Value) (c P:Addr):Prop where
 hd:PySem.W.CodeHd base c P
 blt:base.BuiltinsAt mg P
 ne:mainGlobals≠P
section
variable {X:Cx}
end
def aG6 (ta:TA):TE:=fun σ H Q=>ta σ H fun vs H1=>∃ n:Nat,vs=[.int n]/\n<=1000/\∀ r,H1 r=none->Q (.ref r) (upd H1 r (.rng 0 n))
section
variable {X:Cx}
theorem av8 {a:Expr}{ta:TA}{p pos:Pos}(hg:Gl X "range")(hm:X.mg "range"=none)(ha:PA X [a] ta)(hs:starEach [a] X.env=[(false,eval a X.env)]:=by rfl):PE X (.Call (.Name "range" p) [a] [] pos) (aG6 ta):=by
 intro pins s σ H Q I h
 refine Call_ (F1 I hg hm boot_range (PyProof.Rows.callWith_type1 (thn (ha pos pins s σ H _ I h) fun us s1 ⟨vs,H1,I1,r1,q1⟩=>?_) hs rfl))
 obtain⟨n,e,hn,q⟩:=q1
 subst e
 cases r1 with
 | cons r rr =>
  cases rr
  obtain⟨t,rfl⟩:=r
  refine call_range_1 ?_
  have hf:H1 s1.heap.objs.size=none:=I1.hok.fresh (a8 _)
  exact⟨.ref s1.heap.objs.size,upd H1 s1.heap.objs.size (.rng 0 n),I1.laid (fun b o e=>a7 _ e) (a8 _) ⟨_,_,_,b5 _ rfl⟩,rfl,q _ hf⟩
end
section
variable {P:Program} {w:World} {K:W.Frag} {mg:Str->Option Value} {base:Heap} {N:List Str} {qual:Str} {scope:Scope} {f:Addr} {cd:Value} {A:Around} {outer:List Env} {s:Shared} {H:Hp} {E:XK}
 {pins:List (Addr × Obj)} {σ:St} {H1:Hp} {s1:Shared}
end
structure aN2 (K:W.Frag) (C:Addr):Prop where
 q:PySem.W.excIn K C [.type "ValueError",.type "Exception",.type "BaseException",.type "object"] "ValueError.__new__"=true
section
variable {P:Program} {w:World} {K:W.Frag} {mg:Str->Option Value} {base:Heap} {N:List Str} {qual:Str} {scope:Scope} {f:Addr} {cd:Value} {A:Around} {outer:List Env} {s:Shared} {H:Hp} {E:XK}
end
section
variable {X:Cx} {pins pins':List (Addr × Obj)} {σ:St} {H:Hp} {s:Shared} {E:St->XK}
end
section
variable {X:Cx} {CX:CXT} {k:Nat} {f:Addr} {fd:FuncData} {ps:List Str} {sp:Sp} {E:St->XK} {x:Str} {p pos:Pos} {e:Expr} {es:List Expr} {t:TA}
end
section
variable {X:Cx} {pins:List (Addr × Obj)} {σ:St} {H:Hp} {s:Shared}
end
end L2
set_option maxRecDepth 100000
namespace L2
open PySem PySem.Spec PyProof.Rows PySem.W
structure aN1 (K:W.Frag) (C:Addr):Prop where
 ga:findIn K (.ref C) "__getattribute__"=some (some (.builtin "BaseException.__getattribute__"))
 na:findIn K (.ref C) "__getattr__"=some none
 cl:findIn K (.ref C) "__class__"=some (some (.builtin "object.__class__"))
 sb:subIn K (.ref C) (.type "BaseException")=some true
 so:subIn K (.ref C) (.type "object")=some true
 cs:(clsIn K C).isSome=true
section
variable {prog:Program} {w:World} {A:Around} {E:Value->Shared->Prop} {h:Heap} {g:Array GenState} {d:Drawn} {t:Nat} {os:OsState} {a C:Addr} {o:Obj} {K:W.Frag}
end
section
variable {X:Cx}
end
end L2
namespace L2
open PySem PySem.Spec PyProof.Rows
section
variable {X:Cx} {pins:List (Addr × Obj)} {σ:St} {H:Hp} {s:Shared} {A:Around} {E:Value->Shared->Prop}
theorem P1 (I:Inv X pins σ H s){h1:Heap}{vs:List Value}{out:Array Value}{zs:List Int}(kp:∀ b o',s.heap.get? b=some o'->h1.get? b=some o')(hi:IntsAre out.toList zs)(hz:zs.length<=1000) :
  H h1.objs.size=none/\Inv X pins σ (upd H h1.objs.size (.lst (zs.map V.int))) { s with heap:=sortedHeap (h1.push (seqObj "list" vs.toArray 0)) h1.objs.size vs out }:=by
 have I1:Inv X pins σ H { s with heap:=h1,toks:=s.toks }:=I.kept kp
 refine⟨I1.hok.fresh (a8 _),?_⟩
 have hoL:(h1.push (seqObj "list" vs.toArray 0)).get? h1.objs.size=some (seqObj "list" vs.toArray 0):=b5 _ rfl
 obtain⟨e,he⟩:=sortedHeap_at (out:=out) hoL
 refine I1.laid (t':=s.toks) (fun b o q=>?_) (a8 _) ⟨by rw[b4,sizeLine_eq];omega,out.toList,e,F5 hi,by rw[at3];exact he⟩
 have hb:b<h1.objs.size:=b0 q
 rw[sortedHeap_old (c3 hb) (by rw[size_push'];exact j0 hb)]
 exact a7 _ q
end
section
variable {X:Cx}
end
section
variable {X:Cx}
end
section
variable {X:Cx}
end
section
variable {X:Cx}
theorem al3 {elt iter tg:Expr} {ifs:List Expr} {scope:Scope} {pos ipos:Pos} {cl:List (Str × Addr)} {N':List Str} {lk:List (Option Nat)} {wi:TI} {g:TG} {tt:TT} {te:TE} {use:Option (Value->Sem Unit)} {R:Value->Shared->Prop} {Q:VK} {pins:List (Addr × Obj)} {s:Shared} {σ:St} {H:Hp}
  (hc:X.calm=true) (hi:PI X tg iter wi) (hclos:closureFor scope X.env=pure cl) (hkind:scope.kind=.function)
  (hnames:∀ y∈scope.names,y.2=.local->scope.names.lookup y.1=some .local) (hcl:S0 X.env cl) (hfr:af2 scope.names cl=true) (hlk:ab1 X N' lk scope cl)
  (hg:∀ s3 H3 fp,PG (n4 X scope cl N' s3 H3 fp fun _ _=>False) tg g) (ht:∀ s3 H3 fp,PTs (n4 X scope cl N' s3 H3 fp fun _ _=>False) ifs tt) (he:∀ s3 H3 fp,PE (n4 X scope cl N' s3 H3 fp fun _ _=>False) elt te)
  (hs:∀ x,foldedSetIterable iter X.env x=pure x) (I:Inv X pins σ H s) (h:X7 wi lk g tt te σ H Q)
  (hend : ∀ (C D : Addr) (s' : Shared) (H' : Hp), Inv X pins σ H' s' -> Q (.ref D) H' -> H' C = none -> C ≠ X.env.locals -> X.s₀.heap.objs.size <= C -> (∀ x c, X.env.cells.lookup x = some c -> c ≠ C) -> (∀ p ∈ X.pn ++ pins, p.1 ≠ C) -> (∃ m, s'.heap.Ns C m) ->
   compPost (model X.prog X.w) X.A X.xe use R (.ref D) C (.ok .next) s') :
  wpAny (model X.prog X.w) X.A (comprehension (.ListComp elt [⟨tg,iter,ifs,0⟩] scope pos) scope X.env ipos (newList []) false (eval iter X.env) use) R X.xe s:=by
 have hcellN:∀ y∈scope.names,y.2≠.cell:=fun y hy=>by
  unfold af2 at hfr
  rw[G9]at hfr
  have:=hfr y hy
  rw[v5]at this
  simpa using this.1
 refine wpAny_comprehension_free (use:=use) rfl hs hclos hkind hnames (thn (hi pins s σ H _ I h) fun v s1 h1=>thn h1 fun itv s2 h2=>?_)
 obtain⟨it,fp,tn,J,H2,e,I2,T,st2,f2,q⟩:=h2
 subst e
 refine wpAny_newList ?_ (i3 _)
 have hD:H2 s2.heap.objs.size=none:=I2.hok.fresh (a8 _)
 have I3:=I2.lnew (ys:=[]) (its:=[]) (t':=s2.toks) .nil (i3 _)
 obtain⟨W,⟨m0,w0⟩,turn⟩:=q s2.heap.objs.size hD
 have fpl:∀ b∈fp,b<s2.heap.objs.size:=fun b hb=>by
  obtain⟨o,ho,_⟩:=T.obj 0 s2.heap st2 b hb
  exact b0 ho
 refine wpAny_newFunctionEnv hcellN (by intro y hy;cases hy) (fun h1 hns1 hsb1=>?_) hkind
 dsimp only at hns1 hsb1 ⊢
 have e3:s2.heap.push { cls:=.type "list",dict:=none,data:=.seq ([]:List Value).toArray }=s2.heap.push { cls:=.type "list",data:=.seq ([]:List Value).toArray }:=rfl
 generalize hh3:s2.heap.push { cls:=.type "list",dict:=none,data:=.seq ([]:List Value).toArray }=h3 at *
 have I3':Inv X pins σ (upd H2 s2.heap.objs.size (.lst [])) { s2 with heap:=h3,toks:=s2.toks }:=I3
 have size3:h3.objs.size=s2.heap.objs.size+1:=by rw[<- hh3,l8]
 have f3:∀ b∈fp,K6 X pins (upd H2 s2.heap.objs.size (.lst [])) b:=fun b hb=>by
  obtain⟨f0,fr⟩:=f2 b hb
  exact⟨by rw[j1 (c3 (fpl b hb))];exact f0,fr⟩
 have up:∀ b u,h3.get? b=some u->h1.get? b=some u:=fun b u eb=>by
  rw[hsb1.2 b (c3 (b0 eb))]
  exact a7 _ eb
 have I4:Inv (n4 X scope cl N' { s2 with heap:=h3,toks:=s2.toks } (upd H2 s2.heap.objs.size (.lst [])) fp fun _ _=>False) [] (F4 lk σ) (upd H2 s2.heap.objs.size (.lst [])) { s2 with heap:=h1,toks:=s2.toks+([]:List (Str × Value)).length }:=
  R5 (s3:={ s2 with heap:=h3,toks:=s2.toks }) I3' f3 hkind hcl hfr hlk hns1 up fun b hb=>by show b<h3.objs.size;rw[size3];exact j0 (fpl b hb)
 have st4:tn 0 h1:=T.keep 0 s2.heap h1 st2 fun b hb o eb=>up b o (by rw[<- hh3];exact a7 _ eb)
 have hCs:h3.objs.size=(compEnvC scope cl h3.objs.size X.env).locals:=rfl
 have stat:∀ {H':Hp},(∀ b∈fp,H' b=none)->∀ b∈fp,K6 (n4 X scope cl N' { s2 with heap:=h3,toks:=s2.toks } (upd H2 s2.heap.objs.size (.lst [])) fp fun _ _=>False) [] H' b:=fun {H'} hn b hb=>by
  obtain⟨f0,f1,f2',f3',f4,f5⟩:=f3 b hb
  refine⟨hn b hb,?_,fun z=>?_,.inl hb,fun x c ex=>f4 x c (hcl.get ex),fun p hp=>nomatch hp⟩
  ·show b≠h3.objs.size
   rw[size3]
   exact c3 (j0 (fpl b hb))
  ·rcases b9.mp (I3'.stkSub b z) with q | q
   ·exact f1 q
   ·exact f2' q
 have fin:∀ (s':Shared) (σ':St) (H':Hp),Inv (n4 X scope cl N' { s2 with heap:=h3,toks:=s2.toks } (upd H2 s2.heap.objs.size (.lst [])) fp fun _ _=>False) [] σ' H' s'->Q (.ref s2.heap.objs.size) H' ->
   compPost (model X.prog X.w) X.A X.xe use R (.ref s2.heap.objs.size) h3.objs.size (.ok .next) s':=fun s' σ' H' I' q'=>by
  obtain⟨m,hm,_⟩:=id I'.loc
  have I5:Inv X pins σ H' s':=I3'.call' (ch:=fp) I'.os I'.base I'.hok I'.bare fun b hb=>by
   obtain⟨f0,f1,f2',f3',f4,f5⟩:=f3 b hb
   exact⟨f3',f1,f4,f5⟩
  exact hend h3.objs.size s2.heap.objs.size s' H' I5 q' I'.free (u5 I3'.lt) I3'.sz (fun x c ex z=>by
   obtain⟨v',q2⟩:=I3'.cell x c ex
   exact absurd q2.lt (by rw[z];exact l6 _)) (fun p hp z=>absurd (b0 (I3'.pin p hp).1) (by rw[z];exact l6 _)) ⟨m,hm⟩
 have loop:∀ s5:Shared,s5={ s2 with heap:=h1,toks:=s2.toks+([]:List (Str × Value)).length } ->
   codeAny (model X.prog X.w) X.A (.compLoop (.ListComp elt [⟨tg,iter,ifs,0⟩] scope pos) 0 (.ref it) (.ref s2.heap.objs.size) (compEnvC scope cl h3.objs.size X.env)) (compPost (model X.prog X.w) X.A X.xe use R (.ref s2.heap.objs.size) h3.objs.size) s5:=by
  rintro s5 rfl
  refine codeAny_loop rfl (fun n s'=>∃ i xs σ' H',Inv (n4 X scope cl N' { s2 with heap:=h3,toks:=s2.toks } (upd H2 s2.heap.objs.size (.lst [])) fp fun _ _=>False) [] σ' H' s'/\tn i s'.heap/\(∀ b∈fp,H' b=none)/\W i n xs σ' H')
   (fun n s6 hI=>?_) m0 ⟨0,[],F4 lk σ,_,I4,st4,fun b hb=>(f3 b hb).1,w0⟩
  obtain⟨i,xs,σ6,H6,I6,st6,fr6,w6⟩:=hI
  show wpAny _ X.A ((compTurn (.ListComp elt [⟨tg,iter,ifs,0⟩] scope pos) 0 (.ref it) (.ref s2.heap.objs.size) (compEnvC scope cl h3.objs.size X.env)).onRaise (fun x=>do noteFrame x (compEnvC scope cl h3.objs.size X.env);theTreesLotGoes x)) _ _ s6
  refine wpAny_noted ?_
  rw[compTurn_list]
  refine wpAny_bind (wpAny_standAt (wpAny_bind ?_))
  obtain⟨hD6,hw⟩:=turn i n xs σ6 H6 w6
  rcases hw with⟨stop,qn⟩ | ⟨go,hlen,step⟩
  ·refine thn (T.done (n4 X scope cl N' { s2 with heap:=h3,toks:=s2.toks } (upd H2 s2.heap.objs.size (.lst [])) fp fun _ _=>False) rfl rfl rfl hc i [] s6 σ6 H6 _ I6 (stat fr6) st6 stop) fun r s7 ⟨hr,I7⟩=>?_
   subst hr
   exact wpAny_pure (fin s7 σ6 H6 I7 qn)
  ·refine thn (T.item (n4 X scope cl N' { s2 with heap:=h3,toks:=s2.toks } (upd H2 s2.heap.objs.size (.lst [])) fp fun _ _=>False) rfl rfl rfl hc i [] s6 σ6 H6 _ I6 (stat fr6) st6 go) fun r s7 ⟨u,hr,h7⟩=>?_
   subst hr
   refine wpAny_bind (thn h7 fun _ s8 ⟨x,H8,I8,r8,y8,st8,fr8⟩=>?_)
   have I8':=I8.pinned (stat fr8) (T.obj _ _ st8)
   refine wpAny_bind (wpAny_mono (hg _ _ _ _ s8 σ6 H8 x u _ I8' r8 (step x H8 y8)) (fun _ s9 ⟨σ9,H9,I9,q9⟩=>?_) (fun _ _ z=>False.elim z))
   refine wpAny_bind (wpAny_mono (ht _ _ _ _ s9 σ9 H9 _ I9 q9) (fun ok s10 ⟨H10,I10,q10⟩=>?_) (fun _ _ z=>False.elim z))
   have again:∀ {σ':St} {H':Hp} {ys:List V} {s':Shared},Inv (n4 X scope cl N' { s2 with heap:=h3,toks:=s2.toks } (upd H2 s2.heap.objs.size (.lst [])) fp fun _ _=>False) ([]++J1 fp s8.heap) σ' H' s'->(∃ m',m'<n/\W (i+1) m' ys σ' H') ->
     ∃ m',m'<n/\∃ i xs σ' H',Inv (n4 X scope cl N' { s2 with heap:=h3,toks:=s2.toks } (upd H2 s2.heap.objs.size (.lst [])) fp fun _ _=>False) [] σ' H' s'/\tn i s'.heap/\(∀ b∈fp,H' b=none)/\W i m' xs σ' H':=fun {σ' H' ys s'} I' ⟨m',hm,w'⟩=>by
    refine⟨m',hm,i+1,ys,σ',H',I'.unpinned,T.keep _ _ _ st8 fun b hb o eb=>(I'.pin (b,o) (c4 _ (c4 _ (u7 hb eb)))).1,fun b hb=>?_,w'⟩
    obtain⟨o,eb,_⟩:=T.obj _ _ st8 b hb
    exact(I'.pin (b,o) (c4 _ (c4 _ (u7 hb eb)))).2.1
   cases ok with
   | false =>
    have q10':∃ m',m'<n/\W (i+1) m' xs σ9 H10:=by simpa using q10
    exact wpAny_pure ⟨rfl,again I10 q10'⟩
   | true =>
    rw[if_pos rfl]at q10
    refine wpAny_bind (wpAny_bind (wpAny_mono (he _ _ _ _ s10 σ9 H10 _ I10 q10) (fun y s11 ⟨v11,H11,I11,r11,hD11,q11⟩=>?_) (fun _ _ z=>False.elim z)))
    refine wpAny_bind (wpAny_mono (r9 (X:=n4 X scope cl N' { s2 with heap:=h3,toks:=s2.toks } (upd H2 s2.heap.objs.size (.lst [])) fp fun _ _=>False) _ s11 σ9 H11 (.ref s2.heap.objs.size) [v11] (.ref s2.heap.objs.size) [y] (fun _ H'=>∃ m',m'<n/\W (i+1) m' (xs++[v11]) σ9 H') I11 rfl (.cons r11 .nil) ⟨s2.heap.objs.size,xs,v11,rfl,rfl,hD11,hlen,q11⟩) (fun _ s12 ⟨_,H12,I12,_,q12⟩=>?_) (fun _ _ z=>False.elim z))
    exact wpAny_pure (wpAny_pure ⟨rfl,again I12 q12⟩)
 exact codeAny_compStart_list (loop _ rfl) (T.self X.A 0 _ _ _ st4 (loop _ rfl))
def az5 (i:Nat)(t:TE):TS:=fun D σ H=>t σ H fun v H1=>D.nx (σ.set i (some v)) H1
theorem ag5 {i:Nat}{y:Str}{py:Pos}{elt iter tg:Expr}{ifs:List Expr}{scope:Scope}{pos spos:Pos}{cl:List (Str × Addr)}{N':List Str}{lk:List (Option Nat)}{wi:TI}{g:TG}{tt:TT}{te:TE}
  (hN:X.N.Nodup)(hy:X.N[i]?=some y)(hyl:X.env.scope.names.lookup y=some .local)
  (hsw:swapsWith (.ListComp elt [⟨tg,iter,ifs,0⟩] scope pos) (some (.Name y py)) spos.line X.env=pure true)
  (hc:X.calm=true)(hi:PI X tg iter wi)(hclos:closureFor scope X.env=pure cl)(hkind:scope.kind=.function)
  (hnames:∀ y∈scope.names,y.2=.local->scope.names.lookup y.1=some .local)(hcl:S0 X.env cl)(hfr:af2 scope.names cl=true)(hlk:ab1 X N' lk scope cl)
  (hg:∀ s3 H3 fp,PG (n4 X scope cl N' s3 H3 fp fun _ _=>False) tg g)(ht:∀ s3 H3 fp,PTs (n4 X scope cl N' s3 H3 fp fun _ _=>False) ifs tt)(he:∀ s3 H3 fp,PE (n4 X scope cl N' s3 H3 fp fun _ _=>False) elt te)
  (hs:∀ x,foldedSetIterable iter X.env x=pure x:=by intro _;rfl):PS X (.Assign [.Name y py] (.ListComp elt [⟨tg,iter,ifs,0⟩] scope pos) spos) (az5 i (X7 wi lk g tt te)):=by
 intro pins s σ H D I h
 rw[exec_Assign_Name_used _ _ _ _ hsw]
 refine wpAny_bind (wpAny_standAt (wpAny_bind ?_))
 show wpAny _ X.A (do let _ <- comprehension (.ListComp elt [⟨tg,iter,ifs,0⟩] scope pos) scope X.env _ (newList []) false (eval iter X.env) (some (assign (.Name y py) X.env))) _ _ s
 refine wpAny_bind (thn (al3 (use:=some (assign (.Name y py) X.env)) (R:=fun _ s'=>SP X pins D .next s') hc hi hclos hkind hnames hcl hfr hlk hg ht he hs I h
  fun C Dd s' H' I' q' hC hCL hCs hCc hCp ⟨m,hm⟩=>?_) fun _ s' hq=>wpAny_pure (wpAny_pure hq))
 show wpAny _ X.A (assign (.Name y py) X.env (.ref Dd)) _ _ s'
 refine wpAny_assign_Name (L5 (v:=.ref Dd) I' hN hy (.inl hyl) rfl (fun s2 I2 ⟨a,hsb,ha⟩=>?_) (.inr hyl))
 have hCa:C≠a:=by
  rcases ha with z | z
  ·rw[z];exact hCL
  ·exact(hCc y a z).symm
 refine⟨m,hm.sameBut hsb hCa,fun h' hs'=>?_⟩
 obtain⟨h0,g0,d0,t0,o0⟩:=s2
 exact⟨_,H',I2.turned (t':=t0) (it:=C) (fun b o hb eb=>(hs'.2 b hb).trans eb) hC hCL (.inr hCs) hCc hCp,q'⟩
end
end L2
namespace Web
open PySem L2
theorem N8 (a b:Int):up [a,b]=up [b,a]:=by
 show [(if b<a then b else a),(if b > a then b else a)]=[(if a<b then a else b),(if a > b then a else b)]
 rcases Int.lt_trichotomy a b with h | h | h
 ·rw[if_neg (by omega),if_pos (by omega),if_pos (by omega),if_neg (by omega)]
 ·subst h;rfl
 ·rw[if_pos (by omega),if_neg (by omega),if_neg (by omega),if_pos (by omega)]
theorem X6 {a b:Int}(h:a<b):up [a,b]=[a,b]:=by
 show [(if b<a then b else a),(if b > a then b else a)]=_
 rw[if_neg (by omega),if_pos (by omega)]
def nb1 (x:Nat):List Int->List Int
 | [i,j]=>(if i=(x:Int) then [j] else [])++(if j=(x:Int) then [i] else [])
 | _=>[]
def nbF (ks:List (List Int))(x:Nat):List Int:=ks.flatMap (nb1 x)
theorem ah3 {n:Nat}{ks:List (List Int)}(hU:∀ k∈ks,Up n k)(x:Nat)(y:Int):y∈nbF ks x↔∃ Y:Nat,Y<n/\y=(Y:Int)/\up [(x:Int),(Y:Int)]∈ks:=by
 unfold nbF
 rw[X1]
 constructor
 ·rintro⟨k,hk,hy⟩
  obtain⟨i,j,hij,hj,rfl⟩:=hU k hk
  rcases g7.mp hy with h | h
  ·split at h
   ·rename_i e
    rw[b8.mp h]
    refine⟨j,hj,rfl,?_⟩
    rw[<- e,X6 (by omega)]
    exact hk
   ·cases h
  ·split at h
   ·rename_i e
    rw[b8.mp h]
    refine⟨i,by omega,rfl,?_⟩
    rw[<- e,N8,X6 (by omega)]
    exact hk
   ·cases h
 ·rintro⟨Y,hY,rfl,h⟩
  refine⟨_,h,?_⟩
  obtain⟨i,j,hij,hj,e⟩:=hU _ h
  rcases A7 x Y with z | z | z
  ·rw[X6 (by omega)]
   refine o8 _ ?_
   rw[if_pos rfl]
   exact b8.mpr rfl
  ·subst z
   have:up [(x:Int),(x:Int)]=[(x:Int),(x:Int)]:=by show [(if (x:Int)<x then (x:Int) else x),(if (x:Int) > x then (x:Int) else x)]=_;simp
   rw[this]at e
   injection e with e1 e2
   injection e2 with e2
   omega
  ·rw[N8,X6 (by omega)]
   refine c4 _ ?_
   rw[if_pos rfl]
   exact b8.mpr rfl
structure NN (H:Hp) (a:Addr) (ps:List Addr) (T:Nat->List Int) (n:Nat):Prop where
 lst:H a=some (.lst (ps.map V.ref))
 len:ps.length=n
 row:∀ (i:Nat) (p:Addr),ps[i]?=some p->H p=some (.lst ((T i).map V.int))
 nd:ps.Nodup
 out:a∉ps
theorem NN.same {H H':Hp}{a:Addr}{ps:List Addr}{T:Nat->List Int}{n:Nat}(h:NN H a ps T n)(s:m5 H H'):NN H' a ps T n:=⟨s _ _ h.lst,h.len,fun i p e=>s _ _ (h.row i p e),h.nd,h.out⟩
theorem NN.at {H:Hp}{a:Addr}{ps:List Addr}{T:Nat->List Int}{n i:Nat}(h:NN H a ps T n)(hi:i<n):∃ p,ps[i]?=some p/\H p=some (.lst ((T i).map V.int))/\(ps.map V.ref)[i]?=some (.ref p):=by
 have hl:i<ps.length:=by rw[h.len];exact hi
 exact⟨ps[i],d4 hl,h.row i _ (d4 hl),by rw[i8,d4 hl];rfl⟩
theorem aq5 {ps:List Addr}(h:ps.Nodup){i j:Nat}{p:Addr}(h1:ps[i]?=some p)(h2:ps[j]?=some p):i=j:=by
 have hi:i<ps.length:=by
  rcases D6 i ps.length with l | l
  ·exact l
  ·rw[at1 l]at h1;cases h1
 exact(List.getElem?_inj hi h).mp (h1.trans h2.symm)
theorem NN.put {H:Hp}{a p:Addr}{ps:List Addr}{T:Nat->List Int}{n r:Nat}(h:NN H a ps T n)(hp:ps[r]?=some p)(l:List Int):NN (upd H p (.lst (l.map V.int))) a ps (fun i=>if i=r then l else T i) n:=by
 have hpa:a≠p:=fun z=>h.out (by rw[z];exact b6 hp)
 refine⟨by rw[j1 hpa];exact h.lst,h.len,fun i q e=>?_,h.nd,h.out⟩
 by_cases hi:i=r
 ·subst hi
  rw[hp]at e
  cases e
  rw[if_pos rfl]
  exact d3
 ·have hq:q≠p:=fun z=>hi (aq5 h.nd (by rw[z]at e;exact e) hp)
  rw[j1 hq,if_neg hi]
  exact h.row i q e
theorem ax0 (x:Nat)(k:List Int):(nb1 x k).length<=2:=by
 unfold nb1
 split
 ·rw[d7]
  split<;>split<;>simp
 ·exact i3 _
theorem ah0 (ks:List (List Int))(x:Nat):(nbF ks x).length<=2*ks.length:=by
 unfold nbF
 induction ks with
 | nil=>exact a8 _
 | cons k ks ih =>
  rw[List.flatMap_cons,d7,j3]
  have:=ax0 x k
  omega
theorem aq7 {ks:List (List Int)}{m:Nat}{k:List Int}(h:ks[m]?=some k)(x:Nat):nbF (ks.take (m+1)) x=nbF (ks.take m) x++nb1 x k:=by
 unfold nbF
 rw[n6,h,N7]
 simp
end Web
namespace Pc
inductive Rch (T:Nat->Nat->Prop) (a:Nat):Nat->Prop
 | refl:Rch T a a
 | step {b c:Nat}:Rch T a b->T b c->Rch T a c
theorem Rch.trans {T:Nat->Nat->Prop}{a b c:Nat}(h:Rch T a b)(k:Rch T b c):Rch T a c:=by
 induction k with
 | refl=>exact h
 | step _ t ih=>exact ih.step t
theorem Rch.symm {T:Nat->Nat->Prop}(hT:∀ b c,T b c->T c b){a b:Nat}(h:Rch T a b):Rch T b a:=by
 induction h with
 | refl=>exact .refl
 | step _ t ih=>exact(Rch.step .refl (hT _ _ t)).trans ih
structure MI (n:Nat) (T:Nat->Nat->Prop) (ms:List Nat):Prop where
 len:ms.length=n
 rch:∀ p,p<n->Rch T p (ms.getD p 0)
 le:∀ p,p<n->ms.getD p 0<=p
def stp (ms:List Nat)(i j:Nat):List Nat:=(ms.set i (min (ms.getD i 0) (ms.getD j 0))).set j (min (ms.getD i 0) (ms.getD j 0))
theorem F3 (ms:List Nat)(i p v:Nat):(ms.set i v).getD p 0=if i=p/\p<ms.length then v else ms.getD p 0:=by
 rw[k8,List.getElem?_set,k8]
 by_cases h:i=p
 ·subst h
  by_cases hl:i<ms.length
  ·simp[hl]
  ·simp[hl]
 ·simp[h]
theorem MI.init {n:Nat}{T:Nat->Nat->Prop}:MI n T (i7 n):=⟨u2,fun p hp=>by
 rw[k8,x8 hp];exact .refl,fun p hp=>by rw[k8,x8 hp];exact a8 _⟩
theorem MI.stp {n:Nat}{T:Nat->Nat->Prop}(hT:∀ b c,T b c->T c b){ms:List Nat}{i j:Nat}(h:MI n T ms)(hi:i<n)(hj:j<n)(t:T i j):MI n T (stp ms i j):=by
 refine⟨by unfold Pc.stp;rw[A0,A0];exact h.len,fun p hp=>?_,fun p hp=>?_⟩
 rotate_left
 ·have:=h.le p hp
  unfold Pc.stp
  rw[F3,F3]
  split
  ·next e=>rw[e.1];omega
  ·split
   ·next e=>rw[e.1];omega
   ·exact this
 have low:Rch T i (min (ms.getD i 0) (ms.getD j 0)):=by
  rcases Nat.le_total (ms.getD i 0) (ms.getD j 0) with l | l
  ·rw[Nat.min_eq_left l];exact h.rch i hi
  ·rw[Nat.min_eq_right l];exact(Rch.step .refl t).trans (h.rch j hj)
 unfold Pc.stp
 rw[F3,F3]
 split
 ·next e=>rw[<- e.1];exact(Rch.step .refl (hT _ _ t)).trans low
 ·split
  ·next e=>rw[<- e.1];exact low
  ·exact h.rch p hp
theorem sum_set (ms:List Nat)(i v:Nat)(h:i<ms.length):(ms.set i v).sum+ms.getD i 0=ms.sum+v:=by
 induction ms generalizing i with
 | nil=>exact absurd h (C2 _)
 | cons a l ih =>
  cases i with
  | zero=>simp[List.getD_cons_zero];omega
  | succ i =>
   have:=ih i (by simpa using h)
   rw[aB1,S2,S2,List.getD_cons_succ]
   omega
theorem stp_sum {n:Nat}{ms:List Nat}{i j:Nat}(hl:ms.length=n)(hi:i<n)(hj:j<n)(hij:i≠j) :
  (stp ms i j).sum+ms.getD i 0+ms.getD j 0=ms.sum+2*min (ms.getD i 0) (ms.getD j 0):=by
 unfold stp
 have h1:=sum_set ms i (min (ms.getD i 0) (ms.getD j 0)) (by omega)
 have h2:=sum_set (ms.set i (min (ms.getD i 0) (ms.getD j 0))) j (min (ms.getD i 0) (ms.getD j 0)) (by rw[A0];omega)
 have h3:(ms.set i (min (ms.getD i 0) (ms.getD j 0))).getD j 0=ms.getD j 0:=by rw[F3,if_neg (fun z=>hij z.1)]
 rw[h3]at h2
 omega
theorem marks_iff {n:Nat}{T:Nat->Nat->Prop}(hT:∀ b c,T b c->T c b)(hn:∀ b c,T b c->b<n/\c<n){ms:List Nat}(h:MI n T ms)(fx:∀ b c,T b c->ms.getD b 0=ms.getD c 0){p q:Nat}(hp:p<n)(hq:q<n) :
  ms.getD p 0=ms.getD q 0↔Rch T p q:=by
 constructor
 ·intro e
  have h1:=h.rch p hp
  have h2:=h.rch q hq
  rw[<- e]at h2
  exact h1.trans (h2.symm hT)
 ·intro r
  clear hq
  induction r with
  | refl=>rfl
  | step _ t ih=>exact ih.trans (fx _ _ t)
structure PA (T:Nat->Nat->Prop) (n a:Nat) (fd ed:List Nat):Prop where
 nd:fd.Nodup
 here:a∈fd
 rch:∀ k∈fd,k<n/\Rch T a k
 sub:∀ k∈ed,k∈fd
 clo:∀ k∈fd,k∈ed\/∀ c,T k c->c∈fd
structure PB (T:Nat->Nat->Prop) (n a k0:Nat) (ns:List Nat) (fd ed:List Nat):Prop where
 nd:fd.Nodup
 here:a∈fd
 k0m:k0∈fd
 rch:∀ k∈fd,k<n/\Rch T a k
 sub:∀ k∈ed,k∈fd
 clo:∀ k∈fd,k∈ed\/k=k0\/∀ c,T k c->c∈fd
 met:∀ c∈ns,c∈fd
theorem PA.init {T:Nat->Nat->Prop}{n a:Nat}(h:a<n):PA T n a [a] [a]:=
 ⟨by simp,by simp,fun k hk=>by rw[b8.mp hk];exact⟨h,.refl⟩,fun k hk=>hk,fun k hk=>.inl hk⟩
theorem PA.pop {T:Nat->Nat->Prop}{n a k0:Nat}{fd ed:List Nat}(h:PA T n a fd (ed++[k0])):PB T n a k0 [] fd ed:=by
 refine⟨h.nd,h.here,h.sub k0 (by simp),h.rch,fun k hk=>h.sub k (by simp[hk]),fun k hk=>?_,fun c hc=>absurd hc j5⟩
 rcases h.clo k hk with hm | hc
 ·rcases g7.mp hm with hm | hm
  ·exact .inl hm
  ·exact .inr (.inl (b8.mp hm))
 ·exact .inr (.inr hc)
theorem PB.old {T:Nat->Nat->Prop}{n a k0 c:Nat}{ns fd ed:List Nat}(h:PB T n a k0 ns fd ed)(hc:c∈fd):PB T n a k0 (ns++[c]) fd ed:=
 ⟨h.nd,h.here,h.k0m,h.rch,h.sub,h.clo,fun x hx=>(g7.mp hx).elim (h.met x) fun e=>by rw[b8.mp e];exact hc⟩
theorem PB.new {T:Nat->Nat->Prop}{n a k0 c:Nat}{ns fd ed:List Nat}(h:PB T n a k0 ns fd ed)(hc:c∉fd)(hn:c<n)(t:T k0 c):PB T n a k0 (ns++[c]) (fd++[c]) (ed++[c]):=by
 refine⟨?_,by simp[h.here],by simp[h.k0m],fun k hk=>?_,fun k hk=>?_,fun k hk=>?_,fun x hx=>?_⟩
 ·rw[List.nodup_append]
  exact⟨h.nd,by simp,fun x hx y hy=>by rw[b8.mp hy];intro e;exact hc (e ▸ hx)⟩
 ·rcases g7.mp hk with hk | hk
  ·exact h.rch k hk
  ·rw[b8.mp hk];exact⟨hn,(h.rch k0 h.k0m).2.step t⟩
 ·rcases g7.mp hk with hk | hk
  ·exact o8 _ (h.sub k hk)
  ·exact c4 _ hk
 ·rcases g7.mp hk with hk | hk
  ·rcases h.clo k hk with z | z | z
   ·exact .inl (o8 _ z)
   ·exact .inr (.inl z)
   ·exact .inr (.inr fun d hd=>o8 _ (z d hd))
  ·exact .inl (c4 _ hk)
 ·rcases g7.mp hx with hx | hx
  ·exact o8 _ (h.met x hx)
  ·exact c4 _ hx
theorem PB.done {T:Nat->Nat->Prop}{n a k0:Nat}{ns fd ed:List Nat}(h:PB T n a k0 ns fd ed)(hns:∀ c,T k0 c->c∈ns):PA T n a fd ed:=
 ⟨h.nd,h.here,h.rch,h.sub,fun k hk=>(h.clo k hk).elim .inl fun z=>.inr (z.elim (fun e c hc=>by rw[e]at hc;exact h.met c (hns c hc)) id)⟩
theorem PA.iff {T:Nat->Nat->Prop}{n a:Nat}{fd:List Nat}(h:PA T n a fd [])(c:Nat):c∈fd↔Rch T a c:=by
 constructor
 ·exact fun hc=>(h.rch c hc).2
 ·intro r
  induction r with
  | refl=>exact h.here
  | step _ t ih=>exact(h.clo _ ih).elim (fun z=>absurd z j5) fun z=>z _ t
theorem nd_le {n:Nat}:∀ {l:List Nat},l.Nodup->(∀ k∈l,k<n)->l.length<=n:=by
 induction n with
 | zero =>
  intro l _ h
  cases l with
  | nil=>exact a8 _
  | cons a l=>exact absurd (h a c9) (C2 _)
 | succ n ih =>
  intro l hd h
  have h1:=ih (l:=l.erase n) (hd.erase n) (fun k hk=>by
   have hm:=(List.Nodup.mem_erase_iff hd).mp hk
   have:=h k hm.2
   have:=hm.1
   omega)
  have:=List.length_erase (a:=n) (l:=l)
  rw[this]at h1
  split at h1<;>omega
end Pc
namespace L2
open PySem PySem.Spec PyProof.Rows
section
variable {X:Cx}
end
end L2
namespace L2
open PySem PySem.Spec PyProof.Rows PySem.SeqAt
section
variable {X:Cx}
end
theorem O0 {X:Cx}{a b:Expr}{pos:Pos}{ta tb:TE}(K:W.Frag)(hK:X.K=K)(ha:PE X a ta)(hb:PE X b tb)(hs:ai6 b):PE X (.Subscript a b pos) (tOp (rIx K) ta tb):=by
 cases hK
 exact u4 aE1 ha hb hs
end L2
namespace L2
open PySem PySem.Spec PyProof.Rows
def ac6 (i:Int)(n:Nat):List Int:=(az0 0 n).map fun k:Nat=>i+(k:Int)
theorem aa1 (a:Int):∀ {vs:List Value} {n i:Nat},vs.length=n->(∀ j v,vs[j]?=some v->∃ t,v=Value.int (a+((i+j:Nat):Int)) t)->IntsAre vs ((az0 i n).map fun k:Nat=>a+(k:Int))
 | [],n,i,e,_=>by subst e;exact .nil
 | v::vs,0,i,e,_=>by cases e
 | v::vs,n+1,i,e,h=>by
  obtain⟨t,rfl⟩:=h 0 v rfl
  rw[List.range'_succ,k9]
  refine .cons _ t (aa1 a (by simpa using e) fun j v hv=>?_)
  obtain⟨t',e'⟩:=h (j+1) v (by simpa using hv)
  exact⟨t',by rw[e'];congr 2;omega⟩
section
variable {X:Cx}
theorem S7 (hc:X.calm=true):A9 X (.type "list") (fun xs H Q=>∃ (r:Addr) (i j:Int) (n:Nat),xs=[.ref r]/\H r=some (.rng i j)/\j - i=n/\n<=1000 /\ -1000<=i/\i<=1000/\∀ l,H l=none->Q (.ref l) (upd H l (.lst ((ac6 i n).map V.int)))):=by
 intro pins s σ H xs us Q I r h
 obtain⟨p,i,j,n,rfl,hq,hn,hn1,hi1,hi2,q⟩:=h
 obtain⟨u,rfl,rx⟩:=vals1 r
 cases rx
 obtain⟨t1,t2,t3,hr⟩:=I.hok p _ hq
 refine call_list_range (a:=i) (b:=j) (c:=1) (n:=n) (I.ok.hd hc) hr (small_one (by omega) (by omega) (by omega) (by omega)) (by rw[rangeSize_one];split<;>omega) (by omega) fun h' tk acc c' kp e hacc=>?_
 have hi:IntsAre acc.toList (ac6 i n):=aa1 i (by rw[d8];exact hacc.1) fun k v hk=>by
  obtain⟨t',e⟩:=hacc.2 k v (by rw[<- c5];exact hk)
  exact⟨t',by rw[e];simp⟩
 have hl:(ac6 i n).length=n:=by unfold ac6;rw[b4,List.length_range']
 exact⟨.ref s.heap.objs.size,_,I.laid (t':=tk) kp (a8 _) (show q0 X.prog X.w _ h' _ (.lst ((ac6 i n).map V.int)) from ⟨by rw[b4,hl,sizeLine_eq];omega,acc.toList,c',F5 hi,by rw[at3];exact e⟩),rfl,q _ (I.hok.fresh (a8 _))⟩
end
theorem C5 {lo:Int}{n:Nat}{D:Addr}{g:TG}{tt:TT}{te:TE}{Qd:Hp->Prop}{σ0:St}{H0:Hp}(Pv:Nat->List V->St->Hp->Prop)(h0:Pv 0 [] σ0 H0)(hz:n<=sizeLine)(hl:∀ i xs σ H,i<=n->Pv i xs σ H->H D=some (.lst xs)/\xs.length<=i)
  (hs:∀ i xs σ H (N:List V->St->Hp->Prop),(∀ xs' σ' H',Pv (i+1) xs' σ' H'->N xs' σ' H')->i<n->Pv i xs σ H->g (.int (lo+i)) σ H fun σ2 H2=>tt σ2 H2 fun b H3=>if b=true then te σ2 H3 fun v H4=>H4 D=some (.lst xs)/\N (xs++[v]) σ2 (upd H4 D (.lst (xs++[v]))) else N xs σ2 H3)
  (hd:∀ xs σ H,Pv n xs σ H->Qd H) :
  ∃ W:Nat->Nat->List V->St->Hp->Prop,(∃ m,W 0 m [] σ0 H0)/\∀ i m xs σ' H',W i m xs σ' H'->H' D=some (.lst xs)/\(((Itr lo n).stop i H'/\Qd H')\/((Itr lo n).go i H'/\xs.length<sizeLine/\∀ x H'',(Itr lo n).yld i H' x H''->g x σ' H'' fun σ2 H2=>tt σ2 H2 fun b H3 =>
   if b=true then te σ2 H3 fun v H4=>H4 D=some (.lst xs)/\∃ m',m'<m/\W (i+1) m' (xs++[v]) σ2 (upd H4 D (.lst (xs++[v]))) else ∃ m',m'<m/\W (i+1) m' xs σ2 H3)):=by
 refine⟨fun i m xs σ H=>m=n - i/\i<=n/\Pv i xs σ H,⟨n,by simp,i3 _,h0⟩,?_⟩
 rintro i m xs σ H ⟨rfl,hi,p⟩
 obtain⟨hD,hx⟩:=hl i xs σ H hi p
 refine⟨hD,?_⟩
 by_cases hlt:i<n
 ·refine .inr ⟨hlt,by omega,fun x H'' y=>?_⟩
  obtain⟨e,y⟩:=y
  subst e y
  exact hs i xs σ _ (fun zs σ' H'=>∃ m',m'<n - i/\m'=n - (i+1)/\i+1<=n/\Pv (i+1) zs σ' H') (fun zs σ' H' r=>⟨_,by omega,rfl,hlt,r⟩) hlt p
 ·obtain rfl:i=n:=by omega
  exact .inl ⟨a8 _,hd xs σ H p⟩
section
variable {prog:Program} {w:World} {A:Around} {E:Value->Shared->Prop} {s:Shared}
theorem M8 {ip tp:Addr}{i:Nat}{ys:Array Value}{x:Value}{Q:Value->Shared->Prop}(hi:s.heap.IsTupleIter ip tp i)(ht:s.heap.IsTuple tp ys)(hx:ys[i]?=some x)
  (q:∀ h',h'.IsTupleIter ip tp (i+1)->Heap.SameBut ip s.heap h'->Q x { s with heap:=h' }):wpAny (model prog w) A (Builtin.SmallTypes.nextOf (.ref ip)) Q E s:=by
 obtain⟨u,hu,cu,du⟩:=id hi
 obtain⟨v,hv,_,nv,dv⟩:=ht
 unfold Builtin.SmallTypes.nextOf
 refine wpAny_bind (wpAny_callSpecial?_slot (name:=Str.ofString "__next__") hi.typeIs F.slot_tuple_iterator_next (wpAny_call_entry F.slot_tuple_iterator_next hi.typeIs F.entry_tuple_iterator_next ?_ (F.args_tuple_iterator_next_1 _)))
 show wpAny _ _ (field (.ref ip) 0 >>= _) _ _ s;refine wpAny_bind (wpAny_field hu du (x:=.ref tp) rfl ?_)
 show wpAny _ _ (if (Value.ref tp == Value.none)=true then _ else _) _ _ s;rw[if_neg (show ¬ ((Value.ref tp == Value.none)=true) from b7)]
 show wpAny _ _ (field (.ref ip) 1 >>= _) _ _ s;refine wpAny_bind (wpAny_field hu du (x:=.int i 0) rfl ?_)
 show wpAny _ _ (seqItems? (.ref tp) >>= _) _ _ s;refine wpAny_bind (wpAny_seqItems hv dv ?_)
 simp only[n9,hx]
 refine wpAny_bind (wpAny_setField hu du (by simp) (wpAny_pure ⟨x,rfl,wpAny_pure (q _ ?_ (Heap.SameBut.update ..))⟩))
 exact⟨_,k6 _ hu (Obj.isFreed_of_fields (Obj.data_mapFields du _)),(Obj.cls_mapFields ..).trans cu,by rw[Obj.data_mapFields du];simp[rawInt]⟩
theorem Q1 {ip tp:Addr}{i:Nat}{ys:Array Value}{Q:Value->Shared->Prop}(hh:A.handled=none)(hi:s.heap.IsTupleIter ip tp i)(ht:s.heap.IsTuple tp ys)(hx:ys[i]?=none)
  (q:∀ h' e,Heap.ExtBut ip s.heap h'->(∃ o,h'.get? e=some o/\o.cls=.type "StopIteration")->E (.ref e) { s with heap:=h' }):wpAny (model prog w) A (Builtin.SmallTypes.nextOf (.ref ip)) Q E s:=by
 obtain⟨u,hu,cu,du⟩:=id hi
 obtain⟨v,hv,_,nv,dv⟩:=ht
 unfold Builtin.SmallTypes.nextOf
 refine wpAny_bind (wpAny_callSpecial?_slot (name:=Str.ofString "__next__") hi.typeIs F.slot_tuple_iterator_next (wpAny_call_entry F.slot_tuple_iterator_next hi.typeIs F.entry_tuple_iterator_next ?_ (F.args_tuple_iterator_next_1 _)))
 show wpAny _ _ (field (.ref ip) 0 >>= _) _ _ s;refine wpAny_bind (wpAny_field hu du (x:=.ref tp) rfl ?_)
 show wpAny _ _ (if (Value.ref tp == Value.none)=true then _ else _) _ _ s;rw[if_neg (show ¬ ((Value.ref tp == Value.none)=true) from b7)]
 show wpAny _ _ (field (.ref ip) 1 >>= _) _ _ s;refine wpAny_bind (wpAny_field hu du (x:=.int i 0) rfl ?_)
 show wpAny _ _ (seqItems? (.ref tp) >>= _) _ _ s;refine wpAny_bind (wpAny_seqItems hv dv ?_)
 simp only[n9,hx]
 refine wpAny_bind (wpAny_rule (wpAny_bind (wpAny_setField hu du (by simp) ?_)))
 show wpAny _ _ (newExc (.type "StopIteration") [] >>= _) _ _ _;refine wpAny_bind ?_;simp only[newExc,newTuple]
 refine wpAny_bind (wpAny_newObj_type ?_ (by size_fits));refine wpAny_bind (m:=firstArgMember _ _) (wpAny_of_eq (a:=Value.none) (by first | rfl | (simp only[firstArgMember];rfl)) ?_)
 refine wpAny_newObj_type ?_ (by size_fits);simp only[raiseNew]
 refine wpAny_bind (wpAny_handled ?_);first | rw[show A.in1.handled=none from hh] | rw[hh]
 refine wpAny_bind (wpAny_pure (wpAny_throw ?_));exact q _ _ (((Heap.SameBut.update ..).extBut.push _).push _) ⟨_,b5 _ rfl,rfl⟩
end
theorem U3 {prog:Program}{w:World}{A:Around}(hh:A.handled=none)(ip tp:Addr)(hne:tp≠ip)(ys:Array Value):Draws prog w A ip [ip,tp] ys.size (fun i v=>ys[i]?=some v) (fun i h=>h.IsTupleIter ip tp i/\h.IsTuple tp ys) where
 live:=fun _ _ z=>let ⟨o,ho,_⟩:=z.1;⟨o,ho⟩
 frame:=fun _ _ _ z k=>⟨z.1.at fun o e=>k ip (by simp) o e,z.2.at fun o e=>k tp (by simp) o e⟩
 item:=fun i s Q E hi z q=>M8 z.1 z.2 (x:=ys[i]) (by simp[hi]) fun h' a b=>q _ h' s.toks (by simp[hi]) ⟨a,z.2.extBut b.extBut hne⟩ b
 done:=fun s Q E z q=>Q1 hh z.1 z.2 (by simp) q
open AutoSeq1 (wpAny_loadPart') in
set_option maxRecDepth 100000 in
theorem Q4 (tp:Addr)(ys:Array Value)(n:Nat)(dd:Option Addr)(ss:Array (Option Value)) :
  Meets (Builtin.«enumerate.__new__» ⟨[.type "enumerate",.ref tp],[]⟩) (fun _ R s=>s.heap.get? tp=some { cls:=.type "tuple",dict:=dd,data:=.seq ys n,slots:=ss } /\
   R (.ok (.ret (.ref (s.heap.push { cls:=.type "tuple_iterator",data:=.fields #[.ref tp,.int 0 0] }).objs.size)))
    { s with heap:=(s.heap.push { cls:=.type "tuple_iterator",data:=.fields #[.ref tp,.int 0 0] }).push { cls:=.type "enumerate",data:=.fields #[.none,.bool false,.ref s.heap.objs.size,rawInt 0,.none,.none] } }) :=
 .of_wp fun prog w A R s h=>by
  obtain⟨hp,g,d,tk,os⟩:=s;obtain⟨hl,h⟩:=h
  have hsub:=sub_enumerate
  have hT:Heap.IsTuple (Shared.heap ⟨hp,g,d,tk,os⟩) tp ys:=⟨_,hl,rfl,n,rfl⟩
  wp_walk using wpAny_loadPart' hl
  refine wpAny_stack_any fun st=>wpAny_pure ?_
  split
  ·rename_i c _ _ _ _ _
   cases (c == Value.type "enumerate")
   ·wp_walk using wpAny_loadPart' hl,wpAny_pyIter_tuple hT;exact⟨_,rfl,h⟩
   ·wp_walk using wpAny_loadPart' hl,wpAny_pyIter_tuple hT;exact⟨_,rfl,h⟩
  ·wp_walk using wpAny_loadPart' hl,wpAny_pyIter_tuple hT;exact⟨_,rfl,h⟩
section
variable {prog:Program} {w:World} {A:Around} {E:Value->Shared->Prop} {s:Shared}
theorem S8 {tp:Addr}{ys:Array Value}{Q:Value->Shared->Prop}(hT:s.heap.IsTuple tp ys)
  (q:∀ h',IsEnum h' (s.heap.objs.size+1) s.heap.objs.size 0 .none->h'.IsTupleIter s.heap.objs.size tp 0->h'.objs.size=s.heap.objs.size+2->(∀ b o,s.heap.get? b=some o->h'.get? b=some o)->Q (.ref (s.heap.objs.size+1)) { s with heap:=h' }) :
  wpAny (model prog w) A (call (.type "enumerate") [.ref tp]) Q E s:=by
 obtain⟨⟨c,dd,dt,ss⟩,hl,hc,n,hd⟩:=hT
 replace hc:c=.type "tuple":=hc
 replace hd:dt=.seq ys n:=hd
 subst hc hd
 refine callType_new F.called_enumerate (by decide) (F.typeCall_enumerate_1 _) (F.newCall_enumerate_1 _) (fun obj=>F.args_object_init_2 obj _) F.entry_enumerate_new (Q4 tp ys n dd ss) ⟨hl,?_⟩
 have hz:(s.heap.push { cls:=.type "tuple_iterator",data:=.fields #[.ref tp,.int 0 0] }).objs.size=s.heap.objs.size+1:=l8 ..
 show _/\_
 rw[hz]
 have he:IsEnum ((s.heap.push { cls:=.type "tuple_iterator",data:=.fields #[.ref tp,.int 0 0] }).push { cls:=.type "enumerate",data:=.fields #[.none,.bool false,.ref s.heap.objs.size,rawInt 0,.none,.none] }) (s.heap.objs.size+1) s.heap.objs.size 0 .none:=by
  have:=b5 (s.heap.push { cls:=.type "tuple_iterator",data:=.fields #[.ref tp,.int 0 0] }) (o:={ cls:=.type "enumerate",data:=.fields #[.none,.bool false,.ref s.heap.objs.size,rawInt 0,.none,.none] }) rfl
  rw[hz]at this;exact this
 exact⟨⟨_,he,rfl⟩,q _ he ⟨_,a7 _ (b5 _ rfl),rfl,rfl⟩ (by rw[l8,hz]) fun b o x=>a7 _ (a7 _ x)⟩
end
def Itm (K:W.Frag)(a:Addr):It:=
 ⟨fun i H=>∃ xs x,SqT K H a xs/\xs[i]?=some x,fun i H x H'=>∃ t v,H t=none/\x=.ref t/\(∀ xs,SqT K H a xs->xs[i]?=some v)/\H'=upd H t (.tup [.int i,v]),fun i H=>∃ xs,SqT K H a xs/\xs.length=i⟩
def aE6 (K:W.Frag)(ta:TA):TI:=fun σ H R=>ta σ H fun vs H1=>∃ a,vs=[.ref a]/\(∃ xs,SqT K H1 a xs)/\R (Itm K a) H1
theorem ac1 {P:Program}{w:World}{K:W.Frag}{elts:List Expr}{x1:Nat}{pos:Pos}(a ip e:Addr)(hne:e≠ip):Turn P w K (.Tuple elts x1 pos) (Itm K a) [e,ip] e (fun i h=>(∃ old,IsEnum h e ip (i:Int) old)/\h.IsTupleIter ip a i) where
 mem:=by simp
 obj:=fun i h st b hb=>by
  obtain⟨⟨old,he⟩,o,ho,hc,hd⟩:=st
  rcases b9.mp hb with rfl | hb
  ·exact⟨_,he,fun v z=>by cases z⟩
  ·obtain rfl:b=ip:=by simpa using hb
   exact⟨o,ho,fun v z=>by rw[hd]at z;cases z⟩
 keep:=fun i h h' st k=>⟨let ⟨old,he⟩:=st.1;⟨old,k e (by simp) _ he⟩,st.2.at fun o q=>k ip (by simp) o q⟩
 item:=by
  intro X hP hw hK hc i pins s σ H E I hf st hg
  subst hP hw hK
  obtain⟨xs,x,hq,hx⟩:=hg
  obtain⟨⟨old,he⟩,hit⟩:=st
  obtain⟨its,rv,p,hz⟩:=I.tuple hq
  obtain⟨u,hu,ru⟩:=rv.get hx
  obtain⟨f0,f1,f2,f3,f4,f5⟩:=hf e (by simp)
  obtain⟨g0,g1,g2,g3,g4,g5⟩:=hf ip (by simp)
  have pT:s.heap.IsTuple a its.toArray:=p
  have nai:a≠ip:=fun z=>by
   obtain⟨o1,h1,c1,_⟩:=id pT
   obtain⟨o2,h2,c2,_⟩:=id hit
   rw[z,h2]at h1;cases h1;rw[c2]at c1;injection c1 with c1;exact absurd c1 (by decide)
  have nae:a≠e:=fun z=>by
   obtain⟨o1,h1,c1,_⟩:=id pT
   rw[z,show s.heap.get? e=_ from he]at h1;cases h1;injection c1 with c1;exact absurd c1 (by decide)
  have ui:its.toArray[i]?=some u:=by simpa using hu
  have hlt':i<its.toArray.size:=by
   rcases D6 i its.toArray.size with h | h
   ·exact h
   ·rw[v7 h]at ui;cases ui
  refine wpAny_pyNext_enum_itemD (U3 (A:=X.A.in1) (I.ok.hd hc) ip a nai its.toArray) he ⟨hit,pT⟩ hlt' hne (by simp[hne,Ne.symm nae]) fun v h1 tk hv heo st1 ht1 hz1 hk1=>?_
  have ev:v=u:=by have:=hv.symm.trans ui;cases this;rfl
  subst ev
  have hit1:=st1.1
  refine⟨_,rfl,?_⟩
  refine wpAny_letOwnedTupleGo_enum heo fun h2 he2 hs2=>?_
  have hlt:e<s.heap.objs.size:=b0 he
  have hs2':Heap.SameBut e h1 h2:=hs2
  have ht2:h2.get? s.heap.objs.size=some { cls:=.type "tuple",data:=.seq #[.int i tk,v] }:=(hs2'.2 _ (u5 hlt)).trans ht1
  have kp:∀ b o,b≠e->b≠ip->s.heap.get? b=some o->h2.get? b=some o:=fun b o h1' h2' q=>(hs2'.2 b h1').trans (hk1 b o h1' h2' q)
  have hT:H s.heap.objs.size=none:=I.hok.fresh (a8 _)
  have nH:∀ b,H b≠none->b≠e/\b≠ip:=fun b hb=>⟨fun z=>hb (z ▸ f0),fun z=>hb (z ▸ g0)⟩
  have keepH:∀ b o,H b=some o->upd H s.heap.objs.size (.tup [.int i,x]) b=some o:=fun b o q=>by rw[j1 (l5 q hT)];exact q
  have hok2:HOk X.prog X.w (upd H s.heap.objs.size (.tup [.int i,x])) h2:=fun b o eb=>by
   by_cases hb:b=s.heap.objs.size
   ·subst hb
    rw[d3]at eb
    cases eb
    exact⟨by show 2<=sizeLine;decide,[.int i tk,v],.cons ⟨_,rfl⟩ (.cons ru .nil),⟨_,ht2,rfl,_,rfl⟩⟩
   ·rw[j1 hb]at eb
    refine(I.hok b o eb).stay (fun c v hcc q=>kp c v ?_ ?_ q) (fun c q=>keepH c _ q) fun c ys q=>keepH c _ q
    ·rcases hcc with z | z
     ·exact(nH c (by rw[z,eb];simp)).1
     ·exact(nH c (by rw[z];simp)).1
    ·rcases hcc with z | z
     ·exact(nH c (by rw[z,eb];simp)).2
     ·exact(nH c (by rw[z];simp)).2
  have I2:Inv X pins σ (upd H s.heap.objs.size (.tup [.int i,x])) { s with heap:=h2,toks:=tk+1 }:=by
   refine I.step (g':=s.gens) (d':=s.drawn) (t':=tk+1) (ch:=[e,ip]) (fun b hb=>?_) (fun b o _ _ hcc q _=>kp b o (fun z=>hcc (by simp[z])) (fun z=>hcc (by simp[z])) q) (fun b o _ _ hcc q _=>⟨o.slots,kp b o (fun z=>hcc (by simp[z])) (fun z=>hcc (by simp[z])) q⟩) (fun b o _ q n=>?_)
    (fun b o hcc q=>⟨o,kp b o (fun z=>hcc (by simp[z])) (fun z=>hcc (by simp[z])) q⟩) (fun b ys q=>keepH b _ q) (fun b o v q=>keepH b _ q) (fun b ps q=>⟨#[],by rw[keepH b _ q];simp⟩) (fun m hm=>?_) hok2 I.bare
   ·rcases b9.mp hb with rfl | hb
    ·exact⟨f3,f1,f4,f5⟩
    ·obtain rfl:b=ip:=by simpa using hb
     exact⟨g3,g1,g4,g5⟩
   ·rw[j1 (c3 (b0 q))]
    exact n
   ·obtain⟨o,es,ep,ho,r⟩:=hm
    exact⟨o,es,ep,kp _ o (Ne.symm f1) (Ne.symm g1) ho,r⟩
  have hilt:ip<s.heap.objs.size:=by
   obtain⟨o,ho,_⟩:=id hit
   exact b0 ho
  refine⟨.ref s.heap.objs.size,_,I2,rfl,⟨s.heap.objs.size,x,hT,rfl,fun ys hy=>by rw[I.tuple_inj hy hq];exact hx,rfl⟩,⟨⟨v,?_⟩,?_⟩,fun b hb=>?_⟩
  ·have:=he2
   rw[show ((i:Int)+1)=(((i+1:Nat):Int)) by simp]at this
   exact this
  ·exact hit1.at fun o q=>(hs2'.2 ip (Ne.symm hne)).trans q
  ·rcases b9.mp hb with rfl | hb
   ·rw[j1 (c3 hlt)];exact f0
   ·obtain rfl:b=ip:=by simpa using hb
    rw[j1 (c3 hilt)]
    exact g0
 done:=by
  intro X hP hw hK hc i pins s σ H E I hf st hg
  subst hP hw hK
  obtain⟨xs,hq,hx⟩:=hg
  obtain⟨⟨old,he⟩,hit⟩:=st
  obtain⟨its,rv,p,hz⟩:=I.tuple hq
  obtain⟨g0,g1,g2,g3,g4,g5⟩:=hf ip (by simp)
  have hl:=rv.length
  have pT:s.heap.IsTuple a its.toArray:=p
  have nai:a≠ip:=fun z=>by
   obtain⟨o1,h1,c1,_⟩:=id pT
   obtain⟨o2,h2,c2,_⟩:=id hit
   rw[z,h2]at h1;cases h1;rw[c2]at c1;injection c1 with c1;exact absurd c1 (by decide)
  have ei:i=its.toArray.size:=by rw[c7];omega
  refine wpAny_pyNext_enum_endD (U3 (A:=X.A.in1) (I.ok.hd hc) ip a nai its.toArray) he ⟨by rw[<- ei];exact hit,pT⟩ fun h' eb=>⟨rfl,I.turned (t':=s.toks) (fun b o hb q=>eb b o hb q) g0 g1 g3 g4 g5⟩
 self:=fun _ _ _ _ _ st h=>let ⟨⟨old,he⟩,_⟩:=st;wpAny_pyIter_enum he h
section
variable {X:Cx}
theorem ap2 {a:Expr}{ta:TA}{elts:List Expr}{x1:Nat}{tpos p pos:Pos}(hg:Gl X "enumerate")(hm:X.mg "enumerate"=none)(ha:PA X [a] ta)(hv:bootBuiltins "enumerate"=some (.type "enumerate"):=by rfl)(hs:starEach [a] X.env=[(false,eval a X.env)]:=by rfl) :
  PI X (.Tuple elts x1 tpos) (.Call (.Name "enumerate" p) [a] [] pos) (aE6 X.K ta):=by
 intro pins s σ H R I h
 refine Call_ (F1 I hg hm hv (PyProof.Rows.callWith_type1 (thn (ha pos pins s σ H _ I h) fun us s1 ⟨vs,H1,I1,r1,q1⟩=>?_) hs rfl))
 obtain⟨b,e,⟨xs,hq⟩,q⟩:=q1
 subst e
 obtain⟨u,rfl,rx⟩:=vals1 r1
 cases rx
 obtain⟨its,rv,pl,hz⟩:=I1.tuple hq
 refine S8 (show s1.heap.IsTuple b its.toArray from pl) fun h' he hit hsz kp=>?_
 refine wpAny_pyIter_enum he ?_
 have hne:s1.heap.objs.size+1≠s1.heap.objs.size:=Nat.succ_ne_self _
 refine⟨s1.heap.objs.size+1,[s1.heap.objs.size+1,s1.heap.objs.size],_,_,H1,rfl,I1.kept (t':=s1.toks) kp,ac1 b s1.heap.objs.size (s1.heap.objs.size+1) hne,⟨⟨_,he⟩,hit⟩,fun c hc=>?_,q⟩
 rcases b9.mp hc with rfl | hc
 ·exact I1.fpOk (t7 _) (I1.hok.fresh (t7 _))
 ·obtain rfl:c=s1.heap.objs.size:=by simpa using hc
  exact I1.fpOk (a8 _) (I1.hok.fresh (a8 _))
end
end L2
namespace L2
open PySem PySem.Spec PyProof.Rows
section
variable {X:Cx}
theorem aI4 {tg it:Expr}{w1 w2:TI}(h1:PI X tg it w1)(h2:PI X tg it w2):PI X tg it (fun σ H R=>w1 σ H R\/w2 σ H R):=
 fun pins s σ H R I h=>h.elim (h1 pins s σ H R I) (h2 pins s σ H R I)
end
theorem R6 {D:Addr}{J:It}{S:Hp->Prop}{ys:List V}{g:TG}{tt:TT}{te:TE}{Qd:Hp->Prop}{σ0:St}{H0:Hp}
  (hst:∀ i H,S H->ys.length=i->J.stop i H)(hgo:∀ i H,S H->i<ys.length->J.go i H)(hy:∀ i H x H'',S H->J.yld i H x H''->∃ (t:Addr) (v:V),H t=none/\x=.ref t/\ys[i]?=some v/\H''=upd H t (.tup [.int i,v]))
  (Pv:Nat->List V->St->Hp->Prop)(h0:Pv 0 [] σ0 H0)(hz:ys.length<=sizeLine)(hl:∀ i xs σ H,i<=ys.length->Pv i xs σ H->S H/\H D=some (.lst xs)/\xs.length<=i)
  (hs:∀ i xs x t σ H (N:List V->St->Hp->Prop),(∀ xs' σ' H',Pv (i+1) xs' σ' H'->N xs' σ' H')->ys[i]?=some x->Pv i xs σ H->H t=none->g (.ref t) σ (upd H t (.tup [.int i,x])) fun σ2 H2=>tt σ2 H2 fun b H3=>if b=true then te σ2 H3 fun v H4=>H4 D=some (.lst xs)/\N (xs++[v]) σ2 (upd H4 D (.lst (xs++[v]))) else N xs σ2 H3)
  (hd:∀ xs σ H,Pv ys.length xs σ H->Qd H) :
  ∃ W:Nat->Nat->List V->St->Hp->Prop,(∃ m,W 0 m [] σ0 H0)/\∀ i m xs σ' H',W i m xs σ' H'->H' D=some (.lst xs)/\((J.stop i H'/\Qd H')\/(J.go i H'/\xs.length<sizeLine/\∀ x H'',J.yld i H' x H''->g x σ' H'' fun σ2 H2=>tt σ2 H2 fun b H3 =>
   if b=true then te σ2 H3 fun v H4=>H4 D=some (.lst xs)/\∃ m',m'<m/\W (i+1) m' (xs++[v]) σ2 (upd H4 D (.lst (xs++[v]))) else ∃ m',m'<m/\W (i+1) m' xs σ2 H3)):=by
 refine⟨fun i m xs σ H=>m=ys.length - i/\i<=ys.length/\Pv i xs σ H,⟨ys.length,by simp,i3 _,h0⟩,?_⟩
 rintro i m xs σ H ⟨rfl,hi,p⟩
 obtain⟨q,hD,hx⟩:=hl i xs σ H hi p
 refine⟨hD,?_⟩
 by_cases hlt:i<ys.length
 ·refine .inr ⟨hgo i H q hlt,by omega,fun x H'' y=>?_⟩
  obtain⟨t,v,ht,e,hv,e'⟩:=hy i H x H'' q y
  subst e e'
  exact hs i xs v t σ _ (fun zs σ' H'=>∃ m',m'<ys.length - i/\m'=ys.length - (i+1)/\i+1<=ys.length/\Pv (i+1) zs σ' H') (fun zs σ' H' r=>⟨_,by omega,rfl,hlt,r⟩) hv p ht
 ·have e:i=ys.length:=by omega
  subst e
  exact .inl ⟨hst _ H q rfl,hd xs σ H p⟩
theorem aE2 {K:W.Frag}{a:Addr}{ys:List V}(i:Nat)(H:Hp)(q:SqL K H a ys)(h:ys.length=i):(Itn K a).stop i H:=⟨ys,q,Nat.le_of_eq h⟩
theorem aE3 {K:W.Frag}{a:Addr}{ys:List V}(i:Nat)(H:Hp)(q:SqL K H a ys)(h:i<ys.length):(Itn K a).go i H:=⟨ys,ys[i],q,by simp[h]⟩
theorem aI9 {K:W.Frag}{a:Addr}{ys:List V}(i:Nat)(H:Hp)(x:V)(H'':Hp)(q:SqL K H a ys)(y:(Itn K a).yld i H x H''):∃ (t:Addr) (v:V),H t=none/\x=.ref t/\ys[i]?=some v/\H''=upd H t (.tup [.int i,v]):=by
 obtain⟨t,v,ht,e,hv,e'⟩:=y
 exact⟨t,v,ht,e,hv ys q,e'⟩
theorem aE4 {K:W.Frag}{a:Addr}{ys:List V}(i:Nat)(H:Hp)(q:SqT K H a ys)(h:ys.length=i):(Itm K a).stop i H:=⟨ys,q,h⟩
theorem aE5 {K:W.Frag}{a:Addr}{ys:List V}(i:Nat)(H:Hp)(q:SqT K H a ys)(h:i<ys.length):(Itm K a).go i H:=⟨ys,ys[i],q,by simp[h]⟩
theorem aJ0 {K:W.Frag}{a:Addr}{ys:List V}(i:Nat)(H:Hp)(x:V)(H'':Hp)(q:SqT K H a ys)(y:(Itm K a).yld i H x H''):∃ (t:Addr) (v:V),H t=none/\x=.ref t/\ys[i]?=some v/\H''=upd H t (.tup [.int i,v]):=by
 obtain⟨t,v,ht,e,hv,e'⟩:=y
 exact⟨t,v,ht,e,hv ys q,e'⟩
theorem ae3 {K:W.Frag} {a:Addr} {ys:List V} {g:TG} {tt:TT} {te:TE} {Qd:Addr->Hp->Prop} {σ0:St} {H:Hp} (hS:SqL K H a ys\/SqT K H a ys) (hz:ys.length<=sizeLine)
  (Pv:Addr->Nat->List V->St->Hp->Prop) (h0:∀ D,H D=none->Pv D 0 [] σ0 (upd H D (.lst []))) (hl:∀ D i xs σ H',H D=none->i<=ys.length->Pv D i xs σ H'->m5 H H'/\H' D=some (.lst xs)/\xs.length<=i)
  (hs:∀ D i xs x t σ H' (N:List V->St->Hp->Prop),H D=none->(∀ xs' σ' H'',Pv D (i+1) xs' σ' H''->N xs' σ' H'')->ys[i]?=some x->Pv D i xs σ H'->H' t=none->g (.ref t) σ (upd H' t (.tup [.int i,x])) fun σ2 H2=>tt σ2 H2 fun b H3=>if b=true then te σ2 H3 fun v H4=>H4 D=some (.lst xs)/\N (xs++[v]) σ2 (upd H4 D (.lst (xs++[v]))) else N xs σ2 H3)
  (hd:∀ D xs σ H',H D=none->Pv D ys.length xs σ H'->Qd D H') :
  (∃ b, [V.ref a] = [V.ref b] /\ (∃ xs, SqL K H b xs) /\ ∀ D, H D = none -> ∃ W : Nat -> Nat -> List V -> St -> Hp -> Prop, (∃ m, W 0 m [] σ0 (upd H D (.lst []))) /\ ∀ i m xs σ' H', W i m xs σ' H' -> H' D = some (.lst xs) /\ (((Itn K b).stop i H' /\ Qd D H') \/ ((Itn K b).go i H' /\ xs.length < sizeLine /\ ∀ x H'', (Itn K b).yld i H' x H'' -> g x σ' H'' fun σ2 H2 => tt σ2 H2 fun b H3 =>
   if b=true then te σ2 H3 fun v H4=>H4 D=some (.lst xs)/\∃ m',m'<m/\W (i+1) m' (xs++[v]) σ2 (upd H4 D (.lst (xs++[v]))) else ∃ m',m'<m/\W (i+1) m' xs σ2 H3))) \/
  (∃ b, [V.ref a] = [V.ref b] /\ (∃ xs, SqT K H b xs) /\ ∀ D, H D = none -> ∃ W : Nat -> Nat -> List V -> St -> Hp -> Prop, (∃ m, W 0 m [] σ0 (upd H D (.lst []))) /\ ∀ i m xs σ' H', W i m xs σ' H' -> H' D = some (.lst xs) /\ (((Itm K b).stop i H' /\ Qd D H') \/ ((Itm K b).go i H' /\ xs.length < sizeLine /\ ∀ x H'', (Itm K b).yld i H' x H'' -> g x σ' H'' fun σ2 H2 => tt σ2 H2 fun b H3 =>
   if b=true then te σ2 H3 fun v H4=>H4 D=some (.lst xs)/\∃ m',m'<m/\W (i+1) m' (xs++[v]) σ2 (upd H4 D (.lst (xs++[v]))) else ∃ m',m'<m/\W (i+1) m' xs σ2 H3))):=by
 rcases hS with hS | hS
 ·exact .inl ⟨a,rfl,⟨_,hS⟩,fun D hD=>R6 (S:=fun H'=>SqL K H' a ys) aE2 aE3 aI9 (Pv D) (h0 D hD) hz (fun i xs σ H' hi p=>let ⟨s,g,l⟩:=hl D i xs σ H' hD hi p;⟨s.seq hS,g,l⟩) (fun i xs x t σ H' N kN hx p ht=>hs D i xs x t σ H' N hD kN hx p ht) (fun xs σ H' p=>hd D xs σ H' hD p)⟩
 ·exact .inr ⟨a,rfl,⟨_,hS⟩,fun D hD=>R6 (S:=fun H'=>SqT K H' a ys) aE4 aE5 aJ0 (Pv D) (h0 D hD) hz (fun i xs σ H' hi p=>let ⟨s,g,l⟩:=hl D i xs σ H' hD hi p;⟨s.seqT hS,g,l⟩) (fun i xs x t σ H' N kN hx p ht=>hs D i xs x t σ H' N hD kN hx p ht) (fun xs σ H' p=>hd D xs σ H' hD p)⟩
theorem av7 {X:Cx}(K:W.Frag)(hK:X.K=K){es:List Expr}{k:Nat}{pos:Pos}{t:TGs}{n:Nat}(hc:X.calm=true)(h:PGs X es t)
  (hn:(assignEach es X.env).length=n:=by rfl)(hst:(assignEach es X.env).findIdx? (·.1)=none:=by rfl):PG X (.Tuple es k pos) (aJ6 K n t):=by
 subst hK
 exact ad0 hc h hn hst
section
variable {X:Cx}
end
end L2
namespace HT
open PySem PyProof.Rows
section
variable {prog:Program} {w:World} {A:Around} {E:Value->Shared->Prop} {s:Shared}
end
end HT
namespace L2
open PySem PySem.Spec PyProof.Rows
section
variable {X:Cx} {e st:Expr} {te ts:TE} {pos p2:Pos}
def aL1 (t u:TS):TS:=fun D σ H=>∃ Mid:St->Hp->Prop,t { D with nx:=Mid } σ H/\∀ σ' H',Mid σ' H'->u D σ' H'
theorem av3 {stm:Stmt}{rest:List Stmt}{t u:TS}(h1:PS X stm t)(h2:PSs X rest u):PSs X (stm::rest) (aL1 t u):=by
 intro pins s σ H D I ⟨Mid,h,k⟩
 refine wpAny_execs_cons (thn (h1 pins s σ H { D with nx:=Mid } I h) fun f s1 q=>?_)
 cases f with
 | next =>
  obtain⟨σ',H',I',q⟩:=q
  exact h2 pins s1 σ' H' D I' (k _ _ q)
 | ret v=>exact q
 | brk=>exact q
 | cont=>exact q
end
end L2
namespace Web
open PySem L2
def top (i:Nat):Stmt:=PySem.Challenge.pw_tallyweb_k29_pieces.main.body.getD i (.Pass ⟨0,0,0,0⟩)
abbrev V5:Stmt:=top 5
abbrev sUp:Stmt:=top 6
abbrev M4:Stmt:=top 7
abbrev Y6:Stmt:=top 8
abbrev E4:Stmt:=top 10
abbrev Y5:Stmt:=top 11
abbrev M5:Stmt:=top 13
abbrev E3:Stmt:=top 14
abbrev E6:Stmt:=top 15
abbrev Y4:Stmt:=top 16
abbrev M3:Stmt:=top 17
abbrev E5:Stmt:=top 18
abbrev S6:Stmt:=top 19
structure Bn (mg:Str->Option Value):Prop where
 len:mg "len"=none
 range:mg "range"=none
 enum:mg "enumerate"=none
 list:mg "list"=none
 tuple:mg "tuple"=none
 sorted:mg "sorted"=none
 set:mg "set"=none
 isin:mg "isinstance"=none
 int:mg "int"=none
 bool:mg "bool"=none
 min:mg "min"=none
 max:mg "max"=none
 sum:mg "sum"=none
 str:mg "str"=none
 ve:mg "ValueError"=none
theorem E1:1000<=sizeLine:=by decide
theorem i4 {H:Hp}{l:Addr}{o:HO}(h:H l=none):m5 H (upd H l o):=fun b u e=>by
 rw[j1 (l5 e h)]
 exact e
section
variable {P:Program} {w:World} {K:W.Frag} {mg:Str->Option Value} {base:Heap}
def az7:Sp:=fun vs H Q _=>∃ a b:Int,vs=[.int a,.int b]/\Q (.bl (decide (0<=b) && decide (b<a))) H
theorem aH8:r6 ["places","number"] ["places","number"] (i5 V5):=⟨rfl,rfl,rfl,by decide +kernel,rfl,by decide +kernel,by decide +kernel⟩
theorem aD1 {f:Addr}{fd:FuncData}(F:Fun K "is_place" "is_place" V5 f fd):u0 P w K mg base CX0 1 f fd ["places","number"] az7:=by
 refine F.ok aH8 (fun vs H Q E h=>?_) (fun cdv A outer s H vs Q E hr h=>?_)
 ·obtain⟨a,b,rfl,_⟩:=h
  rfl
 ·obtain⟨a,b,rfl,k⟩:=h
  refine⟨_,j6 (u3 (ap6 aq0 ap9 f7 (pv 1) (pv 0))),?_⟩
  refine⟨_,rfl,_,_,rfl,rfl,_,rfl,?_⟩
  cases e:decide ((0:Int)<=b) with
  | true =>
   refine B4 ⟨_,rfl,_,_,rfl,rfl,?_⟩
   rw[e,am0]at k
   exact k
  | false =>
   refine y1 ?_
   rw[e,Bool.false_and]at k
   exact k
def aH6 (K:W.Frag):Sp:=fun vs H Q _=>∃ (n:Nat) (a:Addr) (k:List Int),vs=[.int n,.ref a]/\SqT K H a (k.map V.int)/\ab2 n k /\
 ∀ p,H p=none->Q (.ref p) (upd H p (.tup ((up k).map V.int)))
theorem aL4:r6 ["places","tie"] ["places","tie"] (i5 sUp):=⟨rfl,rfl,rfl,by decide +kernel,rfl,by decide +kernel,by decide +kernel⟩
theorem aI7 {f fI:Addr} {fd fdI:FuncData} (F:Fun K "turned_up" "turned_up" sUp f fd) (B:Bn mg) (FI:Fun K "is_place" "is_place" V5 fI fdI) (bI:Binds K fdI ["places","number"] []) (mI:mg "is_place"=some (.ref fI)) :
  u0 P w K mg base CX0 2 f fd ["places","tie"] (aH6 K):=by
 have GI:u0 P w K mg base CX0 1 fI fdI ["places","number"] az7:=aD1 FI
 refine F.ok aL4 (fun vs H Q E h=>?_) (fun cdv A outer s H vs Q E hr h=>?_)
 ·obtain⟨n,a,k,rfl,_⟩:=h
  rfl
 ·obtain⟨n,a,k,rfl,hS,⟨i,j,h1,h2,h3,rfl⟩,q⟩:=h
  refine⟨_,c8 (w9 (PW.pt (ao5 (J0 (A3 (p9 GI hr rfl mI FI.kp bI .nil y7 (a9 (pv 0) (a9 (u4 A5 (pv 1) f7 (fun _ _=>rfl)) d6)))))
     (ac8 (J0 (A3 (p9 GI hr rfl mI FI.kp bI .nil y7 (a9 (pv 0) (a9 (u4 A5 (pv 1) f7 (fun _ _=>rfl)) d6)))))))) p7 o9)
   (c8 (w9 (v8 G5 (u4 A5 (pv 1) f7 (fun _ _=>rfl)) (u4 A5 (pv 1) f7 (fun _ _=>rfl)) (u6 _)) p7 o9)
   (j6 (u3 (ad1 (a9 (l4 (U4 rfl) (by rfl) B.min (by rfl) (a9 (u4 A5 (pv 1) f7 (fun _ _ => rfl)) (a9 (u4 A5 (pv 1) f7 (fun _ _ => rfl)) d6)))
    (a9 (l4 (al5 rfl) (by rfl) B.max (by rfl) (a9 (u4 A5 (pv 1) f7 (fun _ _=>rfl)) (a9 (u4 A5 (pv 1) f7 (fun _ _=>rfl)) d6))) d6)))))),?_⟩
  have a0:atI (([(i:Int),(j:Int)]:List Int).map V.int) 0=some (.int i):=n8 (j:=0) rfl
  have a1:atI (([(i:Int),(j:Int)]:List Int).map V.int) 1=some (.int j):=n8 (j:=1) rfl
  refine⟨_,rfl,_,rfl,a,_,_,_,rfl,rfl,hS,a0,_,_,rfl,?_⟩
  rw[decide_eq_true (show (0:Int)<=i by omega),decide_eq_true (show (i:Int)<n by omega)]
  refine⟨_,rfl,y1 ?_⟩
  refine⟨_,rfl,_,rfl,a,_,_,_,rfl,rfl,hS,a1,_,_,rfl,?_⟩
  rw[decide_eq_true (show (0:Int)<=j by omega),decide_eq_true (show (j:Int)<n by omega)]
  refine⟨_,rfl,y1 ?_⟩
  refine⟨_,rfl,a,_,_,_,rfl,rfl,hS,a0,_,rfl,a,_,_,_,rfl,rfl,hS,a1,rfl,_,rfl,?_⟩
  rw[decide_eq_false (show ¬ V.int (i:Int)=V.int (j:Int) by intro z;injection z;omega)]
  refine y1 ?_
  refine⟨_,rfl,a,_,_,_,rfl,rfl,hS,a0,_,rfl,a,_,_,_,rfl,rfl,hS,a1,_,_,rfl,?_⟩
  refine⟨_,rfl,a,_,_,_,rfl,rfl,hS,a0,_,rfl,a,_,_,_,rfl,rfl,hS,a1,_,_,rfl,(by show 2<=sizeLine;decide),fun p hp=>?_⟩
  exact q p hp
end
end Web
namespace Tim
open PySem PyProof.Rows
theorem aj9:∀ n:Nat,n<300->minRun' n n 0<=n:=by decide +kernel
section
variable {prog:Program} {w:World} {A:Around} {E:Value->Shared->Prop} {s:Shared} {κ:SortKind} {a₀:Array Keyed} {p:Array (Nat × Nat × Nat)} {O:KeyOrd} {f:Keyed->O.α}
theorem ab7 (C:aF6 prog w A E s κ a₀ f){st:SortSt}{Q:Option Nat->SortSt->Prop}(d:O.α)(h1:1<=a₀.size)(hB:SI a₀ κ p st)(hs:K5 f d 0 (arrOf st) a₀.size)(h:Q (some a₀.size) st) :
  wpS (model prog w) A E s (countRun' 0 (a₀.size - 0)) Q st:=by
 rw[countRun'_eq]
 dsimp only
 refine wpS_bind (au1 (f:=f) (d:=d) (lo:=0) (a8 1) h1 (fun x n R hn1 hn2 q1 q2=>?_) (fun i j hij hj=>by have:i=j:=(by omega);subst this;exact KeyOrd.kle_refl _) fun n hn1 hn2 hsn hor=>?_)
 ·dsimp only
  refine wpS_bind (au0 (d:=d) C hB (by omega) (by omega) ?_)
  cases e:O.blt (KF f d (arrOf st) (0+n)) (KF f d (arrOf st) (0+n - 1)) with
  | true=>exact wpS_pure (q1 e)
  | false=>exact wpS_pure (q2 e)
 dsimp only
 have hnn:n=a₀.size - 0:=by
  rcases hor with e | z
  ·exact e
  ·by_cases hlt:n<a₀.size
   ·have k:=hs (n - 1) n (by omega) hlt
    rw[show 0+(n - 1)=0+n - 1 by omega]at k
    exact absurd (show O.blt _ _=true from z) (by rw[show O.blt _ _=false from k];exact b7)
   ·omega
 rw[if_pos (by simpa using hnn),hnn]
 exact wpS_pure h
theorem ai8 (C:aF6 prog w A E s κ a₀ f){st:SortSt}{Q:Unit->SortSt->Prop}(d:O.α)(ha:arrOf st=a₀)(hk:kindOf st=κ)(hf:failedOf st=none)(hpe:pendingOf st=#[])(h1s:1<=a₀.size)(h3:a₀.size<300)(hs:K5 f d 0 a₀ a₀.size)
  (h:∀ st',arrOf st'=a₀->failedOf st'=none->Q () st'):wpS (model prog w) A E s sortRuns' Q st:=by
 rw[sortRuns'_eq]
 refine wpS_bind (wpS_get ?_)
 dsimp only
 rw[ha]
 have hmr:=aj9 a₀.size h3
 generalize minRun' a₀.size a₀.size 0=mr at hmr ⊢
 have key:∀ {p:Array (Nat × Nat × Nat)} {st':SortSt},arrOf st'=a₀/\kindOf st'=κ/\failedOf st'=none/\pendingOf st'=p->SI a₀ κ p st':=fun I=>⟨I.1 ▸ Array.Perm.refl _,I.2.1,I.2.2.1,I.2.2.2⟩
 refine wpS_bind (wpS_mono (wpS_forRange
  (I:=fun x c st'=>(c=(none,0)/\x=0/\(arrOf st'=a₀/\kindOf st'=κ/\failedOf st'=none/\pendingOf st'=#[]))\/(c=(none,a₀.size)/\(arrOf st'=a₀/\kindOf st'=κ/\failedOf st'=none/\pendingOf st'=#[(0,a₀.size,0)])))
  (Q:=fun c st'=>c=(none,a₀.size)/\(arrOf st'=a₀/\kindOf st'=κ/\failedOf st'=none/\pendingOf st'=#[(0,a₀.size,0)])) ?step ?fin
  (.inl ⟨rfl,rfl,ha,hk,hf,hpe⟩)) ?post)
 case fin =>
  rintro c st' (⟨rfl,hx,I⟩ | q)
  ·omega
  ·exact q
 case step =>
  rintro x c st1 _ hx (⟨rfl,rfl,I⟩ | ⟨rfl,I⟩)
  ·dsimp only
   rw[if_neg (by omega)]
   refine wpS_bind (ab7 C d h1s (key I) (by rw[I.1];exact hs) ?_)
   dsimp only
   rw[if_neg (by omega)]
   refine wpS_bind (wpS_get ?_)
   rw[I.2.2.2]
   show wpS _ _ _ _ (do modify fun s=>setPending s ((pendingOf s).push (0,a₀.size,0));pure (ForInStep.yield (none,0+a₀.size))) _ _
   refine wpS_bind (wpS_modify (wpS_pure (.inr ⟨by rw[L1],I.1,I.2.1,I.2.2.1,?_⟩)))
   show (pendingOf st1).push (0,a₀.size,0)=_
   rw[I.2.2.2]
   rfl
  ·dsimp only
   rw[if_pos (a8 _)]
   exact wpS_pure ⟨rfl,I⟩
 case post =>
  rintro c st1 ⟨rfl,I⟩
  try dsimp only
  refine wpS_bind (wpS_mono (wpS_forRange
   (I:=fun x c st'=>c=(none,())/\(arrOf st'=a₀/\kindOf st'=κ/\failedOf st'=none/\pendingOf st'=#[(0,a₀.size,0)]))
   (Q:=fun c st'=>c=(none,())/\(arrOf st'=a₀/\kindOf st'=κ/\failedOf st'=none/\pendingOf st'=#[(0,a₀.size,0)])) ?fstep (fun _ _ q=>q) ⟨rfl,I⟩) ?fpost)
  case fstep =>
   rintro x c st2 _ hx ⟨rfl,I2⟩
   refine wpS_bind (wpS_get ?_)
   try dsimp only
   rw[if_pos (by rw[I2.2.2.2];exact a8 _)]
   exact wpS_pure ⟨rfl,I2⟩
  case fpost =>
   rintro c st2 ⟨rfl,I2⟩
   exact wpS_pure (h st2 I2.1 I2.2.2.1)
end
section
variable {prog:Program} {w:World} {A:Around} {E:Value->Shared->Prop} {s:Shared}
theorem ac3 {a:Addr}{vs:List Value}{n:Nat}{P:PySem.Fin->Shared->Prop}(ho:s.heap.get? a=some (seqObj "list" vs.toArray n))(hz:vs.length<=sizeLine)(h3:vs.length<300)
  (hv:∀ v∈vs,∃ i k,IsK prog w s.heap (i::k) v)(hna:∀ v∈vs,v≠.ref a)(hs:vs.Pairwise (fun x y=>v9 (y9 prog w s.heap y) (y9 prog w s.heap x)=false))
  (h:P (.done (.ret .none)) { s with heap:=sortedHeap s.heap a vs vs.toArray }) :
  wpAny (model prog w) A (Builtin.«list.sort» ⟨[.ref a],[]⟩) P E s:=by
 rw[list_sort_plain]
 have ha:a<s.heap.objs.size:=b0 ho
 refine wpAny_bind (listItems_at ho rfl ?_)
 refine wpAny_bind (listUpdate_at ho rfl ?_ (by rw[c7];exact hz) (i3 _))
 obtain⟨e1,ho1⟩:∃ e1,(s.heap.update a (Obj.mapSeq fun _=>#[])).get? a=some (seqObj "list" #[] e1):=⟨_,get?_update_seq ho (fun _=>#[])⟩
 refine wpAny_bind (seqEpoch_at ho1 rfl ?_)
 refine wpAny_bind (wpAny_newTuple ?_ (by show vs.length<=_;exact hz))
 refine wpAny_bind (wpAny_newList ?_ (i3 _))
 refine wpAny_holding ?_
 generalize hH:((s.heap.update a (Obj.mapSeq fun _=>#[])).push (seqObj "tuple" vs.toArray 0)).push (seqObj "list" #[] 0)=h6
 have ho6:h6.get? a=some (seqObj "list" #[] e1):=by rw[<- hH];exact a7 _ (a7 _ ho1)
 have keep:∀ b o,b≠a->s.heap.get? b=some o->h6.get? b=some o:=fun b o hb e=>by
  rw[<- hH]
  exact a7 _ (a7 _ ((k4 s.heap _ (Ne.symm hb)).trans e))
 have up:∀ v∈vs,∀ k,IsK prog w s.heap k v->IsK prog w h6 k v:=fun v hv' k hk=>by
  obtain⟨c,rfl,o,items,n,h2,h3⟩:=hk
  exact⟨c,rfl,o,items,n,keep c o (fun z=>hna _ hv' (by rw[z])) h2,h3⟩
 have hm:(pairsOf vs).map (·.2)=vs.toArray:=by
  apply Array.ext'
  rw[Array.toList_map,pairsOf_toList]
  exact List.map_snd_zip (a8 _)
 have out:∀ st':SortSt,arrOf st'=pairsOf vs->failedOf st'=none ->
   wpAny (model prog w) A (do
    let sorted:=(arrOf st').map (·.2)
    let touched:=(<- seqEpoch a) != e1
    Builtin.List.listUpdate (.ref a) fun _=>sorted
    if let some e:=failedOf st' then rule "list.sort.comparison-raised";throw e
    if touched then rule "list.sort.modified";raiseError "ValueError" "list modified during sort"
    ret .none) P E { s with heap:=h6 }:=fun st' hp hf=>by
  rw[hp,hm]
  dsimp only
  refine wpAny_bind (seqEpoch_at (s:={ s with heap:=h6 }) ho6 rfl ?_)
  refine wpAny_bind (listUpdate_at (s:={ s with heap:=h6 }) ho6 rfl ?_ (i3 _) (by rw[c7];omega))
  rw[hf]
  simp only[bne_self_eq_false,e8,if_false]
  refine wpAny_pure ?_
  unfold sortedHeap at h
  rw[hH]at h
  exact h
 show wpAny (model prog w) A _ P E { s with heap:=h6 }
 dsimp only
 by_cases h2:vs.toArray.size<2
 ·rw[if_pos h2,if_pos h2]
  refine wpAny_bind (wpAny_pure ?_)
  rw[StateT.run_pure]
  refine wpAny_bind (wpAny_pure ?_)
  exact out (SortSt.mk' general' (vs.toArray.zip vs.toArray) #[] 7 none) rfl rfl
 ·rw[if_neg h2,if_neg h2]
  rw[c7]at h2
  refine wpAny_bind (ad6 (s:={ s with heap:=h6 }) (by omega) (fun v hv'=>?_) ?_)
  ·obtain⟨i,k,hk⟩:=hv v hv'
   exact⟨i,k,up v hv' _ hk⟩
  refine wpAny_bind (wpAny_mono (ai8 (s:={ s with heap:=h6 }) (a₀:=pairsOf vs) (κ:=tuples' true) (O:=aD5) (f:=fun p=>y9 prog w s.heap p.1) (st:=SortSt.mk' (tuples' true) (vs.toArray.zip vs.toArray) #[] 7 none)
   (Q:=fun _ st'=>arrOf st'=pairsOf vs/\failedOf st'=none) ?_ ([]:List Int) rfl rfl rfl rfl (by rw[pairsOf_size];omega) (by rw[pairsOf_size];exact h3) ?_ fun st' a1 a2=>⟨a1,a2⟩) ?_ fun _ _ e=>e)
  ·intro x y hx hy Q hq
   rw[pairsOf_toList]at hx hy
   obtain⟨i,k,hk⟩:=hv x.1 (mem_zip_self hx).2
   obtain⟨j,k',hk'⟩:=hv y.1 (mem_zip_self hy).2
   refine aq9 (s:={ s with heap:=h6 }) (up _ (mem_zip_self hx).2 _ hk) (up _ (mem_zip_self hy).2 _ hk') ?_
   rw[<- F2 hk,<- F2 hk']
   exact hq
  ·intro i j hij hj
   rw[pairsOf_size]at hj
   have g:∀ k,(hk:k<vs.length)->(pairsOf vs)[0+k]?=some (vs[k],vs[k]):=fun k hk=>by
    rw[L1,<- c5,pairsOf_toList,List.getElem?_zip_eq_some]
    exact⟨d4 hk,d4 hk⟩
   have kk:∀ k,(hk:k<vs.length)->KF (O:=aD5) (fun p=>y9 prog w s.heap p.1) ([]:List Int) (pairsOf vs) (0+k)=y9 prog w s.heap vs[k]:=fun k hk=>W9 (O:=aD5) (f:=fun p=>y9 prog w s.heap p.1) (g k hk)
   have hij2:v9 (y9 prog w s.heap vs[j]) (y9 prog w s.heap (vs[i]'(by omega)))=false:=by
    by_cases e:i=j
    ·subst e;exact K2 _
    ·exact m7.mp hs i j (by omega) hj (by omega)
   exact(congr (congrArg v9 (kk j hj)) (kk i (by omega))).trans hij2
  ·rintro⟨⟨⟩,st'⟩ s' ⟨rfl,hp,hf⟩
   exact out st' hp hf
theorem P0 {l:Addr} {vs:List Value} {Q:Value->Shared->Prop} (hl:s.heap.IsList l vs.toArray) (hz:vs.length<=sizeLine) (h3:vs.length<300) (hv:∀ v∈vs,∃ i k,IsK prog w s.heap (i::k) v)
  (hs:vs.Pairwise (fun x y=>v9 (y9 prog w s.heap y) (y9 prog w s.heap x)=false))
  (h : ∀ (h' : Heap) (n : Nat), (∀ b o, s.heap.get? b = some o -> h'.get? b = some o) ->
   h'.get? (s.heap.objs.size+1)=some { cls:=.type "list",data:=.seq vs.toArray n }->Q (.ref (s.heap.objs.size+1)) { s with heap:=h' }) :
  wpAny (model prog w) A (call (.builtin "sorted") [.ref l]) Q E s:=by
 refine Calls.call_function_entry kind_sorted plain_sorted entry_sorted (args_sorted1 _) ?_
 unfold Builtin.«sorted»
 refine wpAny_bind (m:=checkCount "sorted" 1 1 _) (wpAny_pure ?_)
 refine wpAny_bind (collect_list hl ?_ hz)
 refine wpAny_bind (wpAny_newList ?_ hz)
 have hsz:((s.heap.push (seqObj "list" #[] 0)).update s.heap.objs.size (Obj.mapSeq (·++vs.toArray))).objs.size=s.heap.objs.size+1:=by
  rw[Heap.size_update,size_push']
 generalize hH:((s.heap.push (seqObj "list" #[] 0)).update s.heap.objs.size (Obj.mapSeq (·++vs.toArray))).push (seqObj "list" vs.toArray 0)=h2
 have hoL:h2.get? (s.heap.objs.size+1)=some (seqObj "list" vs.toArray 0):=by
  rw[<- hH,<- hsz];exact b5 _ rfl
 have keep:∀ b o,s.heap.get? b=some o->h2.get? b=some o:=fun b o e=>by
  rw[<- hH]
  refine a7 _ ((k4 _ _ ?_).trans (a7 _ e))
  exact Ne.symm (c3 (b0 e))
 have hsz2:h2.objs.size=s.heap.objs.size+2:=by rw[<- hH,size_push',hsz]
 rw[hsz]
 have up:∀ v k,IsK prog w s.heap k v->IsK prog w h2 k v:=fun v k hk=>hk.up keep
 have kA:∀ v∈vs,y9 prog w h2 v=y9 prog w s.heap v:=fun v hv'=>by
  obtain⟨i,k,hk⟩:=hv v hv'
  rw[F2 hk,F2 (up v _ hk)]
 refine wpAny_bind (wpAny_holding (wpAny_call_entry slot_list_sort (s:={ s with heap:=h2 }) ⟨_,hoL,rfl⟩ entry_list_sort (ac3 (s:={ s with heap:=h2 }) hoL hz h3 (fun v hv'=>?_) (fun v hv' z=>?_) ?_ ⟨_,rfl,?_⟩) (args_list_sort _)))
 ·obtain⟨i,k,hk⟩:=hv v hv'
  exact⟨i,k,up v _ hk⟩
 ·obtain⟨i,k,a,rfl,o,items,n,ho,_⟩:=hv v hv'
  cases z
  exact absurd (b0 ho) (am1.mpr (t7 _))
 ·refine List.Pairwise.imp_of_mem ?_ hs
  intro x y hx hy hxy
  show v9 (y9 prog w h2 y) (y9 prog w h2 x)=false
  rw[kA x hx,kA y hy]
  exact hxy
 ·have hlast:∃ n,(sortedHeap h2 (s.heap.objs.size+1) vs vs.toArray).get? (s.heap.objs.size+1)=some (seqObj "list" vs.toArray n):=by
   unfold sortedHeap
   have g1:=get?_update_seq hoL (fun _=>(#[]:Array Value))
   have g2:(((h2.update (s.heap.objs.size+1) (Obj.mapSeq fun _=>#[])).push (seqObj "tuple" vs.toArray 0)).push (seqObj "list" #[] 0)).get? (s.heap.objs.size+1)=_:=a7 _ (a7 _ g1)
   exact⟨_,get?_update_seq g2 (fun _=>vs.toArray)⟩
  obtain⟨n,hn⟩:=hlast
  refine wpAny_pure ⟨_,rfl,h _ n (fun b o e=>?_) hn⟩
  have hb:b≠s.heap.objs.size+1:=c3 (j0 (b0 e))
  unfold sortedHeap
  refine(k4 _ _ (Ne.symm hb)).trans (a7 _ (a7 _ ((k4 _ _ (Ne.symm hb)).trans (keep b o e))))
end
end Tim
namespace L2
open PySem PySem.Spec PyProof.Rows
section
variable {X:Cx}
theorem W7:A9 X (.builtin "sorted") (fun xs H Q=>∃ p ys ks,xs=[.ref p]/\SqL X.K H p ys/\o6 X.K H ys ks/\(∀ k∈ks,k≠[])/\ks.length<300/\ks.Pairwise (fun a b=>Tim.v9 b a=false) /\
  ∀ l,H l=none->Q (.ref l) (upd H l (.lst ys))):=by
 intro pins s σ H xs us Q I r h
 obtain⟨p,ys,ks,rfl,hq,ht,hne,h3,hso,q⟩:=h
 obtain⟨u,rfl,rx⟩:=vals1 r
 cases rx
 obtain⟨its,r',pl,hz⟩:=I.list hq
 have hlen:=r'.length
 have hk:=L4 I ht r'
 have hv:∀ v∈its,∃ i k,Tim.IsK X.prog X.w s.heap (i::k) v:=fun v hv=>by
  obtain⟨j,hj⟩:=t5.mp hv
  obtain⟨k,h1,a,rfl,h2⟩:=J3 hk hj
  cases k with
  | nil=>exact absurd rfl (hne [] (b6 h1))
  | cons i k=>exact⟨i,k,a,rfl,h2⟩
 have eq:ks=its.map (Tim.y9 X.prog X.w s.heap):=by
  clear hso h3 hne ht hv q r' pl hlen
  induction hk with
  | nil=>rfl
  | cons r t ih =>
   obtain⟨a,rfl,hka⟩:=r
   rw[k9,Tim.F2 ⟨a,rfl,hka⟩,<- ih]
 refine Tim.P0 pl.isList (by omega) (by rw[<- hlen,o6.len ht];exact h3) hv (by rw[eq,w8]at hso;exact hso) fun h' n kp e=>?_
 have hfr:H (s.heap.objs.size+1)=none:=I.hok.fresh (t7 _)
 exact⟨.ref (s.heap.objs.size+1),upd H (s.heap.objs.size+1) (.lst ys),I.laid (t':=s.toks) kp (t7 _) (show q0 X.prog X.w _ h' _ (.lst ys) from ⟨hz,its,n,r',e⟩),rfl,q _ hfr⟩
end
end L2
namespace Grf
def S:Nat->(Nat->Int)->Int
 | 0,_=>0
 | n+1,f=>S n f+f n
def b2 (b:Bool):Int:=if b then 1 else 0
structure Gph (g:Nat->Nat->Bool):Prop where
 sym:∀ i j,g i j=g j i
 irr:∀ i,g i i=false
def deg (n:Nat)(g:Nat->Nat->Bool)(i:Nat):Int:=S n fun j=>b2 (g i j)
def aL3 (g:Nat->Nat->Bool)(a b:Nat)(v:Bool):Nat->Nat->Bool:=fun i j=>if (i=a/\j=b)\/(i=b/\j=a) then v else g i j
end Grf
namespace Grf
structure Ex (g:Nat->Nat->Bool) (a b c d:Nat):Prop where
 ab:a≠b
 ac:a≠c
 ad:a≠d
 bc:b≠c
 bd:b≠d
 cd:c≠d
 t1:g a b=true
 t2:g c d=true
 n1:g a d=false
 n2:g c b=false
end Grf
namespace Grf
def cnt (n:Nat)(a:Nat->Bool):Int:=S n fun i=>b2 (a i)
def sm (n:Nat)(a:Nat->Bool)(d:Nat->Int):Int:=S n fun i=>if a i=true then d i else 0
def put (a:Nat->Bool)(j:Nat)(v:Bool):Nat->Bool:=fun i=>if i=j then v else a i
end Grf
namespace Grf
end Grf
namespace Grf
def mnf (r x:Int):Int:=if r<x then r else x
def roomF (n:Nat)(d:Nat->Int)(A:Nat->Bool):Int:=cnt n A*(cnt n A - 1)+S n (fun i=>if A i=true then 0 else mnf (cnt n A) (d i)) - sm n A d
def Top (n:Nat)(d:Nat->Int)(A:Nat->Bool):Prop:=∀ i j,i<n->j<n->A i=true->A j=false->d j<=d i
end Grf
namespace Web
end Web
namespace Web
inductive Wl where
 | below (p:Nat) | odd | wall (r:Nat) | free
 deriving DecidableEq
end Web
namespace Web
open L2
def rng (n:Nat):List Int:=(az0 0 n).map fun k:Nat=>(k:Int)
def rest (zs:List Int)(p:Int):List Int:=zs.filter fun x=>decide (x≠p)
open Grf (S b2 Gph deg cnt sm Top roomF)
end Web
namespace Web
open PySem L2
def aK0 (ks:List (List Int))(p:Nat):Nat:=ks.countP fun k=>decide ((p:Int)∈k)
theorem sum_set:∀ (xs:List Int) (i:Nat) (z:Int),xs[i]?=some z->(xs.set i (z+1)).sum=xs.sum+1
 | [],i,z,h=>by simp at h
 | x::xs,0,z,h=>by
  simp at h
  subst h
  simp only[List.set_cons_zero,S2]
  omega
 | x::xs,i+1,z,h=>by
  have:=sum_set xs i z (by simpa using h)
  simp only[aB1,S2]
  omega
end Web
namespace Web
open L2
open Grf (S b2 Gph deg aL3)
theorem aw3 {n i j:Nat}(h1:i<j)(h2:j<n):[(i:Int),(j:Int)]∈A4 n:=by
 unfold A4
 refine X1.mpr ⟨i,j7.mpr (by omega),?_⟩
 unfold C3
 exact k7.mpr ⟨j - (i+1),j7.mpr (by omega),by
  rw[show ((j - (i+1):Nat):Int)=(j:Int) - ((i:Int)+1) by omega]
  rw[show (i:Int)+1+((j:Int) - ((i:Int)+1))=(j:Int) by omega]⟩
end Web
namespace Web
open L2
open Grf (S b2 Gph deg cnt sm Top roomF)
end Web
namespace Web
open L2
structure aM9 (ns ps left:List Int) (ks:List (List Int)):Prop where
 len:left.length=ps.length
 nd:ps.Nodup
 inn:∀ q∈ps,0<=q/\q<ns.length
 ends:∀ k∈ks,ab2 ns.length k
 nodup:(ks.map up).Nodup
 out:∀ a b:Int,[a,b]∈ks->¬ (a∈ps/\b∈ps)
 cnt:∀ i q:Nat,ps[i]?=some (q:Int)->(aK0 ks q:Int)+left.getD i 0=ns.getD q 0
 done:∀ q:Nat,q<ns.length->(q:Int)∉ps->(aK0 ks q:Int)=ns.getD q 0
theorem Z4:∀ {l m:List (List Int)},l.Nodup->(∀ x∈l,x∈m)->l.length<=m.length
 | [],m,_,_=>i3 _
 | x::l,m,nd,h=>by
  have h1:=m6.mp nd
  have hm:=h x c9
  have h2:∀ y∈l,y∈m.erase x:=fun y hy=>by
   have hne:y≠x:=fun e=>h1.1 (e ▸ hy)
   exact(List.mem_erase_of_ne hne).mpr (h y (c6 _ hy))
  have h3:=Z4 h1.2 h2
  rw[List.length_erase_of_mem hm]at h3
  have h4:0<m.length:=J7 hm
  simp only[j3]
  omega
theorem am5 {n:Nat}(hn:n<=24){ks:List (List Int)}(nd:ks.Nodup)(h:∀ k∈ks,Up n k):ks.length<=276:=
 m9 (Z4 nd fun k hk=>by
  obtain⟨i,j,h1,h2,rfl⟩:=h k hk
  exact aw3 h1 h2) (T8 n hn)
end Web
namespace Web
open PySem L2
def U9 (K:W.Frag)(H:Hp)(p:Addr)(n:Nat)(ks:List (List Int)):Prop:=∃ t zs,SqT K H p [.int n,.ref t]/\SqT K H t zs/\o6 K H zs ks
theorem U9.same {K:W.Frag}{H H':Hp}{p:Addr}{n:Nat}{ks:List (List Int)}(h:U9 K H p n ks)(s:m5 H H'):U9 K H' p n ks:=by
 obtain⟨t,zs,h1,h2,h3⟩:=h
 exact⟨t,zs,s.seqT h1,s.seqT h2,s.tups h3⟩
theorem af6 {n:Nat}:∀ {ks:List (List Int)},(∀ k∈ks,Up n k)->ks.map up=ks
 | [],_=>rfl
 | k::ks,h=>by
  rw[k9,af6 fun x hx=>h x (c6 _ hx)]
  rw[aG4 (h k c9)]
structure Tld (n:Nat) (ks:List (List Int)):Prop where
 ups:∀ k∈ks,Up n k
 nd:ks.Nodup
 srt:ks.Pairwise (fun a b=>Tim.v9 b a=false)
seal L2.PE L2.PA L2.PS L2.PSs L2.PT
section
variable {P:Program} {w:World} {K:W.Frag} {mg:Str->Option Value} {base:Heap}
def an1 (K:W.Frag):Sp:=fun vs H Q _=>∃ (n:Nat) (a:Addr) (ys:List V) (hs:List (List Int)),vs=[.int n,.ref a]/\1<=n/\n<=24/\SqT K H a ys/\o6 K H ys hs/\Tld n hs/\∀ p H',m5 H H'->U9 K H' p n hs->Q (.ref p) H'
theorem an9:r6 ["places","ties","ascending"] ["places","ties"] (i5 M4):=⟨rfl,rfl,rfl,by decide +kernel,rfl,by decide +kernel,by decide +kernel⟩
theorem aw5 {f fI fU:Addr} {fd fdI fdU:FuncData} {tk:Tok} (F:Fun K "made" "made" M4 f fd) (B:Bn mg) (FI:Fun K "is_place" "is_place" V5 fI fdI) (bI:Binds K fdI ["places","number"] []) (mI:mg "is_place"=some (.ref fI))
  (FU:Fun K "turned_up" "turned_up" sUp fU fdU) (bU:Binds K fdU ["places","tie"] []) (mU:mg "turned_up"=some (.ref fU)) (mM:mg "MOST_PLACES"=some (.int 24 tk)) :
  u0 P w K mg base CX0 3 f fd ["places","ties"] (an1 K):=by
 have GU:u0 P w K mg base CX0 2 fU fdU ["places","tie"] (aH6 K):=aI7 FU B FI bI mI
 refine F.ok an9 (fun vs H Q E h=>?_) (fun cdv A outer s H vs Q E hr h=>?_)
 ·obtain⟨n,a,ys,hs,rfl,_⟩:=h
  rfl
 ·obtain⟨n,a,ys,hs,rfl,n1,n2,hS,hT,T,q⟩:=h
  have hL:=am5 n2 T.nd T.ups
  have hE:∀ k∈hs,ab2 n k:=fun k hk=>(T.ups k hk).ends
  have hu8:=Nat.lt_of_le_of_lt (Nat.add_le_add_left (by decide:8<=64) _) hr.units
  have hyl:=hT.len
  have nd2:(["tie","places"]:List Str).Nodup:=by decide +kernel
  have step:∀ (D:Addr),H D=none->∀ (i:Nat) (xs:List V) (H':Hp) (x:V) (N:List V->Hp->Prop),m5 H H'->H' D=some (.lst xs)->o6 K H' xs ((hs.take i).map up)->ys[i]?=some x ->
    (∀ xs' H'',m5 H H''->H'' D=some (.lst xs')->o6 K H'' xs' ((hs.take (i+1)).map up)->N xs' H'') ->
    ∃ (m:Nat) (b:Addr) (k:List Int),[V.int n,x]=[.int m,.ref b]/\SqT K H' b (k.map V.int)/\ab2 m k/\∀ p,H' p=none->(upd H' p (.tup ((up k).map V.int))) D=some (.lst xs)/\N (xs++[.ref p]) (upd (upd H' p (.tup ((up k).map V.int))) D (.lst (xs++[.ref p]))):=by
   intro D hD i xs H' x N s1 hd ht hx k
   obtain⟨b,kk,rfl,hk,hq⟩:=hT.get hx
   refine⟨n,b,kk,rfl,s1.seqT hq,hE kk (b6 hk),fun p hp=>?_⟩
   have npd:D≠p:=l5 hd hp
   have hd':(upd H' p (.tup ((up kk).map V.int))) D=some (.lst xs):=by rw[j1 npd];exact hd
   refine⟨hd',k _ _ ((s1.trans (i4 hp)).upd hD) d3 ?_⟩
   have e:(hs.take (i+1)).map up=(hs.take i).map up++[up kk]:=by
    rw[n6,hk,i9]
    rfl
   rw[e]
   refine o6.updL hd' (o6.append (m5.tups (i4 hp) ht) (o6.one (SqT.of d3)))
  refine⟨_,c8 (w9 (J0 (ao8 aq0 aq0 f7 (pv 0) (av9 (v:=.int 24) rfl mM ⟨_,rfl⟩))) p7 o9)
   (c8 (m8 (i := 2) an9.nd rfl (Or.inl rfl) (l4 W7 (by rfl) B.sorted (by rfl) (a9
    (O1 (N' := ["tie", "places"]) (lk := [none, some 0]) rfl (ac9 (pv 1)) (by rfl) rfl (by decide +kernel) (by exact ⟨rfl, trivial⟩) (by rfl) (by exact LkL.ok ⟨⟨rfl, Or.inl rfl, rfl, Or.inl rfl⟩, trivial⟩)
     (fun _ _ _=>p0 (i:=0) nd2 rfl (Or.inl rfl)) (fun _ _ _=>N9) (fun _ _ _=>p9 GU hr (by rfl) mU FU.kp bU .nil y7 (a9 (pv 1) (a9 (pv 0) d6)))) d6)))
   (c8 (w9 (v8 ap9 (l4 call_len_set (by rfl) B.len PySem.boot_len (a9 (B7 (as4 rfl hu8) (by rfl) B.set (by rfl) (a9 (pv 2) d6)) d6)) (l4 t8 (by rfl) B.len PySem.boot_len (a9 (pv 2) d6)) (u6 _)) p7 o9)
   (j6 (u3 (ad1 (a9 (pv 0) (a9 (B7 G7 (by rfl) B.tuple (by rfl) (a9 (pv 2) d6)) d6))))))),?_⟩
  refine⟨_,rfl,_,_,rfl,rfl,_,rfl,?_⟩
  rw[decide_eq_true (show (1:Int)<=n by omega)]
  refine B4 ⟨_,_,rfl,rfl,_,rfl,?_⟩
  rw[decide_eq_true (show (n:Int)<=24 by omega)]
  refine y1 ?_
  refine⟨_,rfl,a,rfl,⟨_,hS⟩,fun D hD=>as3 (K:=K) (a:=a) (D:=D) (ys:=ys) (fun i xs σ' H'=>∃ v,σ'=[v,some (.int n)]/\m5 H H'/\H' D=some (.lst xs)/\o6 K H' xs ((hs.take i).map up)) ⟨none,rfl,i4 hD,d3,.nil⟩ (by have:=E1;omega)
   (fun i xs σ' H' hi ⟨_,_,s1,h1,h2⟩=>⟨s1.seqT hS,h1,by have:=h2.len;simp at this;omega⟩) ?_ ?_⟩
  ·rintro i xs x σ' H' N kN hx ⟨v,rfl,s1,h1,h2⟩
   refine o7 ?_
   refine J8 ?_
   refine⟨_,rfl,_,rfl,?_⟩
   exact step D hD i xs H' x (fun xs' H''=>N xs' _ H'') s1 h1 h2 hx fun xs' H'' a1 a2 a3=>kN _ _ _ ⟨_,rfl,a1,a2,a3⟩
  ·rintro xs σ' H1 ⟨v,rfl,s1,h1,h2⟩
   rw[w5 (by omega),af6 T.ups]at h2
   refine⟨D,xs,_,rfl,SqL.of h1,h2,(fun k hk z=>by have:=(T.ups k hk).len;rw[z]at this;cases this),by omega,T.srt,fun l hl=>?_⟩
   have hzl:=h2.len
   have s2:m5 H (upd H1 l (.lst xs)):=s1.trans (i4 hl)
   have t2:o6 K (upd H1 l (.lst xs)) xs hs:=(i4 hl).tups h2
   refine⟨_,rfl,l,xs,hs,rfl,SqL.of d3,t2,(fun k hk=>(T.ups k hk).key n2),by omega,fun S hSn=>?_⟩
   have hlS:l≠S:=l5 d3 hSn
   have s3:=s2.trans (i4 (o:=as7 P w S (hs.foldl Sett.B5 []).length) hSn)
   have l3:(upd (upd H1 l (.lst xs)) S (as7 P w S (hs.foldl Sett.B5 []).length)) l=some (.lst xs):=by rw[j1 hlS,d3]
   refine⟨S,_,rfl,d3,_,rfl,l,xs,rfl,.inl (SqL.of l3),_,_,rfl,rfl,_,rfl,?_⟩
   have hfold:(hs.foldl Sett.B5 []).length=xs.length:=by
    have:=(Sett.U2 hs []).mpr ⟨T.nd,fun x _=>by simp⟩
    simp at this
    omega
   rw[hfold,decide_eq_false (by omega)]
   refine y1 ?_
   refine⟨_,rfl,_,rfl,l,xs,rfl,.inl ⟨SqL.of (by rw[hfold]at l3;exact l3),fun t ht=>⟨(by show 2<=sizeLine;decide),fun p hp=>?_⟩⟩⟩
   rw[hfold]at s3
   have s4:=(s3.trans (i4 (o:=.tup xs) ht)).trans (i4 (o:=.tup [.int n,.ref t]) hp)
   exact q p _ s4 ⟨t,xs,SqT.of d3,SqT.of (by rw[j1 (l5 d3 hp),d3]),m5.tups (((i4 hSn).trans (i4 ht)).trans (i4 hp)) t2⟩
end
end Web
namespace Web
open PySem L2
theorem p60:(0:Int)<10 ^ (at8 60):=Int.pow_pos (by decide)
theorem aF1 {ns:List Int}{j:Nat}(h:j<ns.length):atI (ns.map V.int) (j:Int)=some (.int (ns.getD j 0)):=n8 (j:=j) (by simp[h])
theorem ah1 (c:Int){n:Nat}(h:0<n):∃ j:Nat,c % (n:Int)=(j:Int)/\j<n:=by
 have h1:=L3 c (show (n:Int)≠0 by omega)
 have h2:=D2 c (show (0:Int)<(n:Int) by omega)
 exact⟨(c % (n:Int)).toNat,by omega,by omega⟩
section
variable {P:Program} {w:World} {K:W.Frag} {mg:Str->Option Value} {base:Heap}
def an2 (K:W.Frag):Sp:=fun vs H Q _=>∃ (a:Addr) (ns:List Int) (k:Nat),vs=[.ref a,.int k]/\SqL K H a (ns.map V.int)/\∀ r:Int,Q (.int r) H
theorem aB9:r6 ["script","k"] ["script","k"] (i5 M5):=⟨rfl,rfl,rfl,by decide +kernel,rfl,by decide +kernel,by decide +kernel⟩
theorem aw7 {f:Addr}{fd:FuncData}(F:Fun K "_law_cell_at" "_law_cell_at" M5 f fd)(B:Bn mg):u0 P w K mg base CX0 1 f fd ["script","k"] (an2 K):=by
 refine F.ok aB9 (fun vs H Q E h=>?_) (fun cdv A outer s H vs Q E hr h=>?_)
 ·obtain⟨a,ns,k,rfl,_⟩:=h
  rfl
 ·obtain⟨a,ns,k,rfl,hS,q⟩:=h
  refine⟨_,c8 (w9 (v8 ap9 (pv 1) (l4 t8 (by rfl) B.len PySem.boot_len (a9 (pv 0) d6)) (u6 _)) (j6 (u3 (u4 w4 (pv 0) (pv 1) (fun _ _=>rfl)))) o9)
   (j6 (u3 f7)),?_⟩
  refine⟨_,rfl,_,rfl,a,_,rfl,.inl hS,_,_,rfl,rfl,_,rfl,?_⟩
  refine ax6 (fun h=>?_) (fun h=>?_)
  ·have hl:k<ns.length:=by
    have:=of_decide_eq_true h
    rw[b4]at this
    omega
   refine⟨_,rfl,_,rfl,a,_,_,_,rfl,rfl,hS,n8 (j:=k) (v:=.int ns[k]) (by simp[hl]),?_⟩
   exact q _
  ·exact q _
def az6 (K:W.Frag):Sp:=fun vs H Q _=>∃ (c:Int) (m z:Nat),vs=[.int c,.int m,.int z]/\m<=300/\1<=z/\z<=100000000/\∀ (l:Addr) (ts:List Int) (H':Hp),ts.length=m->m5 H H'->H l=none->H' l=some (.lst (ts.map V.int))->Q (.ref l) H'
theorem G3:r6 ["cell","many","size","rest","stir","row","k"] ["cell","many","size"] (i5 Y4):=⟨rfl,rfl,rfl,by decide +kernel,rfl,by decide +kernel,by decide +kernel⟩
theorem aC8 {f:Addr} {fd:FuncData} (F:Fun K "_law_row" "_law_row" Y4 f fd) (B:Bn mg):u0 P w K mg base CX0 1 f fd ["cell","many","size"] (az6 K):=by
 refine F.ok G3 (fun vs H Q E h=>?_) (fun cdv A outer s H vs Q E hr h=>?_)
 ·obtain⟨c,m,z,rfl,_⟩:=h
  rfl
 ·obtain⟨c,m,z,rfl,hm,hz1,hz2,q⟩:=h
  have hsl:=E1
  have hz0:(0:Int)<(z:Int):=by omega
  refine⟨_,c8 (m8 (i:=0) G3.nd rfl (Or.inl rfl) (o3 x5 (pv 0) (o3 ad2 f7 f7)))
   (c8 (m8 (i:=3) G3.nd rfl (Or.inl rfl) (o3 C4 (pv 0) f7))
   (c8 (m8 (i:=4) G3.nd rfl (Or.inl rfl) (pv 0))
   (c8 (m8 (i:=5) G3.nd rfl (Or.inl rfl) (J2 d6))
   (c8 (E7 PassesOwn.never rfl (y0 rfl B.range (a9 (pv 1) d6)) (p0 (i := 6) G3.nd rfl (Or.inl rfl))
    (j6 (w9 (v8 G5 (o3 x5 (pv 0) f7) f7 (u6 _))
     (c8 (B2 (M6 PySem.F.plainAttrs_list PySem.F.slot_list_append PySem.F.type_list_append r9 (pv 5) (a9 (o3 x5 (pv 3) (pv 2)) d6)))
     (j6 (m8 (i:=3) G3.nd rfl (Or.inl rfl) (o3 C4 (pv 3) (pv 2)))))
     (c8 (m8 (i:=4) G3.nd rfl (Or.inl rfl) (o3 x5 (o3 Q0 (o3 x5 (pv 4) f7) (o3 ad3 f7 (o3 Q0 (pv 6) f7))) f7))
     (c8 (m8 (i:=4) G3.nd rfl (Or.inl rfl) (o3 x5 (o3 ad3 (pv 4) (pv 4)) f7))
     (c8 (m8 (i:=4) G3.nd rfl (Or.inl rfl) (o3 x5 (o3 ad3 (pv 4) f7) f7))
     (j6 (B2 (M6 PySem.F.plainAttrs_list PySem.F.slot_list_append PySem.F.type_list_append r9 (pv 5) (a9 (o3 x5 (o3 C4 (pv 4) f7) (pv 2)) d6))))))))))
   (j6 (u3 (pv 5))))))),?_⟩
  refine⟨_,rfl,_,_,rfl,rfl,⟨by decide,by decide,by decide⟩,_,_,rfl,rfl,p60,?_⟩
  refine y2 fun c1 _=>?_
  refine⟨_,rfl,_,_,rfl,rfl,⟨by decide,by decide⟩,?_⟩
  refine y2 fun r0 _=>?_
  refine⟨_,rfl,?_⟩
  refine⟨by show 0<=sizeLine;omega,fun l hl=>?_⟩
  have s0:=i4 (o:=.lst []) hl
  refine⟨_,rfl,m,rfl,by omega,by omega,F9 (lo:=0) (n:=m) (fun i σ H1=>∃ (ts:List Int) (r st:Int) (e6:Option V),σ=[some (.int c1),some (.int m),some (.int z),some (.int r),some (.int st),some (.ref l),e6]/\m5 H H1/\H1 l=some (.lst (ts.map V.int))/\ts.length=i)
   ⟨[],r0,c1,none,rfl,s0,d3,rfl⟩ ?_ ?_⟩
  ·rintro i σ H1 hi ⟨ts,r,st,e6,rfl,s1,g1,hl1⟩
   have e0:((0:Int)+(i:Int))=(i:Int):=by omega
   rw[e0]
   refine o7 ?_
   refine⟨_,rfl,_,_,rfl,rfl,(by show (0:Int)<2;decide),rfl,_,rfl,?_⟩
   refine ax6 (fun h=>?_) (fun h=>?_)
   ·refine⟨_,rfl,.inl ⟨rfl,_,SqL.of g1⟩,_,rfl,_,rfl,_,_,rfl,rfl,hz0,l,_,_,rfl,rfl,g1,by rw[b4];omega,?_⟩
    refine⟨_,rfl,_,rfl,_,_,rfl,rfl,⟨hz0,by omega⟩,?_⟩
    exact⟨ts++[r % (z:Int)],_,_,_,rfl,s1.upd hl,by rw[d3,i9];rfl,by rw[d7,hl1];rfl⟩
   ·refine⟨_,rfl,_,_,rfl,rfl,(by show (0:Int)<998244353;decide),_,rfl,_,_,rfl,rfl,_,_,rfl,rfl,.inl ⟨by decide,by decide⟩,_,_,rfl,rfl,_,_,rfl,rfl,(by show (0:Int)<2147483647;decide),?_⟩
    refine y2 fun k1 hk1=>?_
    have k10:0<=k1:=by rw[hk1];exact L3 _ (by decide)
    have k11:k1<2147483647:=by rw[hk1];exact D2 _ (by decide)
    clear hk1
    refine⟨_,rfl,_,rfl,_,_,rfl,rfl,.inl ⟨by omega,by omega⟩,_,_,rfl,rfl,(by show (0:Int)<2147483629;decide),?_⟩
    refine y2 fun k2 _=>?_
    refine⟨_,rfl,_,_,rfl,rfl,.inr ⟨by decide,by decide⟩,_,_,rfl,rfl,(by show (0:Int)<2147483647;decide),?_⟩
    refine y2 fun k3 _=>?_
    refine⟨_,rfl,.inl ⟨rfl,_,SqL.of g1⟩,_,rfl,_,_,rfl,rfl,⟨by decide,by decide⟩,_,rfl,_,_,rfl,rfl,hz0,l,_,_,rfl,rfl,g1,by rw[b4];omega,?_⟩
    exact⟨ts++[k3 / 7 % (z:Int)],_,_,_,rfl,s1.upd hl,by rw[d3,i9];rfl,by rw[d7,hl1];rfl⟩
  ·rintro σ H1 ⟨ts,r,st,e6,rfl,s1,g1,hl1⟩
   exact⟨_,rfl,q l ts H1 hl1 s1 hl g1⟩
end
theorem au5 (z:Int)(h:0<=z/\z<4):∃ v:Nat,atI ([.int 2,.int 2,.int 3,.int 5]:List V) z=some (.int (v:Int))/\1<=v/\v<=5:=by
 have:z=0\/z=1\/z=2\/z=3:=by omega
 rcases this with h | h | h | h<;>rw[h]
 ·exact⟨2,n8 (j:=0) rfl,by decide,by decide⟩
 ·exact⟨2,n8 (j:=1) rfl,by decide,by decide⟩
 ·exact⟨3,n8 (j:=2) rfl,by decide,by decide⟩
 ·exact⟨5,n8 (j:=3) rfl,by decide,by decide⟩
theorem sub_snoc {α:Type}{l m:List α}{i:Nat}{x:α}(h:l.Sublist (m.take i))(hx:m[i]?=some x):(l++[x]).Sublist (m.take (i+1)):=by
 rw[n6,hx]
 exact List.Sublist.append h (List.Sublist.refl _)
theorem am8 {α:Type}{l m:List α}{i:Nat}(h:l.Sublist (m.take i)):l.Sublist (m.take (i+1)):=by
 rw[n6]
 exact h.trans (List.sublist_append_left _ _)
section
variable {P:Program} {w:World} {K:W.Frag} {mg:Str->Option Value} {base:Heap}
def am9 (K:W.Frag):Sp:=fun vs H Q _=>∃ (c:Int) (n:Nat),vs=[.int c,.int n]/\n<=24/\∀ (l:Addr) (zs:List V) (ks:List (List Int)) (H':Hp),m5 H H'->H l=none->H' l=some (.tup zs)->o6 K H' zs ks->ks.Sublist (A4 n)->Q (.ref l) H'
theorem I0:r6 ["cell","places","thin","pairs","one","other","row"] ["cell","places"] (i5 M3):=⟨rfl,rfl,rfl,by decide +kernel,rfl,by decide +kernel,by decide +kernel⟩
set_option maxHeartbeats 1000000 in
theorem aw4 {f fR:Addr} {fd fdR:FuncData} (F:Fun K "_law_ties" "_law_ties" M3 f fd) (B:Bn mg) (FR:Fun K "_law_row" "_law_row" Y4 fR fdR) (bR:Binds K fdR ["cell","many","size"] []) (mR:mg "_law_row"=some (.ref fR)):u0 P w K mg base CX0 2 f fd ["cell","places"] (am9 K):=by
 have GR:u0 P w K mg base CX0 1 fR fdR ["cell","many","size"] (az6 K):=aC8 FR B
 refine F.ok I0 (fun vs H Q E h=>?_) (fun cdv A outer s H vs Q E hr h=>?_)
 ·obtain⟨c,n,rfl,_⟩:=h
  rfl
 ·obtain⟨c,n,rfl,hn,q⟩:=h
  have hsl:=E1
  have hlen:=T8 n hn
  have nd3:(["k","pairs","row"]:List Str).Nodup:=by decide +kernel
  refine⟨_,c8 (m8 (i:=0) I0.nd rfl (Or.inl rfl) (o3 x5 (pv 0) (o3 ad2 f7 f7)))
   (c8 (m8 (i:=2) I0.nd rfl (Or.inl rfl) (u4 w4 (J2 (a9 f7 (a9 f7 (a9 f7 (a9 f7 d6))))) (o3 x5 (pv 0) f7) (fun _ _=>rfl)))
   (c8 (m8 (i:=3) I0.nd rfl (Or.inr rfl) (J2 d6))
   (c8 (E7 PassesOwn.never rfl (y0 rfl B.range (a9 (pv 1) d6)) (p0 (i := 4) I0.nd rfl (Or.inl rfl))
    (j6 (E7 PassesOwn.never rfl (aj5 rfl B.range (a9 (o3 Q0 (pv 4) f7) (a9 (pv 1) d6))) (p0 (i := 5) I0.nd rfl (Or.inl rfl))
     (j6 (B2 (M6 PySem.F.plainAttrs_list PySem.F.slot_list_append PySem.F.type_list_append r9 (pv 3) (a9 (ad1 (a9 (pv 4) (a9 (pv 5) d6))) d6)))))))
   (c8 (m8 (i:=6) I0.nd rfl (Or.inr rfl) (p9 GR hr (by rfl) mR FR.kp bR .nil y7 (a9 (o3 C4 (pv 0) f7) (a9 (l4 t8 (by rfl) B.len PySem.boot_len (a9 (pv 3) d6)) (a9 (pv 2) d6)))))
   (j6 (u3 (B7 G7 (by rfl) B.tuple (by rfl) (a9 (O1 (N':=["k","pairs","row"]) (lk:=[none,some 3,some 6]) rfl (y0 rfl B.range (a9 (l4 t8 (by rfl) B.len PySem.boot_len (a9 (pv 3) d6)) d6)) (by rfl) rfl (by decide +kernel) (by exact⟨rfl,rfl,trivial⟩) (by rfl) (by exact LkL.ok ⟨⟨rfl,Or.inl rfl,rfl,Or.inl rfl⟩,⟨rfl,Or.inl rfl,rfl,Or.inl rfl⟩,trivial⟩)
     (fun _ _ _=>p0 (i:=0) nd3 rfl (Or.inl rfl)) (fun _ _ _=>V6 (v8 G5 (O0 K rfl (pv 2) (pv 0) (fun _ _=>rfl)) f7 (u6 _))) (fun _ _ _=>O0 K rfl (pv 1) (pv 0) (fun _ _=>rfl))) d6)))))))),?_⟩
  refine⟨_,rfl,_,_,rfl,rfl,⟨by decide,by decide,by decide⟩,_,_,rfl,rfl,p60,?_⟩
  refine y2 fun c1 _=>?_
  obtain⟨v,hv,hv1,hv2⟩:=au5 (c1 % 4) ⟨L3 _ (by decide),D2 _ (by decide)⟩
  refine⟨(by show 4<=sizeLine;decide),fun l3 f3=>?_⟩
  have s3:=i4 (o:=.lst [.int 2,.int 2,.int 3,.int 5]) f3
  refine⟨_,rfl,_,_,rfl,rfl,(by show (0:Int)<4;decide),l3,_,_,_,rfl,rfl,SqL.of d3,hv,?_⟩
  refine⟨by show 0<=sizeLine;omega,fun l hl'=>?_⟩
  have hl:H l=none:=s3.free hl'
  have s03:=s3.trans (i4 (o:=.lst []) hl')
  have gl0:(upd (upd H l3 (.lst [.int 2,.int 2,.int 3,.int 5])) l (.lst [])) l=some (.lst []):=d3
  generalize upd (upd H l3 (.lst [.int 2,.int 2,.int 3,.int 5])) l (.lst [])=H0 at s03 gl0
  refine⟨_,rfl,n,rfl,by omega,by omega,F9 (lo:=0) (n:=n) (fun i σ H1=>∃ a b zs,σ=[some (.int c1),some (.int n),some (.int v),some (.ref l),a,b,none]/\m5 H H1/\H1 l=some (.lst zs)/\o6 K H1 zs ((i7 i).flatMap fun j=>C3 j (n - (j+1))))
   ⟨none,none,[],rfl,s03,gl0,.nil⟩ ?_ ?_⟩
  ·rintro i σ H1 hi ⟨a,b,zs,rfl,s1,h1,t1⟩
   refine⟨_,rfl,_,_,rfl,rfl,_,rfl,_,_,rfl,⟨by omega,by omega,by omega,by omega⟩,F9 (lo:=0+(i:Int)+1) (fun d σ H2=>∃ b zs,σ=[some (.int c1),some (.int n),some (.int v),some (.ref l),some (.int (0+i)),b,none]/\m5 H H2/\H2 l=some (.lst zs)/\o6 K H2 zs (((i7 i).flatMap fun j=>C3 j (n - (j+1)))++C3 i d))
    ⟨b,zs,rfl,s1,h1,by simpa [C3] using t1⟩ ?_ ?_⟩
   ·rintro d σ H2 hd ⟨b,zs,rfl,s2,h2,t2⟩
    have hlz:=t2.len
    have hpart:=ar0 n (i+1) (by omega)
    rw[P8,d7]at hpart
    have hrow:∀ m,(C3 i m).length=m:=fun m=>by simp[C3]
    rw[d7,hrow]at hlz
    rw[hrow]at hpart
    refine⟨_,rfl,.inl ⟨rfl,_,SqL.of h2⟩,_,rfl,_,rfl,(by show 2<=sizeLine;decide),fun p hp=>?_⟩
    have hlp:l≠p:=l5 h2 hp
    have h2':(upd H2 p (.tup [.int (0+(i:Int)),.int (0+(i:Int)+1+(d:Int))])) l=some (.lst zs):=by rw[j1 hlp];exact h2
    refine⟨l,zs,_,rfl,rfl,h2',by omega,?_⟩
    refine⟨_,_,rfl,(s2.trans (i4 hp)).upd hl,d3,?_⟩
    rw[aj3,<- T4]
    refine o6.updL h2' (o6.append (m5.tups (i4 hp) t2) (o6.one (SqT.of ?_)))
    rw[d3]
    simp
   ·rintro σ H2 ⟨b,zs,rfl,s2,h2,t2⟩
    refine⟨_,_,zs,rfl,s2,h2,?_⟩
    rw[P8]
    have e:((n:Int) - (0+(i:Int)+1)).toNat=n - (i+1):=by omega
    rw[e]at t2
    exact t2
  ·rintro σ H1 ⟨a,b,zs,rfl,s1,h1,t1⟩
   replace t1:o6 K H1 zs (A4 n):=t1
   have hzl:=t1.len
   refine⟨_,rfl,_,_,rfl,rfl,⟨by decide,by decide⟩,_,rfl,l,_,rfl,.inl (SqL.of h1),_,rfl,c1 / 4,zs.length,v,rfl,by omega,hv1,by omega,fun rl ts H4 htl s4 fr g4=>?_⟩
   have t4:=s4.tups t1
   have g4l:=s4 _ _ h1
   have s04:=s1.trans s4
   refine⟨_,rfl,l,_,rfl,.inl (SqL.of g4l),(zs.length:Int),rfl,by omega,by omega,fun D hD=>?_⟩
   rw[n9]
   refine C5 (lo:=0) (n:=zs.length) (D:=D) (fun i xs σ' H'=>(∃ v,σ'=[v,some (.ref l),some (.ref rl)])/\m5 H4 H'/\H' D=some (.lst xs)/\xs.length<=i/\∃ ks,o6 K H' xs ks/\ks.Sublist ((A4 n).take i))
    ⟨⟨none,rfl⟩,i4 hD,d3,a8 _,[],.nil,List.nil_sublist _⟩ (by omega) (fun i xs σ' H' hi ⟨_,_,g,l',_⟩=>⟨g,l'⟩) ?_ ?_
   ·rintro i xs σ' H' N kN hi ⟨⟨v',rfl⟩,s6,h6,hxl,ks,t6,sb⟩
    have e0:((0:Int)+(i:Int))=(i:Int):=by omega
    rw[e0]
    refine o7 ?_
    have hti:i<ts.length:=by omega
    refine⟨_,rfl,_,rfl,.inl ⟨rl,_,_,_,rfl,rfl,SqL.of (s6 _ _ g4),aF1 hti,rfl,_,rfl,?_⟩⟩
    refine ax6 (fun h=>?_) (fun h=>?_)
    ·obtain⟨y,hy⟩:∃ y,zs[i]?=some y:=⟨_,d4 hi⟩
     obtain⟨pa,pk,rfl,hk',hq⟩:=t4.get hy
     refine⟨_,rfl,_,rfl,.inl ⟨l,_,_,_,rfl,rfl,SqL.of (s6 _ _ g4l),n8 hy,h6,kN _ _ _ ⟨⟨_,rfl⟩,s6.upd hD,d3,by rw[d7,B0];omega,ks++[pk],o6.updL h6 (o6.append t6 (o6.one (s6.seqT hq))),sub_snoc sb hk'⟩⟩⟩
    ·exact kN _ _ _ ⟨⟨_,rfl⟩,s6,h6,by omega,ks,t6,am8 sb⟩
   ·rintro xs σ' H5 ⟨⟨v',rfl⟩,s6,h6,hxl,ks,t6,sb⟩
    refine⟨D,_,rfl,.inl ⟨SqL.of h6,fun tl ft=>?_⟩⟩
    have s7:=i4 (o:=.tup xs) ft
    exact q tl xs ks _ ((s04.trans s6).trans s7) ((s04.trans s6).free ft) d3 (s7.tups t6) (sb.trans (aF8 _ _))
end
def Tie (ks:List (List Int))(b c:Nat):Prop:=up [(b:Int),(c:Int)]∈ks
theorem Tie.symm {ks:List (List Int)}{b c:Nat}(h:Tie ks b c):Tie ks c b:=by
 unfold Tie
 rw[N8]
 exact h
def MkI (ks:List (List Int))(ms:List Nat):Prop:=∀ b c,Tie ks b c->ms.getD b 0=ms.getD c 0
def mkL (ms:List Nat):List V:=ms.map fun m:Nat=>V.int (m:Int)
theorem Q2 {ms:List Nat}{j:Nat}(h:j<ms.length):atI (mkL ms) (j:Int)=some (.int ((ms.getD j 0:Nat):Int)):=n8 (j:=j) (by unfold mkL;simp[h])
theorem ah2 (ms:List Nat)(j v:Nat):(mkL ms).set j (.int (v:Int))=mkL (ms.set j v):=by unfold mkL;rw[List.map_set]
theorem ax2 (a b:Nat):(if (b:Int)<(a:Int) then (b:Int) else (a:Int))=((min a b:Nat):Int):=by
 split<;>omega
section
variable {P:Program} {w:World} {K:W.Frag} {mg:Str->Option Value} {base:Heap}
def ag0 (K:W.Frag):Sp:=fun vs H Q _=>∃ (n:Nat) (a:Addr) (zs:List V) (ks:List (List Int)),vs=[.int n,.ref a]/\n<=24/\SqT K H a zs/\o6 K H zs ks/\(∀ k∈ks,Up n k) /\
 ∀ (l:Addr) (ms:List Nat) (H':Hp),m5 H H'->H l=none->H' l=some (.lst (mkL ms))->Pc.MI n (Tie ks) ms->MkI ks ms->Q (.ref l) H'
theorem B1:r6 ["places","ties","marks","going","one","other","low"] ["places","ties"] (i5 E5):=⟨rfl,rfl,rfl,by decide +kernel,rfl,by decide +kernel,by decide +kernel⟩
theorem ab8 {i j:Nat}(h:i<j):up [(i:Int),(j:Int)]=[(i:Int),(j:Int)]:=X6 (by omega)
theorem V2 {n:Nat}{ks:List (List Int)}(hU:∀ k∈ks,Up n k){b c:Nat}(h:Tie ks b c):([(b:Int),(c:Int)]∈ks/\b<c/\c<n)\/([(c:Int),(b:Int)]∈ks/\c<b/\b<n):=by
 obtain⟨i,j,hij,hj,e⟩:=hU _ h
 unfold Tie at h
 rcases A7 b c with z | z | z
 ·rw[ab8 z]at h e
  injection e with e1 e2
  injection e2 with e2
  exact .inl ⟨h,z,by omega⟩
 ·subst z
  have:up [(b:Int),(b:Int)]=[(b:Int),(b:Int)]:=by show [(if (b:Int)<b then (b:Int) else b),(if (b:Int) > b then (b:Int) else b)]=_;simp
  rw[this]at e
  injection e with e1 e2
  injection e2 with e2
  omega
 ·rw[N8,ab8 z]at h e
  injection e with e1 e2
  injection e2 with e2
  exact .inr ⟨h,z,by omega⟩
theorem au4 {ks:List (List Int)}{i j:Nat}(h:i<j)(hm:[(i:Int),(j:Int)]∈ks):Tie ks i j:=by
 unfold Tie
 rw[ab8 h]
 exact hm
set_option maxHeartbeats 2000000 in
theorem aq4 {f:Addr} {fd:FuncData} (F:Fun K "_law_marks" "_law_marks" E5 f fd) (B:Bn mg):u0 P w K mg base CX0 1 f fd ["places","ties"] (ag0 K):=by
 refine F.ok B1 (fun vs H Q E h=>?_) (fun cdv A outer s H vs Q E hr h=>?_)
 ·obtain⟨n,a,zs,ks,rfl,_⟩:=h
  rfl
 ·obtain⟨n,ta,zs,ks,rfl,hn,hT,hz,hU,q⟩:=h
  have hsl:=E1
  refine⟨_,c8 (m8 (i:=2) B1.nd rfl (Or.inl rfl) (B7 (S7 rfl) (by rfl) B.list (by rfl) (a9 (av8 (by rfl) B.range (a9 (pv 0) d6)) d6)))
   (c8 (m8 (i:=3) B1.nd rfl (Or.inl rfl) P6)
   (c8 (Z0 PassesOwn.never (A3 (pv 3))
    (c8 (m8 (i:=3) B1.nd rfl (Or.inl rfl) P6)
    (j6 (E7 PassesOwn.never rfl (ac9 (pv 1)) (ad0 rfl (B6 (p0 (i := 4) B1.nd rfl (Or.inl rfl)) (B6 (p0 (i := 5) B1.nd rfl (Or.inl rfl)) V9)))
     (c8 (m8 (i:=6) B1.nd rfl (Or.inl rfl) (l4 (U4 rfl) (by rfl) B.min (by rfl) (a9 (u4 w4 (pv 2) (pv 4) (fun _ _=>rfl)) (a9 (u4 w4 (pv 2) (pv 5) (fun _ _=>rfl)) d6))))
     (j6 (w9 (PW.pt (ao5 (v8 aA3 (u4 w4 (pv 2) (pv 4) (fun _ _ => rfl)) (pv 6) (u6 _)) (ac8 (v8 aA3 (u4 w4 (pv 2) (pv 5) (fun _ _ => rfl)) (pv 6) (u6 _)))))
      (c8 (ap0 (pv 6) (ap3 (pv 2) (pv 4) set_list))
      (c8 (ap0 (pv 6) (ap3 (pv 2) (pv 5) set_list))
      (j6 (m8 (i:=3) B1.nd rfl (Or.inl rfl) P6)))) o9)))))))
   (j6 (u3 (pv 2))))),?_⟩
  refine⟨_,rfl,n,rfl,by omega,fun r hr0=>?_⟩
  have s0:=i4 (o:=.rng 0 (n:Int)) hr0
  refine⟨r,0,n,n,rfl,d3,by omega,by omega,by decide,by decide,fun l hl'=>?_⟩
  have hl:H l=none:=s0.free hl'
  have e0:((ac6 0 n).map V.int)=mkL (i7 n):=by
   unfold mkL ac6
   rw[List.range_eq_range',at4]
   exact az1 fun k _=>by show V.int ((0:Int)+(k:Int))=_;rw[Int.zero_add]
  rw[e0]
  have s1:=s0.trans (i4 (o:=.lst (mkL (i7 n))) hl')
  have g1:(upd (upd H r (.rng 0 (n:Int))) l (.lst (mkL (i7 n)))) l=some (.lst (mkL (i7 n))):=d3
  generalize upd (upd H r (.rng 0 (n:Int))) l (.lst (mkL (i7 n)))=H1 at s1 g1
  refine⟨fun m σ H1=>∃ (g:Bool) (ms:List Nat) (e4 e5 e6:Option V),σ=[some (.int n),some (.ref ta),some (.ref l),some (.bl g),e4,e5,e6]/\m=2*ms.sum+(if g=true then 1 else 0)/\m5 H H1/\H1 l=some (.lst (mkL ms))/\Pc.MI n (Tie ks) ms/\(g=false->MkI ks ms),
   ⟨_,true,i7 n,none,none,none,rfl,rfl,s1,g1,Pc.MI.init,fun h=>by cases h⟩,?_⟩
  clear s1 g1
  rintro m σ H1 ⟨g,ms,e4,e5,e6,rfl,rfl,s1,g1,hM,hF⟩
  refine⟨_,rfl,g,rfl,?_⟩
  cases g with
  | false=>exact y1 ⟨_,rfl,q l ms H1 s1 hl g1 hM (hF rfl)⟩
  | true =>
   refine B4 ⟨fun σ' H'=>∃ (g:Bool) (ms':List Nat) (e4 e5 e6:Option V),σ'=[some (.int n),some (.ref ta),some (.ref l),some (.bl g),e4,e5,e6]/\2*ms'.sum+(if g=true then 1 else 0)<2*ms.sum+1/\m5 H H'/\H' l=some (.lst (mkL ms'))/\Pc.MI n (Tie ks) ms'/\(g=false->MkI ks ms'),
    fun σ' H' ⟨g,ms',a4,a5,a6,e,hm,s',g',hM',hF'⟩=>⟨_,hm,g,ms',a4,a5,a6,e,rfl,s',g',hM',hF'⟩,?_⟩
   refine⟨_,rfl,ta,rfl,⟨_,s1.seqT hT⟩,ai1 (K:=K) (a:=ta) (xs:=zs) (fun i σ H2=>∃ (g:Bool) (ms':List Nat) (e4 e5 e6:Option V),σ=[some (.int n),some (.ref ta),some (.ref l),some (.bl g),e4,e5,e6]/\m5 H H2/\H2 l=some (.lst (mkL ms'))/\Pc.MI n (Tie ks) ms' /\
     (g=false->ms'=ms/\∀ k∈ks.take i,∀ b c:Nat,k=[(b:Int),(c:Int)]->ms.getD b 0=ms.getD c 0)/\(g=true->ms'.sum<ms.sum))
    ⟨false,ms,e4,e5,e6,rfl,s1,g1,hM,fun _=>⟨rfl,fun k hk=>by rw[List.take_zero]at hk;cases hk⟩,fun h=>by cases h⟩ (fun i σ H2 _ ⟨_,_,_,_,_,_,s,_⟩=>s.seqT hT) ?_ ?_⟩
   ·rintro i y σ H2 hy ⟨g,ms',a4,a5,a6,rfl,s2,g2,hM2,h0,h1⟩
    obtain⟨pa,k,rfl,hk,hq⟩:=hz.get hy
    have hkm:=b6 hk
    obtain⟨b,c,hbc,hcn,rfl⟩:=hU k hkm
    have hL:=hM2.len
    have hb:b<ms'.length:=by omega
    have hc:c<ms'.length:=by omega
    have lb:(mkL ms').length=ms'.length:=b4 ..
    refine⟨pa,_,rfl,s2.seqT hq,rfl,_,_,rfl,_,_,rfl,rfl,?_⟩
    refine⟨_,rfl,_,rfl,l,_,_,_,rfl,rfl,SqL.of g2,Q2 hb,_,rfl,_,rfl,l,_,_,_,rfl,rfl,SqL.of g2,Q2 hc,_,_,rfl,?_⟩
    refine R1 (v':=.int ((min (ms'.getD b 0) (ms'.getD c 0):Nat):Int)) (by rw[ax2]) ?_
    have hsum:=Pc.stp_sum hL (show b<n by omega) hcn (show b≠c by omega)
    have tt:Tie ks b c:=au4 hbc hkm
    have tk:ks.take (i+1)=ks.take i++[[(b:Int),(c:Int)]]:=by rw[n6,hk];rfl
    have stay:ms'.getD b 0=ms'.getD c 0->(fun i σ H2=>∃ (g:Bool) (ms':List Nat) (e4 e5 e6:Option V),σ=[some (.int n),some (.ref ta),some (.ref l),some (.bl g),e4,e5,e6]/\m5 H H2/\H2 l=some (.lst (mkL ms'))/\Pc.MI n (Tie ks) ms' /\
     (g=false->ms'=ms/\∀ k∈ks.take i,∀ b c:Nat,k=[(b:Int),(c:Int)]->ms.getD b 0=ms.getD c 0)/\(g=true->ms'.sum<ms.sum)) (i+1) ([some (.int n),some (.ref ta),some (.ref l),some (.bl g),some (.int b),some (.int c),some (.int ((min (ms'.getD b 0) (ms'.getD c 0):Nat):Int))]:St) H2:=fun e=>by
     refine⟨g,ms',_,_,_,rfl,s2,g2,hM2,fun hg=>?_,h1⟩
     obtain⟨e1,e2⟩:=h0 hg
     refine⟨e1,fun k hk b' c' ek=>?_⟩
     rw[tk]at hk
     rcases g7.mp hk with hk | hk
     ·exact e2 k hk b' c' ek
     ·have:=b8.mp hk
      rw[this]at ek
      injection ek with k1 k2
      injection k2 with k2
      have e1b:b'=b:=by omega
      have e1c:c'=c:=by omega
      rw[<- e1,e1b,e1c]
      exact e
    have put:ms'.getD b 0≠ms'.getD c 0->(fun i σ H2=>∃ (g:Bool) (ms':List Nat) (e4 e5 e6:Option V),σ=[some (.int n),some (.ref ta),some (.ref l),some (.bl g),e4,e5,e6]/\m5 H H2/\H2 l=some (.lst (mkL ms'))/\Pc.MI n (Tie ks) ms' /\
     (g = false -> ms' = ms /\ ∀ k ∈ ks.take i, ∀ b c : Nat, k = [(b : Int), (c : Int)] -> ms.getD b 0 = ms.getD c 0) /\ (g = true -> ms'.sum < ms.sum)) (i + 1) ([some (.int n), some (.ref ta), some (.ref l), some (.bl true), some (.int b), some (.int c), some (.int ((min (ms'.getD b 0) (ms'.getD c 0) : Nat) : Int))] : St)
      (upd (upd H2 l (.lst ((mkL ms').set b (.int ((min (ms'.getD b 0) (ms'.getD c 0):Nat):Int))))) l (.lst (((mkL ms').set b (.int ((min (ms'.getD b 0) (ms'.getD c 0):Nat):Int))).set c (.int ((min (ms'.getD b 0) (ms'.getD c 0):Nat):Int))))):=fun e=>by
     refine⟨true,Pc.stp ms' b c,_,_,_,rfl,(s2.upd hl).upd hl,?_,hM2.stp (fun _ _=>Tie.symm) (by omega) hcn tt,(fun h=>by cases h),fun _=>?_⟩
     ·rw[d3,ah2,ah2]
      rfl
     ·have hle:ms'.sum<=ms.sum:=by
       cases g with
       | true=>exact K9 (h1 rfl)
       | false=>rw[(h0 rfl).1];exact a8 _
      omega
    refine⟨_,rfl,_,rfl,l,_,_,_,rfl,rfl,SqL.of g2,Q2 hb,_,rfl,_,_,rfl,rfl,_,rfl,?_⟩
    by_cases c1:((min (ms'.getD b 0) (ms'.getD c 0):Nat):Int)<((ms'.getD b 0:Nat):Int)
    ·rw[decide_eq_true c1]
     refine B4 (B4 ?_)
     refine⟨_,rfl,_,rfl,_,rfl,l,_,_,b,rfl,rfl,g2,by rw[lb];exact O4 hb,?_⟩
     refine⟨_,rfl,_,rfl,_,rfl,l,_,_,c,rfl,rfl,d3,by rw[A0,lb];exact O4 hc,?_⟩
     exact put (by omega)
    ·rw[decide_eq_false c1]
     refine y1 ⟨_,rfl,_,rfl,l,_,_,_,rfl,rfl,SqL.of g2,Q2 hc,_,rfl,_,_,rfl,rfl,_,rfl,?_⟩
     by_cases c2:((min (ms'.getD b 0) (ms'.getD c 0):Nat):Int)<((ms'.getD c 0:Nat):Int)
     ·rw[decide_eq_true c2]
      refine B4 ?_
      refine⟨_,rfl,_,rfl,_,rfl,l,_,_,b,rfl,rfl,g2,by rw[lb];exact O4 hb,?_⟩
      refine⟨_,rfl,_,rfl,_,rfl,l,_,_,c,rfl,rfl,d3,by rw[A0,lb];exact O4 hc,?_⟩
      exact put (by omega)
     ·rw[decide_eq_false c2]
      exact y1 (stay (by omega))
   ·rintro σ H2 ⟨g,ms',a4,a5,a6,rfl,s2,g2,hM2,h0,h1⟩
    refine⟨g,ms',_,_,_,rfl,?_,s2,g2,hM2,fun hg=>?_⟩
    ·cases g with
     | true=>have:=h1 rfl;rw[if_pos rfl];omega
     | false=>rw[(h0 rfl).1,if_neg b7];omega
    ·obtain⟨e1,e2⟩:=h0 hg
     rw[hz.len,X2]at e2
     rw[e1]
     intro b c tb
     rcases V2 hU tb with⟨hm,_⟩ | ⟨hm,_⟩
     ·exact e2 _ hm b c rfl
     ·exact(e2 _ hm c b rfl).symm
end
end Web
set_option Elab.async false
set_option maxRecDepth 100000
namespace L2
open PySem PySem.Spec PyProof.Rows
section
variable (P:Program) (w:World)
end
section
variable {P:Program} {w:World} {H H':Hp} {h h':Heap} {a:Addr} {o:HO}
end
section
variable {P:Program} {w:World} {H:Hp} {h h':Heap} {x e:Addr} {o':HO}
end
section
variable {fs fs' ex ex':List Addr} {H H1 H2:Hp} {h h1 h2 h':Heap} {a x e:Addr} {o:HO}
end
section
variable {X:Cx} {pins:List (Addr × Obj)} {σ:List (Option V)} {H H':Hp} {s:Shared} {h':Heap}
end
section
variable {X:Cx}
variable {a b:Expr} {ta tb:TE} {pos:Pos}
variable {tA tB':TT} {rest:List Expr}
end
section
variable {X:Cx} {pins:List (Addr × Obj)} {σ:St} {H:Hp} {s:Shared} {a:Addr} {xs ys:List V}
end
section
variable {X:Cx} {pins:List (Addr × Obj)} {σ:St} {H:Hp} {s:Shared} {E:Value->Shared->Prop}
end
section
variable {X:Cx} {st:Stmt} {rest:List Stmt} {t u:TS} {e:Expr} {te:TE} {pos:Pos}
end
section
variable {X:Cx} {pos:Pos}
end
section
variable {X:Cx} {pos:Pos}
end
section
variable {X:Cx} {tg:Expr}
end
section
variable {X:Cx} {a b c:Expr} {ta tb tc:TE} {pos:Pos}
end
section
variable {X:Cx} {a b c:Expr} {ta tb tc:TE} {pos:Pos}
end
section
variable {prog:Program} {w:World} {A:Around} {E:Value->Shared->Prop} {s:Shared} {K:W.Frag} {x dx C f:Addr} {mA:Str->Option Value} {name:Str} {v:Value}
end
section
variable {P:Program} {w:World} {H H':Hp} {h h':Heap} {a C dx:Addr} {fs fs':List (Str × V)}
end
section
variable {X:Cx} {pins:List (Addr × Obj)} {σ:St} {H:Hp} {s:Shared} {a C dx:Addr} {fs:List (Str × V)} {f:Str} {v:V} {A:Around} {E:Value->Shared->Prop}
end
section
variable {X:Cx} {o e value:Expr} {f:Str} {pos pos' tpos:Pos} {ta tv:TE}
end
section
variable {X:Cx} {pins:List (Addr × Obj)} {σ:St} {H:Hp} {s:Shared} {A:Around} {E:Value->Shared->Prop} {Q:Value->Shared->Prop} {c:Value} {b:Bool}
end
section
variable {X:Cx} {e:Expr} {es:List Expr} {te:TE} {t:TA} {pos:Pos}
end
section
variable {X:Cx} {pins:List (Addr × Obj)} {σ:St} {H:Hp} {s s':Shared}
end
section
variable {X:Cx} {CX:CXT} {k:Nat} {f C:Addr} {fd:FuncData} {ps:List Str} {sp:Sp} {dvs:List V} {ds:List Value} {E:XK} {x m:Str} {p pos apos:Pos} {e o:Expr} {es:List Expr} {ta:TE} {t:TA}
end
section
variable {X:Cx} {CX:CXT} {k:Nat} {f C:Addr} {fd:FuncData} {ps ks:List Str} {sp:Sp} {E:XK} {x m:Str} {p pos apos kpos:Pos} {e o:Expr} {es:List Expr} {kws:List Keyword} {te ta:TE} {t tk:TA} {nm:Option Str}
variable {g:List Value->List Value->List Value} {gV:List V->List V->List V}
end
section
variable {X:Cx} {x:Str} {p pos:Pos} {e:Expr} {es:List Expr} {t:TA} {id T:String} {r:List V->Hp->VK->Prop}
end
section
variable {κ:Type} [DecidableEq κ]
def C9 (kvs:List (κ × V))(k:κ):Option V:=(kvs.find? fun kv=>decide (kv.1=k)).map (·.2)
def putK (kvs:List (κ × V))(k:κ)(v:V):List (κ × V):=
 if (kvs.any fun kv=>decide (kv.1=k))=true then kvs.map (fun kv=>if kv.1=k then (kv.1,v) else kv) else kvs++[(k,v)]
theorem O8 {p:κ × V}{r:List (κ × V)}{k:κ}(e:p.1=k):C9 (p::r) k=some p.2:=by simp[C9,A2,e]
theorem O9 {p:κ × V}{r:List (κ × V)}{k:κ}(e:¬ p.1=k):C9 (p::r) k=C9 r k:=by simp[C9,A2,e]
theorem D7 (k:κ):∀ kvs:List (κ × V),(kvs.any fun kv=>decide (kv.1=k))=(C9 kvs k).isSome
 | []=>rfl
 | p::r=>by
  rw[am2]
  by_cases e:p.1=k
  ·simp only[O8 e,decide_eq_true e,Bool.true_or,at9]
  ·rw[O9 e,decide_eq_false e,Bool.false_or];exact D7 k r
theorem E9 (kvs:List (κ × V))(k:κ)(v:V):(putK kvs k v).length<=kvs.length+1:=by
 unfold putK
 split
 ·rw[b4];omega
 ·rw[d7,j3,C0];omega
theorem ao6 {kvs:List (κ × V)}{k:κ}(v:V)(h:C9 kvs k=none):putK kvs k v=kvs++[(k,v)]:=by
 unfold putK
 rw[D7,h]
 exact if_neg (by decide)
theorem af0.isSome_eq {o:Option V}{u:Option Value}(r:af0 o u):o.isSome=u.isSome:=by
 cases o with
 | none=>cases u with
  | none=>rfl
  | some _=>exact(show False from r).elim
 | some _=>cases u with
  | none=>exact(show False from r).elim
  | some _=>rfl
theorem KV.val {kvs:List (κ × V)}{vs:List (κ × Value)}(r:KV kvs vs)(k:κ):af0 (C9 kvs k) (valueAt vs k):=by
 unfold KV at r
 induction r with
 | nil=>exact True.intro
 | @cons p q ps qs h t ih =>
  obtain⟨h1,h2⟩:=h
  by_cases e:p.1=k
  ·have e':q.1=k:=h1.symm.trans e
   have b:valueAt (q::qs) k=some q.2:=by simp[valueAt,A2,e']
   rw[O8 e,b];exact h2
  ·have e':¬ q.1=k:=fun z=>e (h1.trans z)
   have b:valueAt (q::qs) k=valueAt qs k:=by simp[valueAt,A2,e']
   rw[O9 e,b];exact ih
theorem KV.any {kvs:List (κ × V)}{vs:List (κ × Value)}(r:KV kvs vs)(k:κ):(kvs.any fun kv=>decide (kv.1=k))=vs.any fun kv=>decide (kv.1=k):=by
 unfold KV at r
 induction r with
 | nil=>rfl
 | cons h t ih=>rw[am2,am2,ih,h.1]
theorem KV.repl {kvs:List (κ × V)}{vs:List (κ × Value)}(r:KV kvs vs)(k:κ){y:V}{u:Value}(ry:RelV y u) :
  KV (kvs.map fun kv=>if kv.1=k then (kv.1,y) else kv) (vs.map fun kv=>if kv.1=k then (kv.1,u) else kv):=by
 unfold KV at r ⊢
 induction r with
 | nil=>exact .nil
 | @cons p q ps qs h t ih =>
  rw[k9,k9]
  refine .cons ?_ ih
  obtain⟨h1,h2⟩:=h
  by_cases e:p.1=k
  ·rw[if_pos e,if_pos (h1.symm.trans e)];exact⟨h1,ry⟩
  ·rw[if_neg e,if_neg (fun z=>e (h1.trans z))];exact⟨h1,h2⟩
theorem KV.put {kvs:List (κ × V)}{vs:List (κ × Value)}(r:KV kvs vs)(k:κ){y:V}{u:Value}(ry:RelV y u):KV (putK kvs k y) (stored vs k u):=by
 unfold putK stored
 rw[r.any k]
 by_cases e:(vs.any fun kv=>decide (kv.1=k))=true
 ·rw[if_pos e,if_pos e];exact r.repl k ry
 ·rw[if_neg e,if_neg e];exact Paired.snoc r ⟨rfl,ry⟩
theorem KV.keys {kvs:List (κ × V)}{vs:List (κ × Value)}(r:KV kvs vs):kvs.map (·.1)=vs.map (·.1):=by
 unfold KV at r
 induction r with
 | nil=>rfl
 | cons h t ih=>rw[k9,k9,ih,h.1]
theorem KV.length {kvs:List (κ × V)}{vs:List (κ × Value)}(r:KV kvs vs):kvs.length=vs.length:=Paired.length r
end
theorem ah7 {P:Program}{w:World}{k:Key}{u:Value}(r:RelV (kV k) u):(p5 P w).is k u=true:=by
 cases k with
 | inl i=>obtain⟨t,e⟩:=(show ∃ t,u=Value.int i t from r);subst e;exact Z7 P w i t
 | inr x=>obtain⟨t,e⟩:=(show ∃ t,u=Value.str x t from r);subst e;exact Z6 P w x t
theorem T9 {P:Program}{w:World}:∀ {ks:List Key} {us:List Value},l7 (ks.map kV) us->ItemsAre (p5 P w) ks us
 | [],_,r=>by rw[V0]at r;cases r;exact .nil
 | k::ks,_,r=>by
  rw[k9]at r
  cases r with
  | cons h t=>exact .cons (ah7 h) (T9 t)
abbrev KT (H:Hp):List (List Key × V)->List (List Key × Addr × Value)->Prop:=Paired fun p q=>p.1=q.1/\H q.2.1=some (.tup (p.1.map kV))/\RelV p.2 q.2.2
theorem KT.val {H:Hp}{kvs:List (List Key × V)}{xs:List (List Key × Addr × Value)}(r:KT H kvs xs)(k:List Key):af0 (C9 kvs k) ((atKey xs k).map (·.2)):=by
 induction r with
 | nil=>exact True.intro
 | @cons p q ps qs h t ih =>
  obtain⟨h1,_,h2⟩:=h
  by_cases e:p.1=k
  ·have e':q.1=k:=h1.symm.trans e
   have b:atKey (q::qs) k=some q.2:=by simp[atKey,A2,e']
   rw[O8 e,b];exact h2
  ·have e':¬ q.1=k:=fun z=>e (h1.trans z)
   have b:atKey (q::qs) k=atKey qs k:=by simp[atKey,A2,e']
   rw[O9 e,b];exact ih
theorem KT.repl {H:Hp}{kvs:List (List Key × V)}{xs:List (List Key × Addr × Value)}(r:KT H kvs xs)(k:List Key){y:V}{u:Value}(ry:RelV y u) :
  KT H (kvs.map fun kv=>if kv.1=k then (kv.1,y) else kv) (xs.map (putAt k u)):=by
 induction r with
 | nil=>exact .nil
 | @cons p q ps qs h t ih =>
  rw[k9,k9]
  refine .cons ?_ ih
  obtain⟨h1,h2,h3⟩:=h
  unfold putAt
  by_cases e:p.1=k
  ·rw[if_pos e,if_pos (h1.symm.trans e)];exact⟨h1,h2,ry⟩
  ·rw[if_neg e,if_neg (fun z=>e (h1.trans z))];exact⟨h1,h2,h3⟩
theorem KT.put {H:Hp}{kvs:List (List Key × V)}{xs:List (List Key × Addr × Value)}(r:KT H kvs xs)(k:List Key){b:Addr}{y:V}{u:Value}(hb:H b=some (.tup (k.map kV)))(ry:RelV y u) :
  KT H (putK kvs k y) (storedH xs k b u):=by
 have e:(kvs.any fun kv=>decide (kv.1=k))=(atKey xs k).isSome:=by
  rw[D7,(r.val k).isSome_eq,az2]
 unfold putK storedH
 rw[e]
 by_cases q:(atKey xs k).isSome=true
 ·rw[if_pos q,if_pos q];exact r.repl k ry
 ·rw[if_neg q,if_neg q];exact Paired.snoc r ⟨rfl,hb,ry⟩
theorem KT.keeps {H H':Hp}{kvs:List (List Key × V)}{xs:List (List Key × Addr × Value)}(r:KT H kvs xs)(ht:∀ b ys,H b=some (.tup ys)->H' b=some (.tup ys)):KT H' kvs xs:=
 Paired.mapP r fun _ _ z=>⟨z.1,ht _ _ z.2.1,z.2.2⟩
section
variable {P:Program} {w:World} {H:Hp} {h:Heap} {a:Addr}
theorem aA2 {u:HO}(ok:HOk P w H h)(e:Rd H a u):q0 P w H h a u:=e.ok ok
theorem aA6 {kvs:List (Key × V)}(ok:HOk P w H h)(e:Rd H a (.dK kvs)):kvs.length<=sizeLine/\(a == sysModules)=false/\∃ vs,KV kvs vs/\h.DictOf (p5 P w) a vs:=
 show q0 P w H h a (.dK kvs) from aA2 ok e
theorem ar9 {kvs:List (Key × V)}(ok:HOk P w H h)(e:H a=some (.dK kvs)):kvs.length<=sizeLine/\(a == sysModules)=false/\∃ vs,KV kvs vs/\h.DictOf (p5 P w) a vs:=aA6 ok (.inl e)
theorem ad7 {ks:List Key}(ok:HOk P w H h)(e:H a=some (.tup (ks.map kV))):(tupleKind (p5 P w)).is h ks a:=by
 obtain⟨_,its,r,o,h1,h2,n,h3⟩:=(show q0 P w H h a (.tup (ks.map kV)) from ok a _ e)
 exact⟨o,its.toArray,n,h1,h2,h3,by simpa using T9 r⟩
theorem aA5 {kvs:List (List Key × V)}(ok:HOk P w H h)(e:Rd H a (.dT kvs)):kvs.length<=sizeLine/\(a == sysModules)=false /\
  ∃ xs,KT H kvs xs/\h.DictOfH (tupleKind (p5 P w)) a xs:=by
 obtain⟨z,y,xs,r,o,es,ep,h1,h2,h3,h4,h5⟩:=(show q0 P w H h a (.dT kvs) from aA2 ok e)
 refine⟨z,y,xs,r,o,es,ep,h1,h2,h3,h4,fun x hx=>?_,h5⟩
 have all:∀ {l:List (List Key × V)} {m:List (List Key × Addr × Value)},KT H l m->∀ x∈m,(tupleKind (p5 P w)).is h x.1 x.2.1:=by
  intro l m q
  induction q with
  | nil=>intro x hx;exact nomatch hx
  | @cons p q ps qs hq t ih =>
   intro x hx
   rcases b9.mp hx with e | hx
   ·subst e
    exact ad7 ok (by rw[<- hq.1];exact hq.2.1)
   ·exact ih x hx
 exact all r x hx
theorem aJ9 {kvs:List (List Key × V)}(ok:HOk P w H h)(e:H a=some (.dT kvs)):kvs.length<=sizeLine/\(a == sysModules)=false /\
  ∃ xs,KT H kvs xs/\h.DictOfH (tupleKind (p5 P w)) a xs:=aA5 ok (.inl e)
end
def as9 (H:Hp)(a:Addr)(y:V)(r:Option V):Prop:=
 (∃ kvs k,Rd H a (.dK kvs)/\y=kV k/\r=C9 kvs k)\/∃ kvs k b,Rd H a (.dT kvs)/\y=.ref b/\H b=some (.tup (k.map kV))/\r=C9 kvs k
def as8 (H:Hp)(a:Addr)(y v:V)(H':Hp):Prop:=
 (∃ kvs k,H a=some (.dK kvs)/\y=kV k/\kvs.length<sizeLine/\H'=upd H a (.dK (putK kvs k v))) \/
 ∃ kvs k b,H a=some (.dT kvs)/\y=.ref b/\H b=some (.tup (k.map kV))/\kvs.length<sizeLine/\H'=upd H a (.dT (putK kvs k v))
theorem as9.k {H:Hp}{a:Addr}{kvs:List (Key × V)}{k:Key}(e:H a=some (.dK kvs)):as9 H a (kV k) (C9 kvs k):=.inl ⟨kvs,k,.inl e,rfl,rfl⟩
theorem as8.k {H:Hp}{a:Addr}{kvs:List (Key × V)}{k:Key}{v:V}(e:H a=some (.dK kvs))(hl:kvs.length<sizeLine):as8 H a (kV k) v (upd H a (.dK (putK kvs k v))):=.inl ⟨kvs,k,e,rfl,hl,rfl⟩
section
variable {X:Cx} {pins:List (Addr × Obj)} {σ:St} {H:Hp} {s:Shared} {a:Addr} {y v:V} {u r:Value} {o:Option V} {A:Around} {E:Value->Shared->Prop}
theorem Inv.big (I:Inv X pins σ H s):sysModules<s.heap.objs.size:=by
 have h:mainGlobals<s.heap.objs.size:=(I.mod.glob.keeps I.bk).lt
 exact at7 (by decide) h
theorem ay3 {Q:Value->Shared->Prop}(hu:A.units+1<cLine)(I:Inv X pins σ H s)(g:as9 H a y o)(ry:RelV y u)(h:∀ s',Inv X pins σ H s'->Q (.bool (!o.isSome)) s') :
  wpAny (model X.prog X.w) A (compareOp .NotIn u (.ref a)) Q E s:=by
 rcases g with⟨kvs,k,e,ey,l⟩ | ⟨kvs,k,b,e,ey,eb,l⟩
 ·subst ey
  obtain⟨z,hd,vs,rel,dd⟩:=aA6 I.hok e
  refine wpAny_notIn_of (ah7 ry) hd dd.mapOf ?_
  rw[<- (rel.val k).isSome_eq,<- l]
  exact h _ (I.tok _)
 ·subst ey
  cases (show u=Value.ref b from ry)
  obtain⟨z,hd,xs,rel,dd⟩:=aA5 I.hok e
  refine wpAny_notIn_heap (tupleKind_room_in1 hu) (ad7 I.hok eb) hd dd ?_
  have q:=(rel.val k).isSome_eq
  rw[az2]at q
  rw[<- q,<- l]
  exact h _ (I.tok _)
theorem W6 {h':Heap}{t':Nat}{ob:HO}(I:Inv X pins σ H s)(mu:Mut (H a))(hs:Heap.SameBut a s.heap h')(he:∃ q,h'.get? a=some q)(new:q0 X.prog X.w (upd H a ob) h' a ob) :
  Inv X pins σ (upd H a ob) { s with heap:=h',toks:=t' }:=
 I.write (x:=a) (e:=a) mu (.inl rfl) (fun b q hb z=>(hs.2 b hb).trans z) he new
theorem as0 {P:Program}{w:World}{H':Hp}{h':Heap}{kvs:List (Key × V)}{vs:List (Key × Value)}(z:kvs.length<=sizeLine)(hd:(a == sysModules)=false)(rel:KV kvs vs)(dd:h'.DictOf (p5 P w) a vs) :
  q0 P w H' h' a (.dK kvs):=⟨z,hd,vs,rel,dd⟩
theorem ak8 {H':Hp}{Q:Unit->Shared->Prop}(hu:A.units+1<cLine)(I:Inv X pins σ H s)(g:as8 H a y v H')(ry:RelV y u)(rv:RelV v r)(h:∀ s',Inv X pins σ H' s'->Q () s') :
  wpAny (model X.prog X.w) A (setItem (.ref a) u r) Q E s:=by
 rcases g with⟨kvs,k,e,ey,l,eH⟩ | ⟨kvs,k,b,e,ey,eb,l,eH⟩
 ·subst ey eH
  obtain⟨z,hd,vs,rel,dd⟩:=ar9 I.hok e
  have hz:vs.length<=sizeLine:=by rw[<- rel.length];exact z
  have hl:(putK kvs k v).length<=sizeLine:=by have:=E9 kvs k v;omega
  refine wpAny_setItem_pairs (hsz:=hz) (ah7 ry) dd fun h' dd' hs=>h _ ?_
  have he:∃ q,h'.get? a=some q:=let ⟨q,_,_,hq,_⟩:=dd';⟨q,hq⟩
  exact W6 I (by rw[e];exact True.intro) hs he (as0 hl hd (rel.put k rv) dd')
 ·subst ey eH
  cases (show u=Value.ref b from ry)
  obtain⟨z,hd,xs,rel,dd⟩:=aJ9 I.hok e
  have hz:xs.length<=sizeLine:=by rw[<- Paired.length rel];exact z
  have hl:(putK kvs k v).length<=sizeLine:=by have:=E9 kvs k v;omega
  refine wpAny_setItem_heap (hsz:=hz) (tupleKind_room_in1 hu) (ad7 I.hok eb) dd fun h' dd' hs=>h _ ?_
  obtain⟨q,es,ep,hq,h2,h3,h4,_,h5⟩:=dd'
  refine W6 I (by rw[e];exact True.intro) hs ⟨q,hq⟩ ⟨hl,hd,_,(rel.put k eb rv).keeps fun c ys ec=>?_,q,es,ep,hq,h2,h3,h4,h5⟩
  rw[j1 (aq6 ec e (fun z=>nomatch z))]
  exact ec
end
section
variable {X:Cx} {pins:List (Addr × Obj)} {σ:St} {H:Hp} {s:Shared} {a:Addr} {kvs:List (Key × V)} {k:Key} {u:Value} {A:Around} {E:Value->Shared->Prop}
end
def au6 (ty td:TE):TE:=fun σ H Q=>ty σ H fun y H1=>td σ H1 fun x H2=>∃ a o,x=.ref a/\as9 H2 a y o/\Q (.bl (!o.isSome)) H2
def aH9 (td ty tv:TE):TS:=fun D σ H=>tv σ H fun v H1=>td σ H1 fun x H2=>ty σ H2 fun y H3=>∃ a H4,x=.ref a/\as8 H3 a y v H4/\D.nx σ H4
section
variable {X:Cx} {o i e value:Expr} {pos pos' tpos:Pos} {td ty tv:TE}
theorem aj7 (hu:X.A.units+1<cLine)(hi:PE X i ty)(ho:PE X o td):PC X .NotIn i o (au6 ty td):=by
 intro pins s σ H Q I h
 refine thn (hi pins s σ H _ I h) fun iv s1 ⟨y,H1,I1,ry,q1⟩=>thn (ho pins s1 σ H1 _ I1 q1) fun u s2 ⟨x,H2,I2,rx,a,ov,ex,g,q2⟩=>?_
 subst ex
 obtain rfl:u=Value.ref a:=rx
 exact ay3 hu I2 g ry fun s3 I3=>⟨.bl (!ov.isSome),H2,I3,rfl,q2⟩
theorem av4 (hu:X.A.units+1<cLine)(ho:PE X o td)(hi:PE X i ty)(hv:PE X value tv)(hs:swapsWith value (some (.Subscript o i pos')) pos.line X.env=pure false) :
  PS X (.Assign [.Subscript o i pos'] value pos) (aH9 td ty tv):=by
 intro pins s σ H D I h
 refine wpAny_Assign_Subscript (thn (hv pins s σ H _ I h) fun r s1 ⟨v,H1,I1,rv,q1⟩=>thn (ho pins s1 σ H1 _ I1 q1) fun u s2 ⟨x,H2,I2,rx,q2⟩=>thn (hi pins s2 σ H2 _ I2 q2) fun iv s3 ⟨y,H3,I3,ry,a,H4,ex,g,q3⟩=>?_) hs
 subst ex
 obtain rfl:u=Value.ref a:=rx
 exact ak8 hu I3 g ry rv fun s4 I4=>⟨σ,H4,I4,q3⟩
end
theorem as1 {P:Program}{w:World}{H:Hp}(h:Heap)(hb:sysModules<h.objs.size):q0 P w H (h.push { cls:=.type "dict",data:=.dict #[] }) h.objs.size (.dK []) :=
 ⟨i3 _,beq_eq_false_iff_ne.mpr (Ne.symm (c3 hb)),[],.nil,Heap.DictOf.new h⟩
section
variable {X:Cx} {pos:Pos}
end
def ac2:List (TE × TE)->St->Hp->(List (V × V)->Hp->Prop)->Prop
 | [],_,H,Q=>Q [] H
 | (tk,tv)::r,σ,H,Q=>tk σ H fun x H1=>tv σ H1 fun y H2=>ac2 r σ H2 fun ps H3=>Q ((x,y)::ps) H3
abbrev VV:List (V × V)->List (Value × Value)->Prop:=Paired fun p q=>RelV p.1 q.1/\RelV p.2 q.2
def PPs (X:Cx)(pos:Pos)(keys:List (Option Expr))(values:List Expr)(trs:List (TE × TE)):Prop:=
 ∀ (pins:List (Addr × Obj)) (s:Shared) (σ:St) (H:Hp) (Q:List (V × V)->Hp->Prop),Inv X pins σ H s->ac2 trs σ H Q ->
  wpAny (model X.prog X.w) X.A (evalPairs (pairTrees keys values X.env pos)) (fun vs s'=>∃ ps H',Inv X pins σ H' s'/\VV ps vs/\Q ps H') X.xe s
theorem av5 {X:Cx}{pos:Pos}:PPs X pos [] [] []:=fun pins s σ H Q I h=>pairTrees_nil_walk ⟨[],H,I,.nil,h⟩
theorem ap1 {X:Cx}{pos:Pos}{k v:Expr}{ks:List (Option Expr)}{vs:List Expr}{tk tv:TE}{trs:List (TE × TE)}(hk:PE X k tk)(hv:PE X v tv)(hr:PPs X pos ks vs trs) :
  PPs X pos (some k::ks) (v::vs) ((tk,tv)::trs):=fun pins s σ H Q I h =>
 pairTrees_cons_walk (thn (hk pins s σ H _ I h) fun u s1 ⟨x,H1,I1,rx,q1⟩=>thn (hv pins s1 σ H1 _ I1 q1) fun w2 s2 ⟨y,H2,I2,ry,q2⟩ =>
  thn (hr pins s2 σ H2 _ I2 q2) fun ws s3 ⟨ps,H3,I3,rel,q3⟩=>⟨(x,y)::ps,H3,I3,.cons ⟨rx,ry⟩ rel,q3⟩)
def L7 (kvs more:List (Key × V)):List (Key × V):=more.foldl (fun acc kv=>putK acc kv.1 kv.2) kvs
theorem KV.merge:∀ {more:List (Key × V)} {rs:List (Key × Value)} {kvs:List (Key × V)} {vs:List (Key × Value)},KV more rs->KV kvs vs->KV (L7 kvs more) (merged vs rs):=by
 intro more rs kvs vs r
 unfold KV at r
 induction r generalizing kvs vs with
 | nil=>intro q;exact q
 | @cons p q ps qs h t ih =>
  intro r0
  have e:KV (putK kvs p.1 p.2) (stored vs q.1 q.2):=by
   have:=r0.put p.1 h.2
   rw[<- h.1];exact this
  exact ih e
theorem G6:∀ (more kvs:List (Key × V)),(L7 kvs more).length<=kvs.length+more.length
 | [],kvs=>by show kvs.length<=kvs.length+0;omega
 | p::r,kvs=>by
  have h1:=G6 r (putK kvs p.1 p.2)
  have h2:=E9 kvs p.1 p.2
  show (L7 (putK kvs p.1 p.2) r).length<=_
  rw[j3];omega
theorem R7 {P:Program}{w:World}:∀ {kvs:List (Key × V)} {ws:List (Value × Value)},VV (kvs.map fun kv=>(kV kv.1,kv.2)) ws->∃ rs,Carries (p5 P w) ws rs/\KV kvs rs
 | [],_,r=>by rw[V0]at r;cases r;exact⟨[],True.intro,.nil⟩
 | p::kvs,_,r=>by
  rw[k9]at r
  cases r with
  | @cons a b as bs h t =>
   obtain⟨rs,c,q⟩:=R7 (P:=P) (w:=w) t
   obtain⟨b1,b2⟩:=b
   exact⟨(p.1,b2)::rs,⟨ah7 h.1,rfl,c⟩,.cons ⟨rfl,h.2⟩ q⟩
def aH1 (trs:List (TE × TE)):TE:=fun σ H Q=>∀ p,H p=none->ac2 trs σ (upd H p (.dK [])) fun ps H2=>H2 p=some (.dK [])/\∃ kvs:List (Key × V),ps=kvs.map (fun kv=>(kV kv.1,kv.2))/\kvs.length<=15/\Q (.ref p) (upd H2 p (.dK (L7 [] kvs)))
theorem aw0 {X:Cx}{pos:Pos}{keys:List (Option Expr)}{values:List Expr}{trs:List (TE × TE)}(h:PPs X pos keys values trs)(hall:keys.all (·.isSome)=true)(hl:keys.length=values.length)(h0:keys≠[])
  (h15:keys.length<=15):PE X (.Dict keys values pos) (aH1 trs):=by
 intro pins s σ H Q I q
 have hn:=I.hok.fresh (a8 s.heap.objs.size)
 have I1:=I.laid (a:=s.heap.objs.size) (o:=.dK []) (h':=s.heap.push { cls:=.type "dict",data:=.dict #[] }) (t':=s.toks) (fun _ _ q=>a7 _ q) (a8 _) (as1 s.heap I.big)
 refine wpAny_Dict_walk (knd:=p5 X.prog X.w) hall hl h0 h15 (thn (h pins _ σ _ _ I1 (q _ hn)) fun ws s2 ⟨ps,H2,I2,rel,e,kvs,ep,lk,q2⟩=>?_)
 subst ep
 obtain⟨rs,c,rk⟩:=R7 (P:=X.prog) (w:=X.w) rel
 obtain⟨z,hd,vs0,r0,dd⟩:=ar9 I2.hok e
 cases r0
 refine⟨rs,c,dd,fun h' dd' hs=>⟨.ref s.heap.objs.size,_,?_,rfl,q2⟩⟩
 have hz:(L7 [] kvs).length<=sizeLine:=by
  have h1:=G6 kvs []
  rw[C0]at h1
  rw[sizeLine_eq];omega
 have he:∃ q,h'.get? s.heap.objs.size=some q:=let ⟨q,_,_,hq,_⟩:=dd';⟨q,hq⟩
 exact W6 I2 (by rw[e];exact True.intro) hs he (as0 hz hd (rk.merge .nil) dd')
structure M1 (X:Cx) (o:Expr) (m:Str) (apos:Pos) (e:Expr) (cpos:Pos):Prop where
 base:attributeBase o m X.env (eval o X.env)=eval o X.env
 few:((backTo cpos (starEach [e] X.env)).all (fun x=>!x.1) && (backToKw cpos (keywordEach [] X.env)).all (fun x=>x.1.isSome)
  && decide (([e]:List Expr).length+([]:List Keyword).length+(if ([]:List Keyword).isEmpty then 0 else 1)<30))=true
 line:(apos.endLine == cpos.line)=true
 trees:backTo cpos (starEach [e] X.env)=[(false,eval e X.env)]
structure M2 (X:Cx) (o:Expr) (m:Str) (apos:Pos) (e f:Expr) (cpos:Pos):Prop where
 base:attributeBase o m X.env (eval o X.env)=eval o X.env
 few:((backTo cpos (starEach [e,f] X.env)).all (fun x=>!x.1) && (backToKw cpos (keywordEach [] X.env)).all (fun x=>x.1.isSome)
  && decide (([e,f]:List Expr).length+([]:List Keyword).length+(if ([]:List Keyword).isEmpty then 0 else 1)<30))=true
 line:(apos.endLine == cpos.line)=true
 trees:backTo cpos (starEach [e,f] X.env)=[(false,eval e X.env),(false,eval f X.env)]
section
variable {X:Cx} {pins:List (Addr × Obj)} {σ:St} {H:Hp} {s:Shared} {a:Addr} {y d:V} {u r:Value} {o:Option V} {A:Around} {E:Value->Shared->Prop}
end
section
variable {X:Cx} {o e f:Expr} {apos cpos:Pos} {td ty tx:TE}
end
section
variable {X:Cx} {pins:List (Addr × Obj)} {σ:St} {H:Hp} {s:Shared} {a:Addr} {kvs:List (Key × V)} {A:Around} {E:Value->Shared->Prop}
end
section
variable {X:Cx} {pins:List (Addr × Obj)} {σ:St} {H:Hp} {s:Shared} {a:Addr} {y:V} {u:Value} {A:Around} {E:Value->Shared->Prop}
end
end L2
namespace Att
open PySem PySem.W PySem.Calls PyProof.Rows
section
variable {prog:Program} {w:World} {A:Around} {E:Value->Shared->Prop} {s:Shared} {K:Frag}
end
end Att
namespace L2
open PySem PySem.Spec PyProof.Rows
section
variable {P:Program} {w:World} {K:W.Frag} {mg:Str->Option Value} {base:Heap}
end
section
variable {X:Cx}
end
section
variable {κ:Type} [DecidableEq κ]
theorem am4 {kvs:List (κ × V)}{k:κ}(h:C9 kvs k=none):¬ k∈kvs.map (·.1):=by
 intro m
 obtain⟨p,hp,e⟩:=k7.mp m
 have q:(kvs.any fun kv=>decide (kv.1=k))=true:=aG1.mpr ⟨p,hp,decide_eq_true e⟩
 rw[D7,h]at q
 exact absurd q (by simp)
theorem au2 {kvs:List (κ × V)}{k:κ}{v:V}(h:C9 kvs k=some v):k∈kvs.map (·.1):=by
 have q:(kvs.any fun kv=>decide (kv.1=k))=true:=by
  rw[D7,h]
  all_goals rfl
 obtain⟨p,hp,e⟩:=aG1.mp q
 exact k7.mpr ⟨p,hp,of_decide_eq_true e⟩
theorem ag9:∀ {l:List κ} {k:κ},l.Nodup->¬ k∈l->(l++[k]).Nodup
 | [],k,_,_=>by simp
 | a::r,k,h,hk=>by
  obtain⟨h1,h2⟩:=m6.mp h
  show (a::(r++[k])).Nodup
  refine m6.mpr ⟨fun m=>?_,ag9 h2 fun m=>hk (b9.mpr (Or.inr m))⟩
  rcases g7.mp m with q | q
  ·exact h1 q
  ·exact hk (b9.mpr (Or.inl (b8.mp q).symm))
end
def ai7 (x0:Str)(names:List (Str × NameKind))(cl:List (Str × Addr)):Bool:=names.all fun y=>(y.2 != .cell || y.1 == x0) && (y.2 != .free || (cl.lookup y.1).isSome)
def q8 (X:Cx)(x0:Str)(scope:Scope)(cl:List (Str × Addr))(N':List Str)(s₃:Shared)(H₃:Hp)(fp:List Addr)(xe':Value->Shared->Prop):Cx:=
 { X with N:=N',s₀:=s₃,H₀:=H₃,env:=compEnvC scope ((x0,s₃.heap.objs.size+1)::cl) s₃.heap.objs.size X.env,outer:=X.stack,ex:=fp,fn:=fun x=>x == x0,pn:=[],xe:=xe' }
theorem aw9 {M:Model}{A:Around}{E:Value->Shared->Prop}{s:Shared}{x0:Str}{scope:Scope}{globals:Addr}{cl:List (Str × Addr)}{qual:Str}{outer:Env}{Q:Env->Shared->Prop}
  (hcs:∀ n,cellsFrom n scope.names cl=(x0,n)::cl)(hpc:∀ h,pushCells h scope.names=h.push { cls:=.type "cell",data:=.cell none })
  (hQ:Q (newEnv scope s.heap.objs.size globals ((x0,s.heap.objs.size+1)::cl) qual none .none (some outer) builtinsNs) { s with heap:=(s.heap.push { cls:=.type "dict",data:=.dict #[] }).push { cls:=.type "cell",data:=.cell none } }) :
  wpAny M A (newFunctionEnv scope globals cl [] qual none .none (some outer)) Q E s:=by
 simp only[newFunctionEnv,at9,if_true]
 refine wpAny_bind (wpAny_alloc ?_)
 refine wpAny_bind (wpAny_layCells _ (fun name kind cells=>by cases hkc:kind == NameKind.cell<;>simp[hkc]) _ _ _ _ ?_)
 rw[hcs,hpc]
 have e:({ s with heap:=s.heap.push { cls:=.type "dict",data:=.dict #[] } }:Shared).heap.objs.size=s.heap.objs.size+1:=l8 ..
 rw[e]
 rw[List.forIn_nil]
 exact wpAny_bind (wpAny_pure (wpAny_pure hQ))
section
variable {X:Cx}
theorem aa6 {x0:Str}{pins:List (Addr × Obj)}{σ:St}{H3:Hp}{s3:Shared}{h1:Heap}{tk:Nat}{scope:Scope}{cl:List (Str × Addr)}{N':List Str}{lk:List (Option Nat)}{fp:List Addr}{xe':Value->Shared->Prop}{m0:Str->Option Value}
  (I:Inv X pins σ H3 s3)(hf:∀ b∈fp,K6 X pins H3 b)(hkind:scope.kind=.function)(hcl:S0 X.env cl)(hfr:ai7 x0 scope.names cl=true)(hx0:cl.lookup x0=none)(hc0:h1.IsCell (s3.heap.objs.size+1) none)(hlk:ab1 X N' lk scope cl)
  (hn:h1.Ns s3.heap.objs.size m0)(hk:∀ b u,s3.heap.get? b=some u->h1.get? b=some u)(hfs:∀ b∈fp,b<s3.heap.objs.size):Inv (q8 X x0 scope cl N' s3 H3 fp xe') [] (F4 lk σ) H3 { s3 with heap:=h1,toks:=tk }:=by
 have hC:H3 s3.heap.objs.size=none:=I.hok.fresh (a8 _)
 have hC0:H3 (s3.heap.objs.size+1)=none:=I.hok.fresh (t7 _)
 have hmem:∀ y∈scope.names,(y.2=.cell->y.1=x0)/\(y.2=.free->(cl.lookup y.1).isSome=true):=fun y hy=>by
  unfold ai7 at hfr
  rw[G9]at hfr
  have:=hfr y hy
  rw[v5]at this
  refine⟨fun e=>?_,fun e=>?_⟩
  ·have h1:=this.1
   rw[e]at h1
   simpa using h1
  have h2:=this.2
  rw[e]at h2
  simpa using h2
 have hcell:∀ x c,cl.lookup x=some c->X.env.cells.lookup x=some c:=fun x c e=>hcl.get e
 have hlook:∀ x c,((x0,s3.heap.objs.size+1)::cl:List (Str × Addr)).lookup x=some c->(x=x0/\c=s3.heap.objs.size+1)\/cl.lookup x=some c:=fun x c e=>by
  rw[x6]at e
  cases hb:x == x0 with
  | true=>rw[hb]at e;cases e;exact .inl ⟨eq_of_beq hb,rfl⟩
  | false=>rw[hb]at e;exact .inr e
 have hsome:∀ x,x=x0\/(cl.lookup x).isSome=true->(((x0,s3.heap.objs.size+1)::cl:List (Str × Addr)).lookup x).isSome=true:=fun x h=>by
  rw[x6]
  cases hb:x == x0 with
  | true=>rfl
  | false =>
   rcases h with h | h
   ·rw[h]at hb;simp at hb
   ·exact h
 have clt:∀ x c,cl.lookup x=some c->c<s3.heap.objs.size:=fun x c e=>by
  obtain⟨v,q⟩:=I.cell x c (hcell x c e)
  exact q.lt
 refine⟨⟨I.ok.mod,hkind,I.ok.glob,I.ok.blt,a8 _,fun x y c e1 e2=>?_,fun x hx=>?_,fun x c hf e=>?_,I.ok.hd,I.ok.frames,.inl rfl,fun b hb=>?_,fun b o e=>I.bs b o e,m9 I.ok.bsz I.sz,fun b o e hb=>?_,fun b hb z=>?_,I.stack,I.stkFree⟩,
  rfl,I.bare,Un.kept hk,⟨m0,hn,fun i x v e1 e2 e3=>?_⟩,fun x c e=>?_,hC,fun x c e=>?_,(fun p hp=>nomatch hp),I.hok.kept hk,?_⟩
 ·rcases hlook x c e1 with⟨z1,z2⟩ | d1
  ·rcases hlook y c e2 with⟨z3,_⟩ | d2
   ·rw[z1,z3]
   ·rw[z2]at d2;exact absurd (clt _ _ d2) (am1.mpr (t7 _))
  ·rcases hlook y c e2 with⟨_,z4⟩ | d2
   ·rw[z4]at d1;exact absurd (clt _ _ d1) (am1.mpr (t7 _))
   ·exact I.ok.inj x y c (hcell x c d1) (hcell y c d2)
 ·have hx':(relabel scope X.env).names.lookup x=some .cell\/(relabel scope X.env).names.lookup x=some .free:=hx
  have:∃ k',(x,k')∈scope.names/\(k'=.free\/k'=.cell):=by
   rcases hx' with h | h
   ·obtain⟨k',h1,h2⟩:=u9 h
    rcases h2 with h2 | h2
    ·exact⟨k',h1,.inr h2⟩
    ·exact⟨k',h1,.inl h2.1⟩
   ·obtain⟨k',h1,h2⟩:=u9 h
    rcases h2 with h2 | h2
    ·exact⟨k',h1,.inl h2⟩
    ·exact⟨k',h1,.inl h2.1⟩
  obtain⟨k',h1,h2⟩:=this
  refine t9.mp (hsome x ?_)
  rcases h2 with h2 | h2
  ·exact .inr ((hmem _ h1).2 h2)
  ·exact .inl ((hmem _ h1).1 h2)
 ·have hf':(x == x0)=true:=hf
  rcases hlook x c e with⟨_,rfl⟩ | e
  ·show s3.heap.objs.size<=_
   omega
  ·rw[eq_of_beq hf',hx0]at e
   cases e
 ·obtain⟨f0,f1,f2,f3,f4,f5⟩:=hf b hb
  refine⟨c3 (hfs b hb),fun x c e=>?_⟩
  rcases hlook x c e with⟨_,rfl⟩ | e
  ·exact u5 (j0 (hfs b hb))
  ·exact f4 x c (hcell x c e)
 ·obtain⟨f0,f1,f2,f3,f4,f5⟩:=hf b hb
  rcases f3 with f3 | f3
  ·exact I.ok.noex b o e f3
  ·exact absurd (g9 (b0 e) (m9 I.ok.bsz f3)) (l6 _)
 ·obtain⟨f0,f1,f2,f3,f4,f5⟩:=hf b hb
  rcases b9.mp (I.stkSub b z) with e | e
  ·exact f1 e
  ·exact f2 e
 ·-- a captured name
  have e2':(F4 lk σ)[i]?=some (some v):=e2
  unfold F4 at e2'
  rw[i8]at e2'
  cases hq:lk[i]? with
  | none=>rw[hq]at e2';cases e2'
  | some o =>
   rw[hq]at e2'
   have e2'':(o.bind fun j=>(σ[j]?).join)=some v:=Option.some.inj e2'
   cases o with
   | none=>cases e2''
   | some j =>
    obtain⟨q1,q2,q3,q4⟩:=hlk.2 i j x e1 hq
    have hσ:σ[j]?=some (some v):=by
     have z:(σ[j]?).join=some v:=e2''
     cases hh:σ[j]? with
     | none=>rw[hh]at z;cases z
     | some o=>rw[hh]at z;rw[show o=some v from z]
    obtain⟨m,hnX,hl⟩:=I.loc
    obtain⟨u,r,lo⟩:=hl j x v q1 hσ (q2.elim (fun a=>.inr (.inl a)) (fun a=>.inr (.inr a)))
    refine⟨u,r,.inr ?_⟩
    obtain⟨c,hc⟩:=t9.mp q3
    have hne:(x == x0)=false:=by
     cases hb:x == x0 with
     | false=>rfl
     | true=>rw[eq_of_beq hb,hx0]at hc;cases hc
    refine⟨q4,c,by show ((x0,s3.heap.objs.size+1)::cl:List (Str × Addr)).lookup x=some c;rw[x6,hne];exact hc,?_⟩
    have hcX:=hcell x c hc
    rcases lo with⟨k,_⟩ | ⟨_,c',hc',z⟩
    ·have k':X.env.scope.names.lookup x=some .local:=k
     rw[k']at q2
     rcases q2 with q2 | q2<;>cases q2
    ·rw[hcX]at hc'
     cases hc'
     obtain⟨o,ho,hd⟩:=z
     exact⟨o,hk c o ho,hd⟩
 ·rcases hlook x c e with⟨_,rfl⟩ | e
  ·exact⟨none,hc0⟩
  ·obtain⟨v,o,ho,hd⟩:=I.cell x c (hcell x c e)
   exact⟨v,o,hk c o ho,hd⟩
 ·rcases hlook x c e with⟨_,rfl⟩ | e
  ·exact hC0
  ·exact I.freeC x c (hcell x c e)
 ·show (F4 lk σ).length=N'.length
  unfold F4
  rw[b4]
  exact hlk.1
end
section
variable {X:Cx}
end
section
variable {X:Cx}
end
end L2
namespace L2
open PySem PySem.Spec PyProof.Rows PySem.SeqAt
section
variable {prog:Program} {w:World} {A:Around} {E:Value->Shared->Prop} {s:Shared}
def J6 (h:Heap)(d:Addr)(es:Array DictEntry)(ep:Nat):Prop:=∃ o,h.get? d=some o/\o.ExactDict/\o.data=.dict es ep
theorem J6.typeIs {d:Addr}{es:Array DictEntry}{ep:Nat}(x:J6 s.heap d es ep):s.TypeIs (.ref d) "dict":=let ⟨o,ho,hc,_⟩:=x;⟨o,ho,hc.1⟩
theorem J6.at' {h h':Heap}{d:Addr}{es:Array DictEntry}{ep:Nat}(x:J6 h d es ep)(e:∀ o,h.get? d=some o->h'.get? d=some o):J6 h' d es ep:=let ⟨o,ho,r⟩:=x;⟨o,e _ ho,r⟩
theorem ao3 {d:Addr}{es:Array DictEntry}{ep:Nat}{Q:Value->Shared->Prop}(hd:(d == sysModules)=false)(hm:J6 s.heap d es ep)
  (hQ:Q (.ref s.heap.objs.size) { s with heap:=s.heap.push { cls:=.type "dict_keyiterator",data:=.fields #[.ref d,.int 0 0,.int es.size 0,.int ep 0] } }) :
  wpAny (model prog w) A (pyIter (.ref d)) Q E s:=by
 have hT:=hm.typeIs
 obtain⟨o,ho,hc,hdat⟩:=id hm
 refine wpAny_pyIter_slot hT PySem.F.slot_dict_iter (wpAny_call_entry PySem.F.slot_dict_iter hT PySem.F.entry_dict_iter ?_ (PySem.F.args_dict_iter_1 _))
 unfold Builtin.«dict.__iter__»
 refine wpAny_bind ?_
 unfold Builtin.Dict.dictSlotNone
 refine wpAny_bind (wpAny_notOrdered_dict hT ?_)
 show wpAny _ _ (pure (Value.ref d)) _ _ s
 refine wpAny_pure ?_
 show wpAny _ _ (Builtin.Dict.showsAll d >>= _) _ _ s
 unfold Builtin.Dict.showsAll
 rw[if_neg (by rw[hd];exact b7)]
 refine wpAny_bind (wpAny_pure ?_)
 refine wpAny_bind (wpAny_dictEntries ho hdat ?_)
 refine wpAny_bind (wpAny_dictEpoch ho hdat ?_)
 refine wpAny_bind (wpAny_newObj_type (wpAny_pure ⟨_,rfl,"dict_keyiterator",_,⟨_,b5 _ rfl,rfl⟩,PySem.F.slot_dict_keyiterator_next.lookup,?_⟩))
 simpa [rawInt] using hQ
theorem ao2 {it d:Addr}{i ep:Nat}{es:Array DictEntry}{e:DictEntry}{Q:Option Value->Shared->Prop}(hit:s.heap.IsKeyIter it d i es.size ep)
  (hm:J6 s.heap d es ep)(hx:es[i]?=some e)(hQ:∀ h',h'.IsKeyIter it d (i+1) es.size ep->Heap.SameBut it s.heap h'->Q (some e.key) { s with heap:=h' }) :
  wpAny (model prog w) A (pyNext (.ref it)) Q E s:=by
 obtain⟨o,ho,hc,hd⟩:=id hit
 obtain⟨od,hod,hcd,hdd⟩:=id hm
 unfold pyNext
 refine wpAny_bind (wpAny_attempt (wpAny_callSpecial?_slot (name:=Str.ofString "__next__") hit.typeIs PySem.F.slot_dict_keyiterator_next
  (wpAny_call_entry PySem.F.slot_dict_keyiterator_next hit.typeIs PySem.F.entry_dict_keyiterator_next ?_ (PySem.F.args_dict_keyiterator_next_1 _))))
 refine wpAny_bind (wpAny_pure ?_)
 refine wpAny_bind ?_
 refine wpAny_bind ?_
 first | refine wpAny_bind (wpAny_typeNameOfWhole_keyiter hit.typeIs (wpAny_pure ?_)) | refine wpAny_bind (wpAny_typeNameOf_keyiter hit.typeIs (wpAny_pure ?_))
 refine wpAny_bind (wpAny_fieldsOf ho hd ?_)
 have hown:Builtin.Dict_items.ownsTuple "dict_keyiterator"=false:=by decide
 simp only[hown,e8,if_false]
 show wpAny _ _ (if (Value.ref d == Value.none)=true then _ else _) _ _ s
 rw[if_neg (show ¬ ((Value.ref d == Value.none)=true) from b7)]
 refine wpAny_bind (wpAny_pure ?_)
 refine wpAny_bind (wpAny_dictEntries hod hdd ?_)
 rw[if_neg (by simp)]
 refine wpAny_bind (wpAny_pure ?_)
 refine wpAny_bind (wpAny_dictEpoch hod hdd ?_)
 rw[if_neg (by simp)]
 refine wpAny_pure ?_
 simp only[show ¬ ((i:Int)<0) from by omega,if_false,n9,hx]
 refine wpAny_bind ?_
 first | refine wpAny_bind (wpAny_typeNameOfWhole_keyiter hit.typeIs (wpAny_pure ?_)) | refine wpAny_bind (wpAny_typeNameOf_keyiter hit.typeIs (wpAny_pure ?_))
 refine wpAny_bind (wpAny_isOneOf_keyiter hit.typeIs ?_)
 show wpAny _ _ (setField (.ref it) 1 (rawInt ((i:Int)+1)) >>= _) _ _ s
 refine wpAny_bind (wpAny_setField ho hd (by simp) ?_)
 have hit':(s.heap.update it (Obj.mapFields (·.setIfInBounds 1 (rawInt ((i:Int)+1))))).IsKeyIter it d (i+1) es.size ep:=
  ⟨_,k6 _ ho (Obj.isFreed_of_fields (Obj.data_mapFields hd _)),(Obj.cls_mapFields ..).trans hc,by rw[Obj.data_mapFields hd];simp[rawInt]⟩
 refine wpAny_bind (wpAny_holding ?_)
 refine wpAny_bind (wpAny_isOneOf_keyiter (s:={ s with heap:=s.heap.update it (Obj.mapFields (·.setIfInBounds 1 (rawInt ((i:Int)+1)))) }) hit'.typeIs ?_)
 show wpAny _ _ (pure e.key) _ _ _
 exact wpAny_pure (wpAny_pure ⟨_,rfl,wpAny_pure (hQ _ hit' (Heap.SameBut.update ..))⟩)
theorem av1 {it d:Addr}{i ep:Nat}{es:Array DictEntry}{Q:Option Value->Shared->Prop}(hh:A.handled=none)(hit:s.heap.IsKeyIter it d i es.size ep)
  (hm:J6 s.heap d es ep)(hx:es.size<=i)(hQ:∀ h',Heap.ExtBut it s.heap h'->Q none { s with heap:=h' }):wpAny (model prog w) A (pyNext (.ref it)) Q E s:=by
 obtain⟨o,ho,hc,hd⟩:=id hit
 obtain⟨od,hod,hcd,hdd⟩:=id hm
 unfold pyNext
 refine wpAny_bind (wpAny_attempt (wpAny_callSpecial?_slot (name:=Str.ofString "__next__") hit.typeIs PySem.F.slot_dict_keyiterator_next
  (wpAny_call_entry PySem.F.slot_dict_keyiterator_next hit.typeIs PySem.F.entry_dict_keyiterator_next ?_ (PySem.F.args_dict_keyiterator_next_1 _))))
 refine wpAny_bind (wpAny_pure ?_)
 refine wpAny_bind ?_
 refine wpAny_bind ?_
 first | refine wpAny_bind (wpAny_typeNameOfWhole_keyiter hit.typeIs (wpAny_pure ?_)) | refine wpAny_bind (wpAny_typeNameOf_keyiter hit.typeIs (wpAny_pure ?_))
 refine wpAny_bind (wpAny_fieldsOf ho hd ?_)
 have hown:Builtin.Dict_items.ownsTuple "dict_keyiterator"=false:=by decide
 simp only[hown,e8,if_false]
 show wpAny _ _ (if (Value.ref d == Value.none)=true then _ else _) _ _ s
 rw[if_neg (show ¬ ((Value.ref d == Value.none)=true) from b7)]
 refine wpAny_bind (wpAny_pure ?_)
 refine wpAny_bind (wpAny_dictEntries hod hdd ?_)
 rw[if_neg (by simp)]
 refine wpAny_bind (wpAny_pure ?_)
 refine wpAny_bind (wpAny_dictEpoch hod hdd ?_)
 rw[if_neg (by simp)]
 refine wpAny_pure ?_
 simp only[show ¬ ((i:Int)<0) from by omega,if_false,n9,v7 hx]
 refine wpAny_bind ?_
 first | refine wpAny_bind (wpAny_typeNameOfWhole_keyiter hit.typeIs (wpAny_pure ?_)) | refine wpAny_bind (wpAny_typeNameOf_keyiter hit.typeIs (wpAny_pure ?_))
 show wpAny _ _ (setField (.ref it) 0 .none >>= _) _ _ s
 refine wpAny_bind (wpAny_setField ho hd (by simp) ?_)
 show wpAny _ _ (newExc (.type "StopIteration") [] >>= _) _ _ _
 refine wpAny_bind ?_
 simp only[newExc,newTuple]
 refine wpAny_bind (wpAny_newObj_type ?_ (by size_fits))
 refine wpAny_bind (m:=firstArgMember _ _) (wpAny_of_eq (a:=Value.none) (by first | rfl | (simp only[firstArgMember];rfl)) ?_)
 refine wpAny_newObj_type ?_ (by size_fits)
 simp only[raiseNew]
 refine wpAny_bind (wpAny_handled ?_)
 rw[show A.in1.handled=none from hh]
 refine wpAny_bind (wpAny_pure (wpAny_throw ?_))
 refine wpAny_bind (wpAny_isInstance (T:="StopIteration") (b:=true) ⟨_,b5 _ rfl,rfl⟩ isSubtype_stop ?_)
 exact wpAny_pure (hQ _ (((Heap.SameBut.update ..).extBut.push _).push _))
theorem ao1 (hh:A.handled=none)(I d:Addr)(hne:d≠I)(es:Array DictEntry)(ep:Nat) :
  Walks prog w A I [I,d] [I] es.size (fun i v=>∃ e,es[i]?=some e/\v=e.key) (fun i h=>h.IsKeyIter I d i es.size ep/\J6 h d es ep) where
 sub:=fun b hb=>by simp at hb;simp[hb]
 frame:=fun _ _ _ st hk=>⟨st.1.at fun o e=>hk I (by simp) o e,st.2.at' fun o e=>hk d (by simp) o e⟩
 item:=fun i s Q E hi st hQ=>by
  obtain⟨e,hx⟩:∃ e,es[i]?=some e:=⟨es[i],by simp[hi]⟩
  refine ao2 st.1 st.2 hx fun h' hit' hs'=>?_
  exact hQ e.key h' s.toks ⟨e,hx,rfl⟩ ⟨hit',st.2.at' fun o q=>hs'.extBut d o hne q⟩ fun b o hb q=>hs'.extBut b o (fun h=>hb (by simp[h])) q
 done:=fun s Q E st hQ=>av1 hh st.1 st.2 (a8 _) fun h' he'=>hQ h' s.toks fun b o hb e=>he' b o (fun h=>hb (by simp[h])) e
 self:=fun _ _ _ _ st hQ=>wpAny_pyIter_keyiter st.1 hQ
end
section
variable {prog:Program} {w:World} {A:Around} {E:Value->Shared->Prop} {s:Shared}
theorem ao4 {d:Addr}{es:Array DictEntry}{ep:Nat}{Q:Bool->Shared->Prop}(hr:J6 s.heap d es ep)(h:Q false s):wpAny (model prog w) A (Builtin.List.listLengthHint (.ref d)) Q E s:=by
 have hT:=hr.typeIs
 unfold Builtin.List.listLengthHint
 refine wpAny_bind (wpAny_specialOf hT PySem.F.slot_dict_len.lookup ?_)
 generalize hid:("dict.__len__":String)=id0
 wp_delta
 rw[show splitId id0=some ("dict","__len__") from by subst hid;decide +kernel]
 subst hid
 refine wpAny_bind (wpAny_isInstance (T:="dict") (b:=true) hT (by rw[isSubtype_type];kernel_rfl) ?_)
 refine wpAny_ite_split (fun hab=>absurd hab (by decide)) (fun _=>?_)
 refine wpAny_ite_split (fun _=>?_) (fun hab=>absurd (by decide +kernel) hab)
 refine wpAny_bind (wpAny_typeOf hT ?_)
 exact wpAny_pure h
theorem ac7 {R:Result->Shared->Prop} {d:Addr} {es:Array DictEntry} {ep:Nat} (hh:A.handled=none) (hd:(d == sysModules)=false) (hr:J6 s.heap d es ep) (hlen:es.size<=sizeLine) (S:Addr) (res:Value) (c₀:Nat) (hS:s.heap.get? S=some { cls:=.type "list",data:=.seq #[] c₀ })
  (hR : ∀ h' tk acc' c', (∀ b o, b ≠ S -> s.heap.get? b = some o -> h'.get? b = some o) -> h'.get? S = some { cls := .type "list", dict := none, data := .seq acc' c', slots := #[] } ->
   ItemsOf (fun i v=>∃ e,es[i]?=some e/\v=e.key) acc' es.size->R (.ok (.ret res)) { s with heap:=h',toks:=tk }) :
  wpAny (model prog w) A.in1 (Builtin.List.listExtendWith (.ref S) (.ref d) res)
   (fun fin s'=>match fin with | .done f=>R (.ok f) s' | .again c'=>c'.quiet=true/\codeAny (model prog w) A c' R s') (fun e s'=>R (.error e) s') s:=by
 have hSd:S≠d:=fun e=>by
  obtain⟨o,ho,_,hx⟩:=hr
  rw[e,ho]at hS
  cases hS
  cases hx
 have hdlt:d<s.heap.objs.size:=let ⟨o,ho,_⟩:=hr;b0 ho
 have hSlt:S<s.heap.objs.size:=b0 hS
 have hSI:S≠s.heap.objs.size:=c3 hSlt
 have hSf:S∉[s.heap.objs.size,d]:=fun hm=>by
  rcases b9.mp hm with e | e
  ·exact hSI e
  ·exact hSd (b8.mp e)
 have W:=(ao1 (prog:=prog) (w:=w) (A:=A.in1) hh s.heap.objs.size d (c3 hdlt) es ep).toS
 have key:∀ (h:Heap) (c₁ tk:Nat),h.IsKeyIter s.heap.objs.size d 0 es.size ep->J6 h d es ep->(∀ b o,b≠S->s.heap.get? b=some o->h.get? b=some o) ->
   h.get? S=some { cls:=.type "list",data:=.seq #[] c₁ }->codeAny (model prog w) A (.builtin "list.extend.loop" ⟨[.ref S,.ref s.heap.objs.size,res],[]⟩) R { s with heap:=h,toks:=tk }:=by
  intro h c₁ tk hit hr1 hk hS₁
  refine codeAny_extend_loopS W hlen S hSf res es.size 0 _ #[] c₁ rfl (i3 _) ⟨hit,hr1⟩ hS₁ (ItemsOf.nil _) fun s' acc' c' hm hS' hacc=>?_
  rw[Moved.eq_with hm]
  refine hR s'.heap s'.toks acc' c' (fun b o hb e=>hm.heap b o (fun hmem=>?_) (hk b o hb e)) hS' hacc
  rcases b9.mp hmem with e' | hmem
  ·exact hb e'
  ·exact absurd (b0 e) (by rw[b8.mp hmem];exact l6 _)
 unfold Builtin.List.listExtendWith
 refine wpAny_bind (wpAny_typeOf hr.typeIs ?_)
 have h1:Builtin.List.listSameRef (.ref S) (.ref d)=false:=by simp[Builtin.List.listSameRef,hSd]
 have h2:(Value.type "dict" == Value.type "list")=false:=by decide
 have h3:(Value.type "dict" == Value.type "tuple")=false:=by decide
 simp only[h1,h2,h3,al8,e8,if_false]
 refine wpAny_bind (ao3 hd hr ?_)
 have hr₁:J6 (s.heap.push { cls:=.type "dict_keyiterator",data:=.fields #[.ref d,.int 0 0,.int es.size 0,.int ep 0] }) d es ep:=hr.at' fun o e=>a7 _ e
 refine wpAny_bind (wpAny_holding (ao4 hr₁ ?_))
 have hit₁:(s.heap.push { cls:=.type "dict_keyiterator",data:=.fields #[.ref d,.int 0 0,.int es.size 0,.int ep 0] }).IsKeyIter s.heap.objs.size d 0 es.size ep:=⟨_,b5 _ rfl,rfl,rfl⟩
 have hS₁:=a7 { cls:=.type "dict_keyiterator",data:=.fields #[.ref d,.int 0 0,.int es.size 0,.int ep 0] } hS
 refine wpAny_ite_split (fun _=>?_) (fun _=>wpAny_pure ⟨plainId_quiet PySem.F.plain_extend_loop _,key _ c₀ _ hit₁ hr₁ (fun b o _ e=>a7 _ e) hS₁⟩)
 refine wpAny_bind (wpAny_rule ?_)
 refine wpAny_bind ?_
 show wpAny _ _ (updateSeq S (·.push .none) >>= fun _=>updateSeq S (·.pop)) _ _ _
 refine wpAny_bind (wpAny_updateSeq hS₁ rfl ?_)
 have hS₂:=k6 (Obj.mapSeq (·.push Value.none)) hS₁ rfl
 refine wpAny_updateSeq (hz:=by seq_fits) hS₂ rfl ?_
 have hS₃:=k6 (Obj.mapSeq (·.pop)) hS₂ rfl
 have oth:∀ b o,b≠S->(s.heap.push { cls:=.type "dict_keyiterator",data:=.fields #[.ref d,.int 0 0,.int es.size 0,.int ep 0] }).get? b=some o->(((s.heap.push { cls:=.type "dict_keyiterator",data:=.fields #[.ref d,.int 0 0,.int es.size 0,.int ep 0] }).update S (Obj.mapSeq (·.push Value.none))).update S (Obj.mapSeq (·.pop))).get? b=some o:=fun b o hb e =>
  (k4 _ _ (Ne.symm hb)).trans ((k4 _ _ (Ne.symm hb)).trans e)
 refine wpAny_pure ⟨plainId_quiet PySem.F.plain_extend_loop _,key _ _ _ (hit₁.at fun o e=>oth _ _ (Ne.symm hSI) e) (hr₁.at' fun o e=>oth _ _ (Ne.symm hSd) e) (fun b o hb e=>oth b o hb (a7 _ e)) hS₃⟩
end
section
variable {X:Cx}
end
section
variable {X:Cx}
end
section
variable {prog:Program} {w:World} {A:Around} {E:Value->Shared->Prop} {s:Shared}
end
section
variable {X:Cx}
end
section
variable {X:Cx}
end
section
variable {prog:Program} {w:World} {A:Around} {E:Value->Shared->Prop} {s:Shared}
theorem Y8 {Q:List Value->Shared->Prop}{d:Addr}{es:Array DictEntry}{ep:Nat}(hh:A.handled=none)(hd:(d == sysModules)=false)(hr:J6 s.heap d es ep)(hlen:es.size<=sizeLine)
  (hQ:∀ h' tk acc',(∀ b o,s.heap.get? b=some o->h'.get? b=some o)->ItemsOf (fun i v=>∃ e,es[i]?=some e/\v=e.key) acc' es.size->Q acc'.toList { s with heap:=h',toks:=tk }) :
  wpAny (model prog w) A (collect (.ref d)) Q E s:=by
 unfold collect
 refine wpAny_bind (wpAny_runValue (codeAny_builtin PySem.F.entry_proto_collect ?_))
 rw[Around.under_plainId PySem.F.plain_proto_collect _]
 show wpAny _ A.in1 (newList [] >>= fun l=>again (.builtin "list.__iadd__" ⟨[l,.ref d],[]⟩)) _ _ s
 refine wpAny_bind (wpAny_newObj_type ?_)
 refine wpAny_pure ⟨plainId_quiet PySem.F.plain_list_iadd _,codeAny_builtin PySem.F.entry_list_iadd ?_⟩
 rw[Around.under_plainId PySem.F.plain_list_iadd _]
 have hS:(s.heap.push { cls:=.type "list",data:=.seq ([]:List Value).toArray }).get? s.heap.objs.size=some { cls:=.type "list",data:=.seq ([]:List Value).toArray }:=b5 _ rfl
 have hr₁:J6 (s.heap.push { cls:=.type "list",data:=.seq ([]:List Value).toArray }) d es ep:=hr.at' fun o e=>a7 _ e
 show wpAny _ A.in1 (Builtin.List.listExtendWith (.ref s.heap.objs.size) (.ref d) (.ref s.heap.objs.size)) _ _ _
 refine ac7 (A:=A) (s:={ s with heap:=s.heap.push { cls:=.type "list",data:=.seq ([]:List Value).toArray } }) (R:=fun r s'=>match r with
  | .ok (.ret v)=>wpAny (model prog w) A (match v with
   | .ref a=>do
    let o <- load a
    match o.data with
    | .seq xs _=>pure xs.toList
    | _=>unsupported "internal:collect"
   | _=>unsupported "internal:collect") Q E s'
  | .ok _=>False
  | .error e=>E e s') hh hd hr₁ hlen _ _ 0 hS fun h' tk acc' c' hk hS' hacc=>?_
 show wpAny _ A (load s.heap.objs.size >>= _) _ _ _
 refine wpAny_bind (wpAny_load hS' ?_)
 exact wpAny_pure (hQ h' tk acc' (fun b o e=>hk b o (c3 (b0 e)) (a7 _ e)) hacc)
end
theorem ax5 {P:Program}{w:World}{n:Int}{v:Value}(h:(p5 P w).is (.inl n) v=true):∃ t,v=.int n t:=by
 rcases o5 (show Q6 (.inl n) v=true from h) with⟨i,t,e,rfl⟩ | ⟨x,t,e,_⟩
 ·cases e;exact⟨t,rfl⟩
 ·cases e
theorem P9 {P:Program}{w:World}:∀ {es:List DictEntry} {kvs:List (Key × Value)} {ns:List Int},Pairs (p5 P w) es kvs->kvs.map (·.1)=ns.map Sum.inl->IntsAre (es.map (·.key)) ns
 | _,_,[],.nil,_=>.nil
 | _,_,n::ns,.cons hk _ t,e=>by
  rw[k9,k9]at e
  injection e with e1 e2
  rw[e1]at hk
  obtain⟨u,hu⟩:=ax5 hk
  rw[k9,hu]
  exact .cons n u (P9 t e2)
 | _,_,_::_,.nil,e=>by simp at e
 | _,_,[],.cons _ _ _,e=>by simp at e
theorem ad9 {es:Array DictEntry}{acc:Array Value}(h:ItemsOf (fun i v=>∃ e,es[i]?=some e/\v=e.key) acc es.size):acc.toList=es.toList.map (·.key):=by
 apply S9
 intro i
 rw[c5,i8,c5]
 cases e:acc[i]? with
 | none =>
  have:acc.size<=i:=by simpa using e
  have h1:es.size<=i:=by have:=h.1;omega
  rw[v7 h1];rfl
 | some v =>
  obtain⟨en,he,rfl⟩:=h.2 i v e
  rw[he];rfl
section
variable {X:Cx}
theorem ae6 (hc:X.calm=true):A9 X (.builtin "sorted") (fun xs H Q=>∃ (d:Addr) (kvs:List (Key × V)) (ns:List Int),xs=[.ref d]/\H d=some (.dK kvs)/\kvs.map (·.1)=ns.map Sum.inl/\ns.length<64 /\
  ∀ (l:Addr) (zs:List Int),H l=none->zs.Perm ns->zs.Pairwise (·<=·)->Q (.ref l) (upd H l (.lst (zs.map V.int)))):=by
 intro pins s σ H xs us Q I r h
 obtain⟨d,kvs,ns,rfl,hH,hk,h64,q⟩:=h
 obtain⟨u,rfl,rx⟩:=vals1 r
 cases rx
 obtain⟨z,hd,vs,rel,o,es,ep,h1,h2,h3,h4,h5,h6⟩:=ar9 I.hok hH
 have hI:IntsAre (es.toList.map (·.key)) ns:=P9 h5 (by rw[<- rel.keys];exact hk)
 have hlen:(es.toList.map (·.key)).length=ns.length:=hI.length
 have hsz:es.size=ns.length:=by rw[<- hlen,b4,d8]
 refine Calls.call_function_entry kind_sorted plain_sorted entry_sorted (args_sorted1 _) ?_
 unfold Builtin.«sorted»
 refine wpAny_bind (m:=checkCount "sorted" 1 1 _) (wpAny_pure ?_)
 refine wpAny_bind (Y8 (I.ok.hd hc) hd ⟨o,h1,h2,h3⟩ (by rw[sizeLine_eq];omega) fun h' tk acc kp hacc=>?_)
 rw[ad9 hacc]
 generalize es.toList.map (·.key)=ks at hI hlen
 refine wpAny_bind (wpAny_newList ?_ (by rw[sizeLine_eq];omega))
 have hoL:(h'.push (seqObj "list" ks.toArray 0)).get? h'.objs.size=some (seqObj "list" ks.toArray 0):=b5 _ rfl
 refine wpAny_bind (wpAny_holding (wpAny_call_entry slot_list_sort (s:={ s with heap:=h'.push (seqObj "list" ks.toArray 0),toks:=tk }) ⟨_,hoL,rfl⟩ entry_list_sort (list_sort_tree (s:={ s with heap:=h'.push (seqObj "list" ks.toArray 0),toks:=tk }) hoL hI (by omega) fun out ns' a1 a2 a3=>⟨_,rfl,?_⟩) (args_list_sort _)))
 obtain⟨e1,e2⟩:=P1 (vs:=ks) (I.tok tk) kp a1 (by rw[a2.length_eq];omega)
 exact wpAny_pure ⟨_,rfl,.ref _,_,e2,rfl,q _ ns' e1 a2 a3⟩
end
end L2
namespace Web
open PySem L2
def A8 (fd:List Nat):List Int:=fd.map fun c:Nat=>(c:Int)
theorem aq8 (fd:List Nat):mkL fd=(A8 fd).map V.int:=by unfold mkL A8;rw[at4];rfl
theorem Q3 {fd:List Nat}{c:Nat}:(c:Int)∈A8 fd↔c∈fd:=by
 unfold A8
 rw[k7]
 constructor
 ·rintro⟨d,hd,e⟩
  have:d=c:=by omega
  exact this ▸ hd
 ·exact fun h=>⟨c,h,rfl⟩
theorem ax1 {fd:List Nat}(h:fd.Nodup):(A8 fd).Nodup:=by
 unfold A8 List.Nodup
 rw[w8]
 exact List.Pairwise.imp (fun h z=>h (by omega)) h
theorem J4 (a b:List Nat):mkL (a++b)=mkL a++mkL b:=by unfold mkL;rw[i9]
theorem af5 {kvs:List (Key × V)}{fd:List Nat}(h:kvs.map (·.1)=(A8 fd).map Sum.inl)(c:Nat):(C9 kvs (Sum.inl (c:Int))).isSome=decide (c∈fd):=by
 have mem:(Sum.inl (c:Int):Key)∈kvs.map (·.1)↔c∈fd:=by
  rw[h,k7]
  constructor
  ·rintro⟨z,hz,e⟩
   injection e with e
   rw[e]at hz
   exact Q3.mp hz
  ·exact fun hc=>⟨_,Q3.mpr hc,rfl⟩
 cases e:C9 kvs (Sum.inl (c:Int)) with
 | none=>exact(decide_eq_false fun hc=>am4 e (mem.mpr hc)).symm
 | some v=>exact(decide_eq_true (mem.mp (au2 e))).symm
theorem ar5 {k:Nat}{A:Around}(hr:B9 k A):A.units+1<cLine:=by have:=hr.units;omega
section
variable {P:Program} {w:World} {K:W.Frag} {mg:Str->Option Value} {base:Heap}
def af9 (K:W.Frag):Sp:=fun vs H Q _=>∃ (na:Addr) (n p:Nat) (ps:List Addr) (ks:List (List Int)),vs=[.ref na,.int p]/\n<=24/\p<n/\NN H na ps (nbF ks) n/\(∀ k∈ks,Up n k) /\
 ∀ (l:Addr) (zs:List Int) (H':Hp),m5 H H'->H l=none->H' l=some (.lst (zs.map V.int))->zs.length<=24->zs.Pairwise (·<=·)->zs.Nodup->(∀ z∈zs,∃ c:Nat,z=(c:Int))->(∀ c:Nat,(c:Int)∈zs↔Pc.Rch (Tie ks) p c)->Q (.ref l) H'
theorem J9:r6 ["near","place","found","edge","here","end"] ["near","place"] (i5 E4):=⟨rfl,rfl,rfl,by decide +kernel,rfl,by decide +kernel,by decide +kernel⟩
set_option maxHeartbeats 2000000 in
theorem aq3 {f:Addr} {fd:FuncData} (F:Fun K "piece_around" "piece_around" E4 f fd) (B:Bn mg):u0 P w K mg base CX0 1 f fd ["near","place"] (af9 K):=by
 refine F.ok J9 (fun vs H Q E h=>?_) (fun cdv A outer s H vs Q E hr h=>?_)
 ·obtain⟨na,n,p,ps,ks,rfl,_⟩:=h
  rfl
 ·obtain⟨na,n,p,ps,ks,rfl,hn,hp,hN,hU,q⟩:=h
  have hsl:=E1
  refine⟨_,c8 (m8 (i:=2) J9.nd rfl (Or.inl rfl) (aw0 (ap1 (pv 1) P6 av5) rfl rfl (by simp) (by decide)))
   (c8 (m8 (i:=3) J9.nd rfl (Or.inl rfl) (J2 (a9 (pv 1) d6)))
   (c8 (Z0 PassesOwn.never (ao7 (pv 3) (fun _ => rfl))
    (c8 (m8 (i:=4) J9.nd rfl (Or.inl rfl) (aC5 PySem.F.plainAttrs_list PySem.F.slot_list_pop PySem.F.type_list_pop aD4 (pv 3)))
    (j6 (E7 PassesOwn.never rfl (V8 (u4 w4 (pv 0) (pv 4) (fun _ _ => rfl))) (p0 (i := 5) J9.nd rfl (Or.inl rfl))
     (j6 (w9 (aC2 (aj7 (ar5 hr) (pv 5) (pv 2)))
      (c8 (av4 (ar5 hr) (pv 2) (pv 5) P6 rfl)
      (j6 (B2 (M6 PySem.F.plainAttrs_list PySem.F.slot_list_append PySem.F.type_list_append r9 (pv 3) (a9 (pv 5) d6))))) o9))))))
   (j6 (u3 (l4 (ae6 rfl) (by rfl) B.sorted (by rfl) (a9 (pv 2) d6)))))),?_⟩
  refine fun d hd=>⟨_,rfl,d3,[(Sum.inl (p:Int),.bl true)],rfl,(by show 1<=15;decide),?_⟩
  have e1:L7 [] [((Sum.inl (p:Int):Key),V.bl true)]=[(Sum.inl (p:Int),.bl true)]:=rfl
  rw[e1]
  have s0:m5 H (upd (upd H d (.dK [])) d (.dK [(Sum.inl (p:Int),.bl true)])):=(i4 hd).upd hd
  have g0:(upd (upd H d (.dK [])) d (.dK [(Sum.inl (p:Int),.bl true)])) d=some (.dK [(Sum.inl (p:Int),.bl true)]):=d3
  generalize upd (upd H d (.dK [])) d (.dK [(Sum.inl (p:Int),.bl true)])=H0 at s0 g0
  refine⟨_,rfl,(by show 1<=sizeLine;decide),fun l hl'=>?_⟩
  have hl:H l=none:=s0.free hl'
  have s1:=s0.trans (i4 (o:=.lst [.int (p:Int)]) hl')
  have gd:=i4 (o:=.lst [.int (p:Int)]) hl' _ _ g0
  have gl:(upd H0 l (.lst [.int (p:Int)])) l=some (.lst (mkL [p])):=d3
  generalize upd H0 l (.lst [.int (p:Int)])=H1 at s1 gd gl
  refine⟨fun m σ H1=>∃ (fd ed:List Nat) (kvs:List (Key × V)) (e4 e5:Option V),σ=[some (.ref na),some (.int p),some (.ref d),some (.ref l),e4,e5]/\m=2*(n - fd.length)+ed.length/\m<=47/\m5 H H1/\H1 d=some (.dK kvs)/\kvs.map (·.1)=(A8 fd).map Sum.inl/\H1 l=some (.lst (mkL ed))/\Pc.PA (Tie ks) n p fd ed,
   ⟨_,[p],[p],_,none,none,rfl,rfl,(by show 2*(n - 1)+1<=47;omega),s1,gd,rfl,gl,Pc.PA.init hp⟩,?_⟩
  clear s1 gd gl s0 g0
  rintro m σ H1 ⟨fd,ed,kvs,e4,e5,rfl,rfl,h47,s1,gd,hk,gl,hP⟩
  refine⟨_,rfl,!(mkL ed).isEmpty,.inl ⟨_,SqL.of gl,rfl⟩,?_⟩
  have hfl:fd.length<=n:=Pc.nd_le hP.nd fun k hk=>(hP.rch k hk).1
  rcases List.eq_nil_or_concat ed with rfl | ⟨ed,k0,rfl⟩
  ·refine y1 ?_
   refine⟨_,rfl,d,kvs,A8 fd,rfl,gd,hk,by unfold A8;rw[b4];omega,fun lz zs fz pz sz=>?_⟩
   refine q lz zs _ (s1.trans (i4 fz)) (s1.free fz) d3 (by rw[pz.length_eq];unfold A8;rw[b4];omega) sz (pz.nodup_iff.mpr (ax1 hP.nd)) (fun z hz=>?_) fun c=>?_
   ·have:=pz.mem_iff.mp hz
    unfold A8 at this
    obtain⟨c,_,e⟩:=k7.mp this
    exact⟨c,e.symm⟩
   ·rw[pz.mem_iff,Q3]
    exact hP.iff c
  ·rw[List.concat_eq_append]at *
   have hne:(mkL (ed++[k0])).isEmpty=false:=by unfold mkL;rw[i9];simp
   rw[hne]
   have hk0:k0<n:=(hP.rch k0 (hP.sub k0 (by simp))).1
   have hB:=hP.pop
   have nld:l≠d:=fun z=>by rw[z,gd]at gl;cases gl
   refine B4 ⟨fun σ' H'=>∃ (fd' ed':List Nat) (kvs:List (Key × V)) (e4 e5:Option V),σ'=[some (.ref na),some (.int p),some (.ref d),some (.ref l),e4,e5]/\2*(n - fd'.length)+ed'.length<2*(n - fd.length)+(ed++[k0]).length/\m5 H H'/\H' d=some (.dK kvs)/\kvs.map (·.1)=(A8 fd').map Sum.inl/\H' l=some (.lst (mkL ed'))/\Pc.PA (Tie ks) n p fd' ed',
    fun σ' H' ⟨fd',ed',kvs,a4,a5,e,hm,r⟩=>⟨_,hm,fd',ed',kvs,a4,a5,e,rfl,m9 (K9 hm) h47,r⟩,?_⟩
   have elast:(mkL (ed++[k0]))[(mkL (ed++[k0])).length - 1]?=some (.int (k0:Int)):=by
    rw[J4]
    simp[mkL]
   have edrop:(mkL (ed++[k0])).dropLast=mkL ed:=by rw[J4];simp[mkL]
   refine⟨_,rfl,.inl ⟨rfl,_,SqL.of gl⟩,l,_,_,rfl,rfl,gl,elast,?_⟩
   rw[edrop]
   have s2:=s1.upd (o:=.lst (mkL ed)) hl
   have gd2:(upd H1 l (.lst (mkL ed))) d=some (.dK kvs):=by rw[j1 nld.symm];exact gd
   have gl2:(upd H1 l (.lst (mkL ed))) l=some (.lst (mkL ed)):=d3
   generalize upd H1 l (.lst (mkL ed))=H2 at s2 gd2 gl2
   obtain⟨pr,epr,gpr,mpr⟩:=(hN.same s2).at hk0
   refine⟨_,rfl,_,rfl,na,_,_,_,rfl,rfl,SqL.of (hN.same s2).lst,n8 mpr,pr,rfl,⟨_,SqL.of gpr⟩,?_⟩
   have gprH:H pr=some (.lst ((nbF ks k0).map V.int)):=hN.row k0 pr epr
   refine aa3 (K:=K) (a:=pr) (xs:=(nbF ks k0).map V.int) (fun i σ H3=>∃ (fd' ed':List Nat) (kvs:List (Key × V)) (e5:Option V),σ=[some (.ref na),some (.int p),some (.ref d),some (.ref l),some (.int (k0:Int)),e5]/\2*(n - fd'.length)+ed'.length<=2*(n - fd.length)+ed.length/\m5 H H3/\H3 d=some (.dK kvs)/\kvs.map (·.1)=(A8 fd').map Sum.inl/\H3 l=some (.lst (mkL ed'))/\Pc.PB (Tie ks) n p k0 (((nbF ks k0).map at8).take i) fd' ed')
    ⟨fd,ed,kvs,e5,rfl,a8 _,s2,gd2,hk,gl2,by rw[List.take_zero];exact hB⟩ (fun i σ H3 _ ⟨_,_,_,_,_,_,s,_⟩=>SqL.of (s _ _ gprH)) ?_ ?_
   ·rintro i y σ H3 hy ⟨fd',ed',kvs',a5,rfl,hm,s3,gd3,hk3,gl3,hB3⟩
    rw[i8]at hy
    obtain⟨z,hz,rfl⟩:∃ z,(nbF ks k0)[i]?=some z/\y=V.int z:=by
     cases e:(nbF ks k0)[i]? with
     | none=>rw[e]at hy;cases hy
     | some z=>rw[e]at hy;cases hy;exact⟨z,rfl,rfl⟩
    obtain⟨c,hc,rfl,htc⟩:=(ah3 hU k0 z).mp (b6 hz)
    have tk:((nbF ks k0).map at8).take (i+1)=((nbF ks k0).map at8).take i++[c]:=by
     rw[n6,i8,hz]
     rfl
    refine o7 ?_
    have hfl3:fd'.length<=n:=Pc.nd_le hB3.nd fun k hk=>(hB3.rch k hk).1
    have hkl:kvs'.length=fd'.length:=by
     have:=congrArg List.length hk3
     unfold A8 at this
     simpa using this
    refine⟨_,rfl,_,rfl,d,_,rfl,as9.k (k:=Sum.inl (c:Int)) gd3,_,rfl,?_⟩
    rw[af5 hk3]
    by_cases hcf:c∈fd'
    ·rw[decide_eq_true hcf]
     refine y1 ?_
     exact⟨fd',ed',kvs',_,rfl,hm,s3,gd3,hk3,gl3,by rw[tk];exact hB3.old hcf⟩
    ·rw[decide_eq_false hcf]
     have hvn:C9 kvs' (Sum.inl (c:Int))=none:=by
      have:=af5 hk3 c
      rw[decide_eq_false hcf]at this
      cases e:C9 kvs' (Sum.inl (c:Int)) with
      | none=>rfl
      | some v=>rw[e]at this;cases this
     refine B4 ⟨_,rfl,_,rfl,d,_,rfl,as8.k (k:=Sum.inl (c:Int)) gd3 (by omega),?_⟩
     rw[ao6 _ hvn]
     have gl4:(upd H3 d (.dK (kvs'++[(Sum.inl (c:Int),.bl true)]))) l=some (.lst (mkL ed')):=by rw[j1 nld];exact gl3
     have hel:ed'.length<=47:=by
      rw[d7,B0]at h47
      omega
     refine⟨_,rfl,.inl ⟨rfl,_,SqL.of gl4⟩,_,rfl,l,_,_,rfl,rfl,gl4,by unfold mkL;rw[b4];omega,?_⟩
     have hB4:=hB3.new hcf hc htc
     have hfl4:(fd'++[c]).length<=n:=Pc.nd_le hB4.nd fun k hk=>(hB4.rch k hk).1
     refine⟨fd'++[c],ed'++[c],_,_,rfl,?_,(s3.upd hd).upd hl,by rw[j1 nld.symm];exact d3,?_,by rw[d3,J4];rfl,by rw[tk];exact hB4⟩
     ·rw[d7]at hfl4
      rw[d7,d7]
      simp at hfl4 ⊢
      omega
     ·rw[i9,hk3]
      unfold A8
      rw[i9,i9]
      rfl
   ·rintro σ H3 ⟨fd',ed',kvs',a5,rfl,hm,s3,gd3,hk3,gl3,hB3⟩
    refine⟨fd',ed',kvs',_,_,rfl,?_,s3,gd3,hk3,gl3,hB3.done fun c hc=>?_⟩
    ·rw[d7,B0];omega
    ·rw[b4,w5 (by rw[b4];exact a8 _)]
     refine k7.mpr ⟨(c:Int),(ah3 hU k0 _).mpr ⟨c,?_,rfl,hc⟩,rfl⟩
     rcases V2 hU hc with⟨_,_,h⟩ | ⟨_,h,h'⟩
     ·exact h
     ·omega
end
seal L2.PE L2.PA L2.PS L2.PSs L2.PT
section
variable {P:Program} {w:World} {K:W.Frag} {mg:Str->Option Value} {base:Heap}
def az8 (K:W.Frag):Sp:=fun vs H Q _=>∃ (wa:Addr) (n:Nat) (ks:List (List Int)),vs=[.ref wa]/\U9 K H wa n ks/\n<=24/\ks.length<=600/\(∀ k∈ks,Up n k)/\∀ (a:Addr) (ps:List Addr) (H':Hp),m5 H H'->NN H' a ps (nbF ks) n->Q (.ref a) H'
theorem ag1:r6 ["web","near","one","other"] ["web"] (i5 Y6):=⟨rfl,rfl,rfl,by decide +kernel,rfl,by decide +kernel,by decide +kernel⟩
set_option maxHeartbeats 2000000 in
theorem aD2 {f:Addr} {fd:FuncData} (F:Fun K "beside" "beside" Y6 f fd) (B:Bn mg):u0 P w K mg base CX0 1 f fd ["web"] (az8 K):=by
 refine F.ok ag1 (fun vs H Q E h=>?_) (fun cdv A outer s H vs Q E hr h=>?_)
 ·obtain⟨wa,n,ks,rfl,_⟩:=h
  rfl
 ·obtain⟨wa,n,ks,rfl,⟨t,zs,h1,h2,h3⟩,hn,hkl,hU,q⟩:=h
  have hsl:=E1
  have sl2:2000<=sizeLine:=by decide
  have nd1:(["place"]:List Str).Nodup:=by decide +kernel
  refine⟨_,c8 (ag5 (i:=1) ag1.nd rfl rfl (by rfl) (N':=["place"]) (lk:=[none]) rfl (y0 rfl B.range (a9 (u4 A5 (pv 0) f7 (fun _ _=>rfl)) d6)) (by rfl) rfl (by decide +kernel) (by exact trivial) (by rfl) (by exact LkL.ok trivial)
     (fun _ _ _=>p0 (i:=0) nd1 rfl (Or.inl rfl)) (fun _ _ _=>N9) (fun _ _ _=>J2 d6))
   (c8 (E7 PassesOwn.never rfl (ac9 (u4 A5 (pv 0) f7 (fun _ _ => rfl))) (ad0 rfl (B6 (p0 (i := 2) ag1.nd rfl (Or.inl rfl)) (B6 (p0 (i := 3) ag1.nd rfl (Or.inl rfl)) V9)))
    (c8 (B2 (M6 PySem.F.plainAttrs_list PySem.F.slot_list_append PySem.F.type_list_append r9 (u4 w4 (pv 1) (pv 2) (fun _ _=>rfl)) (a9 (pv 3) d6)))
    (j6 (B2 (M6 PySem.F.plainAttrs_list PySem.F.slot_list_append PySem.F.type_list_append r9 (u4 w4 (pv 1) (pv 3) (fun _ _=>rfl)) (a9 (pv 2) d6))))))
   (j6 (u3 (pv 1)))),?_⟩
  have a0:atI ([.int n,.ref t]:List V) 0=some (.int n):=n8 (j:=0) rfl
  have a1:atI ([.int n,.ref t]:List V) 1=some (.ref t):=n8 (j:=1) rfl
  refine⟨_,rfl,wa,_,_,_,rfl,rfl,h1,a0,(n:Int),rfl,by omega,by omega,fun D hD=>?_⟩
  rw[n9]
  refine C5 (lo:=0) (n:=n) (D:=D) (fun i xs σ' H'=>(∃ v,σ'=[v])/\m5 H H'/\H' D=some (.lst xs)/\∃ ps:List Addr,xs=ps.map V.ref/\ps.length=i/\ps.Nodup/\D∉ps/\∀ p∈ps,H p=none/\H' p=some (.lst []))
   ⟨⟨none,rfl⟩,i4 hD,d3,[],rfl,rfl,D5,j5,fun p hp=>absurd hp j5⟩ (by omega) (fun i xs σ' H' hi' ⟨_,_,g,ps,e,l,_⟩=>⟨g,by rw[e,b4,l];exact a8 _⟩) ?_ ?_
  ·rintro i xs σ' H' N kN hi' ⟨⟨v,rfl⟩,s2,g2,ps,rfl,hpl,hnd,hout,hps⟩
   refine o7 (J8 ?_)
   refine⟨by show 0<=sizeLine;omega,fun x hx=>?_⟩
   have s3:=i4 (o:=.lst []) hx
   have nD:D≠x:=l5 g2 hx
   refine⟨s3 _ _ g2,kN _ _ _ ⟨⟨_,rfl⟩,(s2.trans s3).upd hD,d3,ps++[x],by rw[i9];rfl,by rw[d7,hpl];rfl,ag9 hnd fun hm=>?_,fun hm=>?_,fun p hp=>?_⟩⟩
   ·have:=(hps x hm).2
    rw[hx]at this
    cases this
   ·rcases g7.mp hm with hm | hm
    ·exact hout hm
    ·exact nD (b8.mp hm)
   ·rcases g7.mp hp with hp | hp
    ·have hpD:p≠D:=fun z=>hout (by rw[<- z];exact hp)
     exact⟨(hps p hp).1,by rw[j1 hpD];exact s3 _ _ (hps p hp).2⟩
    ·rw[b8.mp hp]
     exact⟨s2.free hx,by rw[j1 (Ne.symm nD)];exact d3⟩
  ·rintro xs σ' H1 ⟨⟨v,rfl⟩,s1,g1,ps,rfl,hpl,hnd,hout,hps⟩
   have N1:NN H1 D ps (nbF (ks.take 0)) n:=⟨g1,hpl,fun i p e=>(hps p (b6 e)).2,hnd,hout⟩
   have hzl:=h3.len
   refine⟨_,rfl,wa,_,_,_,rfl,rfl,s1.seqT h1,a1,t,rfl,⟨_,s1.seqT h2⟩,ai1 (K:=K) (a:=t) (xs:=zs) (fun m σ H2=>∃ e2 e3,σ=[some (.ref wa),some (.ref D),e2,e3]/\m5 H H2/\NN H2 D ps (nbF (ks.take m)) n)
    ⟨none,none,rfl,s1,N1⟩ (fun m σ H2 _ ⟨_,_,_,s,_⟩=>s.seqT h2) ?_ ?_⟩
   ·rintro m y σ H2 hy ⟨e2,e3,rfl,s2,N2⟩
    obtain⟨pa,k,rfl,hk,hq⟩:=h3.get hy
    obtain⟨i,j,hij,hj,rfl⟩:=hU k (b6 hk)
    refine⟨pa,_,rfl,s2.seqT hq,rfl,_,_,rfl,_,_,rfl,rfl,?_⟩
    obtain⟨p1,e1,g1',m1⟩:=N2.at (show i<n by omega)
    have l1:=ah0 (ks.take m) i
    have l2:=ah0 (ks.take m) j
    have lt:(ks.take m).length<=ks.length:=by rw[v3];omega
    refine⟨_,rfl,_,rfl,D,_,_,_,rfl,rfl,SqL.of N2.lst,n8 m1,.inl ⟨rfl,_,SqL.of g1'⟩,_,rfl,p1,_,_,rfl,rfl,g1',by rw[b4];omega,?_⟩
    have N3:=N2.put e1 (nbF (ks.take m) i++[(j:Int)])
    rw[i9]at N3
    obtain⟨p2,e2',g2',m2⟩:=N3.at hj
    have hne:¬ j=i:=by omega
    rw[if_neg hne]at g2'
    refine⟨_,rfl,_,rfl,D,_,_,_,rfl,rfl,SqL.of N3.lst,n8 m2,.inl ⟨rfl,_,SqL.of g2'⟩,_,rfl,p2,_,_,rfl,rfl,g2',by rw[b4];omega,?_⟩
    have N4:=N3.put e2' (nbF (ks.take m) j++[(i:Int)])
    rw[i9]at N4
    have hT:(fun x=>if x=j then nbF (ks.take m) j++[(i:Int)] else if x=i then nbF (ks.take m) i++[(j:Int)] else nbF (ks.take m) x)=nbF (ks.take (m+1)):=by
     funext x
     rw[aq7 hk x]
     show _=_++((if (i:Int)=(x:Int) then [(j:Int)] else [])++(if (j:Int)=(x:Int) then [(i:Int)] else []))
     by_cases hx:x=j
     ·subst hx
      rw[if_pos rfl,if_neg (by omega),if_pos rfl,List.nil_append]
     ·rw[if_neg hx,if_neg (show ¬ (j:Int)=(x:Int) by omega)]
      by_cases hx':x=i
      ·subst hx'
       rw[if_pos rfl,if_pos rfl,z0]
      ·rw[if_neg hx',if_neg (show ¬ (i:Int)=(x:Int) by omega),z0,z0]
    rw[hT]at N4
    exact⟨_,_,rfl,(s2.upd (hps p1 (b6 e1)).1).upd (hps p2 (b6 e2')).1,N4⟩
   ·rintro σ H2 ⟨e2,e3,rfl,s2,N2⟩
    rw[hzl,X2]at N2
    exact⟨_,rfl,q D ps H2 s2 N2⟩
end
end Web
namespace Web
open PySem L2
def Sca (x y:V):Prop:=(∃ z:Int,x=.int z/\y=.int z)\/(∃ t:Str,x=.str t/\y=.str t)
def Alk (H:Hp):Nat->V->V->Prop
 | 0,_,_=>False
 | n+1,x,y=>∃ (p q:Addr) (xs ys:List V),x=.ref p/\y=.ref q/\H p=some (.lst xs)/\H q=some (.lst ys)/\xs.length=ys.length/\xs.length<=100/\∀ (i:Nat) (u v:V),xs[i]?=some u->ys[i]?=some v->Sca u v\/Alk H n u v
seal L2.PE L2.PA L2.PS L2.PSs L2.PT
section
variable {P:Program} {w:World} {K:W.Frag} {mg:Str->Option Value} {base:Heap}
def af8:Sp:=fun vs H Q _=>∃ z:Int,vs=[.int z]/\Q (.bl true) H
theorem av0:r6 ["found"] ["found"] (i5 E3):=⟨rfl,rfl,rfl,by decide +kernel,rfl,by decide +kernel,by decide +kernel⟩
theorem aq2 {f:Addr}{fd:FuncData}(F:Fun K "_law_whole" "_law_whole" E3 f fd)(B:Bn mg):u0 P w K mg base CX0 1 f fd ["found"] af8:=by
 refine F.ok av0 (fun vs H Q E h=>?_) (fun cdv A outer s H vs Q E hr h=>?_)
 ·obtain⟨z,rfl,_⟩:=h
  rfl
 ·obtain⟨z,rfl,q⟩:=h
  refine⟨_,j6 (u3 (P7 (l4 (n5 K rfl) (by rfl) B.isin (by rfl) (a9 (pv 0) (a9 (y4 (v:=.ty "int") (by rfl) B.int (by rfl) rfl) d6)))
    (P5 (aC4 (l4 (n5 K rfl) (by rfl) B.isin (by rfl) (a9 (pv 0) (a9 (y4 (v:=.ty "bool") (by rfl) B.bool (by rfl) rfl) d6))))))),?_⟩
  refine⟨_,rfl,_,_,_,true,rfl,.int z,rfl,true,rfl,B4 ?_⟩
  exact⟨_,rfl,_,_,_,false,rfl,.int z,rfl,false,rfl,q⟩
def az9 (n:Nat):Sp:=fun vs H Q _=>∃ x y:V,vs=[x,y]/\(Sca x y\/Alk H n x y)/\Q (.bl true) H
theorem V4:r6 ["found","due","k"] ["found","due"] (i5 E6):=⟨rfl,rfl,rfl,by decide +kernel,rfl,by decide +kernel,by decide +kernel⟩
set_option maxHeartbeats 4000000 in
theorem aD3 {f fH:Addr} {fd fdH:FuncData} (F:Fun K "_law_alike" "_law_alike" E6 f fd) (bF:Binds K fd ["found","due"] []) (mF:mg "_law_alike"=some (.ref f)) (B:Bn mg) (FH:Fun K "_law_whole" "_law_whole" E3 fH fdH) (bH:Binds K fdH ["found"] []) (mH:mg "_law_whole"=some (.ref fH)):∀ n:Nat,u0 P w K mg base CX0 (n+2) f fd ["found","due"] (az9 n):=by
 have GW:u0 P w K mg base CX0 1 fH fdH ["found"] af8:=aq2 FH B
 intro n
 induction n with
 | zero =>
  refine F.ok V4 (fun vs H Q E h=>?_) (fun cdv A outer s H vs Q E hr h=>?_)
  ·obtain⟨x,y,rfl,_⟩:=h
   rfl
  ·obtain⟨x,y,rfl,hA,q⟩:=h
   replace hA:Sca x y:=hA.elim id False.elim
   refine⟨_,c8 (w9 (v8 aq1 (pv 1) ap5 (u6 _)) p7 o9)
    (c8 (w9 (A3 (l4 (n5 K rfl) (by rfl) B.isin (by rfl) (a9 (pv 1) (a9 (y4 (v:=.ty "str") (by rfl) B.str (by rfl) rfl) d6)))) (j6 (u3 (P7 (l4 (n5 K rfl) (by rfl) B.isin (by rfl) (a9 (pv 0) (a9 (y4 (v:=.ty "str") (by rfl) B.str (by rfl) rfl) d6))) (P5 (O2 G5 (pv 0) (pv 1) (u6 _)))))) o9)
    (c8 (w9 (A3 (l4 (n5 K rfl) (by rfl) B.isin (by rfl) (a9 (pv 1) (a9 (y4 (v:=.ty "int") (by rfl) B.int (by rfl) rfl) d6)))) (j6 (u3 (P7 (p9 (GW.mono (by omega)) hr (by rfl) mH FH.kp bH .nil y7 (a9 (pv 0) d6)) (P5 (O2 G5 (pv 0) (pv 1) (u6 _)))))) o9)
    p7)),?_⟩
   rcases hA with⟨z,rfl,rfl⟩ | ⟨t,rfl,rfl⟩
   ·refine⟨_,rfl,rfl,_,rfl,?_⟩
    rw[decide_eq_false (by intro h;cases h)]
    refine y1 ⟨_,rfl,_,_,_,false,rfl,.int z,rfl,_,rfl,y1 ?_⟩
    refine⟨_,rfl,_,_,_,true,rfl,.int z,rfl,_,rfl,B4 ?_⟩
    refine⟨_,rfl,z,rfl,true,rfl,B4 ?_⟩
    refine⟨_,rfl,_,rfl,rfl,?_⟩
    rw[decide_eq_true rfl]
    exact q
   ·refine⟨_,rfl,rfl,_,rfl,?_⟩
    rw[decide_eq_false (by intro h;cases h)]
    refine y1 ⟨_,rfl,_,_,_,true,rfl,.str t,rfl,_,rfl,B4 ?_⟩
    refine⟨_,rfl,_,_,_,true,rfl,.str t,rfl,true,rfl,B4 ?_⟩
    refine⟨_,rfl,_,rfl,rfl,?_⟩
    rw[decide_eq_true rfl]
    exact q
 | succ n ih =>
  refine F.ok V4 (fun vs H Q E h=>?_) (fun cdv A outer s H vs Q E hr h=>?_)
  ·obtain⟨x,y,rfl,_⟩:=h
   rfl
  ·obtain⟨x,y,rfl,hA,q⟩:=h
   refine⟨_,c8 (w9 (v8 aq1 (pv 1) ap5 (u6 _)) p7 o9)
    (c8 (w9 (A3 (l4 (n5 K rfl) (by rfl) B.isin (by rfl) (a9 (pv 1) (a9 (y4 (v:=.ty "str") (by rfl) B.str (by rfl) rfl) d6)))) (j6 (u3 (P7 (l4 (n5 K rfl) (by rfl) B.isin (by rfl) (a9 (pv 0) (a9 (y4 (v:=.ty "str") (by rfl) B.str (by rfl) rfl) d6))) (P5 (O2 G5 (pv 0) (pv 1) (u6 _)))))) o9)
    (c8 (w9 (A3 (l4 (n5 K rfl) (by rfl) B.isin (by rfl) (a9 (pv 1) (a9 (y4 (v:=.ty "int") (by rfl) B.int (by rfl) rfl) d6)))) (j6 (u3 (P7 (p9 (GW.mono (by omega)) hr (by rfl) mH FH.kp bH .nil y7 (a9 (pv 0) d6)) (P5 (O2 G5 (pv 0) (pv 1) (u6 _)))))) o9)
    (c8 (w9 (A3 (l4 (n5 K rfl) (by rfl) B.isin (by rfl) (a9 (pv 1) (a9 (y4 (v:=.ty "list") (by rfl) B.list (by rfl) rfl) d6)))) (j6 (w9 (PW.pt (ao5 (J0 (A3 (l4 (n5 K rfl) (by rfl) B.isin (by rfl) (a9 (pv 0) (a9 (y4 (v:=.ty "list") (by rfl) B.list (by rfl) rfl) d6))))) (ac8 (v8 aI6 (l4 t8 (by rfl) B.len PySem.boot_len (a9 (pv 0) d6)) (l4 t8 (by rfl) B.len PySem.boot_len (a9 (pv 1) d6)) (u6 _))))) p7 o9)) p7)
    (c8 (E7 PassesOwn.never rfl (y0 rfl B.range (a9 (l4 t8 (by rfl) B.len PySem.boot_len (a9 (pv 1) d6)) d6)) (p0 (i := 2) V4.nd rfl (Or.inl rfl))
      (j6 (w9 (J0 (A3 (p9 ih hr (by rfl) mF F.kp bF .nil y7 (a9 (u4 w4 (pv 0) (pv 2) (fun _ _=>rfl)) (a9 (u4 w4 (pv 1) (pv 2) (fun _ _=>rfl)) d6))))) p7 o9)))
     (j6 (u3 P6)))))),?_⟩
   rcases hA with(⟨z,rfl,rfl⟩ | ⟨t,rfl,rfl⟩) | hA
   ·refine⟨_,rfl,rfl,_,rfl,?_⟩
    rw[decide_eq_false (by intro h;cases h)]
    refine y1 ⟨_,rfl,_,_,_,false,rfl,.int z,rfl,_,rfl,y1 ?_⟩
    refine⟨_,rfl,_,_,_,true,rfl,.int z,rfl,_,rfl,B4 ?_⟩
    refine⟨_,rfl,z,rfl,true,rfl,B4 ?_⟩
    refine⟨_,rfl,_,rfl,rfl,?_⟩
    rw[decide_eq_true rfl]
    exact q
   ·refine⟨_,rfl,rfl,_,rfl,?_⟩
    rw[decide_eq_false (by intro h;cases h)]
    refine y1 ⟨_,rfl,_,_,_,true,rfl,.str t,rfl,_,rfl,B4 ?_⟩
    refine⟨_,rfl,_,_,_,true,rfl,.str t,rfl,true,rfl,B4 ?_⟩
    refine⟨_,rfl,_,rfl,rfl,?_⟩
    rw[decide_eq_true rfl]
    exact q
   ·obtain⟨a,b,xs,ys,rfl,rfl,ga,gb,hl,hn,hA⟩:=hA
    refine⟨_,rfl,rfl,_,rfl,?_⟩
    rw[decide_eq_false (by intro h;cases h)]
    refine y1 ⟨_,rfl,_,_,_,false,rfl,.lst gb,rfl,_,rfl,y1 ?_⟩
    refine⟨_,rfl,_,_,_,false,rfl,.lst gb,rfl,_,rfl,y1 ?_⟩
    refine⟨_,rfl,_,_,_,true,rfl,.lst gb,rfl,_,rfl,B4 ?_⟩
    refine⟨_,rfl,_,_,_,true,rfl,.lst ga,rfl,_,rfl,y1 ?_⟩
    refine⟨_,rfl,a,_,rfl,.inl (SqL.of ga),_,rfl,b,_,rfl,.inl (SqL.of gb),rfl,_,rfl,aJ1 (by rw[hl]) ?_⟩
    refine⟨_,rfl,b,_,rfl,.inl (SqL.of gb),(ys.length:Int),rfl,by omega,by omega,?_⟩
    rw[n9]
    refine F9 (lo:=0) (n:=ys.length) (fun _ σ H1=>∃ e2,σ=[some (.ref a),some (.ref b),e2]/\H1=H) ⟨none,rfl,rfl⟩ ?_ ?_
    ·rintro i σ H1 hi ⟨e2,rfl,rfl⟩
     have e0:((0:Int)+(i:Int))=(i:Int):=by omega
     rw[e0]
     refine o7 ?_
     have hx:xs[i]?=some (xs[i]'(by omega)):=d4 (by omega)
     have hy:ys[i]?=some (ys[i]'hi):=d4 hi
     have hA':=hA i _ _ hx hy
     refine⟨_,rfl,_,rfl,a,_,_,_,rfl,rfl,SqL.of ga,n8 hx,_,rfl,_,rfl,b,_,_,_,rfl,rfl,SqL.of gb,n8 hy,_,_,rfl,hA',_,rfl,y1 ?_⟩
     exact⟨_,rfl,rfl⟩
    ·rintro σ H1 ⟨e2,rfl,rfl⟩
     exact q
end
end Web
namespace Web
open PySem L2
theorem W0:∀ {l m:List Int},l.Pairwise (·<·)->m.Pairwise (·<·)->(∀ x,x∈l↔x∈m)->l=m
 | [],[],_,_,_=>rfl
 | [],b::m,_,_,h=>absurd ((h b).mpr c9) j5
 | a::l,[],_,_,h=>absurd ((h a).mp c9) j5
 | a::l,b::m,h1,h2,h=>by
  rw[List.pairwise_cons]at h1 h2
  have hab:a=b:=by
   rcases b9.mp ((h a).mp c9) with e | e
   ·exact e
   ·rcases b9.mp ((h b).mpr c9) with e' | e'
    ·exact e'.symm
    ·have:=h1.1 b e'
     have:=h2.1 a e
     omega
  subst hab
  rw[W0 h1.2 h2.2 fun x=>?_]
  constructor
  ·intro hx
   rcases b9.mp ((h x).mp (c6 _ hx)) with e | e
   ·have:=h1.1 x hx;omega
   ·exact e
  ·intro hx
   rcases b9.mp ((h x).mpr (c6 _ hx)) with e | e
   ·have:=h2.1 x hx;omega
   ·exact e
noncomputable def pcF (ks:List (List Int))(n p:Nat):List Int:=((i7 n).filter fun c=>@decide (Pc.Rch (Tie ks) p c) (Classical.propDecidable _)).map fun c:Nat=>(c:Int)
theorem O3 {ks:List (List Int)}{n p:Nat}{z:Int}:z∈pcF ks n p↔∃ c:Nat,z=(c:Int)/\c<n/\Pc.Rch (Tie ks) p c:=by
 unfold pcF
 rw[k7]
 constructor
 ·rintro⟨c,hc,rfl⟩
  obtain⟨h1,h2⟩:=u1.mp hc
  exact⟨c,rfl,j7.mp h1,@of_decide_eq_true _ (Classical.propDecidable _) h2⟩
 ·rintro⟨c,rfl,h1,h2⟩
  exact⟨c,u1.mpr ⟨j7.mpr h1,@decide_eq_true _ (Classical.propDecidable _) h2⟩,rfl⟩
theorem ao0 (n:Nat)(q:Nat->Bool):(((i7 n).filter q).map fun c:Nat=>(c:Int)).Pairwise (·<·):=by
 rw[w8]
 exact List.Pairwise.imp (fun h=>by omega) (List.Pairwise.filter _ A6)
theorem ap8 (ks:List (List Int))(n p:Nat):(pcF ks n p).Pairwise (·<·):=ao0 n _
theorem aC1 {ks:List (List Int)}{n p c:Nat}(hU:∀ k∈ks,Up n k)(hp:p<n)(h:Pc.Rch (Tie ks) p c):c<n:=by
 induction h with
 | refl=>exact hp
 | step _ t _=>rcases V2 hU t with⟨_,_,h⟩ | ⟨_,h,h'⟩<;>omega
theorem as5:∀ {l:List Int},l.Pairwise (·<=·)->l.Nodup->l.Pairwise (·<·)
 | _,h1,h2=>(h1.and h2).imp fun h=>by omega
theorem aI5 {ks:List (List Int)}{n p:Nat}(hU:∀ k∈ks,Up n k)(hp:p<n){zs:List Int}(h1:zs.Pairwise (·<=·))(h2:zs.Nodup)(h3:∀ z∈zs,∃ c:Nat,z=(c:Int))(h4:∀ c:Nat,(c:Int)∈zs↔Pc.Rch (Tie ks) p c):zs=pcF ks n p:=by
 refine W0 (as5 h1 h2) (ap8 ..) fun x=>?_
 rw[O3]
 constructor
 ·intro hx
  obtain⟨c,rfl⟩:=h3 x hx
  have:=(h4 c).mp hx
  exact⟨c,rfl,aC1 hU hp this,this⟩
 ·rintro⟨c,rfl,_,h⟩
  exact(h4 c).mpr h
def N0 (ks:List (List Int))(n p:Nat):Prop:=(pcF ks n p)[0]?=some (p:Int)
noncomputable instance (ks:List (List Int)) (n p:Nat):Decidable (N0 ks n p):=by unfold N0;infer_instance
noncomputable def B8 (ks:List (List Int))(n i:Nat):List (List Int):=((i7 i).filter fun p=>decide (N0 ks n p)).map (pcF ks n)
theorem aj6 (ks:List (List Int))(n i:Nat):B8 ks n (i+1)=B8 ks n i++(if N0 ks n i then [pcF ks n i] else []):=by
 unfold B8
 rw[C1,aB2,i9,aG2,List.filter_nil]
 by_cases h:N0 ks n i
 ·rw[decide_eq_true h,if_pos rfl,if_pos h];rfl
 ·rw[decide_eq_false h,if_neg b7,if_neg h];rfl
theorem Z1 (ks:List (List Int))(n i:Nat):(B8 ks n i).length<=i:=by
 unfold B8
 rw[b4]
 have:=K8 (fun p=>decide (N0 ks n p)) (i7 i)
 rw[u2]at this
 exact this
theorem Z2 {ks:List (List Int)}{n p:Nat}(hp:p<n):(p:Int)∈pcF ks n p:=O3.mpr ⟨p,rfl,hp,.refl⟩
theorem K3 {ks:List (List Int)}{n p:Nat}(hp:p<n):N0 ks n p↔∀ c,c<n->Pc.Rch (Tie ks) p c->p<=c:=by
 have hs:=Z2 (ks:=ks) hp
 have hl:=ap8 ks n p
 unfold N0
 constructor
 ·intro h c hc hr
  have hm:(c:Int)∈pcF ks n p:=O3.mpr ⟨c,rfl,hc,hr⟩
  obtain⟨j,hj⟩:=x3 hm
  obtain⟨h1,e1⟩:=d5.mp h
  obtain⟨h2,e2⟩:=d5.mp hj
  rcases D4 j with rfl | z
  ·rw[e1]at e2;omega
  ·have:=m7.mp hl 0 j h1 h2 z
   rw[e1,e2]at this
   omega
 ·intro h
  obtain⟨j,hj⟩:=x3 hs
  obtain⟨h2,e2⟩:=d5.mp hj
  rcases D4 j with rfl | z
  ·exact hj
  ·have h0:0<(pcF ks n p).length:=by omega
   have hm0:=G8 h0
   obtain⟨c,e,hc,hr⟩:=O3.mp hm0
   have:=m7.mp hl 0 j h0 h2 z
   have:=h c hc hr
   omega
def grp (ms:List Nat)(n:Nat)(m:Int):List Int:=((i7 n).filter fun p=>decide (((ms.getD p 0:Nat):Int)=m)).map fun c:Nat=>(c:Int)
theorem aE9 {ks:List (List Int)}{n:Nat}{ms:List Nat}(hU:∀ k∈ks,Up n k)(hM:Pc.MI n (Tie ks) ms)(hF:MkI ks ms){zs:List Int}(h1:zs.Pairwise (·<=·))(h2:zs.Nodup)(h3:∀ x,x∈zs↔x∈ms.map fun m:Nat=>(m:Int)):zs.map (grp ms n)=B8 ks n n:=by
 have hT:∀ b c,Tie ks b c->b<n/\c<n:=fun b c t=>by rcases V2 hU t with⟨_,h,h'⟩ | ⟨_,h,h'⟩<;>omega
 have iff:∀ p q,p<n->q<n->(ms.getD p 0=ms.getD q 0↔Pc.Rch (Tie ks) p q):=fun p q hp hq=>Pc.marks_iff (fun b c t=>t.symm) hT hM (fun b c t=>hF b c t) hp hq
 have hle:∀ p,p<n->ms.getD p 0<=p:=hM.le
 have hrc:∀ p,p<n->Pc.Rch (Tie ks) p (ms.getD p 0):=hM.rch
 have fix:∀ p,p<n->ms.getD (ms.getD p 0) 0=ms.getD p 0:=fun p hp=>((iff p _ hp (by have:=hle p hp;omega)).mpr (hrc p hp)).symm
 have hz:zs=((i7 n).filter fun p=>decide (N0 ks n p)).map fun c:Nat=>(c:Int):=by
  refine W0 (as5 h1 h2) (ao0 n _) fun x=>?_
  rw[h3,k7,k7]
  constructor
  ·rintro⟨m,hm,rfl⟩
   obtain⟨j,hj⟩:=x3 hm
   have hjn:j<n:=by rw[<- hM.len];exact(d5.mp hj).1
   have em:ms.getD j 0=m:=by rw[k8,hj];rfl
   have hmn:m<n:=by have:=hle j hjn;omega
   refine⟨m,u1.mpr ⟨j7.mpr hmn,decide_eq_true ((K3 hmn).mpr fun c hc hr=>?_)⟩,rfl⟩
   have e1:=fix j hjn
   rw[em]at e1
   have e2:=(iff m c hmn hc).mpr hr
   have:=hle c hc
   omega
  ·rintro⟨p,hp,rfl⟩
   obtain⟨h4,h5⟩:=u1.mp hp
   have hpn:=j7.mp h4
   have h6:=(K3 hpn).mp (of_decide_eq_true h5)
   have h7:=hle p hpn
   have h8:=h6 _ (by omega) (hrc p hpn)
   have:ms.getD p 0=p:=by omega
   refine⟨p,?_,rfl⟩
   rw[k8,d4 (by rw[hM.len];exact hpn)]at this
   exact b6 (by rw[d4 (by rw[hM.len];exact hpn)];exact congrArg some this)
 rw[hz]
 unfold B8
 rw[at4]
 refine az1 fun p hp=>?_
 obtain⟨h4,h5⟩:=u1.mp hp
 have hpn:=j7.mp h4
 have h6:=(K3 hpn).mp (of_decide_eq_true h5)
 have h7:=hle p hpn
 have h8:=h6 _ (by omega) (hrc p hpn)
 have e:ms.getD p 0=p:=by omega
 show grp ms n (p:Int)=pcF ks n p
 unfold grp pcF
 congr 1
 refine List.filter_congr fun c hc=>?_
 have hcn:=j7.mp hc
 have:=iff p c hpn hcn
 rw[e]at this
 rw[decide_eq_decide]
 exact⟨fun h=>this.mp (by omega),fun h=>by have:=this.mpr h;omega⟩
theorem ar7 (ms:List Nat)(i:Nat)(m:Int):grp ms (i+1) m=grp ms i m++(if ((ms.getD i 0:Nat):Int)=m then [(i:Int)] else []):=by
 unfold grp
 rw[C1,aB2,i9,aG2,List.filter_nil]
 by_cases h:((ms.getD i 0:Nat):Int)=m
 ·rw[decide_eq_true h,if_pos rfl,if_pos h];rfl
 ·rw[decide_eq_false h,if_neg b7,if_neg h];rfl
theorem ay1 (ms:List Nat)(i:Nat)(m:Int):(grp ms i m).length<=i:=by
 unfold grp
 rw[b4]
 have:=K8 (fun p=>decide (((ms.getD p 0:Nat):Int)=m)) (i7 i)
 rw[u2]at this
 exact this
def LLs (H:Hp)(us:List V)(pp:List (List Int)):Prop:=us.length=pp.length/\∀ (i:Nat) (u:V) (z:List Int),us[i]?=some u->pp[i]?=some z->∃ r,u=.ref r/\H r=some (.lst (z.map V.int))
theorem LLs.same {H H':Hp}{us:List V}{pp:List (List Int)}(h:LLs H us pp)(s:m5 H H'):LLs H' us pp:=⟨h.1,fun i u z e1 e2=>let ⟨r,a,b⟩:=h.2 i u z e1 e2;⟨r,a,s _ _ b⟩⟩
theorem LLs.nil (H:Hp):LLs H [] []:=⟨rfl,fun i u z e=>by cases e⟩
theorem LLs.snoc {H:Hp}{us:List V}{pp:List (List Int)}{r:Addr}{z:List Int}(h:LLs H us pp)(hr:H r=some (.lst (z.map V.int))):LLs H (us++[.ref r]) (pp++[z]):=by
 refine⟨by rw[d7,d7,h.1];rfl,fun i u y e1 e2=>?_⟩
 rcases D6 i us.length with q | q
 ·rw[D0 q]at e1
  rw[D0 (by rw[<- h.1];exact q)]at e2
  exact h.2 i u y e1 e2
 ·rw[C7 q]at e1
  rw[C7 (by rw[<- h.1];exact q),<- h.1]at e2
  cases hz:i - us.length with
  | zero =>
   rw[hz]at e1 e2
   cases e1
   cases e2
   exact⟨r,rfl,hr⟩
  | succ n=>rw[hz]at e1;cases e1
def New (H:Hp)(us:List V):Prop:=∀ u∈us,∃ r,u=.ref r/\H r=none
theorem New.snoc {H:Hp}{us:List V}{r:Addr}(h:New H us)(hr:H r=none):New H (us++[.ref r]):=fun u hu=>by
 rcases g7.mp hu with z | z
 ·exact h u z
 ·exact⟨r,b8.mp z,hr⟩
theorem LLs.upd {H0 H:Hp}{us:List V}{pp:List (List Int)}{D:Addr}{o:HO}(h:LLs H us pp)(hn:∀ u∈us,u≠.ref D):LLs (upd H D o) us pp:=⟨h.1,fun i u z e1 e2=>let ⟨r,a,b⟩:=h.2 i u z e1 e2;⟨r,a,by rw[j1 (fun q=>hn u (b6 e1) (by rw[a,q]))];exact b⟩⟩
end Web
namespace Web
end Web
namespace Web
end Web
namespace Web
open PySem L2
inductive Wz where
 | odd | below (z:Int) | wall (z:Int)
theorem aA7 (a b:Int):decide (V.int a=V.int b)=decide (a=b):=by
 by_cases h:a=b
 ·rw[h,decide_eq_true rfl,decide_eq_true rfl]
 ·rw[decide_eq_false h,decide_eq_false (fun z=>h (by injection z))]
seal L2.PE L2.PA L2.PS L2.PSs L2.PT
section
variable {P:Program} {w:World} {K:W.Frag} {mg:Str->Option Value} {base:Heap}
def an0 (K:W.Frag):Sp:=fun vs H Q _=>∃ (p:Addr) (n:Nat) (ks:List (List Int)),vs=[.ref p]/\U9 K H p n ks/\n<=24/\ks.length<=600/\(∀ k∈ks,Up n k)/\∀ (l:Addr) (us:List V) (H':Hp),m5 H H'->H l=none->H' l=some (.lst us)->LLs H' us (B8 ks n n)->New H us->Q (.ref l) H'
theorem an8:r6 ["web","near","around"] ["web"] (i5 Y5):=⟨rfl,rfl,rfl,by decide +kernel,rfl,by decide +kernel,by decide +kernel⟩
set_option maxHeartbeats 2000000 in
theorem aC9 {f fB fP:Addr}{fd fdB fdP:FuncData}(F:Fun K "pieces_of" "pieces_of" Y5 f fd)(B:Bn mg)
  (FB:Fun K "beside" "beside" Y6 fB fdB)(bB:Binds K fdB ["web"] [])(mB:mg "beside"=some (.ref fB))(GB:u0 P w K mg base CX0 1 fB fdB ["web"] (az8 K))
  (FP:Fun K "piece_around" "piece_around" E4 fP fdP)(bP:Binds K fdP ["near","place"] [])(mP:mg "piece_around"=some (.ref fP))(GP:u0 P w K mg base CX0 1 fP fdP ["near","place"] (af9 K)):u0 P w K mg base CX0 2 f fd ["web"] (an0 K):=by
 refine F.ok an8 (fun vs H Q E h=>?_) (fun cdv A outer s H vs Q E hr h=>?_)
 ·obtain⟨p,n,ks,rfl,_⟩:=h
  rfl
 ·obtain⟨p,n,ks,rfl,hW,hn,hkl,hU,q⟩:=h
  have hsl:=E1
  have nd1:(["place","near"]:List Str).Nodup:=by decide +kernel
  have nd2:(["place","piece"]:List Str).Nodup:=by decide +kernel
  refine⟨_,c8 (m8 (i:=1) an8.nd rfl (Or.inr rfl) (p9 GB hr (by rfl) mB FB.kp bB .nil y7 (a9 (pv 0) d6)))
   (c8 (ag5 (i:=2) an8.nd rfl rfl (by rfl) (N':=["place","near"]) (lk:=[none,some 1]) rfl (y0 rfl B.range (a9 (u4 A5 (pv 0) f7 (fun _ _=>rfl)) d6)) (by rfl) rfl (by decide +kernel) (by exact⟨rfl,trivial⟩) (by rfl) (by exact LkL.ok ⟨⟨rfl,Or.inl rfl,rfl,Or.inl rfl⟩,trivial⟩) (fun _ _ _=>p0 (i:=0) nd1 rfl (Or.inl rfl)) (fun _ _ _=>N9) (fun _ _ _=>(p9 GP hr (by rfl) mP FP.kp bP .nil y7 (a9 (pv 1) (a9 (pv 0) d6)))))
   (j6 (u3 (O1 (N':=["place","piece"]) (lk:=[none,none]) rfl (aI4 (av6 (by rfl) B.enum (a9 (pv 2) d6)) (ap2 (by rfl) B.enum (a9 (pv 2) d6))) (by rfl) rfl (by decide +kernel) (by exact trivial) (by rfl) (by exact LkL.ok trivial) (fun _ _ _=>av7 (n:=2) K rfl rfl (B6 (p0 (i:=0) nd2 rfl (Or.inl rfl)) (B6 (p0 (i:=1) nd2 rfl (Or.inl rfl)) V9))) (fun _ _ _=>V6 (v8 G5 (O0 K rfl (pv 1) f7 (fun _ _=>rfl)) (pv 0) (u6 _))) (fun _ _ _=>pv 1))))),?_⟩
  refine⟨_,rfl,p,n,ks,rfl,hW,hn,hkl,hU,fun na ps H1 s1 hN=>?_⟩
  refine o7 ?_
  obtain⟨t,zs,w1,w2,w3⟩:=hW.same s1
  have a0:atI ([.int n,.ref t]:List V) 0=some (.int n):=n8 (j:=0) rfl
  refine⟨_,rfl,p,_,_,_,rfl,rfl,w1,a0,(n:Int),rfl,by omega,by omega,fun D hD=>?_⟩
  rw[n9]
  refine C5 (lo:=0) (n:=n) (D:=D) (fun i xs σ' H'=>(∃ v,σ'=[v,some (.ref na)])/\m5 H1 H'/\H' D=some (.lst xs)/\LLs H' xs ((i7 i).map (pcF ks n))/\New H1 xs/\∀ u∈xs,u≠.ref D) ⟨⟨none,rfl⟩,i4 hD,d3,LLs.nil _,fun u hu=>absurd hu j5,fun u hu=>absurd hu j5⟩ (by omega)
   (fun i xs σ' H' hi ⟨_,s6,h6,e6,_⟩=>⟨h6,by rw[e6.1,b4,u2];exact a8 _⟩) ?_ ?_
  ·rintro i xs σ' H' N kN hi ⟨⟨v,rfl⟩,s6,h6,e6,f6,g6⟩
   rw[show ((0:Int)+(i:Int))=(i:Int) by omega]
   refine o7 (J8 ?_)
   refine⟨_,rfl,_,rfl,na,n,i,ps,ks,rfl,hn,hi,hN.same s6,hU,fun l ys H2 s2 fl gl hyl h1 h2 h3 h4=>?_⟩
   rw[aI5 hU hi h1 h2 h3 h4]at gl
   have nlD:l≠D:=(l5 h6 fl).symm
   refine⟨s2 _ _ h6,kN _ _ _ ⟨⟨_,rfl⟩,(s6.trans s2).upd hD,d3,?_,f6.snoc (s6.free fl),fun u hu=>?_⟩⟩
   ·rw[C1,i9]
    exact LLs.upd (H0:=H) ((e6.same s2).snoc gl) fun u hu=>(g7.mp hu).elim (g6 u) fun z=>by rw[b8.mp z];exact fun q=>nlD (by injection q)
   ·rcases g7.mp hu with z | z
    ·exact g6 u z
    ·rw[b8.mp z];exact fun q=>nlD (by injection q)
  rintro xs σ' H2 ⟨⟨v,rfl⟩,s2,gD,eL,fL,_⟩
  have hxl:xs.length=n:=by rw[eL.1,b4,u2]
  refine Or.imp (fun h=>⟨_,rfl,h⟩) (fun h=>⟨_,rfl,h⟩) (ae3 (K:=K) (a:=D) (ys:=xs) (.inl (SqL.of gD)) (by omega) (fun D3 i ys σ' H'=>(∃ v u,σ'=[v,u])/\m5 H2 H'/\H' D3=some (.lst ys)/\LLs H' ys (B8 ks n i)/\∀ u∈ys,u∈xs) (fun D3 hD3=>⟨⟨none,none,rfl⟩,i4 hD3,d3,LLs.nil _,fun u hu=>absurd hu j5⟩)
   (fun D3 i ys σ' H' hD3 hi ⟨_,s6,h6,e6,_⟩=>⟨s6,h6,by rw[e6.1];exact Z1 ..⟩) ?_ ?_)
  ·rintro D3 i ys x tt σ' H' N hD3 kN hx ⟨⟨v,u,rfl⟩,s6,h6,e6,f6⟩ ht
   have hi:i<n:=by rw[<- hxl];exact(d5.mp hx).1
   obtain⟨r,rfl,gr⟩:=eL.2 i x (pcF ks n i) hx (by rw[i8,x8 hi];rfl)
   have s7:=i4 (o:=.tup [.int i,.ref r]) ht
   refine⟨tt,_,rfl,SqT.of d3,rfl,_,_,rfl,_,_,rfl,rfl,?_⟩
   have hlen:0<(pcF ks n i).length:=J7 (Z2 hi)
   have h0:(pcF ks n i)[0]?=some ((pcF ks n i)[0]'hlen):=d4 hlen
   have gr7:=(s6.trans s7) _ _ gr
   have hat:atI ((pcF ks n i).map V.int) 0=some (.int ((pcF ks n i)[0]'hlen)):=n8 (j:=0) (by rw[i8,h0];rfl)
   refine⟨_,rfl,.inl ⟨r,_,_,_,rfl,rfl,SqL.of gr7,hat,_,rfl,rfl,_,rfl,?_⟩⟩
   rw[aA7]
   have hD3r:∀ u∈xs,u≠.ref D3:=fun u hu q=>by
    obtain⟨j,hj⟩:=x3 hu
    have hjn:j<n:=by rw[<- hxl];exact(d5.mp hj).1
    obtain⟨r',e,g'⟩:=eL.2 j u (pcF ks n j) hj (by rw[i8,x8 hjn];rfl)
    rw[e]at q
    injection q with q
    rw[q,hD3]at g'
    cases g'
   have esu:=aj6 ks n i
   by_cases hf:N0 ks n i
   ·have:(pcF ks n i)[0]'hlen=(i:Int):=by unfold N0 at hf;rw[h0]at hf;exact Option.some.inj hf
    rw[decide_eq_true this]
    rw[if_pos hf]at esu
    refine B4 ⟨_,rfl,s7 _ _ h6,kN _ _ _ ⟨⟨_,_,rfl⟩,(s6.trans s7).upd hD3,d3,?_,fun u hu=>?_⟩⟩
    ·rw[esu]
     exact LLs.upd (H0:=H) ((e6.same s7).snoc gr7) fun u hu=>(g7.mp hu).elim (fun z=>hD3r u (f6 u z)) fun z=>by rw[b8.mp z];exact hD3r _ (b6 hx)
    ·rcases g7.mp hu with z | z
     ·exact f6 u z
     ·rw[b8.mp z];exact b6 hx
   ·have:¬ (pcF ks n i)[0]'hlen=(i:Int):=fun z=>hf (by unfold N0;rw[h0,z])
    rw[decide_eq_false this]
    rw[if_neg hf,z0]at esu
    exact y1 (kN _ _ _ ⟨⟨_,_,rfl⟩,s6.trans s7,s7 _ _ h6,by rw[esu];exact e6.same s7,f6⟩)
  ·rintro D3 ys σ' H3 hD3 ⟨⟨v,u,rfl⟩,s3,g3,e3,f3⟩
   rw[hxl]at e3
   exact q D3 ys H3 ((s1.trans s2).trans s3) ((s1.trans s2).free hD3) g3 e3 fun u hu=>let ⟨r,e,g⟩:=fL u (f3 u hu);⟨r,e,s1.free g⟩
end
end Web
namespace PySem.F
set_option maxRecDepth 100000
theorem Z3:Manifest.owners.lookup (String.ofList ['r','o','t','a','r','e','t','i','_','t','e','s'].reverse)=some Manifest.sig_set_iterator:=by kernel_rfl
theorem sl_seti:Slot "set_iterator" "__next__" "set_iterator.__next__":=.of (owner:="set_iterator") (n:="__next__") (by rw[typeLookup_type,builtinLookup_eq_fast];kernel_rfl) (by decide +kernel) (by decide +kernel) (by decide +kernel) (by first | exact .inl (by decide +kernel) | exact .inr (by decide +kernel)) (by rw[isSubtype_type];kernel_rfl)
theorem en_seti:entryFor table "set_iterator.__next__"=some Builtin.«set_iterator.__next__»:=entryFor_of_tree (by kernel_rfl)
theorem ar_seti (a:Value):argsOk "set_iterator.__next__" ⟨[a],[]⟩:=by unfold argsOk;rw[signature?_of (id:="set_iterator.__next__") (n:=['_','_','t','x','e','n','_','_']) (o:=['r','o','t','a','r','e','t','i','_','t','e','s']) (by kernel_rfl) Z3];kernel_rfl
theorem en_setI:entryFor table "set.__iter__"=some Builtin.«frozenset.__iter__»:=entryFor_alias (id':="frozenset.__iter__") (by kernel_rfl) rfl (by decide +kernel) (by kernel_rfl)
theorem sl_setii:Slot "set_iterator" "__iter__" "set_iterator.__iter__":=.of (owner:="set_iterator") (n:="__iter__") (by rw[typeLookup_type,builtinLookup_eq_fast];kernel_rfl) (by decide +kernel) (by decide +kernel) (by decide +kernel) (by first | exact .inl (by decide +kernel) | exact .inr (by decide +kernel)) (by rw[isSubtype_type];kernel_rfl)
theorem en_setii:entryFor table "set_iterator.__iter__"=some Builtin.«dict_keyiterator.__iter__»:=entryFor_alias (id':="dict_keyiterator.__iter__") (by kernel_rfl) rfl (by decide +kernel) (by kernel_rfl)
theorem ar_setii (a:Value):argsOk "set_iterator.__iter__" ⟨[a],[]⟩:=by unfold argsOk;rw[signature?_of (id:="set_iterator.__iter__") (n:=['_','_','r','e','t','i','_','_']) (o:=['r','o','t','a','r','e','t','i','_','t','e','s']) (by kernel_rfl) Z3];kernel_rfl
end PySem.F
namespace L2
open PySem PySem.Spec PyProof.Rows PySem.SeqAt
abbrev En:=Int × Value
theorem ag7 {α:Type}(nx:Nat->Nat):∀ (n k:Nat) (left:List α) (out:Array α),left.length=n->(pickOrder.go nx n k left out).toList.Perm (out.toList++left)
 | 0,k,left,out,h=>by
  have:left=[]:=List.length_eq_zero_iff.mp h
  subst this
  unfold pickOrder.go
  simp
 | n+1,k,left,out,h=>by
  unfold pickOrder.go
  have hlt:nx k % left.length<left.length:=al9 _ (by omega)
  rw[d4 hlt]
  dsimp only
  refine(ag7 nx n (k+1) _ _ (by rw[List.length_eraseIdx_of_lt hlt];omega)).trans ?_
  rw[aB3,T4]
  refine List.Perm.append_left _ ?_
  rw[List.eraseIdx_eq_take_drop_succ]
  show (left[nx k % left.length]::(left.take (nx k % left.length)++left.drop (nx k % left.length+1))).Perm left
  refine aG3.symm.trans ?_
  rw[List.getElem_cons_drop,at5]
theorem T5 {α:Type}(nx:Nat->Nat)(xs:Array α):(pickOrder nx xs).toList.Perm xs.toList:=by
 have:=ag7 nx xs.size 0 xs.toList #[] (by simp)
 unfold pickOrder
 simpa using this
section
variable {prog:Program} {w:World} {A:Around} {E:Value->Shared->Prop} {s:Shared}
def J5 (h:Heap)(S:Addr)(es:Array En)(ep:Nat)(t:SetTable):Prop:=∃ o,h.get? S=some o/\o.ExactSet/\o.data=.set es ep t
theorem J5.typeIs {S:Addr}{es:Array En}{ep:Nat}{t:SetTable}(x:J5 s.heap S es ep t):s.TypeIs (.ref S) "set":=let ⟨o,ho,hc,_⟩:=x;⟨o,ho,hc.1⟩
theorem J5.at' {h h':Heap}{S:Addr}{es:Array En}{ep:Nat}{t:SetTable}(x:J5 h S es ep t)(e:∀ o,h.get? S=some o->h'.get? S=some o):J5 h' S es ep t:=let ⟨o,ho,r⟩:=x;⟨o,e _ ho,r⟩
structure WkS (w:World) (es:Array En) (t:SetTable):Prop where
 fit:t.fits es.size=true
 asc:Sett.Asc t.place
 pl:t.plain=true
 led:w.params.followText "set-order"=true\/t.led=true
def E8 (w:World)(S:Addr)(ep:Nat)(es:Array En):Array En:=if w.params.followText "set-order"=true then pickOrder (w.params.setOrder S ep) es else es
theorem T6 (w:World)(S:Addr)(ep:Nat)(es:Array En):(E8 w S ep es).toList.Perm es.toList:=by
 unfold E8
 split
 ·exact T5 _ _
 ·exact List.Perm.refl _
def p8 (h:Heap)(it S:Addr)(slot i n ep:Nat):Prop:=∃ o,h.get? it=some o/\o.cls=.type "set_iterator"/\o.data=.fields #[.int slot 0,.int i 0,.ref S,.int n 0,.int ep 0]
theorem p8.typeIs {it S:Addr}{slot i n ep:Nat}(x:p8 s.heap it S slot i n ep):s.TypeIs (.ref it) "set_iterator":=let ⟨o,ho,hc,_⟩:=x;⟨o,ho,hc⟩
theorem p8.at' {h h':Heap}{it S:Addr}{slot i n ep:Nat}(x:p8 h it S slot i n ep)(e:∀ o,h.get? it=some o->h'.get? it=some o):p8 h' it S slot i n ep:=let ⟨o,ho,r⟩:=x;⟨o,e _ ho,r⟩
theorem an6 {S:Addr}{es:Array En}{ep:Nat}{t:SetTable}{Q:Value->Shared->Prop}(hm:J5 s.heap S es ep t)(W:WkS w es t)
  (hQ:Q (.ref s.heap.objs.size) { s with heap:=s.heap.push { cls:=.type "set_iterator",data:=.fields #[.int 0 0,.int 0 0,.ref S,.int es.size 0,.int ep 0] } }) :
  wpAny (model prog w) A (pyIter (.ref S)) Q E s:=by
 have hT:=hm.typeIs
 obtain⟨o,ho,hc,hdat⟩:=id hm
 refine wpAny_pyIter_slot hT PySem.F.slot_set_iter (wpAny_call_entry PySem.F.slot_set_iter hT PySem.F.en_setI ?_ (PySem.F.args_set_iter_1 _))
 unfold Builtin.«frozenset.__iter__»
 refine wpAny_bind ?_
 show wpAny _ _ (pure S) _ _ s
 refine wpAny_pure ?_
 unfold Builtin.Frozenset.sizeOf setDrawn
 refine wpAny_bind (wpAny_bind (wpAny_setEntries_of ho hdat W.fit (wpAny_pure ?_)))
 refine wpAny_bind ?_
 refine wpAny_bind (wpAny_setState_of ho hdat W.fit ?_)
 unfold setsByText
 refine wpAny_bind (wpAny_bind (wpAny_askSetting (wpAny_pure (wpAny_pure ?_))))
 have hb:(!w.params.followText "set-order" && (!t.plain && decide (es.size > 1)))=false:=by rw[W.pl];simp
 show wpAny _ _ (if (!w.params.followText "set-order" && (!t.plain && decide (es.size > 1)))=true then _ else (pure (rawInt 0) >>= fun first=>setEpoch S >>= fun e=>newFields "set_iterator" [first,rawInt 0,.ref S,rawInt es.size,rawInt e] >>= fun r=>ret r)) _ _ _
 rw[hb,if_neg b7]
 refine wpAny_bind (wpAny_pure ?_)
 refine wpAny_bind (wpAny_setEpoch_of ho hdat W.fit ?_)
 refine wpAny_bind (wpAny_newObj_type (wpAny_pure ⟨_,rfl,"set_iterator",_,⟨_,b5 _ rfl,rfl⟩,PySem.F.sl_seti.lookup,?_⟩))
 simpa [rawInt] using hQ
def SlC (w:World)(t:SetTable)(i slot:Nat):Prop:=w.params.followText "set-order"=true\/SetTable.below t.place slot=i
theorem ae8 {xs:Array Nat}(a:Sett.Asc xs):SetTable.below xs 0=0:=by
 obtain⟨b1,b2,_⟩:=Sett.C6 a 0
 rcases D4 (SetTable.below xs 0) with h | h
 ·exact h
 ·have:xs[0]?=some xs[0]:=x4 (by omega)
  exact absurd (b2 0 _ h this) (C2 _)
theorem ae9 {xs:Array Nat}(a:Sett.Asc xs){i j:Nat}(h:xs[i]?=some j):SetTable.below xs (j+1)=i+1:=by
 obtain⟨b1,b2,b3⟩:=Sett.C6 a (j+1)
 have h1:i<SetTable.below xs (j+1):=by
  rcases D6 i (SetTable.below xs (j+1)) with z | z
  ·exact z
  ·have:=b3 i j z h
   omega
 rcases D6 (i+1) (SetTable.below xs (j+1)) with z | z
 ·have e:xs[i+1]?=some xs[i+1]:=x4 (by omega)
  have:=b2 (i+1) _ z e
  have:=a i (i+1) _ _ (by omega) h e
  omega
 ·omega
theorem P3 {S:Addr}{slot i ep:Nat}{es:Array En}{t:SetTable}{od:Obj}{Q:Option (Value × Nat)->Shared->Prop}(hod:s.heap.get? S=some od)(hdd:od.data=.set es ep t)(W:WkS w es t)(hsl:SlC w t i slot)
  (h1:∀ e slot',(E8 w S ep es)[i]?=some e->SlC w t (i+1) slot'->Q (some (e.2,slot')) s)(h2:es.size<=i->Q none s):wpAny (model prog w) A (setNext S slot i ep) Q E s:=by
 have hsz:t.place.size=es.size:=by
  have:=W.fit
  simp only[SetTable.fits,v5,beq_iff_eq,decide_eq_true_eq]at this
  exact this.1
 unfold setNext
 refine wpAny_bind (wpAny_setState_of hod hdd W.fit ?_)
 unfold setsByText
 refine wpAny_bind (wpAny_bind (wpAny_askSetting (wpAny_pure ?_)))
 have hpl:=W.pl
 by_cases ft:w.params.followText "set-order"=true
 ·show wpAny _ _ (if w.params.followText "set-order"=true then _ else _) _ _ _
  rw[if_pos ft]
  show wpAny _ _ (if (ep != ep)=true then _ else _) _ _ _
  rw[if_neg (by simp)]
  unfold setWalk
  refine wpAny_bind (wpAny_bind (wpAny_setState_of hod hdd W.fit ?_))
  unfold setsByText
  refine wpAny_bind (wpAny_bind (wpAny_askSetting (wpAny_pure ?_)))
  show wpAny _ _ (if w.params.followText "set-order"=true then _ else _) _ _ _
  rw[if_pos ft]
  refine wpAny_bind (wpAny_askSetting (wpAny_pure ?_))
  have ho:E8 w S ep es=pickOrder (w.params.setOrder S ep) es:=if_pos ft
  have hsz2:(pickOrder (w.params.setOrder S ep) es).size=es.size:=by
   have:=(T5 (w.params.setOrder S ep) es).length_eq
   simpa using this
  refine wpAny_pure ?_
  show Q (Option.map (fun e:En=>(e.2,slot)) (pickOrder (w.params.setOrder S ep) es)[i]?) s
  cases hx:(pickOrder (w.params.setOrder S ep) es)[i]? with
  | some e=>exact h1 e slot (by rw[ho];exact hx) (.inl ft)
  | none=>exact h2 (by rw[Array.getElem?_eq_none_iff]at hx;omega)
 ·have hbl:SetTable.below t.place slot=i:=hsl.resolve_left ft
  have hld:t.led=true:=W.led.resolve_left ft
  show wpAny _ _ (if w.params.followText "set-order"=true then _ else _) _ _ _
  rw[if_neg ft]
  have hb:(!t.plain && decide (es.size > 1))=false:=by rw[hpl];simp
  show wpAny _ _ (if (!t.plain && decide (es.size > 1))=true then _ else _) _ _ _
  rw[hb,if_neg b7]
  have hb2:(!t.led && !es.isEmpty)=false:=by rw[hld];simp
  refine wpAny_bind ?_
  show wpAny _ _ (if (!t.led && !es.isEmpty)=true then _ else pure ()) _ _ _
  rw[hb2,if_neg b7]
  refine wpAny_pure (wpAny_pure ?_)
  rw[hbl]
  have ho:E8 w S ep es=es:=if_neg ft
  rcases D6 i es.size with hlt | hge
  ·have e1:es[i]?=some es[i]:=x4 hlt
   have e2:t.place[i]?=some (t.place[i]'(by omega)):=x4 (by omega)
   rw[e1,e2]
   exact h1 _ _ (by rw[ho];exact e1) (.inr (ae9 W.asc e2))
  ·have e1:es[i]?=none:=v7 hge
   rw[e1]
   exact h2 hge
theorem an5 {it S:Addr}{slot i ep:Nat}{es:Array En}{t:SetTable}{Q:Option Value->Shared->Prop}(hit:p8 s.heap it S slot i es.size ep)(hm:J5 s.heap S es ep t)(W:WkS w es t)(hsl:SlC w t i slot)(hx:i<es.size)
  (hQ:∀ h' slot' e,(E8 w S ep es)[i]?=some e->p8 h' it S slot' (i+1) es.size ep->SlC w t (i+1) slot'->Heap.SameBut it s.heap h'->Q (some e.2) { s with heap:=h' }):wpAny (model prog w) A (pyNext (.ref it)) Q E s:=by
 obtain⟨o,ho,hc,hd⟩:=id hit
 obtain⟨od,hod,hcd,hdd⟩:=id hm
 unfold pyNext
 refine wpAny_bind (wpAny_attempt (wpAny_callSpecial?_slot (name:=Str.ofString "__next__") hit.typeIs PySem.F.sl_seti (wpAny_call_entry PySem.F.sl_seti hit.typeIs PySem.F.en_seti ?_ (PySem.F.ar_seti _))))
 unfold Builtin.«set_iterator.__next__»
 refine wpAny_bind (wpAny_pure ?_)
 refine wpAny_bind (wpAny_fieldsOf ho hd ?_)
 refine wpAny_bind (wpAny_setEntries_of hod hdd W.fit ?_)
 rw[if_neg (by simp)]
 show wpAny _ _ (setNext S slot i ep >>= _) _ _ _
 refine wpAny_bind (P3 hod hdd W hsl (fun e slot' he hs=>?_) (fun h=>absurd hx (am1.mpr h)))
 show wpAny _ _ (setField (.ref it) 0 (rawInt slot') >>= fun _=>setField (.ref it) 1 (rawInt ((i:Int)+1)) >>= fun _=>ret e.2) _ _ _
 refine wpAny_bind (wpAny_setField ho hd (by simp) ?_)
 have ho1:=k6 (Obj.mapFields (·.setIfInBounds 0 (rawInt (slot':Int)))) ho (Obj.isFreed_of_fields (Obj.data_mapFields hd _))
 have hd1:=Obj.data_mapFields hd (·.setIfInBounds 0 (rawInt (slot':Int)))
 refine wpAny_bind (wpAny_setField ho1 hd1 (by simp) ?_)
 have ho2:=k6 (Obj.mapFields (·.setIfInBounds 1 (rawInt ((i:Int)+1)))) ho1 (Obj.isFreed_of_fields (Obj.data_mapFields hd1 _))
 have hd2:=Obj.data_mapFields hd1 (·.setIfInBounds 1 (rawInt ((i:Int)+1)))
 refine wpAny_pure ⟨_,rfl,wpAny_pure (hQ _ slot' e he ⟨_,ho2,?_,?_⟩ hs ((Heap.SameBut.update ..).trans (Heap.SameBut.update ..)))⟩
 ·rw[Obj.cls_mapFields,Obj.cls_mapFields,hc]
 ·rw[hd2]
  simp[rawInt]
theorem au9 {it S:Addr}{slot i ep:Nat}{es:Array En}{t:SetTable}{Q:Option Value->Shared->Prop}(hh:A.handled=none)(hit:p8 s.heap it S slot i es.size ep)(hm:J5 s.heap S es ep t)(W:WkS w es t)(hsl:SlC w t i slot)(hx:i=es.size)
  (hQ:∀ h',Heap.ExtBut it s.heap h'->Q none { s with heap:=h' }):wpAny (model prog w) A (pyNext (.ref it)) Q E s:=by
 obtain⟨o,ho,hc,hd⟩:=id hit
 obtain⟨od,hod,hcd,hdd⟩:=id hm
 unfold pyNext
 refine wpAny_bind (wpAny_attempt (wpAny_callSpecial?_slot (name:=Str.ofString "__next__") hit.typeIs PySem.F.sl_seti (wpAny_call_entry PySem.F.sl_seti hit.typeIs PySem.F.en_seti ?_ (PySem.F.ar_seti _))))
 unfold Builtin.«set_iterator.__next__»
 refine wpAny_bind (wpAny_pure ?_)
 refine wpAny_bind (wpAny_fieldsOf ho hd ?_)
 refine wpAny_bind (wpAny_setEntries_of hod hdd W.fit ?_)
 rw[if_neg (by simp)]
 show wpAny _ _ (setNext S slot i ep >>= _) _ _ _
 have hsz:(E8 w S ep es).size=es.size:=by
  have:=(T6 w S ep es).length_eq
  simpa using this
 refine wpAny_bind (P3 hod hdd W hsl (fun e slot' he hs=>?_) (fun h=>?_))
 ·have:=(ab5.mp he).1
  omega
 show wpAny _ _ (setField (.ref it) 2 .none >>= _) _ _ s
 refine wpAny_bind (wpAny_setField ho hd (by simp) ?_)
 show wpAny _ _ (newExc (.type "StopIteration") [] >>= _) _ _ _
 refine wpAny_bind ?_
 simp only[newExc,newTuple]
 refine wpAny_bind (wpAny_newObj_type ?_ (by size_fits))
 refine wpAny_bind (m:=firstArgMember _ _) (wpAny_of_eq (a:=Value.none) (by first | rfl | (simp only[firstArgMember];rfl)) ?_)
 refine wpAny_newObj_type ?_ (by size_fits)
 simp only[raiseNew]
 refine wpAny_bind (wpAny_handled ?_)
 rw[show A.in1.handled=none from hh]
 refine wpAny_bind (wpAny_pure (wpAny_throw ?_))
 refine wpAny_bind (wpAny_isInstance (T:="StopIteration") (b:=true) ⟨_,b5 _ rfl,rfl⟩ isSubtype_stop ?_)
 exact wpAny_pure (hQ _ (((Heap.SameBut.update ..).extBut.push _).push _))
theorem an4 {it S:Addr}{slot i n ep:Nat}{Q:Value->Shared->Prop}(hit:p8 s.heap it S slot i n ep)(h:Q (.ref it) s):wpAny (model prog w) A (pyIter (.ref it)) Q E s:=by
 refine wpAny_pyIter_slot hit.typeIs PySem.F.sl_setii (wpAny_call_entry PySem.F.sl_setii hit.typeIs PySem.F.en_setii ?_ (PySem.F.ar_setii _))
 show wpAny _ _ (ret (.ref it)) _ _ s
 exact wpAny_pure ⟨_,rfl,"set_iterator",_,hit.typeIs,PySem.F.sl_seti.lookup,h⟩
theorem an3 (hh:A.handled=none)(I S:Addr)(hne:S≠I)(es:Array En)(ep:Nat)(t:SetTable)(W:WkS w es t) :
  Walks prog w A I [I,S] [I] es.size (fun i v=>∃ e,(E8 w S ep es)[i]?=some e/\v=e.2) (fun i h=>(∃ slot,p8 h I S slot i es.size ep/\SlC w t i slot)/\J5 h S es ep t) where
 sub:=fun b hb=>by simp at hb;simp[hb]
 frame:=fun _ _ _ st hk=>⟨let ⟨sl,h1,h2⟩:=st.1;⟨sl,h1.at' fun o e=>hk I (by simp) o e,h2⟩,st.2.at' fun o e=>hk S (by simp) o e⟩
 item:=fun i s Q E hi st hQ=>by
  obtain⟨⟨sl,h1,h2⟩,h3⟩:=st
  refine an5 h1 h3 W h2 hi fun h' slot' e he hit' hs' hsb=>?_
  exact hQ e.2 h' s.toks ⟨e,he,rfl⟩ ⟨⟨slot',hit',hs'⟩,h3.at' fun o q=>hsb.extBut S o hne q⟩ fun b o hb q=>hsb.extBut b o (fun h=>hb (by simp[h])) q
 done:=fun s Q E st hQ=>by
  obtain⟨⟨sl,h1,h2⟩,h3⟩:=st
  exact au9 hh h1 h3 W h2 rfl fun h' he'=>hQ h' s.toks fun b o hb e=>he' b o (fun h=>hb (by simp[h])) e
 self:=fun _ _ _ _ st hQ=>let ⟨⟨_,h1,_⟩,_⟩:=st;an4 h1 hQ
theorem an7 {S:Addr}{es:Array En}{ep:Nat}{t:SetTable}{Q:Bool->Shared->Prop}(hr:J5 s.heap S es ep t)(h:Q false s):wpAny (model prog w) A (Builtin.List.listLengthHint (.ref S)) Q E s:=by
 have hT:=hr.typeIs
 unfold Builtin.List.listLengthHint
 refine wpAny_bind (wpAny_specialOf hT PySem.F.slot_set_len.lookup ?_)
 generalize hid:("set.__len__":String)=id0
 wp_delta
 rw[show splitId id0=some ("set","__len__") from by subst hid;decide +kernel]
 subst hid
 refine wpAny_bind (wpAny_isInstance (T:="set") (b:=true) hT (by rw[isSubtype_type];kernel_rfl) ?_)
 refine wpAny_ite_split (fun hab=>absurd hab (by decide)) (fun _=>?_)
 refine wpAny_ite_split (fun _=>?_) (fun hab=>absurd (by decide +kernel) hab)
 refine wpAny_bind (wpAny_typeOf hT ?_)
 exact wpAny_pure h
theorem ac4 {R:Result->Shared->Prop} {d:Addr} {es:Array En} {ep:Nat} {t:SetTable} (hh:A.handled=none) (hr:J5 s.heap d es ep t) (Wk:WkS w es t) (hlen:es.size<=sizeLine) (S:Addr) (res:Value) (c₀:Nat) (hS:s.heap.get? S=some { cls:=.type "list",data:=.seq #[] c₀ })
  (hR : ∀ h' tk acc' c', (∀ b o, b ≠ S -> s.heap.get? b = some o -> h'.get? b = some o) -> h'.get? S = some { cls := .type "list", dict := none, data := .seq acc' c', slots := #[] } ->
   ItemsOf (fun i v=>∃ e,(E8 w d ep es)[i]?=some e/\v=e.2) acc' es.size->R (.ok (.ret res)) { s with heap:=h',toks:=tk }) :
  wpAny (model prog w) A.in1 (Builtin.List.listExtendWith (.ref S) (.ref d) res)
   (fun fin s'=>match fin with | .done f=>R (.ok f) s' | .again c'=>c'.quiet=true/\codeAny (model prog w) A c' R s') (fun e s'=>R (.error e) s') s:=by
 have hSd:S≠d:=fun e=>by
  obtain⟨o,ho,_,hx⟩:=hr
  rw[e,ho]at hS
  cases hS
  cases hx
 have hdlt:d<s.heap.objs.size:=let ⟨o,ho,_⟩:=hr;b0 ho
 have hSlt:S<s.heap.objs.size:=b0 hS
 have hSI:S≠s.heap.objs.size:=c3 hSlt
 have hSf:S∉[s.heap.objs.size,d]:=fun hm=>by
  rcases b9.mp hm with e | e
  ·exact hSI e
  ·exact hSd (b8.mp e)
 have W:=(an3 (prog:=prog) (w:=w) (A:=A.in1) hh s.heap.objs.size d (c3 hdlt) es ep t Wk).toS
 have key:∀ (h:Heap) (c₁ tk:Nat),(∃ slot,p8 h s.heap.objs.size d slot 0 es.size ep/\SlC w t 0 slot)->J5 h d es ep t->(∀ b o,b≠S->s.heap.get? b=some o->h.get? b=some o) ->
   h.get? S=some { cls:=.type "list",data:=.seq #[] c₁ }->codeAny (model prog w) A (.builtin "list.extend.loop" ⟨[.ref S,.ref s.heap.objs.size,res],[]⟩) R { s with heap:=h,toks:=tk }:=by
  intro h c₁ tk hit hr1 hk hS₁
  refine codeAny_extend_loopS W hlen S hSf res es.size 0 _ #[] c₁ rfl (i3 _) ⟨hit,hr1⟩ hS₁ (ItemsOf.nil _) fun s' acc' c' hm hS' hacc=>?_
  rw[Moved.eq_with hm]
  refine hR s'.heap s'.toks acc' c' (fun b o hb e=>hm.heap b o (fun hmem=>?_) (hk b o hb e)) hS' hacc
  rcases b9.mp hmem with e' | hmem
  ·exact hb e'
  ·exact absurd (b0 e) (by rw[b8.mp hmem];exact l6 _)
 unfold Builtin.List.listExtendWith
 refine wpAny_bind (wpAny_typeOf hr.typeIs ?_)
 have h1:Builtin.List.listSameRef (.ref S) (.ref d)=false:=by simp[Builtin.List.listSameRef,hSd]
 have h2:(Value.type "set" == Value.type "list")=false:=by decide
 have h3:(Value.type "set" == Value.type "tuple")=false:=by decide
 simp only[h1,h2,h3,al8,e8,if_false]
 refine wpAny_bind (an6 hr Wk ?_)
 have hr₁:J5 (s.heap.push { cls:=.type "set_iterator",data:=.fields #[.int 0 0,.int 0 0,.ref d,.int es.size 0,.int ep 0] }) d es ep t:=hr.at' fun o e=>a7 _ e
 refine wpAny_bind (wpAny_holding (an7 hr₁ ?_))
 have hit₁:p8 (s.heap.push { cls:=.type "set_iterator",data:=.fields #[.int 0 0,.int 0 0,.ref d,.int es.size 0,.int ep 0] }) s.heap.objs.size d 0 0 es.size ep:=⟨_,b5 _ rfl,rfl,rfl⟩
 have hsl₁:SlC w t 0 0:=.inr (ae8 Wk.asc)
 have hS₁:=a7 { cls:=.type "set_iterator",data:=.fields #[.int 0 0,.int 0 0,.ref d,.int es.size 0,.int ep 0] } hS
 refine wpAny_ite_split (fun _=>?_) (fun _=>wpAny_pure ⟨plainId_quiet PySem.F.plain_extend_loop _,key _ c₀ _ ⟨0,hit₁,hsl₁⟩ hr₁ (fun b o _ e=>a7 _ e) hS₁⟩)
 refine wpAny_bind (wpAny_rule ?_)
 refine wpAny_bind ?_
 show wpAny _ _ (updateSeq S (·.push .none) >>= fun _=>updateSeq S (·.pop)) _ _ _
 refine wpAny_bind (wpAny_updateSeq hS₁ rfl ?_)
 have hS₂:=k6 (Obj.mapSeq (·.push Value.none)) hS₁ rfl
 refine wpAny_updateSeq (hz:=by seq_fits) hS₂ rfl ?_
 have hS₃:=k6 (Obj.mapSeq (·.pop)) hS₂ rfl
 have oth:∀ b o,b≠S->(s.heap.push { cls:=.type "set_iterator",data:=.fields #[.int 0 0,.int 0 0,.ref d,.int es.size 0,.int ep 0] }).get? b=some o->(((s.heap.push { cls:=.type "set_iterator",data:=.fields #[.int 0 0,.int 0 0,.ref d,.int es.size 0,.int ep 0] }).update S (Obj.mapSeq (·.push Value.none))).update S (Obj.mapSeq (·.pop))).get? b=some o:=fun b o hb e =>
  (k4 _ _ (Ne.symm hb)).trans ((k4 _ _ (Ne.symm hb)).trans e)
 refine wpAny_pure ⟨plainId_quiet PySem.F.plain_extend_loop _,key _ _ _ ⟨0,hit₁.at' fun o e=>oth _ _ (Ne.symm hSI) e,hsl₁⟩ (hr₁.at' fun o e=>oth _ _ (Ne.symm hSd) e) (fun b o hb e=>oth b o hb (a7 _ e)) hS₃⟩
theorem Y2 {Q:List Value->Shared->Prop}{d:Addr}{es:Array En}{ep:Nat}{t:SetTable}(hh:A.handled=none)(hr:J5 s.heap d es ep t)(Wk:WkS w es t)(hlen:es.size<=sizeLine)
  (hQ:∀ h' tk acc',(∀ b o,s.heap.get? b=some o->h'.get? b=some o)->ItemsOf (fun i v=>∃ e,(E8 w d ep es)[i]?=some e/\v=e.2) acc' es.size->Q acc'.toList { s with heap:=h',toks:=tk }) :
  wpAny (model prog w) A (collect (.ref d)) Q E s:=by
 unfold collect
 refine wpAny_bind (wpAny_runValue (codeAny_builtin PySem.F.entry_proto_collect ?_))
 rw[Around.under_plainId PySem.F.plain_proto_collect _]
 show wpAny _ A.in1 (newList [] >>= fun l=>again (.builtin "list.__iadd__" ⟨[l,.ref d],[]⟩)) _ _ s
 refine wpAny_bind (wpAny_newObj_type ?_)
 refine wpAny_pure ⟨plainId_quiet PySem.F.plain_list_iadd _,codeAny_builtin PySem.F.entry_list_iadd ?_⟩
 rw[Around.under_plainId PySem.F.plain_list_iadd _]
 have hS:(s.heap.push { cls:=.type "list",data:=.seq ([]:List Value).toArray }).get? s.heap.objs.size=some { cls:=.type "list",data:=.seq ([]:List Value).toArray }:=b5 _ rfl
 have hr₁:J5 (s.heap.push { cls:=.type "list",data:=.seq ([]:List Value).toArray }) d es ep t:=hr.at' fun o e=>a7 _ e
 show wpAny _ A.in1 (Builtin.List.listExtendWith (.ref s.heap.objs.size) (.ref d) (.ref s.heap.objs.size)) _ _ _
 refine ac4 (A:=A) (s:={ s with heap:=s.heap.push { cls:=.type "list",data:=.seq ([]:List Value).toArray } }) (R:=fun r s'=>match r with
  | .ok (.ret v)=>wpAny (model prog w) A (match v with
   | .ref a=>do
    let o <- load a
    match o.data with
    | .seq xs _=>pure xs.toList
    | _=>unsupported "internal:collect"
   | _=>unsupported "internal:collect") Q E s'
  | .ok _=>False
  | .error e=>E e s') hh hr₁ Wk hlen _ _ 0 hS fun h' tk acc' c' hk hS' hacc=>?_
 show wpAny _ A (load s.heap.objs.size >>= _) _ _ _
 refine wpAny_bind (wpAny_load hS' ?_)
 exact wpAny_pure (hQ h' tk acc' (fun b o e=>hk b o (c3 (b0 e)) (a7 _ e)) hacc)
end
end L2
namespace Sett
open PySem PySem.SetTable PyProof.Rows
def R9 (w:World)(h:Heap)(S:Addr)(ns:List Int):Prop:=
 ∃ o es ep t,h.get? S=some o/\o.ExactSet/\o.data=.set es ep t/\Tb t es/\t.plain=true/\(w.params.followText "set-order"=true\/t.led=true)/\(∀ e∈es.toList,∃ (n:Int) (tk:Tok),0<=n/\n<24/\e=(n,.int n tk))/\(es.toList.map (·.1)).Perm ns/\ns.Nodup
theorem ay0:∀ k:Nat,k<24->hashInt (k:Int)=k:=by decide +kernel
section
variable {prog:Program} {w:World} {A:Around} {E:Value->Shared->Prop} {s:Shared}
theorem ah9 {n:Int}(h0:0<=n)(h1:n<24):(intKind prog w).hash n=n:=by
 obtain⟨k,rfl⟩:∃ k:Nat,n=(k:Int):=⟨n.toNat,by omega⟩
 exact ay0 k (by omega)
theorem ay2 {t:SetTable}{es:Array En}(T:Tb t es){h:Int}{n:Nat}(hn:n<10*turns t.mask)(hfr:∀ i:Nat,t.place[i]?≠some (it t n (t.probeStart h)).j)(hocc:∀ k,k<n->∃ i':Nat,t.place[i']?=some (it t k (t.probeStart h)).j):t.freeSlot h=some ((it t n (t.probeStart h)).j,false):=by
 unfold freeSlot probe
 rw[R0 (hashAt:=fun _=>h+1) (h:=h) n (10*turns t.mask) (t.probeStart h) hn (fun k hk=>let ⟨i',e⟩:=hocc k hk;⟨i',F6 T.asc e,by show h+1≠h;omega⟩) (P2 T.dum hfr),Q7]
 rfl
theorem ac5 {S:Addr}{ns:List Int}{n:Int}{tk:Tok}{Q:Bool->Shared->Prop}(hS:R9 w s.heap S ns)(h0:0<=n)(h24:n<24)(hlen:ns.length<300)
  (hq:∀ (b:Bool) (h':Heap),Heap.SameBut S s.heap h'->R9 w h' S (if n∈ns then ns else n::ns)->Q b { s with heap:=h',toks:=s.toks+1 }):wpAny (model prog w) A (setAdd S (.int n tk)) Q E s:=by
 unfold setAdd
 refine wpAny_holding (wpAny_bind ((intKind prog w).pyHash (k:=n) (intKind_is _ _ _ _) ?_))
 obtain⟨o,es,ep,t,ho,hex,hd,T,hpl,hled,hen,hpm,hnd⟩:=hS
 have hsz:es.size=ns.length:=by rw[<- hpm.length_eq,b4,d8]
 have hsm:=ah9 (prog:=prog) (w:=w) h0 h24
 have hel:ElemsOf (intKind prog w) es.toList:=fun e he=>by
  obtain⟨m,u,m0,m1,rfl⟩:=hen e he
  exact⟨⟨m,intKind_is _ _ _ _,(ah9 m0 m1).symm⟩,rfl⟩
 have his:∀ (m:Int) (u:Tok),(intKind prog w).is n (.int m u)=true↔m=n:=fun m u=>by
  rw[KeyKind.is_eq_decide (knd:=intKind prog w) (k:=m) (intKind_is _ _ _ _) n,decide_eq_true_iff]
  exact eq_comm
 have hmem:n∈ns↔∃ e∈es.toList,(intKind prog w).is n e.2=true:=by
  rw[<- hpm.mem_iff,k7]
  constructor
  ·rintro⟨e,he,rfl⟩
   obtain⟨m,u,m0,m1,rfl⟩:=hen e he
   exact⟨_,he,(his _ _).mpr rfl⟩
  ·rintro⟨e,he,h⟩
   obtain⟨m,u,m0,m1,rfl⟩:=hen e he
   exact⟨_,he,(his _ _).mp h⟩
 unfold setAddHashed setAddHashedIn
 refine wpAny_holding (wpAny_bind (wpAny_setState_of (s:={ s with toks:=s.toks+1 }) ho hd T.fits ?_))
 dsimp only
 rw[byScan_of (knd:=intKind prog w) (x:=.int n tk) rfl (by rw[hsz];unfold scanBound;omega) hel]
 simp only[↓reduceIte]
 unfold setAddByScan
 refine wpAny_bind ?_
 refine wpAny_bind (wpAny_rule ?_)
 refine wpAny_bind (wpAny_setScan_of (knd:=intKind prog w) (s:={ s with toks:=s.toks+1 }) (intKind_is _ _ _ _) ho hd T.fits hel ?_)
 cases hr:List.findIdx? (fun e=>(intKind prog w).is n e.2) es.toList with
 | some j =>
  dsimp only
  obtain⟨hj,hpj,_⟩:=List.findIdx?_eq_some_iff_getElem.mp hr
  have hin:n∈ns:=hmem.mpr ⟨es.toList[j],G8 hj,hpj⟩
  refine wpAny_pure (wpAny_pure ?_)
  have:=hq false s.heap (Heap.SameBut.refl S s.heap)
  rw[if_pos hin]at this
  exact this ⟨o,es,ep,t,ho,hex,hd,T,hpl,hled,hen,hpm,hnd⟩
 | none =>
  dsimp only
  have hin:n∉ns:=fun h=>by
   obtain⟨e,he,hp⟩:=hmem.mp h
   have:=List.findIdx?_eq_none_iff.mp hr e he
   rw[hp]at this
   cases this
  rw[hsm]
  have hh:∀ e∈es.toList,e.1≠n:=fun e he z=>hin (hpm.mem_iff.mp (k7.mpr ⟨e,he,z⟩))
  obtain⟨m,g1,g2,g3,g4,_⟩:=T.absent hh
  obtain⟨hp1,T1⟩:=T.put (h:=n) (x:=Value.int n tk) g1 g2 g3 g4
  have hfs:=ay2 T g1 g2 g4
  have hled1:(t.put (it t m (t.probeStart n)).j).1.mask=t.mask/\(t.put (it t m (t.probeStart n)).j).1.led=t.led/\(t.put (it t m (t.probeStart n)).j).1.plain=t.plain:=⟨rfl,rfl,rfl⟩
  have hL:layNew t es n (.int n tk)=(insertAt es (t.put (it t m (t.probeStart n)).j).2 (n,.int n tk),(t.put (it t m (t.probeStart n)).j).1,false,false):=by
   unfold layNew
   rw[hfs]
   dsimp only
   have:=T1.fits
   unfold SetTable.orStandIn
   rw[this]
   rfl
  rw[hL]
  generalize hpt:t.put (it t m (t.probeStart n)).j=tp at hp1 T1 hled1 ⊢
  obtain⟨t1,p⟩:=tp
  dsimp only at hp1 T1 hled1 ⊢
  obtain⟨hmk,hl1,hpl1⟩:=hled1
  have hsz1:(insertAt es p (n,Value.int n tk)).size=es.size+1:=E2 hp1
  have fits1:(insertAt es p (n,Value.int n tk)).size<=sizeLine:=by rw[hsz1,hsz,sizeLine_eq];omega
  have made:∀ (h':Heap) (o':Obj) (es':Array En) (ep':Nat) (t':SetTable),h'.get? S=some o'->o'.ExactSet->o'.data=.set es' ep' t'->Tb t' es'->t'.plain=true->t'.led=t.led->es'.toList.Perm (insertAt es p (n,Value.int n tk)).toList->R9 w h' S (n::ns):=fun h' o' es' ep' t' ho' hex' hd' T' hp' hl' hpm'=>by
   have hmemE:∀ e,e∈es'.toList↔e=(n,Value.int n tk)\/e∈es.toList:=fun e=>by rw[hpm'.mem_iff];exact ah4 hp1 e
   have hpi:(insertAt es p (n,Value.int n tk)).toList.Perm ((n,Value.int n tk)::es.toList):=by
    unfold insertAt
    rw[Array.toList_append,aB3,T4]
    refine(aG3).trans ?_
    refine List.Perm.cons _ (List.Perm.of_eq ?_)
    simp only[Array.toList_extract,List.extract_eq_drop_take,List.drop_zero,Nat.sub_zero]
    rw[w5 (l:=List.drop p es.toList) (by rw[X0,d8];exact a8 _)]
    exact at5 p es.toList
   refine⟨o',es',ep',t',ho',hex',hd',T',hp',by rw[hl'];exact hled,fun e he=>?_,?_,m6.mpr ⟨hin,hnd⟩⟩
   ·rcases(hmemE e).mp he with rfl | he
    ·exact⟨n,tk,h0,h24,rfl⟩
    ·exact hen e he
   ·exact((hpm'.trans hpi).map _).trans (hpm.cons n)
  refine wpAny_bind (wpAny_pure ?_)
  rw[hpl1,hpl,if_pos rfl]
  refine wpAny_bind ?_
  rw[hashByValue_scannable 8 (x:=.int n tk) rfl]
  refine wpAny_pure ?_
  rw[show plainKind (Value.int n tk)=true from rfl]
  simp only[↓reduceIte]
  refine wpAny_bind (wpAny_storeSet_of (s:={ s with toks:=s.toks+1 }) ho hd ?_ fits1)
  have ho1:=stored (es':=insertAt es p (n,Value.int n tk)) (t':=t1) ho hd
  have hsb1:=Heap.SameBut.update s.heap S (Obj.putSet (insertAt es p (n,Value.int n tk)) t1)
  rw[af7 T1]
  simp only[af4,am0,decide_eq_true_eq]
  by_cases hful:t1.mask*3<=(insertAt es p (n,Value.int n tk)).size*5
  ·rw[if_pos hful]
   rw[hsz1,hmk]at hful
   obtain⟨q1,q2,q3⟩:=Q9 T.good T.nf hful (by rw[hsz];exact hlen)
   obtain⟨t3,order,hl3,T3,hpm3,hord,hld3,hpl3⟩:=Z9 (M:=sizeAbove (grown (es.size+1)) - 1) (finger:=t1.finger) (moves:=t1.movedTo (sizeAbove (grown (es.size+1)) - 1)) (led:=t1.led) (plain:=t1.plain) (es:=insertAt es p (n,Value.int n tk)) q1 (by rw[hsz1];exact q2)
   have hrel:relayAll t1 (insertAt es p (n,Value.int n tk)) (grown (insertAt es p (n,Value.int n tk)).size)=(order.filterMap ((insertAt es p (n,Value.int n tk))[·]?),t3,false):=by
    unfold relayAll relaid
    rw[hsz1,hl3]
    dsimp only
    have hc:coversAll order (es.size+1)=true:=by
     unfold coversAll
     rw[<- hsz1]
     exact List.isPerm_iff.mpr hord
    rw[hc,T3.fits]
    rfl
   rw[hrel]
   dsimp only
   have hsz3:(order.filterMap ((insertAt es p (n,Value.int n tk))[·]?)).size=(insertAt es p (n,Value.int n tk)).size:=by
    rw[<- d8,hpm3.length_eq,d8]
   refine wpAny_bind (wpAny_pure ?_)
   refine wpAny_bind (wpAny_storeSet_of (s:={ s with heap:=s.heap.update S (Obj.putSet (insertAt es p (n,Value.int n tk)) t1),toks:=s.toks+1 }) ho1 rfl ?_ (by rw[hsz3];exact fits1))
   have ho2:=stored (es':=order.filterMap ((insertAt es p (n,Value.int n tk))[·]?)) (t':=t3) ho1 rfl
   have hsb2:=hsb1.trans (Heap.SameBut.update _ S (Obj.putSet (order.filterMap ((insertAt es p (n,Value.int n tk))[·]?)) t3))
   refine wpAny_pure (wpAny_pure ?_)
   have:=hq true _ hsb2
   rw[if_neg hin]at this
   exact this (made _ _ _ _ _ ho2 hex rfl T3 (by rw[hpl3,hpl1,hpl]) (by rw[hld3,hl1]) hpm3)
  ·rw[if_neg hful]
   refine wpAny_pure (wpAny_pure ?_)
   have:=hq true _ hsb1
   rw[if_neg hin]at this
   exact this (made _ _ _ _ _ ho1 hex rfl (T1.full (by omega)) (by rw[hpl1,hpl]) hl1 (List.Perm.refl _))
end
def insI (ns:List Int)(k:Int):List Int:=if k∈ns then ns else k::ns
theorem ar4 {ns:List Int}{k x:Int}:x∈insI ns k↔x=k\/x∈ns:=by
 unfold insI
 split
 ·rename_i h
  exact⟨.inr,fun z=>z.elim (fun e=>e ▸ h) id⟩
 ·exact b9
theorem U1:∀ (l ns:List Int) (x:Int),x∈l.foldl insI ns↔x∈l\/x∈ns
 | [],ns,x=>by simp
 | k::l,ns,x=>by
  rw[A1,U1 l,ar4,b9]
  exact⟨fun h=>h.elim (fun z=>.inl (.inr z)) fun z=>z.elim (fun e=>.inl (.inl e)) .inr,fun h=>h.elim (fun z=>z.elim (fun e=>.inr (.inl e)) .inl) fun z=>.inr (.inr z)⟩
theorem R4:∀ (l ns:List Int),(l.foldl insI ns).length<=ns.length+l.length
 | [],ns=>a8 _
 | k::l,ns=>by
  rw[A1]
  have h1:=R4 l (insI ns k)
  have h2:(insI ns k).length<=ns.length+1:=by unfold insI;split<;>simp
  rw[j3]
  omega
section
variable {prog:Program} {w:World}
theorem V1 {A:Around}{R:Result->Shared->Prop}{I:Addr}{fp wr:List Addr}{G:Array GenState->Array GenState->Prop}{n:Nat}{P:Nat->Value->Prop}{St:Nat->Shared->Prop}
  (W:WalksS prog w A.in1 I fp wr G n P St)(S:Addr)(hSf:S∉fp)(keys:List Int)(hn:keys.length=n)(hb:n<300)
  (hkey:∀ i v,P i v->∃ (k:Int) (tk:Tok),v=.int k tk/\keys[i]?=some k/\0<=k/\k<24) :
  ∀ (c i:Nat) (s:Shared),n - i=c->i<=n->St i s->R9 w s.heap S ((keys.take i).foldl insI []) ->
   (∀ s',Moved (S::wr) G s s'->R9 w s'.heap S (keys.foldl insI [])->R (.ok (.ret .none)) s') ->
   codeAny (model prog w) A (.builtin "set.update.loop" ⟨[.ref S,.ref I],[]⟩) R s:=by
 have hSw:S∉wr:=fun h=>hSf (W.sub _ h)
 have hsub:∀ b∈wr,b∈S::wr:=fun b hb=>c6 _ hb
 have setKept:∀ {s s':Shared} {ks:List Int},R9 w s.heap S ks->(∀ b o,b∉wr->s.heap.get? b=some o->s'.heap.get? b=some o)->R9 w s'.heap S ks:=fun {s s' ks} hS hk=>by
  obtain⟨o,es,ep,t,ho,rest⟩:=hS
  exact⟨o,es,ep,t,hk S o hSw ho,rest⟩
 intro c
 induction c with
 | zero =>
  intro i s hk hi hst hS hR
  have hin:i=n:=by omega
  subst hin
  refine codeAny_builtin PyProof.Rows.F.entry_set_update_loop ?_
  rw[Around.under_plainId PyProof.Rows.F.plain_set_update_loop _]
  show wpAny _ A.in1 (pyNext (.ref I) >>= _) _ _ s
  refine wpAny_bind (W.done s _ _ hst fun s' hm=>?_)
  show wpAny _ A.in1 (ret Value.none) _ _ s'
  refine wpAny_pure (hR s' (hm.mono hsub) ?_)
  have:=setKept hS hm.heap
  rw[w5 (by omega)]at this
  exact this
 | succ c ih =>
  intro i s hk hi hst hS hR
  have hlt:i<n:=by omega
  refine codeAny_builtin PyProof.Rows.F.entry_set_update_loop ?_
  rw[Around.under_plainId PyProof.Rows.F.plain_set_update_loop _]
  show wpAny _ A.in1 (pyNext (.ref I) >>= _) _ _ s
  refine wpAny_bind (W.item i s _ _ hlt hst fun v s' hP hst' hm=>?_)
  obtain⟨k,tv,rfl,hki,k0,k1⟩:=hkey i v hP
  have hS':=setKept (s':=s') hS hm.heap
  show wpAny _ A.in1 (holding [Value.int k tv] (setAdd S (.int k tv)) >>= _) _ _ s'
  refine wpAny_bind (wpAny_holding ?_)
  have hlen:((keys.take i).foldl insI []).length<300:=by
   have:=R4 (keys.take i) []
   rw[v3]at this
   simp only[C0]at this
   omega
  refine ac5 hS' k0 k1 hlen fun b h' hsb hS2=>?_
  have htk:s'.toks<=s'.toks+1:=t7 _
  have hS3:R9 w h' S ((keys.take (i+1)).foldl insI []):=by
   rw[n6,hki,aF9]
   exact hS2
  refine wpAny_pure ⟨plainId_quiet PyProof.Rows.F.plain_set_update_loop _,ih (i+1) _ (by omega) hlt (W.frame _ s' _ _ hst' htk fun b hb o e=>?_) hS3 fun s'' hm'' hS''=>?_⟩
  ·rw[hsb.2 b (fun h:b=S=>hSf (h ▸ hb))];exact e
  ·refine hR s'' (Moved.trans W.gtrans ((hm.mono hsub).then_heap htk fun b o hb e=>?_) hm'') hS''
   rw[hsb.2 b (fun h:b=S=>hb (h ▸ c9))];exact e
variable {A:Around} {E:Value->Shared->Prop} {s:Shared}
theorem au8 (a:Value){Q₁:Value->Shared->Prop}(h:Q₁ (.ref s.heap.objs.size) { s with heap:=s.heap.push { cls:=.type "set",dict:=none,data:=.set #[] 0 (.fresh 0 0 (!w.params.followText "set-order")) } }):codeAny (model prog w) A (.call (.builtin "set.__new__") ⟨[.type "set",a],[]⟩) (wants Q₁ E) s:=by
 refine codeAny_of_tree ?_;show wpAny _ A.in1 (do checkBuiltinCall "set.__new__" ⟨[.type "set",a],[]⟩;again (.builtin "set.__new__" ⟨[.type "set",a],[]⟩)) _ _ s
 refine wpAny_bind (wpAny_of_eq (F.newCall_set_1 a) (wpAny_pure ⟨plainId_quiet F.plain_set_new _,codeAny_builtin F.entry_set_new ?_⟩));rw[Around.under_plainId F.plain_set_new _]
 unfold Builtin.«set.__new__» Builtin.Frozenset.newClass;have hsub:=sub_set_self
 obtain⟨hp,g,d,tk,os⟩:=s
 dsimp only
 wp_walk
 refine wpAny_askSetting (wpAny_pure ?_);dsimp only
 simp only[newObj];refine wpAny_bind (wpAny_alloc (wpAny_pure ?_))
 exact wpAny_pure h
set_option maxRecDepth 100000 in
set_option maxHeartbeats 3200000 in
theorem Y1 {l:Addr}{items:Array Value}{keys:List Int}{Q:Value->Shared->Prop}(hh:A.handled=none)(hl:s.heap.IsList l items)(hn:keys.length=items.size)(hb:items.size<300)
  (hkey:∀ (i:Nat) (v:Value),items[i]?=some v->∃ (k:Int) (tk:Tok),v=.int k tk/\keys[i]?=some k/\0<=k/\k<24)
  (h:∀ (h':Heap) (tk:Nat),R9 w h' s.heap.objs.size (keys.foldl insI [])->(∀ b o,s.heap.get? b=some o->h'.get? b=some o)->Q (.ref s.heap.objs.size) { s with heap:=h',toks:=tk }) :
  wpAny (model prog w) A (call (.type "set") [.ref l]) Q E s:=by
 obtain⟨c,tl,hmro⟩:=F.called_set.mro
 have hmade:=F.called_set.made
 have hsub:=F.called_set.sub
 refine wpAny_call (codeAny_of_tree ?_)
 show wpAny _ _ (callAny (.type "set") _) _ _ _
 refine wpAny_pure ⟨Code.quiet_builtin _ (by decide +kernel),codeAny_builtin F.entry_type_call ?_⟩
 rw[Around.under_plain (weight_type_call_type "set" [.ref l] []) rfl]
 have h1:=F.called_set.notType
 have h2:=F.called_set.canCreate
 have hct:=F.typeCall_set_1 (.ref l)
 repeat (any_goals (first | assumption | wp_step))
 refine codeAny_mono (au8 (.ref l) (E:=E) (Q₁:=fun obj s₁=>∃ led:Bool,(w.params.followText "set-order"=true\/led=true)/\obj=.ref s.heap.objs.size/\s₁={ s with heap:=s.heap.push { cls:=.type "set",dict:=none,data:=.set #[] 0 (.fresh 0 0 led) } }) ⟨_,by cases w.params.followText "set-order"<;>simp,rfl,rfl⟩) fun r s₁ hr=>?_
 cases r with
 | error e=>exact hr
 | ok fl =>
  cases fl with
  | ret obj =>
   obtain⟨led,hled,rfl,rfl⟩:=hr
   have hS:(s.heap.push { cls:=.type "set",dict:=none,data:=.set #[] 0 (.fresh 0 0 led) }).get? s.heap.objs.size=some { cls:=.type "set",dict:=none,data:=.set #[] 0 (.fresh 0 0 led) }:=b5 _ rfl
   have hT:Shared.TypeIs { s with heap:=s.heap.push { cls:=.type "set",dict:=none,data:=.set #[] 0 (.fresh 0 0 led) } } (.ref s.heap.objs.size) "set":=⟨_,hS,rfl⟩
   have hli:=F.called_set.init.lookup
   have hbi:=F.called_set.init.bind (.ref s.heap.objs.size)
   repeat (any_goals (first | assumption | wp_step))
   refine codeAny_mono (codeAny_call_builtin (R:=wants (fun r s₂=>r=.none/\∃ h' tk,s₂={ s with heap:=h',toks:=tk }/\R9 w h' s.heap.objs.size (keys.foldl insI [])/\(∀ b o,s.heap.get? b=some o->h'.get? b=some o)) E) F.called_set.init.plain F.entry_set_init (check_set_init_1 hT ?_)) fun r₂ s₂ hr₂=>?_
   ·obtain⟨ol,hol,hcl,nl,hdl⟩:=hl
    obtain⟨ocls,odict,odata,oslots⟩:=ol
    simp only at hcl hdl
    subst hcl;subst hdl
    have hol':(s.heap.push { cls:=.type "set",dict:=none,data:=.set #[] 0 (.fresh 0 0 led) }).get? l=some { cls:=.type "list",dict:=odict,data:=.seq items nl,slots:=oslots }:=a7 _ hol
    have hsls:=F.sub_list_set
    have hslf:=F.sub_list_frozenset
    have hne:(Value.type "list" == Value.type "dict")=false:=by decide
    have hl1:(s.heap.push { cls:=.type "set",dict:=none,data:=.set #[] 0 (.fresh 0 0 led) }).IsList l items:=⟨_,hol',rfl,nl,rfl⟩
    unfold Builtin.«set.__init__» noKeywords Builtin.Frozenset.updateFrom
    generalize hPI:pyIter=PI
    wp_walk
    subst hPI
    refine wpAny_pyIter_list hl1 ?_
    refine wpAny_bind (wpAny_runValue ?_)
    have hlS:l<s.heap.objs.size:=b0 hol
    have hh3:A.in1.in1.in1.handled=none:=by simp[hh]
    have hneI:l≠(s.heap.push { cls:=.type "set",dict:=none,data:=.set #[] 0 (.fresh 0 0 led) }).objs.size:=by
     rw[l8];exact c3 (j0 hlS)
    have hSf:s.heap.objs.size∉[(s.heap.push { cls:=.type "set",dict:=none,data:=.set #[] 0 (.fresh 0 0 led) }).objs.size,l]:=by
     rw[l8];simp only[b9,b8,j5,or_false,not_or]
     exact⟨c3 (Nat.lt_succ_self _),u5 hlS⟩
    refine V1 ((Walks.list hh3 _ l hneI items).toS) s.heap.objs.size hSf keys hn hb hkey (items.size - 0) 0 _ (by omega) (i3 _)
     ⟨⟨_,b5 _ rfl,rfl,rfl⟩,(hl1.push _)⟩ ?hS0 ?hR
    case hS0 =>
     have hget:((s.heap.push { cls:=.type "set",dict:=none,data:=.set #[] 0 (.fresh 0 0 led) }).push { cls:=.type "list_iterator",data:=.fields #[.ref l,.int 0 0] }).get? s.heap.objs.size
       = some { cls:=.type "set",dict:=none,data:=.set #[] 0 (.fresh 0 0 led) }:=a7 _ hS
     refine⟨_,_,_,_,hget,⟨rfl,rfl,rfl⟩,rfl,⟨rfl,rfl,?_,?_,.inl rfl,by show 0*5<7*3;decide,?_⟩,rfl,hled,(fun _ h=>nomatch h),List.Perm.nil,D5⟩
     ·intro i j a b hij ea
      simp[SetTable.fresh]at ea
     ·intro i j ea
      simp[SetTable.fresh]at ea
     ·intro i e ea
      simp at ea
    case hR =>
     intro s' hm hS'
     obtain⟨h',g',d',tk',os'⟩:=s'
     have eg:g'=s.gens:=hm.gens
     have ed:d'=s.drawn:=hm.drawn
     have eo:os'=s.os:=hm.os
     subst eg;subst ed;subst eo
     show wpAny _ _ _ _ _ _
     refine wpAny_pure ?_
     show wpAny _ _ (ret Value.none) _ _ _
     refine wpAny_pure ⟨rfl,h',tk',rfl,hS',fun b o e=>?_⟩
     have hlt:=b0 e
     have hb1:b≠s.heap.objs.size:=c3 hlt
     have hb2:b≠(s.heap.push { cls:=.type "set",dict:=none,data:=.set #[] 0 (.fresh 0 0 led) }).objs.size:=by
      rw[l8];exact c3 (j0 hlt)
     exact hm.heap b o (by simp only[b9,b8,j5,or_false,not_or];exact⟨hb1,hb2⟩) (a7 _ (a7 _ e))
   ·cases r₂ with
    | error e=>exact hr₂
    | ok fl₂ =>
     cases fl₂ with
     | ret r =>
      obtain⟨rfl,h',tk,rfl,hS',hk'⟩:=hr₂
      repeat (any_goals (first | assumption | wp_step))
      exact h _ _ hS' hk'
     | _=>exact hr₂.elim
  | _=>exact hr.elim
end
end Sett
namespace L2
open PySem PySem.Spec PyProof.Rows PySem.SeqAt
def aF3 (w:World)(S:Addr)(ns:List Int):HO:=.ext fun h=>Sett.R9 w h S ns
theorem map_fst {l:List En}(h:∀ e∈l,∃ (n:Int) (tk:Tok),0<=n/\n<24/\e=(n,.int n tk)):IntsAre (l.map (·.2)) (l.map (·.1)):=by
 induction l with
 | nil=>exact .nil
 | cons e l ih =>
  obtain⟨n,tk,_,_,rfl⟩:=h e c9
  exact .cons n tk (ih fun e he=>h e (c6 _ he))
theorem ad8 {es:Array En}{acc:Array Value}(h:ItemsOf (fun i v=>∃ e,es[i]?=some e/\v=e.2) acc es.size):acc.toList=es.toList.map (·.2):=by
 apply S9
 intro i
 rw[c5,i8,c5]
 cases e:acc[i]? with
 | none =>
  have:acc.size<=i:=by simpa using e
  have h1:es.size<=i:=by have:=h.1;omega
  rw[v7 h1];rfl
 | some v =>
  obtain⟨en,he,rfl⟩:=h.2 i v e
  rw[he];rfl
theorem ag2 {H:Hp}{l:Addr}{o:HO}(h:H l=none):m5 H (upd H l o):=fun b u e=>by
 rw[j1 (l5 e h)]
 exact e
section
variable {X:Cx}
theorem al4 (hc:X.calm=true):A9 X (.type "set") (fun xs H Q=>∃ (p:Addr) (ns:List Int),xs=[.ref p]/\SqL X.K H p (ns.map V.int)/\ns.length<300/\(∀ n∈ns,0<=n/\n<24)/\∀ (S:Addr) (H':Hp),m5 H H'->H S=none->H' S=some (aF3 X.w S (ns.foldl Sett.insI []))->Q (.ref S) H'):=by
 intro pins s σ H xs us Q I r h
 obtain⟨p,ns,rfl,hq,hb,hsm,q⟩:=h
 obtain⟨u,rfl,rx⟩:=vals1 r
 cases rx
 obtain⟨its,r',pl,hz⟩:=I.list hq
 have hi:=intsAre_of r'
 have hl:its.length=ns.length:=IntsAre.length hi
 refine Sett.Y1 (keys:=ns) (items:=its.toArray) (I.ok.hd hc) pl.isList (by simp[hl]) (by simp;omega) (fun i v hv=>?_) fun h' tk hS kp=>?_
 ·obtain⟨t,rfl⟩:=IntsAre.int_at hi i v (by simpa using hv)
  have hi':i<ns.length:=by
   rw[<- hl]
   have:=(ab5.mp hv).1
   simpa using this
  have e:ns[i]?=some (ns.getD i 0):=by rw[k8,d4 hi'];rfl
  exact⟨_,t,rfl,e,hsm _ (b6 e)⟩
 refine⟨.ref s.heap.objs.size,_,I.laid (o:=aF3 X.w s.heap.objs.size (ns.foldl Sett.insI [])) (t':=tk) kp (a8 _) ?_,rfl,q _ _ (ag2 (I.hok.fresh (a8 _))) (I.hok.fresh (a8 _)) d3⟩
 refine⟨hS,?_,fun h1 h2 hS1 hkeep=>?_⟩
 ·obtain⟨o,_,_,_,ho,_⟩:=hS
  exact⟨o,ho⟩
 ·obtain⟨o,es,ep,t,ho,rest⟩:=hS1
  exact⟨o,es,ep,t,hkeep o ho,rest⟩
theorem ae5 (hc:X.calm=true):A9 X (.builtin "sorted") (fun xs H Q=>∃ (S:Addr) (ns:List Int),xs=[.ref S]/\H S=some (aF3 X.w S ns)/\ns.length<64/\∀ (l:Addr) (zs:List Int) (H':Hp),m5 H H'->H l=none->H' l=some (.lst (zs.map V.int))->zs.Perm ns->zs.Pairwise (·<=·)->Q (.ref l) H'):=by
 intro pins s σ H xs us Q I r h
 obtain⟨S,ns,rfl,hH,h64,q⟩:=h
 obtain⟨u,rfl,rx⟩:=vals1 r
 cases rx
 obtain⟨⟨o,es,ep,t,ho,hex,hd,T,hpl,hled,hen,hpm,_⟩,_⟩:=I.hok S _ hH
 have W:WkS X.w es t:=⟨T.fits,T.asc,hpl,hled⟩
 have hop:=T6 X.w S ep es
 have hen':∀ e∈(E8 X.w S ep es).toList,∃ (n:Int) (tk:Tok),0<=n/\n<24/\e=(n,.int n tk):=fun e he=>hen e (hop.mem_iff.mp he)
 have hI:=map_fst hen'
 have hms:((E8 X.w S ep es).toList.map (·.1)).Perm ns:=(hop.map _).trans hpm
 generalize hms':(E8 X.w S ep es).toList.map (·.1)=ms at hI hms
 have hlen:((E8 X.w S ep es).toList.map (·.2)).length=ms.length:=hI.length
 have hl2:=hms.length_eq
 have hsz:(E8 X.w S ep es).size=es.size:=by
  have:=hop.length_eq
  simpa using this
 have hsz2:(E8 X.w S ep es).size=ms.length:=by rw[<- hlen,b4,d8]
 refine Calls.call_function_entry kind_sorted plain_sorted entry_sorted (args_sorted1 _) ?_
 unfold Builtin.«sorted»
 refine wpAny_bind (m:=checkCount "sorted" 1 1 _) (wpAny_pure ?_)
 refine wpAny_bind (Y2 (I.ok.hd hc) ⟨o,ho,hex,hd⟩ W (by rw[sizeLine_eq];omega) fun h' tk acc kp hacc=>?_)
 rw[<- hsz]at hacc
 rw[ad8 hacc]
 generalize (E8 X.w S ep es).toList.map (·.2)=ks at hI hlen
 refine wpAny_bind (wpAny_newList ?_ (by rw[sizeLine_eq];omega))
 have hoL:(h'.push (seqObj "list" ks.toArray 0)).get? h'.objs.size=some (seqObj "list" ks.toArray 0):=b5 _ rfl
 refine wpAny_bind (wpAny_holding (wpAny_call_entry slot_list_sort (s:={ s with heap:=h'.push (seqObj "list" ks.toArray 0),toks:=tk }) ⟨_,hoL,rfl⟩ entry_list_sort (list_sort_tree (s:={ s with heap:=h'.push (seqObj "list" ks.toArray 0),toks:=tk }) hoL hI (by omega) fun out ns' a1 a2 a3=>⟨_,rfl,?_⟩) (args_list_sort _)))
 obtain⟨e1,e2⟩:=P1 (vs:=ks) (I.tok tk) kp a1 (by rw[a2.length_eq];omega)
 exact wpAny_pure ⟨_,rfl,.ref _,_,e2,rfl,q _ ns' _ (ag2 e1) e1 d3 (a2.trans hms) a3⟩
end
end L2
namespace L2
open PySem PySem.Spec PyProof.Rows
section
variable {X:Cx}
theorem ae4 {x0:Str} {elt iter tg:Expr} {ifs:List Expr} {scope:Scope} {pos ipos:Pos} {cl:List (Str × Addr)} {N':List Str} {lk:List (Option Nat)} {wi:TI} {g:TG} {tt:TT} {te:TE} {use:Option (Value->Sem Unit)} {R:Value->Shared->Prop} {Q:VK} {pins:List (Addr × Obj)} {s:Shared} {σ:St} {H:Hp}
  (hc:X.calm=true) (hi:PI X tg iter wi) (hclos:closureFor scope X.env=pure cl) (hkind:scope.kind=.function)
  (hnames:∀ y∈scope.names,y.2=.local->scope.names.lookup y.1=some .local) (hcl:S0 X.env cl) (hfr:ai7 x0 scope.names cl=true) (hx0:cl.lookup x0=none) (hcs:∀ n,cellsFrom n scope.names cl=(x0,n)::cl) (hpc:∀ h,pushCells h scope.names=h.push { cls:=.type "cell",data:=.cell none }) (hlk:ab1 X N' lk scope cl)
  (hg:∀ s3 H3 fp,PG (q8 X x0 scope cl N' s3 H3 fp fun _ _=>False) tg g) (ht:∀ s3 H3 fp,PTs (q8 X x0 scope cl N' s3 H3 fp fun _ _=>False) ifs tt) (he:∀ s3 H3 fp,PE (q8 X x0 scope cl N' s3 H3 fp fun _ _=>False) elt te)
  (hs:∀ x,foldedSetIterable iter X.env x=pure x) (I:Inv X pins σ H s) (h:X7 wi lk g tt te σ H Q)
  (hend : ∀ (C D : Addr) (s' : Shared) (H' : Hp), Inv X pins σ H' s' -> Q (.ref D) H' -> H' C = none -> C ≠ X.env.locals -> X.s₀.heap.objs.size <= C -> (∀ x c, X.env.cells.lookup x = some c -> c ≠ C) -> (∀ p ∈ X.pn ++ pins, p.1 ≠ C) -> (∃ m, s'.heap.Ns C m) ->
   compPost (model X.prog X.w) X.A X.xe use R (.ref D) C (.ok .next) s') :
  wpAny (model X.prog X.w) X.A (comprehension (.ListComp elt [⟨tg,iter,ifs,0⟩] scope pos) scope X.env ipos (newList []) false (eval iter X.env) use) R X.xe s:=by
 refine wpAny_comprehension_free (use:=use) rfl hs hclos hkind hnames (thn (hi pins s σ H _ I h) fun v s1 h1=>thn h1 fun itv s2 h2=>?_)
 obtain⟨it,fp,tn,J,H2,e,I2,T,st2,f2,q⟩:=h2
 subst e
 refine wpAny_newList ?_ (i3 _)
 have hD:H2 s2.heap.objs.size=none:=I2.hok.fresh (a8 _)
 have I3:=I2.lnew (ys:=[]) (its:=[]) (t':=s2.toks) .nil (i3 _)
 obtain⟨W,⟨m0,w0⟩,turn⟩:=q s2.heap.objs.size hD
 have fpl:∀ b∈fp,b<s2.heap.objs.size:=fun b hb=>by
  obtain⟨o,ho,_⟩:=T.obj 0 s2.heap st2 b hb
  exact b0 ho
 refine aw9 hcs hpc ?_
 dsimp only
 have e3:s2.heap.push { cls:=.type "list",dict:=none,data:=.seq ([]:List Value).toArray }=s2.heap.push { cls:=.type "list",data:=.seq ([]:List Value).toArray }:=rfl
 generalize hh3:s2.heap.push { cls:=.type "list",dict:=none,data:=.seq ([]:List Value).toArray }=h3 at *
 have I3':Inv X pins σ (upd H2 s2.heap.objs.size (.lst [])) { s2 with heap:=h3,toks:=s2.toks }:=I3
 have size3:h3.objs.size=s2.heap.objs.size+1:=by rw[<- hh3,l8]
 have f3:∀ b∈fp,K6 X pins (upd H2 s2.heap.objs.size (.lst [])) b:=fun b hb=>by
  obtain⟨f0,fr⟩:=f2 b hb
  exact⟨by rw[j1 (c3 (fpl b hb))];exact f0,fr⟩
 have hns1:((h3.push { cls:=.type "dict",data:=.dict #[] }).push { cls:=.type "cell",data:=.cell none }).Ns h3.objs.size (fun _=>none):=(Heap.Ns.new h3 (.type "dict")).keeps fun b o e=>a7 _ e
 have hc0:((h3.push { cls:=.type "dict",data:=.dict #[] }).push { cls:=.type "cell",data:=.cell none }).IsCell (h3.objs.size+1) none:=⟨_,by rw[<- l8 h3 { cls:=.type "dict",data:=.dict #[] }];exact b5 _ rfl,rfl⟩
 have up:∀ b u,h3.get? b=some u->((h3.push { cls:=.type "dict",data:=.dict #[] }).push { cls:=.type "cell",data:=.cell none }).get? b=some u:=fun b u eb=>a7 _ (a7 _ eb)
 generalize (h3.push { cls:=.type "dict",data:=.dict #[] }).push { cls:=.type "cell",data:=.cell none }=h1 at hns1 hc0 up ⊢
 have I4:Inv (q8 X x0 scope cl N' { s2 with heap:=h3,toks:=s2.toks } (upd H2 s2.heap.objs.size (.lst [])) fp fun _ _=>False) [] (F4 lk σ) (upd H2 s2.heap.objs.size (.lst [])) { s2 with heap:=h1,toks:=s2.toks }:=
  aa6 (s3:={ s2 with heap:=h3,toks:=s2.toks }) I3' f3 hkind hcl hfr hx0 hc0 hlk hns1 up fun b hb=>by show b<h3.objs.size;rw[size3];exact j0 (fpl b hb)
 have st4:tn 0 h1:=T.keep 0 s2.heap h1 st2 fun b hb o eb=>up b o (by rw[<- hh3];exact a7 _ eb)
 have hCs:h3.objs.size=(compEnvC scope ((x0,h3.objs.size+1)::cl) h3.objs.size X.env).locals:=rfl
 have stat:∀ {H':Hp},(∀ b∈fp,H' b=none)->∀ b∈fp,K6 (q8 X x0 scope cl N' { s2 with heap:=h3,toks:=s2.toks } (upd H2 s2.heap.objs.size (.lst [])) fp fun _ _=>False) [] H' b:=fun {H'} hn b hb=>by
  obtain⟨f0,f1,f2',f3',f4,f5⟩:=f3 b hb
  refine⟨hn b hb,?_,fun z=>?_,.inl hb,fun x c ex=>?_,fun p hp=>nomatch hp⟩
  ·show b≠h3.objs.size
   rw[size3]
   exact c3 (j0 (fpl b hb))
  ·rcases b9.mp (I3'.stkSub b z) with q | q
   ·exact f1 q
   ·exact f2' q
  ·have ex':((x0,h3.objs.size+1)::cl:List (Str × Addr)).lookup x=some c:=ex
   rw[x6]at ex'
   cases hb0:x == x0 with
   | true =>
    rw[hb0]at ex'
    cases ex'
    exact u5 (j0 (by rw[size3];exact j0 (fpl b hb)))
   | false =>
    rw[hb0]at ex'
    exact f4 x c (hcl.get ex')
 have fin:∀ (s':Shared) (σ':St) (H':Hp),Inv (q8 X x0 scope cl N' { s2 with heap:=h3,toks:=s2.toks } (upd H2 s2.heap.objs.size (.lst [])) fp fun _ _=>False) [] σ' H' s'->Q (.ref s2.heap.objs.size) H' ->
   compPost (model X.prog X.w) X.A X.xe use R (.ref s2.heap.objs.size) h3.objs.size (.ok .next) s':=fun s' σ' H' I' q'=>by
  obtain⟨m,hm,_⟩:=id I'.loc
  have I5:Inv X pins σ H' s':=I3'.call' (ch:=fp) I'.os I'.base I'.hok I'.bare fun b hb=>by
   obtain⟨f0,f1,f2',f3',f4,f5⟩:=f3 b hb
   exact⟨f3',f1,f4,f5⟩
  exact hend h3.objs.size s2.heap.objs.size s' H' I5 q' I'.free (u5 I3'.lt) I3'.sz (fun x c ex z=>by
   obtain⟨v',q2⟩:=I3'.cell x c ex
   exact absurd q2.lt (by rw[z];exact l6 _)) (fun p hp z=>absurd (b0 (I3'.pin p hp).1) (by rw[z];exact l6 _)) ⟨m,hm⟩
 have loop:∀ s5:Shared,s5={ s2 with heap:=h1,toks:=s2.toks } ->
   codeAny (model X.prog X.w) X.A (.compLoop (.ListComp elt [⟨tg,iter,ifs,0⟩] scope pos) 0 (.ref it) (.ref s2.heap.objs.size) (compEnvC scope ((x0,h3.objs.size+1)::cl) h3.objs.size X.env)) (compPost (model X.prog X.w) X.A X.xe use R (.ref s2.heap.objs.size) h3.objs.size) s5:=by
  rintro s5 rfl
  refine codeAny_loop rfl (fun n s'=>∃ i xs σ' H',Inv (q8 X x0 scope cl N' { s2 with heap:=h3,toks:=s2.toks } (upd H2 s2.heap.objs.size (.lst [])) fp fun _ _=>False) [] σ' H' s'/\tn i s'.heap/\(∀ b∈fp,H' b=none)/\W i n xs σ' H')
   (fun n s6 hI=>?_) m0 ⟨0,[],F4 lk σ,_,I4,st4,fun b hb=>(f3 b hb).1,w0⟩
  obtain⟨i,xs,σ6,H6,I6,st6,fr6,w6⟩:=hI
  show wpAny _ X.A ((compTurn (.ListComp elt [⟨tg,iter,ifs,0⟩] scope pos) 0 (.ref it) (.ref s2.heap.objs.size) (compEnvC scope ((x0,h3.objs.size+1)::cl) h3.objs.size X.env)).onRaise (fun x=>do noteFrame x (compEnvC scope ((x0,h3.objs.size+1)::cl) h3.objs.size X.env);theTreesLotGoes x)) _ _ s6
  refine wpAny_noted ?_
  rw[compTurn_list]
  refine wpAny_bind (wpAny_standAt (wpAny_bind ?_))
  obtain⟨hD6,hw⟩:=turn i n xs σ6 H6 w6
  rcases hw with⟨stop,qn⟩ | ⟨go,hlen,step⟩
  ·refine thn (T.done (q8 X x0 scope cl N' { s2 with heap:=h3,toks:=s2.toks } (upd H2 s2.heap.objs.size (.lst [])) fp fun _ _=>False) rfl rfl rfl hc i [] s6 σ6 H6 _ I6 (stat fr6) st6 stop) fun r s7 ⟨hr,I7⟩=>?_
   subst hr
   exact wpAny_pure (fin s7 σ6 H6 I7 qn)
  ·refine thn (T.item (q8 X x0 scope cl N' { s2 with heap:=h3,toks:=s2.toks } (upd H2 s2.heap.objs.size (.lst [])) fp fun _ _=>False) rfl rfl rfl hc i [] s6 σ6 H6 _ I6 (stat fr6) st6 go) fun r s7 ⟨u,hr,h7⟩=>?_
   subst hr
   refine wpAny_bind (thn h7 fun _ s8 ⟨x,H8,I8,r8,y8,st8,fr8⟩=>?_)
   have I8':=I8.pinned (stat fr8) (T.obj _ _ st8)
   refine wpAny_bind (wpAny_mono (hg _ _ _ _ s8 σ6 H8 x u _ I8' r8 (step x H8 y8)) (fun _ s9 ⟨σ9,H9,I9,q9⟩=>?_) (fun _ _ z=>False.elim z))
   refine wpAny_bind (wpAny_mono (ht _ _ _ _ s9 σ9 H9 _ I9 q9) (fun ok s10 ⟨H10,I10,q10⟩=>?_) (fun _ _ z=>False.elim z))
   have again:∀ {σ':St} {H':Hp} {ys:List V} {s':Shared},Inv (q8 X x0 scope cl N' { s2 with heap:=h3,toks:=s2.toks } (upd H2 s2.heap.objs.size (.lst [])) fp fun _ _=>False) ([]++J1 fp s8.heap) σ' H' s'->(∃ m',m'<n/\W (i+1) m' ys σ' H') ->
     ∃ m',m'<n/\∃ i xs σ' H',Inv (q8 X x0 scope cl N' { s2 with heap:=h3,toks:=s2.toks } (upd H2 s2.heap.objs.size (.lst [])) fp fun _ _=>False) [] σ' H' s'/\tn i s'.heap/\(∀ b∈fp,H' b=none)/\W i m' xs σ' H':=fun {σ' H' ys s'} I' ⟨m',hm,w'⟩=>by
    refine⟨m',hm,i+1,ys,σ',H',I'.unpinned,T.keep _ _ _ st8 fun b hb o eb=>(I'.pin (b,o) (c4 _ (c4 _ (u7 hb eb)))).1,fun b hb=>?_,w'⟩
    obtain⟨o,eb,_⟩:=T.obj _ _ st8 b hb
    exact(I'.pin (b,o) (c4 _ (c4 _ (u7 hb eb)))).2.1
   cases ok with
   | false =>
    have q10':∃ m',m'<n/\W (i+1) m' xs σ9 H10:=by simpa using q10
    exact wpAny_pure ⟨rfl,again I10 q10'⟩
   | true =>
    rw[if_pos rfl]at q10
    refine wpAny_bind (wpAny_bind (wpAny_mono (he _ _ _ _ s10 σ9 H10 _ I10 q10) (fun y s11 ⟨v11,H11,I11,r11,hD11,q11⟩=>?_) (fun _ _ z=>False.elim z)))
    refine wpAny_bind (wpAny_mono (r9 (X:=q8 X x0 scope cl N' { s2 with heap:=h3,toks:=s2.toks } (upd H2 s2.heap.objs.size (.lst [])) fp fun _ _=>False) _ s11 σ9 H11 (.ref s2.heap.objs.size) [v11] (.ref s2.heap.objs.size) [y] (fun _ H'=>∃ m',m'<n/\W (i+1) m' (xs++[v11]) σ9 H') I11 rfl (.cons r11 .nil) ⟨s2.heap.objs.size,xs,v11,rfl,rfl,hD11,hlen,q11⟩) (fun _ s12 ⟨_,H12,I12,_,q12⟩=>?_) (fun _ _ z=>False.elim z))
    exact wpAny_pure (wpAny_pure ⟨rfl,again I12 q12⟩)
 exact codeAny_compStart_list (loop _ rfl) (T.self X.A 0 _ _ _ st4 (loop _ rfl))
theorem ao9 {x0:Str}{i:Nat}{y:Str}{py:Pos}{elt iter tg:Expr}{ifs:List Expr}{scope:Scope}{pos spos:Pos}{cl:List (Str × Addr)}{N':List Str}{lk:List (Option Nat)}{wi:TI}{g:TG}{tt:TT}{te:TE}
  (hN:X.N.Nodup)(hy:X.N[i]?=some y)(hyl:X.env.scope.names.lookup y=some .local)
  (hsw:swapsWith (.ListComp elt [⟨tg,iter,ifs,0⟩] scope pos) (some (.Name y py)) spos.line X.env=pure true)
  (hc:X.calm=true)(hi:PI X tg iter wi)(hclos:closureFor scope X.env=pure cl)(hkind:scope.kind=.function)
  (hnames:∀ y∈scope.names,y.2=.local->scope.names.lookup y.1=some .local)(hcl:S0 X.env cl)(hfr:ai7 x0 scope.names cl=true)(hx0:cl.lookup x0=none)(hcs:∀ n,cellsFrom n scope.names cl=(x0,n)::cl)(hpc:∀ h,pushCells h scope.names=h.push { cls:=.type "cell",data:=.cell none })(hlk:ab1 X N' lk scope cl)
  (hg:∀ s3 H3 fp,PG (q8 X x0 scope cl N' s3 H3 fp fun _ _=>False) tg g)(ht:∀ s3 H3 fp,PTs (q8 X x0 scope cl N' s3 H3 fp fun _ _=>False) ifs tt)(he:∀ s3 H3 fp,PE (q8 X x0 scope cl N' s3 H3 fp fun _ _=>False) elt te)
  (hs:∀ x,foldedSetIterable iter X.env x=pure x:=by intro _;rfl):PS X (.Assign [.Name y py] (.ListComp elt [⟨tg,iter,ifs,0⟩] scope pos) spos) (az5 i (X7 wi lk g tt te)):=by
 intro pins s σ H D I h
 rw[exec_Assign_Name_used _ _ _ _ hsw]
 refine wpAny_bind (wpAny_standAt (wpAny_bind ?_))
 show wpAny _ X.A (do let _ <- comprehension (.ListComp elt [⟨tg,iter,ifs,0⟩] scope pos) scope X.env _ (newList []) false (eval iter X.env) (some (assign (.Name y py) X.env))) _ _ s
 refine wpAny_bind (thn (ae4 (use:=some (assign (.Name y py) X.env)) (R:=fun _ s'=>SP X pins D .next s') hc hi hclos hkind hnames hcl hfr hx0 hcs hpc hlk hg ht he hs I h
  fun C Dd s' H' I' q' hC hCL hCs hCc hCp ⟨m,hm⟩=>?_) fun _ s' hq=>wpAny_pure (wpAny_pure hq))
 show wpAny _ X.A (assign (.Name y py) X.env (.ref Dd)) _ _ s'
 refine wpAny_assign_Name (L5 (v:=.ref Dd) I' hN hy (.inl hyl) rfl (fun s2 I2 ⟨a,hsb,ha⟩=>?_) (.inr hyl))
 have hCa:C≠a:=by
  rcases ha with z | z
  ·rw[z];exact hCL
  ·exact(hCc y a z).symm
 refine⟨m,hm.sameBut hsb hCa,fun h' hs'=>?_⟩
 obtain⟨h0,g0,d0,t0,o0⟩:=s2
 exact⟨_,H',I2.turned (t':=t0) (it:=C) (fun b o hb eb=>(hs'.2 b hb).trans eb) hC hCL (.inr hCs) hCc hCp,q'⟩
end
end L2
namespace Web
open PySem L2
theorem aa4:∀ (l ns:List Int),ns.Nodup->(l.foldl Sett.insI ns).Nodup
 | [],ns,h=>h
 | k::l,ns,h=>by
  rw[A1]
  refine aa4 l _ ?_
  unfold Sett.insI
  split
  ·exact h
  ·next hk=>exact m6.mpr ⟨hk,h⟩
theorem LLs.alk {H:Hp}{p q:Addr}{us vs:List V}{pp:List (List Int)}(h1:LLs H us pp)(h2:LLs H vs pp)(g1:H p=some (.lst us))(g2:H q=some (.lst vs))(hl:pp.length<=24)(hz:∀ z∈pp,z.length<=24):Alk H 2 (.ref p) (.ref q):=by
 refine⟨p,q,us,vs,rfl,rfl,g1,g2,by rw[h1.1,h2.1],by rw[h1.1];omega,fun i u v e1 e2=>?_⟩
 have hi:i<pp.length:=by rw[<- h1.1];exact(d5.mp e1).1
 have ez:pp[i]?=some pp[i]:=d4 hi
 obtain⟨r,rfl,gr⟩:=h1.2 i u _ e1 ez
 obtain⟨s,rfl,gs⟩:=h2.2 i v _ e2 ez
 refine .inr ⟨r,s,_,_,rfl,rfl,gr,gs,rfl,by rw[b4];have:=hz _ (b6 ez);omega,fun j a b e3 e4=>.inl (.inl ?_)⟩
 rw[e3]at e4
 cases e4
 obtain⟨z,rfl⟩:=int_at e3
 exact⟨z,rfl,rfl⟩
theorem aw2 (ks:List (List Int))(n p:Nat):(pcF ks n p).length<=n:=by
 unfold pcF
 rw[b4]
 have:=K8 (fun c=>@decide (Pc.Rch (Tie ks) p c) (Classical.propDecidable _)) (i7 n)
 rw[u2]at this
 exact this
theorem aw1 {ks:List (List Int)}{n:Nat}(hn:n<=24):(B8 ks n n).length<=24/\∀ z∈B8 ks n n,z.length<=24:=by
 refine⟨m9 (Z1 ..) hn,fun z hz=>?_⟩
 unfold B8 at hz
 obtain⟨p,_,rfl⟩:=k7.mp hz
 exact m9 (aw2 ..) hn
theorem ap7 {ks:List (List Int)}{n:Nat}(hn:1<=n):0<(B8 ks n n).length:=by
 unfold B8
 rw[b4]
 exact J7 (u1.mpr ⟨j7.mpr (show 0<n by omega),decide_eq_true ((K3 (by omega)).mpr fun c _ _=>i3 _)⟩)
theorem ax8 {ns:List Int}{i:Nat}{x:V}(h:(ns.map V.int)[i]?=some x):∃ z:Int,ns[i]?=some z/\x=V.int z:=by
 rw[i8]at h
 cases e:ns[i]? with
 | none=>rw[e]at h;cases h
 | some z=>rw[e]at h;cases h;exact⟨z,rfl,rfl⟩
theorem ah5:∀ {a b:List Int},Tim.v9 a b=true->Tim.v9 b a=false
 | [],[],h=>by first | rfl | cases h
 | [],y::b,_=>rfl
 | x::a,[],h=>by cases h
 | x::a,y::b,h=>by
  unfold Tim.v9 at h ⊢
  by_cases e:x=y
  ·rw[if_pos e]at h
   rw[if_pos e.symm]
   exact ah5 h
  ·rw[if_neg e]at h
   rw[if_neg (Ne.symm e)]
   have:=of_decide_eq_true h
   exact decide_eq_false (by omega)
theorem ay5 {ks:List (List Int)}(h:Asc ks):ks.Pairwise (fun a b=>Tim.v9 b a=false):=h.imp fun h=>ah5 h
seal L2.PE L2.PA L2.PS L2.PSs L2.PT
section
variable {P:Program} {w:World} {K:W.Frag} {mg:Str->Option Value} {base:Heap}
def X9 (K:W.Frag):Sp:=fun vs H Q _=>∃ (a:Addr) (ns:List Int),vs=[.ref a]/\SqL K H a (ns.map V.int)/\ns.length<=63/\∀ H',Q (.bl true) H'
theorem G4:r6 ["script","cell","places","ties","web","marks","due","found"] ["script"] (i5 S6):=⟨rfl,rfl,rfl,by decide +kernel,rfl,by decide +kernel,by decide +kernel⟩
set_option maxHeartbeats 4000000 in
theorem aw6 {f fC fT fV fM fS fA:Addr}{fd fdC fdT fdV fdM fdS fdA:FuncData}(F:Fun K "law" "law" S6 f fd)(B:Bn mg)
  (FC:Fun K "_law_cell_at" "_law_cell_at" M5 fC fdC)(bC:Binds K fdC ["script","k"] [])(mC:mg "_law_cell_at"=some (.ref fC))(GC:u0 P w K mg base CX0 4 fC fdC ["script","k"] (an2 K))
  (FT:Fun K "_law_ties" "_law_ties" M3 fT fdT)(bT:Binds K fdT ["cell","places"] [])(mT:mg "_law_ties"=some (.ref fT))(GT:u0 P w K mg base CX0 4 fT fdT ["cell","places"] (am9 K))
  (FV:Fun K "made" "made" M4 fV fdV)(bV:Binds K fdV ["places","ties"] [])(mV:mg "made"=some (.ref fV))(GV:u0 P w K mg base CX0 4 fV fdV ["places","ties"] (an1 K))
  (FM:Fun K "_law_marks" "_law_marks" E5 fM fdM)(bM:Binds K fdM ["places","ties"] [])(mM:mg "_law_marks"=some (.ref fM))(GM:u0 P w K mg base CX0 4 fM fdM ["places","ties"] (ag0 K))
  (FS:Fun K "pieces_of" "pieces_of" Y5 fS fdS)(bS:Binds K fdS ["web"] [])(mS:mg "pieces_of"=some (.ref fS))(GS:u0 P w K mg base CX0 4 fS fdS ["web"] (an0 K))
  (FA:Fun K "_law_alike" "_law_alike" E6 fA fdA)(bA:Binds K fdA ["found","due"] [])(mA:mg "_law_alike"=some (.ref fA))(GA:u0 P w K mg base CX0 4 fA fdA ["found","due"] (az9 2)):u0 P w K mg base CX0 5 f fd ["script"] (X9 K):=by
 refine F.ok G4 (fun vs H Q E h=>?_) (fun cdv A outer s H vs Q E hr h=>?_)
 ·obtain⟨a,ns,rfl,_⟩:=h
  rfl
 ·obtain⟨sc,ns,rfl,hS,hlen,q⟩:=h
  have hsl:=E1
  have nd1:(["mark","marks","places"]:List Str).Nodup:=by decide +kernel
  have nd2:(["place","mark","marks"]:List Str).Nodup:=by decide +kernel
  refine⟨_,c8 (E7 PassesOwn.never rfl (V8 (o3 aC6 (J2 (a9 (p9 GC hr (by rfl) mC FC.kp bC .nil y7 (a9 (pv 0) (a9 f7 d6))) d6)) (ap4 au7 (pv 0) (ag6 f7) (ag6 f7)))) (p0 (i:=1) G4.nd rfl (Or.inl rfl)) (c8 (m8 (i:=1) G4.nd rfl (Or.inl rfl) (o3 x5 (pv 1) (o3 ad2 f7 f7)))
   (c8 (m8 (i:=2) G4.nd rfl (Or.inr rfl) (o3 Q0 f7 (o3 x5 (pv 1) f7)))
   (av3 (w9 (v8 G5 (o3 x5 (o3 C4 (pv 1) f7) f7) f7 (u6 _)) (j6 (m8 (i:=2) G4.nd rfl (Or.inr rfl) (o3 Q0 f7 (o3 x5 (o3 C4 (pv 1) f7) f7)))) o9)
   (c8 (m8 (i:=3) G4.nd rfl (Or.inl rfl) (p9 GT hr (by rfl) mT FT.kp bT .nil y7 (a9 (o3 C4 (pv 1) f7) (a9 (pv 2) d6))))
   (c8 (m8 (i:=4) G4.nd rfl (Or.inl rfl) (p9 GV hr (by rfl) mV FV.kp bV .nil y7 (a9 (pv 2) (a9 (pv 3) d6))))
   (c8 (m8 (i:=5) G4.nd rfl (Or.inr rfl) (p9 GM hr (by rfl) mM FM.kp bM .nil y7 (a9 (pv 2) (a9 (pv 3) d6))))
   (c8 (ao9 (x0:="mark") (i:=6) (N':=["mark","marks","places"]) (lk:=[none,some 5,some 2]) G4.nd rfl rfl (by rfl) rfl (V8 (l4 (ae5 rfl) (by rfl) B.sorted (by rfl) (a9 (B7 (al4 rfl) (by rfl) B.set (by rfl) (a9 (pv 5) d6)) d6))) (by rfl) rfl (by decide +kernel) (by exact⟨rfl,rfl,trivial⟩) (by rfl) (by rfl) (fun _=>rfl) (fun _=>rfl) (by exact LkL.ok ⟨⟨rfl,Or.inl rfl,rfl,Or.inl rfl⟩,⟨rfl,Or.inl rfl,rfl,Or.inl rfl⟩,trivial⟩) (fun _ _ _=>p0 (i:=0) nd1 rfl (Or.inr rfl)) (fun _ _ _=>N9) (fun _ _ _=>(O1 (N':=["place","mark","marks"]) (lk:=[none,some 0,some 1]) rfl (y0 rfl B.range (a9 (pv 2) d6)) (by rfl) rfl (by decide +kernel) (by exact⟨rfl,rfl,trivial⟩) (by rfl) (by exact LkL.ok ⟨⟨rfl,Or.inl rfl,rfl,Or.inl rfl⟩,⟨rfl,Or.inl rfl,rfl,Or.inl rfl⟩,trivial⟩) (fun _ _ _=>p0 (i:=0) nd2 rfl (Or.inl rfl)) (fun _ _ _=>V6 (v8 G5 (O0 K rfl (pv 2) (pv 0) (fun _ _=>rfl)) (pv 1) (u6 _))) (fun _ _ _=>pv 0))))
   (c8 (m8 (i:=7) G4.nd rfl (Or.inl rfl) (p9 GS hr (by rfl) mS FS.kp bS .nil y7 (a9 (pv 4) d6)))
   (c8 (w9 (J0 (A3 (p9 GA hr (by rfl) mA FA.kp bA .nil y7 (a9 (pv 7) (a9 (pv 6) d6))))) p7 o9)
   (c8 (B2 (M6 PySem.F.plainAttrs_list PySem.F.slot_list_append PySem.F.type_list_append r9 (u4 w4 (pv 7) f7 (fun _ _=>rfl)) (a9 f7 d6)))
   (c8 (B2 (M6 PySem.F.plainAttrs_list PySem.F.slot_list_append PySem.F.type_list_append r9 (pv 7) (a9 (J2 (a9 f7 d6)) d6)))
   (j6 (w9 (J0 (A3 (p9 GA hr (by rfl) mA FA.kp bA .nil y7 (a9 (p9 GS hr (by rfl) mS FS.kp bS .nil y7 (a9 (pv 4) d6)) (a9 (pv 6) d6))))) p7 o9))))))))))))))
   (j6 (u3 P6)),?_⟩
  refine⟨_,rfl,sc,ns,0,rfl,hS,fun r0=>⟨(by show 1<=sizeLine;decide),fun l0 f0=>?_⟩⟩
  have sl0:=i4 (o:=.lst [.int r0]) f0
  obtain⟨ms,hms,hml⟩:=al0 ns (some 1) (some 13)
  refine⟨_,rfl,_,rfl,_,rfl,sc,ns.map V.int,rfl,sl0.seq hS,fun l1 f1=>?_⟩
  rw[hms]
  have sl1:=i4 (o:=.lst (ms.map V.int)) f1
  refine⟨l0,l1,_,_,rfl,rfl,sl1 _ _ d3,d3,by rw[b4];show 1+ms.length<=sizeLine;omega,fun lc fc=>⟨lc,rfl,⟨_,SqL.of d3⟩,?_⟩⟩
  have glc:(upd (upd (upd H l0 (.lst [.int r0])) l1 (.lst (ms.map V.int))) lc (.lst ([.int r0]++ms.map V.int))) lc=some (.lst (([r0]++ms:List Int).map V.int)):=by rw[d3,i9];rfl
  generalize upd (upd (upd H l0 (.lst [.int r0])) l1 (.lst (ms.map V.int))) lc (.lst ([.int r0]++ms.map V.int))=HB at glc
  refine aa3 (K:=K) (a:=lc) (xs:=([r0]++ms:List Int).map V.int) (fun _ σ H2=>∃ e1 e2 e3 e4 e5 e6 e7,σ=[some (.ref sc),e1,e2,e3,e4,e5,e6,e7]/\m5 HB H2) ⟨_,_,_,_,_,_,_,rfl,m5.refl HB⟩ (fun i σ H2 _ ⟨_,_,_,_,_,_,_,_,s⟩=>SqL.of (s _ _ glc)) ?_ ?_
  ·rintro i x σ Ha hx ⟨e1,e2,e3,e4,e5,e6,e7,rfl,sa⟩
   obtain⟨z,rfl⟩:=int_at hx
   refine o7 ?_
   refine⟨_,rfl,_,_,rfl,rfl,⟨by decide,by decide,by decide⟩,_,_,rfl,rfl,p60,?_⟩
   refine y2 fun c _=>?_
   obtain⟨j8,h8,h8'⟩:=ah1 c (n:=8) (by decide)
   refine⟨_,rfl,_,_,rfl,rfl,(by show (0:Int)<8;decide),_,_,rfl,rfl,?_⟩
   refine R1 (v':=.int ((1+j8:Nat):Int)) (by show V.int (1+c % 8)=_;have:c % 8=(j8:Int):=h8;rw[this];rfl) ?_
   refine⟨fun σ' H'=>H'=Ha/\∃ n:Nat,1<=n/\n<=24/\σ'=[some (.ref sc),some (.int c),some (.int n),e3,e4,e5,e6,e7],?_,?_⟩
   ·refine⟨_,rfl,_,_,rfl,rfl,⟨by decide,by decide⟩,_,_,rfl,rfl,(by show (0:Int)<8;decide),rfl,_,rfl,ax6 (fun _=>?_) (fun _=>⟨rfl,_,by omega,by omega,rfl⟩)⟩
    obtain⟨j4,h4,h4'⟩:=ah1 (c / 64) (n:=16) (by decide)
    refine⟨_,rfl,_,_,rfl,rfl,⟨by decide,by decide⟩,_,_,rfl,rfl,(by show (0:Int)<16;decide),_,_,rfl,rfl,?_⟩
    refine R1 (v':=.int ((9+j4:Nat):Int)) (by show V.int (9+c / 64 % 16)=_;have:c / 64 % 16=(j4:Int):=h4;rw[this];rfl) ?_
    exact⟨rfl,_,by omega,by omega,rfl⟩
   rintro σ' H' ⟨rfl,n,n1,n24,rfl⟩
   refine⟨_,rfl,_,_,rfl,rfl,⟨by decide,by decide⟩,_,rfl,c / 64,n,rfl,n24,fun tl zt ks H1 s1 ftl g1 t1 sb=>?_⟩
   refine o7 ?_
   have hU:∀ k∈ks,Up n k:=fun k hk=>ak0 (sb.subset hk)
   have hA:=ay4 sb (al6 n)
   have hnd:ks.Nodup:=al7 hA
   have hTl:Tld n ks:=⟨hU,hnd,ay5 hA⟩
   have hkl:ks.length<=276:=am5 n24 hnd hU
   refine⟨_,rfl,_,rfl,n,tl,zt,ks,rfl,n1,n24,SqT.of g1,t1,hTl,fun pw H2 s2 hW=>?_⟩
   refine o7 ?_
   refine⟨_,rfl,_,rfl,n,tl,zt,ks,rfl,n24,s2.seqT (SqT.of g1),s2.tups t1,hU,fun lm mk H3 s3 flm gm hM hF=>?_⟩
   refine o7 ?_
   have hml2:mk.length=n:=hM.len
   have gmI:H3 lm=some (.lst ((A8 mk).map V.int)):=by rw[<- aq8];exact gm
   have hsm:∀ y∈A8 mk,0<=y/\y<24:=fun y hy=>by
    unfold A8 at hy
    obtain⟨m,hm,rfl⟩:=k7.mp hy
    obtain⟨j,hj⟩:=x3 hm
    have hjn:j<n:=by rw[<- hml2];exact(d5.mp hj).1
    have:=hM.le j hjn
    rw[k8,hj]at this
    have:m<=j:=this
    omega
   have hnl:(A8 mk).length=n:=by unfold A8;rw[b4,hml2]
   have hfl:=Sett.R4 (A8 mk) []
   rw[hnl]at hfl
   refine⟨_,rfl,lm,A8 mk,rfl,SqL.of gmI,by omega,hsm,fun S H4 s4 _ gS=>?_⟩
   refine⟨S,_,rfl,gS,(by simp at hfl;omega),fun lz zs H5 s5 _ glz pz sz=>?_⟩
   have hzl:zs.length<=24:=by rw[pz.length_eq];simp at hfl;omega
   have hznd:zs.Nodup:=pz.nodup_iff.mpr (aa4 _ [] D5)
   have hzm:∀ x,x∈zs↔x∈mk.map fun m:Nat=>(m:Int):=fun x=>by
    rw[pz.mem_iff,Sett.U1]
    exact⟨fun h=>h.elim id fun z=>absurd z j5,.inl⟩
   have hgrp:=aE9 hU hM hF sz hznd hzm
   have s35:=s4.trans s5
   have gm5:=s35 _ _ gm
   refine⟨lz,rfl,⟨_,SqL.of glz⟩,?_⟩
   refine fun D hD=>al2 (K:=K) (a:=lz) (D:=D) (ys:=zs.map V.int) (fun i xs σ' H'=>(∃ v,σ'=[v,some (.ref lm),some (.int n)])/\m5 H5 H'/\H' D=some (.lst xs)/\LLs H' xs ((zs.take i).map (grp mk n))/\∀ u∈xs,u≠.ref D)
    ⟨⟨none,rfl⟩,i4 hD,d3,LLs.nil _,fun u hu=>absurd hu j5⟩ (by rw[b4];omega) (fun i xs σ' H' hi ⟨_,s6,h6,e6,_⟩=>⟨SqL.of (s6 _ _ glz),h6,by rw[e6.1,b4,v3];omega⟩) ?_ ?_
   ·rintro i xs x σ' H' N kN hx ⟨⟨v,rfl⟩,s6,h6,e6,f6⟩
    obtain⟨m,hm,rfl⟩:=ax8 hx
    refine o7 (J8 ?_)
    refine⟨_,rfl,(n:Int),rfl,by omega,by omega,fun D3 hD3=>?_⟩
    rw[n9]
    refine C5 (lo:=0) (n:=n) (D:=D3) (fun j ys σ'' H''=>(∃ v,σ''=[v,some (.int m),some (.ref lm)])/\m5 H' H''/\H'' D3=some (.lst ys)/\ys=(grp mk j m).map V.int)
     ⟨⟨none,rfl⟩,i4 hD3,d3,rfl⟩ (by omega) (fun j ys σ'' H'' hj ⟨_,s7,h7,e7⟩=>⟨h7,by rw[e7,b4];exact ay1 ..⟩) ?_ ?_
    ·rintro j ys σ'' H'' N' kN' hj ⟨⟨v,rfl⟩,s7,h7,rfl⟩
     rw[show ((0:Int)+(j:Int))=(j:Int) by omega]
     refine o7 ?_
     refine⟨_,rfl,_,rfl,.inl ⟨lm,_,_,_,rfl,rfl,SqL.of ((s6.trans s7) _ _ gm5),Q2 (by omega),_,rfl,rfl,_,rfl,?_⟩⟩
     rw[aA7]
     have eg:=ar7 mk j m
     by_cases hg:((mk.getD j 0:Nat):Int)=m
     ·rw[decide_eq_true hg]
      rw[if_pos hg]at eg
      refine B4 ⟨_,rfl,h7,kN' _ _ _ ⟨⟨_,rfl⟩,s7.upd hD3,d3,?_⟩⟩
      rw[eg,i9]
      rfl
     ·rw[decide_eq_false hg]
      rw[if_neg hg,z0]at eg
      exact y1 (kN' _ _ _ ⟨⟨_,rfl⟩,s7,h7,by rw[eg]⟩)
    ·rintro ys σ'' H6 ⟨⟨v,rfl⟩,s7,h7,rfl⟩
     have n3:D3≠D:=(l5 h6 hD3).symm
     refine⟨s7 _ _ h6,kN _ _ _ ⟨⟨_,rfl⟩,(s6.trans s7).upd hD,d3,?_,fun u hu=>?_⟩⟩
     ·rw[n6,hm,i9]
      exact LLs.upd (H0:=H) ((e6.same s7).snoc h7) fun u hu=>(g7.mp hu).elim (f6 u) fun z=>by rw[b8.mp z];exact fun q=>n3 (by injection q)
     ·rcases g7.mp hu with z | z
      ·exact f6 u z
      ·rw[b8.mp z];exact fun q=>n3 (by injection q)
   rintro xd σ' H6 ⟨⟨v,rfl⟩,s6,gD,eD,_⟩
   rw[b4,X2,hgrp]at eD
   have s16:=((s1.trans s2).trans s3).trans (s35.trans s6)
   have hW6:=hW.same ((s3.trans s35).trans s6)
   obtain⟨hp1,hp2⟩:=aw1 (ks:=ks) n24
   refine⟨_,rfl,pw,n,ks,rfl,hW6,n24,by omega,hU,fun lf us H7 s7 flf glf eL nL=>?_⟩
   refine o7 ?_
   refine⟨_,rfl,_,rfl,.ref lf,.ref D,rfl,.inr (eL.alk (eD.same s7) glf (s7 _ _ gD) hp1 hp2),_,rfl,y1 ?_⟩
   have hus:0<us.length:=by rw[eL.1];exact ap7 n1
   have hu0:us[0]?=some (us[0]'hus):=d4 hus
   have hpp:0<(B8 ks n n).length:=ap7 n1
   obtain⟨r,er,gr⟩:=eL.2 0 _ _ hu0 (d4 hpp)
   obtain⟨r',er',fr⟩:=nL _ (b6 hu0)
   rw[er]at er' hu0
   injection er' with er'
   subst er'
   have hrl:((B8 ks n n)[0]'hpp).length<=24:=hp2 _ (G8 hpp)
   refine⟨_,rfl,lf,_,_,_,rfl,rfl,SqL.of glf,n8 (j:=0) hu0,.inl ⟨rfl,_,SqL.of gr⟩,r,_,_,rfl,rfl,gr,by rw[b4];omega,?_⟩
   have nrf:lf≠r:=fun z=>by
    rw[z,gr]at glf
    injection glf with glf
    injection glf with glf
    rw[<- glf,i8]at hu0
    cases e:((B8 ks n n)[0]'hpp)[0]? with
    | none=>rw[e]at hu0;cases hu0
    | some y=>rw[e]at hu0;cases hu0
   have g8:upd H7 r (.lst (((B8 ks n n)[0]'hpp).map V.int++[.int 7])) lf=some (.lst us):=by rw[j1 nrf];exact glf
   have s8:m5 H6 (upd H7 r (.lst (((B8 ks n n)[0]'hpp).map V.int++[.int 7]))):=s7.upd fr
   generalize upd H7 r (.lst (((B8 ks n n)[0]'hpp).map V.int++[.int 7]))=H8 at g8 s8 ⊢
   refine⟨_,rfl,.inl ⟨rfl,_,SqL.of g8⟩,(by show 1<=sizeLine;decide),fun l9 f9=>?_⟩
   have s9:=i4 (o:=.lst [.int 8]) f9
   refine⟨lf,us,_,rfl,rfl,s9 _ _ g8,by rw[eL.1];omega,?_⟩
   have sE:m5 H6 (upd (upd H8 l9 (.lst [.int 8])) lf (.lst (us++[.ref l9]))):=(s8.trans s9).upd flf
   generalize upd (upd H8 l9 (.lst [.int 8])) lf (.lst (us++[.ref l9]))=HE at sE ⊢
   refine⟨_,rfl,pw,n,ks,rfl,hW6.same sE,n24,by omega,hU,fun lg ug HF sF flg glg eG _=>?_⟩
   have sEF:=sE.trans sF
   refine⟨_,rfl,.ref lg,.ref D,rfl,.inr (eG.alk (eD.same sEF) glg (sEF _ _ gD) hp1 hp2),_,rfl,y1 ?_⟩
   exact⟨_,_,_,_,_,_,_,rfl,(sa.trans s16).trans sEF⟩
  ·rintro σ Ha ⟨e1,e2,e3,e4,e5,e6,e7,rfl,sa⟩
   exact q Ha
theorem aD0 {f fI fU fV fB fP fS fC fH fA fR fT fM:Addr}{fd fdI fdU fdV fdB fdP fdS fdC fdH fdA fdR fdT fdM:FuncData}{tk:Tok}(F0:Fun K "law" "law" S6 f fd)(Bx:Bn mg)(mo:mg "MOST_PLACES"=some (.int 24 tk))
  (FI:Fun K "is_place" "is_place" V5 fI fdI)(bI:Binds K fdI ["places","number"] [])(mI:mg "is_place"=some (.ref fI))
  (FU:Fun K "turned_up" "turned_up" sUp fU fdU)(bU:Binds K fdU ["places","tie"] [])(mU:mg "turned_up"=some (.ref fU))
  (FV:Fun K "made" "made" M4 fV fdV)(bV:Binds K fdV ["places","ties"] [])(mV:mg "made"=some (.ref fV))
  (FB:Fun K "beside" "beside" Y6 fB fdB)(bB:Binds K fdB ["web"] [])(mB:mg "beside"=some (.ref fB))
  (FP:Fun K "piece_around" "piece_around" E4 fP fdP)(bP:Binds K fdP ["near","place"] [])(mP:mg "piece_around"=some (.ref fP))
  (FS:Fun K "pieces_of" "pieces_of" Y5 fS fdS)(bS:Binds K fdS ["web"] [])(mS:mg "pieces_of"=some (.ref fS))
  (FC:Fun K "_law_cell_at" "_law_cell_at" M5 fC fdC)(bC:Binds K fdC ["script","k"] [])(mC:mg "_law_cell_at"=some (.ref fC))
  (FH:Fun K "_law_whole" "_law_whole" E3 fH fdH)(bH:Binds K fdH ["found"] [])(mH:mg "_law_whole"=some (.ref fH))
  (FA:Fun K "_law_alike" "_law_alike" E6 fA fdA)(bA:Binds K fdA ["found","due"] [])(mA:mg "_law_alike"=some (.ref fA))
  (FR:Fun K "_law_row" "_law_row" Y4 fR fdR)(bR:Binds K fdR ["cell","many","size"] [])(mR:mg "_law_row"=some (.ref fR))
  (FT:Fun K "_law_ties" "_law_ties" M3 fT fdT)(bT:Binds K fdT ["cell","places"] [])(mT:mg "_law_ties"=some (.ref fT))
  (FM:Fun K "_law_marks" "_law_marks" E5 fM fdM)(bM:Binds K fdM ["places","ties"] [])(mM:mg "_law_marks"=some (.ref fM))
  : u0 P w K mg base CX0 5 f fd ["script"] (X9 K):=by
 have GS:u0 P w K mg base CX0 2 fS fdS ["web"] (an0 K):=aC9 FS Bx FB bB mB (aD2 FB Bx) FP bP mP (aq3 FP Bx)
 exact aw6 F0 Bx FC bC mC ((aw7 FC Bx).mono (by decide)) FT bT mT ((aw4 FT Bx FR bR mR).mono (by decide)) FV bV mV ((aw5 FV Bx FI bI mI FU bU mU mo).mono (by decide)) FM bM mM ((aq4 FM Bx).mono (by decide)) FS bS mS (GS.mono (by decide)) FA bA mA ((aD3 FA bA mA Bx FH bH mH 2).mono (by decide))
end
end Web
namespace Web
open PySem L2
theorem ls1 {p:List Value->Prop}(h:∀ x0,p [x0]):∀ us,us.length=1->p us
 | [x0],_=>h x0
theorem ls2 {p:List Value->Prop}(h:∀ x0 x1,p [x0,x1]):∀ us,us.length=2->p us
 | [x0,x1],_=>h x0 x1
theorem ls3 {p:List Value->Prop}(h:∀ x0 x1 x2,p [x0,x1,x2]):∀ us,us.length=3->p us
 | [x0,x1,x2],_=>h x0 x1 x2
theorem all_mk {l:PySem.W.OpenLaw}{w:World}{K:W.Frag}{h:Heap}{mg:Str->Option Value}{fa fI fU fV fB fP fS fC fH fA fR fT fM fZ:Addr}{tk:Tok}(X:K.In h)(G:h.Ns mainGlobals mg)(hfa:mg "law"=some (.ref fa))
  {odI anI odU anU odV anV odB anB odP anP odS anS odC anC odH anH odA anA odR anR odT anT odM anM odZ anZ:Option Addr}{slI slU slV slB slP slS slC slH slA slR slT slM slZ:Array (Option Value)}
  {ocI kVI dcI pmI cdI ctI ocU kVU dcU pmU cdU ctU ocV kVV dcV pmV cdV ctV ocB kVB dcB pmB cdB ctB ocP kVP dcP pmP cdP ctP ocS kVS dcS pmS cdS ctS ocC kVC dcC pmC cdC ctC ocH kVH dcH pmH cdH ctH ocA kVA dcA pmA cdA ctA ocR kVR dcR pmR cdR ctR ocT kVT dcT pmT cdT ctT ocM kVM dcM pmM cdM ctM ocZ kVZ dcZ pmZ cdZ ctZ:Value}
  (aI:d9 K mainGlobals "is_place"=some (some (.ref fI)))(lI:K.lookup fI=some ⟨ocI,odI,.func (j9 "is_place" "is_place" (p6 V5) (o4 V5) (i5 V5) .none kVI dcI pmI anI cdI ctI),slI⟩)(cI:k5 K cdI "is_place"=true)(kI:j2 K (.ref fI)=true)
  (aU:d9 K mainGlobals "turned_up"=some (some (.ref fU)))(lU:K.lookup fU=some ⟨ocU,odU,.func (j9 "turned_up" "turned_up" (p6 sUp) (o4 sUp) (i5 sUp) .none kVU dcU pmU anU cdU ctU),slU⟩)(cU:k5 K cdU "turned_up"=true)(kU:j2 K (.ref fU)=true)
  (aV:d9 K mainGlobals "made"=some (some (.ref fV)))(lV:K.lookup fV=some ⟨ocV,odV,.func (j9 "made" "made" (p6 M4) (o4 M4) (i5 M4) .none kVV dcV pmV anV cdV ctV),slV⟩)(cV:k5 K cdV "made"=true)(kV:j2 K (.ref fV)=true)
  (aB:d9 K mainGlobals "beside"=some (some (.ref fB)))(lB:K.lookup fB=some ⟨ocB,odB,.func (j9 "beside" "beside" (p6 Y6) (o4 Y6) (i5 Y6) .none kVB dcB pmB anB cdB ctB),slB⟩)(cB:k5 K cdB "beside"=true)(kB:j2 K (.ref fB)=true)
  (aP:d9 K mainGlobals "piece_around"=some (some (.ref fP)))(lP:K.lookup fP=some ⟨ocP,odP,.func (j9 "piece_around" "piece_around" (p6 E4) (o4 E4) (i5 E4) .none kVP dcP pmP anP cdP ctP),slP⟩)(cP:k5 K cdP "piece_around"=true)(kP:j2 K (.ref fP)=true)
  (aS:d9 K mainGlobals "pieces_of"=some (some (.ref fS)))(lS:K.lookup fS=some ⟨ocS,odS,.func (j9 "pieces_of" "pieces_of" (p6 Y5) (o4 Y5) (i5 Y5) .none kVS dcS pmS anS cdS ctS),slS⟩)(cS:k5 K cdS "pieces_of"=true)(kS:j2 K (.ref fS)=true)
  (aC:d9 K mainGlobals "_law_cell_at"=some (some (.ref fC)))(lC:K.lookup fC=some ⟨ocC,odC,.func (j9 "_law_cell_at" "_law_cell_at" (p6 M5) (o4 M5) (i5 M5) .none kVC dcC pmC anC cdC ctC),slC⟩)(cC:k5 K cdC "_law_cell_at"=true)(kC:j2 K (.ref fC)=true)
  (aH:d9 K mainGlobals "_law_whole"=some (some (.ref fH)))(lH:K.lookup fH=some ⟨ocH,odH,.func (j9 "_law_whole" "_law_whole" (p6 E3) (o4 E3) (i5 E3) .none kVH dcH pmH anH cdH ctH),slH⟩)(cH:k5 K cdH "_law_whole"=true)(kH:j2 K (.ref fH)=true)
  (aA:d9 K mainGlobals "_law_alike"=some (some (.ref fA)))(lA:K.lookup fA=some ⟨ocA,odA,.func (j9 "_law_alike" "_law_alike" (p6 E6) (o4 E6) (i5 E6) .none kVA dcA pmA anA cdA ctA),slA⟩)(cA:k5 K cdA "_law_alike"=true)(kA:j2 K (.ref fA)=true)
  (aR:d9 K mainGlobals "_law_row"=some (some (.ref fR)))(lR:K.lookup fR=some ⟨ocR,odR,.func (j9 "_law_row" "_law_row" (p6 Y4) (o4 Y4) (i5 Y4) .none kVR dcR pmR anR cdR ctR),slR⟩)(cR:k5 K cdR "_law_row"=true)(kR:j2 K (.ref fR)=true)
  (aT:d9 K mainGlobals "_law_ties"=some (some (.ref fT)))(lT:K.lookup fT=some ⟨ocT,odT,.func (j9 "_law_ties" "_law_ties" (p6 M3) (o4 M3) (i5 M3) .none kVT dcT pmT anT cdT ctT),slT⟩)(cT:k5 K cdT "_law_ties"=true)(kT:j2 K (.ref fT)=true)
  (aM:d9 K mainGlobals "_law_marks"=some (some (.ref fM)))(lM:K.lookup fM=some ⟨ocM,odM,.func (j9 "_law_marks" "_law_marks" (p6 E5) (o4 E5) (i5 E5) .none kVM dcM pmM anM cdM ctM),slM⟩)(cM:k5 K cdM "_law_marks"=true)(kM:j2 K (.ref fM)=true)
  (aZ:d9 K mainGlobals "law"=some (some (.ref fZ)))(lZ:K.lookup fZ=some ⟨ocZ,odZ,.func (j9 "law" "law" (p6 S6) (o4 S6) (i5 S6) .none kVZ dcZ pmZ anZ cdZ ctZ),slZ⟩)(cZ:k5 K cdZ "law"=true)(kZ:j2 K (.ref fZ)=true)
  (mo:d9 K mainGlobals "MOST_PLACES"=some (some (.int 24 tk)))
  (z1:d9 K mainGlobals "len"=some none)
  (z2:d9 K mainGlobals "range"=some none)
  (z3:d9 K mainGlobals "enumerate"=some none)
  (z4:d9 K mainGlobals "list"=some none)
  (z5:d9 K mainGlobals "tuple"=some none)
  (z6:d9 K mainGlobals "sorted"=some none)
  (z7:d9 K mainGlobals "set"=some none)
  (z8:d9 K mainGlobals "isinstance"=some none)
  (z9:d9 K mainGlobals "int"=some none)
  (z10:d9 K mainGlobals "bool"=some none)
  (z11:d9 K mainGlobals "min"=some none)
  (z12:d9 K mainGlobals "max"=some none)
  (z13:d9 K mainGlobals "sum"=some none)
  (z14:d9 K mainGlobals "str"=some none)
  (z15:d9 K mainGlobals "ValueError"=some none) :
  ∃ fd:FuncData,(∀ (s:Shared) (v:Value),BindsTo s fd ⟨[v],[]⟩ [("script",v)])/\∀ base:Heap,K.In base->base.Ns mainGlobals mg->u0 l.prog w K mg base CX0 5 fa fd ["script"] (X9 K):=by
 have e:=hfa.symm.trans (m4 X G aZ)
 cases e
 have B:Bn mg:=⟨i6 X G z1,i6 X G z2,i6 X G z3,i6 X G z4,i6 X G z5,i6 X G z6,i6 X G z7,i6 X G z8,i6 X G z9,i6 X G z10,i6 X G z11,i6 X G z12,i6 X G z13,i6 X G z14,i6 X G z15⟩
 have FI:=y3 (st:=V5) lI cI kI
 have bI:=FI.binds (ps:=["places","number"]) fun _ _ _ _ _ _=>ls2 fun _ _=>rfl
 have FU:=y3 (st:=sUp) lU cU kU
 have bU:=FU.binds (ps:=["places","tie"]) fun _ _ _ _ _ _=>ls2 fun _ _=>rfl
 have FV:=y3 (st:=M4) lV cV kV
 have bV:=FV.binds (ps:=["places","ties"]) fun _ _ _ _ _ _=>ls2 fun _ _=>rfl
 have FB:=y3 (st:=Y6) lB cB kB
 have bB:=FB.binds (ps:=["web"]) fun _ _ _ _ _ _=>ls1 fun _=>rfl
 have FP:=y3 (st:=E4) lP cP kP
 have bP:=FP.binds (ps:=["near","place"]) fun _ _ _ _ _ _=>ls2 fun _ _=>rfl
 have FS:=y3 (st:=Y5) lS cS kS
 have bS:=FS.binds (ps:=["web"]) fun _ _ _ _ _ _=>ls1 fun _=>rfl
 have FC:=y3 (st:=M5) lC cC kC
 have bC:=FC.binds (ps:=["script","k"]) fun _ _ _ _ _ _=>ls2 fun _ _=>rfl
 have FH:=y3 (st:=E3) lH cH kH
 have bH:=FH.binds (ps:=["found"]) fun _ _ _ _ _ _=>ls1 fun _=>rfl
 have FA:=y3 (st:=E6) lA cA kA
 have bA:=FA.binds (ps:=["found","due"]) fun _ _ _ _ _ _=>ls2 fun _ _=>rfl
 have FR:=y3 (st:=Y4) lR cR kR
 have bR:=FR.binds (ps:=["cell","many","size"]) fun _ _ _ _ _ _=>ls3 fun _ _ _=>rfl
 have FT:=y3 (st:=M3) lT cT kT
 have bT:=FT.binds (ps:=["cell","places"]) fun _ _ _ _ _ _=>ls2 fun _ _=>rfl
 have FM:=y3 (st:=E5) lM cM kM
 have bM:=FM.binds (ps:=["places","ties"]) fun _ _ _ _ _ _=>ls2 fun _ _=>rfl
 have FZ:=y3 (st:=S6) lZ cZ kZ
 exact⟨j9 "law" "law" (p6 S6) (o4 S6) (i5 S6) .none kVZ dcZ pmZ anZ cdZ ctZ,fun s v=>.of_eq rfl,fun base _ _=>aD0 FZ B (m4 X G mo) FI bI (m4 X G aI) FU bU (m4 X G aU) FV bV (m4 X G aV) FB bB (m4 X G aB) FP bP (m4 X G aP) FS bS (m4 X G aS) FC bC (m4 X G aC) FH bH (m4 X G aH) FA bA (m4 X G aA) FR bR (m4 X G aR) FT bT (m4 X G aT) FM bM (m4 X G aM)⟩
theorem walk {l:PySem.W.OpenLaw} {q:Program} {loose:List Str} {XP:(Str->Option Value)->Heap->Prop} {YP:World->Heap->Prop} {d:DefRec} {K:Params->PySem.W.Frag} (hn:l.most=some 63) (hdf:d.params.defaults=[])
  (hY:∀ (w:World) (h:Heap),YP w h->(K w.params).In h)
  (F : ∀ (w : World) (mg : Str -> Option Value) (fa : Addr) (h : Heap), (K w.params).In h -> h.Ns mainGlobals mg -> mg d.name = some (.ref fa) ->
   ∃ fd:FuncData,(∀ (s:Shared) (u:Value),BindsTo s fd ⟨[u],[]⟩ [("script",u)])/\∀ base:Heap,(K w.params).In base->base.Ns mainGlobals mg->u0 l.prog w (K w.params) mg base CX0 5 fa fd ["script"] (X9 (K w.params))) :
  PySem.W.WalkO q loose XP YP l.row.toRowW d [] (fun f vs=>PySem.call f vs):=
 L2.walk_of (n:=63) (k:=5) (x:="script") (CX:=fun _=>CX0) (sp:=fun w=>X9 (K w.params)) hn (by decide) hdf ⟨rfl,by decide,by decide⟩ hY F (fun _ _ a ns hl _ hS=>⟨a,ns,rfl,hS,hl,fun _=>rfl⟩) fun _ _ _ _ _ z=>z
end Web
set_option Elab.async false
namespace PySem.W.Fast
def tw12594229529422461594:=0
def tw8246269609678861676:=0
def tw13355355150912536693:=0
def tw7588878530743363410:=0
def tw12094333329341255596:=0
def tw7101573423943612975:=0
def tw1970582610017957518:=0
def tw4238161397322234690:=0
def tw9237000390964448597:=0
def tw15637926766815716831:=0
def tw15379180499878505830:=0
def tw84299336491224302:=0
def tw14378602795836869857:=0
def tw17509195684832587142:=0
def tw12818708200681652167:=0
def tw14180856834393511742:=0
def tw8931972625764601746:=0
def tw17401025638645543349:=0
def tw3129507713946116866:=0
def tw12725898878593671739:=0
def tw4934439271506460845:=0
def tw13014790240568011212:=0
def tw14359829694888704214:=0
def tw7055960966650028373:=0
def tw16953688280428730455:=0
def tw10674727778049048469:=0
def tw14629357581165034996:=0
def tw1562371038546771133:=0
def tw5279269315781477003:=0
def tw14597411110642955834:=0
def tw13505862916558454290:=0
def tw7675734150704826051:=0
def tw9569787319217076303:=0
def tw4743588843014160504:=0
def tw61300366626207716:=0
def tw14133024457011692802:=0
def tw11454073736553052958:=0
def tw11097098606675484740:=0
def tw3257685347311172959:=0
def tw5856824403094943857:=0
def tw12887367444355378599:=0
def tw5534433545600083599:=0
def tw768688404250363749:=0
def tw13880984623113599387:=0
def tw4308549607454848748:=0
def tw13902210934262142015:=0
def tw13215695978579024624:=0
def tw3449145723242435647:=0
def tw1531255629150451546:=0
def tw374473661852128753:=0
def tw17696259452635098954:=0
def tw8055507419481836983:=0
def tw9467639552060120878:=0
def tw18405922621607614107:=0
def tw14922644944745658314:=0
def tw8479700374843879655:=0
def tw17733288084801990224:=0
def tw4552445851060296469:=0
def tw14547541490797007082:=0
def tw11489398446311903070:=0
def tw6517191312305244339:=0
def tw5919126765764719273:=0
def tw10905921409786620234:=0
def tw5980741245871084593:=0
def tw18190082682400631824:=0
def tw10767848892648763012:=0
def tw14235852928743456235:=0
def tw5295483170386416951:=0
def tw3393382293471215740:=0
def tw12700790523121767918:=0
def tw3393568807994871927:=0
def tw455858040313750855:=0
def tw12244161899418699649:=0
def tw12340702989387144703:=0
def tw15071608345713013171:=0
def tw12821743660971140599:=0
def tw11342528066790415025:=0
end PySem.W.Fast
open PySem PySem.W PyProof.Rows
set_option maxRecDepth 100000 in
set_option maxHeartbeats 0 in
theorem PySem.Challenge.cw_tallyweb_k29_pieces_holds : PySem.Challenge.rw_tallyweb_k29_pieces.Holds := by
 w_on; o_law; k_head; (case hw => w_witness2)
 k_fill
 refine Web.walk (l := PySem.Challenge.rw_tallyweb_k29_pieces) rfl rfl (fun w h Y => PySem.W.kIn_of Y) ?F
 case F =>
  intro w mg fa h KX G hmg
  refine' Web.all_mk KX G hmg ?aI ?lI ?cI ?kI ?aU ?lU ?cU ?kU ?aV ?lV ?cV ?kV ?aB ?lB ?cB ?kB ?aP ?lP ?cP ?kP ?aS ?lS ?cS ?kS ?aC ?lC ?cC ?kC ?aH ?lH ?cH ?kH ?aA ?lA ?cA ?kA ?aR ?lR ?cR ?kR ?aT ?lT ?cT ?kT ?aM ?lM ?cM ?kM ?aZ ?lZ ?cZ ?kZ ?mo ?z1 ?z2 ?z3 ?z4 ?z5 ?z6 ?z7 ?z8 ?z9 ?z10 ?z11 ?z12 ?z13 ?z14 ?z15
  (case aI => k_is); (case lI => k_is); (case cI => k_is); (case kI => k_is)
  (case aU => k_is); (case lU => k_is); (case cU => k_is); (case kU => k_is)
  (case aV => k_is); (case lV => k_is); (case cV => k_is); (case kV => k_is)
  (case aB => k_is); (case lB => k_is); (case cB => k_is); (case kB => k_is)
  (case aP => k_is); (case lP => k_is); (case cP => k_is); (case kP => k_is)
  (case aS => k_is); (case lS => k_is); (case cS => k_is); (case kS => k_is)
  (case aC => k_is); (case lC => k_is); (case cC => k_is); (case kC => k_is)
  (case aH => k_is); (case lH => k_is); (case cH => k_is); (case kH => k_is)
  (case aA => k_is); (case lA => k_is); (case cA => k_is); (case kA => k_is)
  (case aR => k_is); (case lR => k_is); (case cR => k_is); (case kR => k_is)
  (case aT => k_is); (case lT => k_is); (case cT => k_is); (case kT => k_is)
  (case aM => k_is); (case lM => k_is); (case cM => k_is); (case kM => k_is)
  (case aZ => k_is); (case lZ => k_is); (case cZ => k_is); (case kZ => k_is)
  (case mo => k_is); (case z1 => k_is); (case z2 => k_is); (case z3 => k_is)
  (case z4 => k_is); (case z5 => k_is); (case z6 => k_is); (case z7 => k_is)
  (case z8 => k_is); (case z9 => k_is); (case z10 => k_is); (case z11 => k_is)
  (case z12 => k_is); (case z13 => k_is); (case z14 => k_is); (case z15 => k_is)
#print axioms PySem.Challenge.cw_tallyweb_k29_pieces_holds

