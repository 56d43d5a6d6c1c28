import PyProof.Rows.All
import Wide.All
import OpenK.AllK
import Wide.FinOn
import Lean
import PyProof.EqAt
import PyProof.EqKinds
import PyProof.TupleCall
import PyProof.Rows.SortRunsK
import PyProof.Rows.SortShellK
import KE.KSortTup
import PyProof.TupleKey
import PySem.SetOps
import PyProof.Rows.SetFrom
import PyProof.EnumFor
import PyProof.EnumStmt
import PyProof.EnumMake
import PyProof.P3Eq
import PyProof.NeData
import PyProof.P3In
import KE.KTryMore
import PyProof.NsDelKeeps
import PyProof.RulesAs
import PyProof.Rows.SumAny
import PyProof.ExcBaseAll.ValueError
import PyProof.ExcArgsOwn
import KE.KIsAll
import KE.KIntText
import KE.IntTextLaws
import PyProof.StrLawsIn
import PyProof.Rows.StrNews2
import PyProof.StrLawsOcc
import KE.KLam
import KE.KSortKey
import PyProof.ListRange
import PyProof.Rows.SortRev
import PyProof.TupleOfSeq
import PyProof.Draws
import KE.KTupSum
import PyProof.Cells
import PyProof.Rows.TupAdd
import PyProof.DictWalks
import PyProof.ConsumeWalk
import PyProof.DictKeyH
import PyProof.ListNew
import PyProof.ConsumeS
import PyProof.WalksMore
import KE.RegKIsAll
import KE.RegKTryMore
import PySem.Challenge.RW_tallyweb_k65_questions_refused
set_option autoImplicit false
set_option linter.all false
set_option Elab.async false
set_option maxRecDepth 100000
open PySem.W renaming nsIn->a4,mg_of->a7,keepIn->a9,codeIn->b9,fnOf->c3,mg_none_of->g6
open List renaming length_map->a8,mem_cons_of_mem->c2,size_toArray->c7,length_cons->d3,mem_append_right->d5,length_append->d9,replicate->f9,all_eq_true->h9,mem_cons_self->i5,mem_singleton->i8,getElem?_map->j4,getElem?_eq_getElem->j6,mem_append->j9,mem_cons->k6,map_append->k9,replicate_succ->n4,length_take->o4,length_drop->o5,filterMap_cons->p9,eq_nil_of_length_eq_zero->r6,take_of_length_le->r9,getD_eq_getElem?_getD->u5,getElem?_eq_some_iff->u9,flatten_cons->z0,getElem_mem->A4,mem_of_getElem?->B2,mem_of_mem_take->B3,map_cons->B7,mem_filterMap->D3,length_eq_one_iff->J1,nodup_cons->J7,length_replicate->J8,mem_append_left->K7,mem_of_mem_drop->K8,mem_range->L8,map_take->O0,take_add_one->O9,take_length->T3,mem_filter->V7,of_mem_zip->V8,length_set->V9,foldl_cons->W0,take_zero->X2,mem_or_eq_of_mem_set->X3,range->Z8,eraseIdx_cons_succ->ab8,getElem?_set_self->ab9,drop_eq_nil_of_le->ac0,filter_eq_nil_iff->ac2,length_singleton->ag6,getElem?_set_ne->ag8,filter_append->al2,foldl->ar0,lookup_cons->ar2
open PySem.Heap renaming lt_size->c6,get?_push_of_some->c8,get?_push_size->j1,get?_update_other->x9,size_push->X1,get?_update_self->ag5
open Nat renaming le_refl->c9,lt_of_lt_of_le->g8,ne_of_lt->g9,le_trans->j5,lt_irrefl->n0,zero_le->o6,lt_succ_of_lt->u4,ne_of_gt->T2,le_of_lt->ag7,succ_mul->ag9,mul_le_mul_right->aj9
open Bool renaming false_ne_true->d2,and_eq_true->d6,false_and->k8,eq_iff_iff->m9,and_false->M0
open Array renaming getElem?_toList->n6,getElem?_eq_some_iff->C5,length_toList->L9,append_assoc->M6,toList_inj->ar1
open Option renaming isSome_iff_exists->D4,getD_none->al1
open Int renaming emod_lt_of_pos->D5,emod_nonneg->J9,toNat_natCast->Q7,eq_ofNat_of_zero_le->ac1
namespace L2
open PySem PySem.Spec PyProof.Rows
abbrev Key:=Sum Int Str
def ak9:Key->Value->Bool
 | .inl k,v=>Value.isInt k v
 | .inr x,v=>Value.isStrOf x v
def az6 (w:World):Key->Int
 | .inl k=>hashInt k
 | .inr x=>hashStr w x
theorem p3:∀ {k:Key} {v:Value},ak9 k v=true->(∃ i t,k=Sum.inl i/\v=Value.int i t)\/(∃ x t,k=Sum.inr x/\v=Value.str x t)
 | .inl i,v,h=>by
  obtain⟨t,e⟩:=Value.isInt_shape (k:=i) (v:=v) h
  exact .inl ⟨i,t,rfl,e⟩
 | .inr x,v,h=>by
  obtain⟨t,e⟩:=Value.isStrOf_shape (x:=x) (v:=v) h
  exact .inr ⟨x,t,rfl,e⟩
theorem ap9 (a b:Int):decide ((Sum.inl a:Key)=Sum.inl b)=(a == b):=by
 by_cases e:a=b
 ·subst e;simp
 ·have h:¬ (Sum.inl a:Key)=Sum.inl b:=fun q=>e (Sum.inl.inj q)
  rw[decide_eq_false h]
  exact(beq_eq_false_iff_ne.mpr e).symm
theorem ap6 (a b:Str):decide ((Sum.inr a:Key)=Sum.inr b)=decide (a=b):=by
 by_cases e:a=b
 ·subst e;simp
 ·have h:¬ (Sum.inr a:Key)=Sum.inr b:=fun q=>e (Sum.inr.inj q)
  rw[decide_eq_false h,decide_eq_false e]
theorem ap8 (a:Int)(b:Str):decide ((Sum.inl a:Key)=Sum.inr b)=false:=decide_eq_false (fun q=>nomatch q)
theorem ap7 (a:Str)(b:Int):decide ((Sum.inr a:Key)=Sum.inl b)=false:=decide_eq_false (fun q=>nomatch q)
def S2 (prog:Program) (w:World):PySem.KeyKind prog w Key where
  is:=ak9
  hash:=az6 w
  inj:=fun v a b ha hb=>by
    rcases p3 ha with⟨i,t,rfl,rfl⟩ | ⟨x,t,rfl,rfl⟩
    · rcases p3 hb with⟨j,u,rfl,e⟩ | ⟨y,u,rfl,e⟩
      · injection e with e1 _;rw[e1]
      · exact nomatch e
    · rcases p3 hb with⟨j,u,rfl,e⟩ | ⟨y,u,rfl,e⟩
      · exact nomatch e
      · injection e with e1 _;rw[e1]
  byValue := fun k v h => by
    rcases p3 h with⟨i,t,rfl,rfl⟩ | ⟨x,t,rfl,rfl⟩<;>rfl
  pyHash:=fun hv h=>by
    rcases p3 hv with⟨i,t,rfl,rfl⟩ | ⟨x,t,rfl,rfl⟩
    · exact wpAny_pyHash_int h
    · exact wpAny_pyHash_str h
  eqBool:=fun hu hv h=>by
    rcases p3 hu with⟨i,t,rfl,rfl⟩ | ⟨x,t,rfl,rfl⟩
    · rcases p3 hv with⟨j,u,rfl,rfl⟩ | ⟨y,u,rfl,rfl⟩
      · rw[ap9]at h;exact wpAny_eqBool_int h
      · rw[ap8]at h;exact SeqAt.EqAt.int_str i t y u _ _ _ _ h
    · rcases p3 hv with⟨j,u,rfl,rfl⟩ | ⟨y,u,rfl,rfl⟩
      · rw[ap7]at h;exact SeqAt.EqAt.str_int x t j u _ _ _ _ h
      · rw[ap6]at h;exact wpAny_eqBool_str h
  «strs»:=fun k x t v h=>by
    rcases p3 h with⟨i,u,rfl,e⟩ | ⟨y,u,rfl,e⟩
    · exact nomatch e
    · injection e with e1 _
      subst e1
      cases v<;>rfl
inductive V where
 | non | bl (b:Bool) | int (i:Int) | str (x:Str) | byt (b:Array UInt8) | flt (b:UInt64) | ref (a:Addr) | ty (n:String)
 deriving DecidableEq
def RelV:V->Value->Prop
 | .non,u=>u=Value.none
 | .bl b,u=>u=Value.bool b
 | .int i,u=>∃ t,u=Value.int i t
 | .str x,u=>∃ t,u=Value.str x t
 | .byt b,u=>∃ t,u=Value.bytes b t
 | .flt b,u=>∃ t,u=Value.float b t
 | .ref a,u=>u=Value.ref a
 | .ty n,u=>u=Value.type n
abbrev i9:List V->List Value->Prop:=Paired RelV
theorem i9.length {xs:List V}{us:List Value}(r:i9 xs us):xs.length=us.length:=Paired.length r
theorem i9.get:∀ {xs:List V} {us:List Value} {i:Nat} {x:V},i9 xs us->xs[i]?=some x->∃ u,us[i]?=some u/\RelV x u
 | _,_,_,_,.nil,e=>by simp at e
 | _,_,0,_,.cons r _,e=>by simp at e;subst e;exact⟨_,rfl,r⟩
 | _,_,i+1,x,.cons _ t,e=>by
  obtain⟨u,h1,h2⟩:=i9.get (i:=i) (x:=x) t (by simpa using e)
  exact⟨u,by simpa using h1,h2⟩
theorem i9.set {x:V}{u:Value}(r:RelV x u):∀ {xs:List V} {us:List Value} (i:Nat),i9 xs us->i9 (xs.set i x) (us.set i u)
 | _,_,_,.nil=>.nil
 | _,_,0,.cons _ t=>.cons r t
 | _,_,i+1,.cons q t=>.cons q (i9.set r i t)
theorem i9.append:∀ {xs ys:List V} {us ws:List Value},i9 xs us->i9 ys ws->i9 (xs++ys) (us++ws)
 | _,_,_,_,.nil,s=>s
 | _,_,_,_,.cons r t,s=>.cons r (i9.append t s)
theorem i9.take:∀ {xs:List V} {us:List Value} (n:Nat),i9 xs us->i9 (xs.take n) (us.take n)
 | _,_,0,_=>.nil
 | _,_,_+1,.nil=>.nil
 | _,_,n+1,.cons r t=>.cons r (i9.take n t)
theorem i9.drop:∀ {xs:List V} {us:List Value} (n:Nat),i9 xs us->i9 (xs.drop n) (us.drop n)
 | _,_,0,r=>r
 | _,_,_+1,.nil=>.nil
 | _,_,n+1,.cons _ t=>i9.drop n t
def aw7:Option V->Option Value->Prop
 | some v,some u=>RelV v u
 | none,none=>True
 | _,_=>False
def KV {κ:Type}:List (κ × V)->List (κ × Value)->Prop:=Paired fun(p:κ × V) (q:κ × Value)=>p.1=q.1/\RelV p.2 q.2
def kV:Key->V
 | .inl i=>.int i
 | .inr x=>.str x
inductive HO where
  | lst (xs:List V)
  | tup (xs:List V)
  | dK (kvs:List (Key × V)) | dT (kvs:List (List Key × V))
  | set (S:Int->Bool) (n:Nat)
  | ins (C dx:Addr) (fs:List (Str × V))
  | own (x:Addr)
  | xd (fs:List (Str × V))
  | met (f x:Addr)
  | rng (lo hi:Int)
  | frz (o:Obj) (u:HO)
  | tbl (ps:Array Value)
  | ext (φ:Heap->Prop)
abbrev Hp:=Addr->Option HO
def upd (H:Hp)(a:Addr)(o:HO):Hp:=fun b=>if b=a then some o else H b
theorem c5 {H:Hp}{a:Addr}{o:HO}:upd H a o a=some o:=by unfold upd;rw[if_pos rfl]
theorem p6 {H:Hp}{a b:Addr}{o:HO}(h:b≠a):upd H a o b=H b:=by unfold upd;rw[if_neg h]
theorem t9 {H:Hp}{a b:Addr}{o:HO}(h:H a=some o)(h':H b=none):a≠b:=by
 intro e;subst e;rw[h]at h';cases h'
section
variable (P:Program) (w:World)
def x5 (H:Hp)(h:Heap)(a:Addr):HO->Prop
 | .lst xs=>xs.length<=sizeLine/\∃ (its:List Value) (n:Nat),i9 xs its/\h.get? a=some { cls:=.type "list",data:=.seq its.toArray n }
 | .tup xs=>xs.length<=sizeLine/\∃ its:List Value,i9 xs its/\IsTup h a its.toArray
 | .dK kvs=>kvs.length<=sizeLine/\(a == sysModules)=false/\∃ vs,KV kvs vs/\h.DictOf (S2 P w) a vs
 | .dT kvs=>kvs.length<=sizeLine/\(a == sysModules)=false/\∃ xs:List (List Key × Addr × Value),
   Paired (fun(p:List Key × V) (q:List Key × Addr × Value)=>p.1=q.1/\H q.2.1=some (.tup (p.1.map kV))/\RelV p.2 q.2.2) kvs xs /\
   ∃ o es ep,h.get? a=some o/\o.ExactDict/\o.data=.dict es ep/\es.toList=xs.map (entryOfKey (tupleKind (S2 P w)))/\(xs.map (·.1)).Nodup
 | .set S n=>h.SetOf (intKind P w) a S n
 | .ins C dx fs=>H dx=some (.own a)/\fs.length<=1000/\dx≠a/\h.get? a=some (PySem.W.instObj C dx) /\
   ∃ mA,h.Ns1 dx mA/\(∀ f,aw7 (fs.lookup f) (mA f))/\PySem.Within mA (fs.map (·.1))
 | .own _=>∃ o,h.get? a=some o
 | .xd fs=>∃ mA,h.Ns1 a mA/\∀ f,aw7 (fs.lookup f) (mA f)
 | .rng lo hi=>∃ t u v,h.get? a=some { cls:=.type "range",data:=.fields #[.int lo t,.int hi u,.int 1 v] }
 | .frz o u=>h.get? a=some o/\x5 H h a u
 | .tbl ps=>h.get? a=some { cls:=.none,data:=.fields ps }
 | .met f x=>h.get? a=some (PySem.W.methodObj (.ref f) (.ref x))
 | .ext φ=>φ h/\(∃ o,h.get? a=some o)/\∀ h1 h2:Heap,φ h1->(∀ o,h1.get? a=some o->h2.get? a=some o)->φ h2
def HOk (H:Hp)(h:Heap):Prop:=∀ a o,H a=some o->x5 P w H h a o
end
section
variable {P:Program} {w:World} {H H':Hp} {h h':Heap} {a:Addr} {o:HO}
theorem x5.lt (x:x5 P w H h a o):a<h.objs.size:=by
 cases o with
 | lst xs=>obtain⟨_,_,_,_,e⟩:=x;exact c6 e
 | tup xs=>obtain⟨_,_,_,p⟩:=x;exact p.lt
 | dK kvs=>obtain⟨_,_,_,_,o,_,_,e,_⟩:=x;exact c6 e
 | dT kvs=>obtain⟨_,_,_,_,o,_,_,e,_⟩:=x;exact c6 e
 | set S n=>obtain⟨o,_,_,_,e,_⟩:=x;exact c6 e
 | ins C dx fs=>obtain⟨_,_,_,e,_⟩:=x;exact c6 e
 | own y=>obtain⟨_,e⟩:=x;exact c6 e
 | xd fs=>obtain⟨_,⟨_,_,_,e,_⟩,_⟩:=x;exact c6 e
 | rng lo hi=>obtain⟨_,_,_,e⟩:=x;exact c6 e
 | frz ob u=>obtain⟨e,_⟩:=x;exact c6 e
 | tbl ps=>exact c6 (show h.get? a=some _ from x)
 | met f y=>exact c6 (show h.get? a=some _ from x)
 | ext φ=>obtain⟨_,⟨_,e⟩,_⟩:=x;exact c6 e
theorem Paired.mapP {α β:Type}{F G:α->β->Prop}:∀ {l₁:List α} {l₂:List β},Paired F l₁ l₂->(∀ a b,F a b->G a b)->Paired G l₁ l₂
 | _,_,.nil,_=>.nil
 | _,_,.cons r t,f=>.cons (f _ _ r) (Paired.mapP t f)
theorem x5.stay (x:x5 P w H h a o)(k:∀ b u,(b=a\/H b=some (.own a))->h.get? b=some u->h'.get? b=some u)
  (ho:∀ b,H b=some (.own a)->H' b=some (.own a))(ht:∀ b xs,H b=some (.tup xs)->H' b=some (.tup xs)):x5 P w H' h' a o:=by
 induction o with
 | lst xs=>obtain⟨z,its,n,r,e⟩:=x;exact⟨z,its,n,r,k _ _ (.inl rfl) e⟩
 | tup xs=>obtain⟨z,its,r,ob,e,c⟩:=x;exact⟨z,its,r,ob,k _ _ (.inl rfl) e,c⟩
 | dK kvs=>obtain⟨z,y,vs,r,ob,es,ep,e,c⟩:=x;exact⟨z,y,vs,r,ob,es,ep,k _ _ (.inl rfl) e,c⟩
 | dT kvs =>
  obtain⟨z,y,xs,r,ob,es,ep,e,c⟩:=x
  exact⟨z,y,xs,Paired.mapP r fun p q z=>⟨z.1,ht _ _ z.2.1,z.2.2⟩,ob,es,ep,k _ _ (.inl rfl) e,c⟩
 | set S n=>obtain⟨ob,es,ep,t,e,c⟩:=x;exact⟨ob,es,ep,t,k _ _ (.inl rfl) e,c⟩
 | ins C dx fs =>
  obtain⟨d,z,ne,e,mA,⟨od,es,ep,e2,c⟩,r⟩:=x
  exact⟨ho _ d,z,ne,k _ _ (.inl rfl) e,mA,⟨od,es,ep,k _ _ (.inr d) e2,c⟩,r⟩
 | own y=>obtain⟨ob,e⟩:=x;exact⟨ob,k _ _ (.inl rfl) e⟩
 | xd fs=>obtain⟨mA,⟨od,es,ep,e,c⟩,r⟩:=x;exact⟨mA,⟨od,es,ep,k _ _ (.inl rfl) e,c⟩,r⟩
 | rng lo hi=>obtain⟨t,u,v,e⟩:=x;exact⟨t,u,v,k _ _ (.inl rfl) e⟩
 | frz ob u ih=>obtain⟨e,q⟩:=x;exact⟨k _ _ (.inl rfl) e,ih q⟩
 | tbl ps =>
  have e:h.get? a=some { cls:=.none,data:=.fields ps }:=x
  show h'.get? a=some { cls:=.none,data:=.fields ps }
  exact k a _ (.inl rfl) e
 | met f y =>
  have e:h.get? a=some (PySem.W.methodObj (.ref f) (.ref y)):=x
  show h'.get? a=some (PySem.W.methodObj (.ref f) (.ref y))
  exact k a _ (.inl rfl) e
 | ext φ=>obtain⟨p,⟨o,e⟩,st⟩:=x;exact⟨st _ _ p fun o q=>k _ _ (.inl rfl) q,⟨o,k _ _ (.inl rfl) e⟩,st⟩
theorem HOk.lt (x:HOk P w H h)(e:H a=some o):a<h.objs.size:=(x a o e).lt
theorem HOk.fresh (x:HOk P w H h)(e:h.objs.size<=a):H a=none:=by
 cases q:H a with
 | none=>rfl
 | some u=>exact absurd (g8 (x.lt q) e) (n0 _)
theorem HOk.kept (x:HOk P w H h)(k:∀ b u,h.get? b=some u->h'.get? b=some u):HOk P w H h':=fun a o e =>
 (x a o e).stay (fun b u _ q=>k b u q) (fun _ q=>q) fun _ _ q=>q
theorem HOk.laid (x:HOk P w H h)(k:∀ b u,h.get? b=some u->h'.get? b=some u)(hp:h.objs.size<=a)(new:x5 P w (upd H a o) h' a o):HOk P w (upd H a o) h':=fun b u e=>by
 have hn:=x.fresh hp
 by_cases hb:b=a
 ·subst hb;rw[c5]at e;cases e;exact new
 ·rw[p6 hb]at e
  exact(x b u e).stay (fun c v _ q=>k c v q) (fun c q=>by rw[p6 (t9 q hn)];exact q) fun c xs q=>by rw[p6 (t9 q hn)];exact q
end
def Rd (H:Hp)(a:Addr)(u:HO):Prop:=H a=some u\/∃ o,H a=some (.frz o u)
theorem Rd.ok {P:Program}{w:World}{H:Hp}{h:Heap}{a:Addr}{u:HO}(r:Rd H a u)(x:HOk P w H h):x5 P w H h a u:=by
 rcases r with r | ⟨o,r⟩
 ·exact x a u r
 ·obtain⟨_,q⟩:=x a _ r
  exact q
def Mut:Option HO->Prop
 | some (.lst _)=>True
 | some (.dK _)=>True
 | some (.dT _)=>True
 | some (.set _ _)=>True
 | some (.ins _ _ _)=>True
 | some (.ext _)=>True
 | _=>False
section
variable {P:Program} {w:World} {H:Hp} {h h':Heap} {x e:Addr} {o':HO}
theorem HOk.write (ok:HOk P w H h)(mu:Mut (H x))(he:e=x\/H e=some (.own x))(k:∀ b u,b≠e->h.get? b=some u->h'.get? b=some u)(heo:∃ u,h'.get? e=some u)
  (new:x5 P w (upd H x o') h' x o'):HOk P w (upd H x o') h':=fun b u q=>by
 have nown:∀ c y,H c=some (.own y)->c≠x:=fun c y r z=>by subst z;rw[r]at mu;exact mu
 have ntup:∀ c xs,H c=some (.tup xs)->c≠x:=fun c xs r z=>by subst z;rw[r]at mu;exact mu
 by_cases hb:b=x
 ·subst hb;rw[c5]at q;cases q;exact new
 ·rw[p6 hb]at q
  by_cases hbe:b=e
  ·have q':H b=some (.own x):=by
    rcases he with z | z
    ·exact absurd (hbe.trans z) hb
    ·rw[hbe];exact z
   rw[q]at q';cases q'
   obtain⟨v,hv⟩:=heo
   exact⟨v,by rw[hbe];exact hv⟩
  ·refine(ok b u q).stay (fun c v hc r=>k c v ?_ r) (fun c r=>by rw[p6 (nown c b r)];exact r) fun c xs r=>by rw[p6 (ntup c xs r)];exact r
   rcases hc with rfl | hc
   ·exact hbe
   ·rintro rfl
    rcases he with z | z
    ·exact nown c b hc z
    ·rw[hc]at z;cases z;exact hb rfl
end
structure Un (fs ex:List Addr) (H H':Hp) (h h':Heap):Prop where
 keep:∀ b o,h.get? b=some o->H b=none->b∉fs->b∉ex->h'.get? b=some o
 slot:∀ b o,h.get? b=some o->H b=none->b∈fs->b∉ex->∃ sl,h'.get? b=some { o with slots:=sl }
 free:∀ b o,h.get? b=some o->H b=none->b∉ex->H' b=none
 there:∀ b o,h.get? b=some o->b∉ex->∃ o',h'.get? b=some o'
 tups:∀ b xs,H b=some (.tup xs)->H' b=some (.tup xs)
 frzs:∀ b o u,H b=some (.frz o u)->H' b=some (.frz o u)
 tbls:∀ b ps,H b=some (.tbl ps)->∃ more,H' b=some (.tbl (ps++more))
section
variable {fs fs' ex ex':List Addr} {H H1 H2:Hp} {h h1 h2 h':Heap} {a x e:Addr} {o:HO}
theorem Un.any (u:Un fs ex H H1 h h1){b:Addr}{ob:Obj}(q:h.get? b=some ob)(n:H b=none)(hx:b∉ex):∃ sl,h1.get? b=some { ob with slots:=sl }:=by
 by_cases hb:b∈fs
 ·exact u.slot b ob q n hb hx
 ·exact⟨ob.slots,u.keep b ob q n hb hx⟩
theorem Un.kept (k:∀ b u,h.get? b=some u->h'.get? b=some u):Un fs ex H H h h':=
 ⟨fun b ob q _ _ _=>k b ob q,fun b ob q _ _ _=>⟨ob.slots,k b ob q⟩,fun _ _ _ n _=>n,fun b ob q _=>⟨ob,k b ob q⟩,fun _ _ q=>q,fun _ _ _ q=>q,fun _ ps q=>⟨#[],by rw[q];simp⟩⟩
theorem Un.refl:Un fs ex H H h h:=Un.kept fun _ _ q=>q
theorem Un.laid (k:∀ b u,h.get? b=some u->h'.get? b=some u)(hp:h.objs.size<=a)(hn:H a=none):Un fs ex H (upd H a o) h h' where
 keep:=fun b u q _ _ _=>k b u q
 slot:=fun b u q _ _ _=>⟨u.slots,k b u q⟩
 free:=fun b u q n _=>by rw[p6 (g9 (g8 (c6 q) hp))];exact n
 there:=fun b u q _=>⟨u,k b u q⟩
 tups:=fun b xs q=>by rw[p6 (t9 q hn)];exact q
 frzs:=fun b u xs q=>by rw[p6 (t9 q hn)];exact q
 tbls:=fun b ps q=>⟨#[],by rw[p6 (t9 q hn),q];simp⟩
theorem Un.write (mu:Mut (H x))(he:e=x\/H e=some (.own x))(k:∀ b u,b≠e->h.get? b=some u->h'.get? b=some u)(heo:∃ u,h'.get? e=some u):Un fs ex H (upd H x o) h h':=by
 have hx:∀ b,H b=none->b≠x:=fun b n z=>by subst z;rw[n]at mu;exact mu
 have hb:∀ b,H b=none->b≠e:=fun b n z=>by
  subst z
  rcases he with r | r
  ·exact hx b n r
  ·rw[n]at r;cases r
 have hm:∀ b u,H b=some u->¬ Mut (some u)->b≠x:=fun b u q nm z=>by subst z;rw[q]at mu;exact nm mu
 refine⟨fun b u q n _ _=>k b u (hb b n) q,fun b u q n _ _=>⟨u.slots,k b u (hb b n) q⟩,fun b u q n _=>by rw[p6 (hx b n)];exact n,fun b u q _=>?_,
  fun b xs q=>by rw[p6 (hm b _ q fun z=>z)];exact q,fun b u xs q=>by rw[p6 (hm b _ q fun z=>z)];exact q,fun b ps q=>⟨#[],by rw[p6 (hm b _ q fun z=>z),q];simp⟩⟩
 by_cases hbe:b=e
 ·subst hbe;exact heo
 ·exact⟨u,k b u hbe q⟩
end
def trk (h:Heap)(H:Hp):List Addr:=(Z8 h.objs.size).filter fun a=>(H a).isSome
def S5 (h:Heap)(H:Hp):Heap:=PySem.W.hideAll h (trk h H)
theorem ab3 (h:Heap)(H:Hp):(S5 h H).objs.size=h.objs.size:=PySem.W.hideAll_size _ _
theorem af8 {h:Heap}{H:Hp}{b:Addr}{o:Obj}(e:h.get? b=some o)(n:H b=none):(S5 h H).get? b=some o:=
 PySem.W.hideAll_get _ e fun hm=>by
  have q:(H b).isSome=true:=(V7.mp hm).2
  rw[n]at q;simp at q
theorem aj1 {h:Heap}{H:Hp}{b:Addr}{o:Obj}(e:(S5 h H).get? b=some o):h.get? b=some o/\H b=none:=by
 have e':h.get? b=some o:=PySem.W.of_hideAll (trk h H) e
 refine⟨e',?_⟩
 cases q:H b with
 | none=>rfl
 | some x =>
  have hm:b∈trk h H:=V7.mpr ⟨L8.mpr (c6 e'),by simp[q]⟩
  have z:(S5 h H).get? b=none:=PySem.W.hideAll_none (trk h H) hm
  rw[z]at e;cases e
def aj6 (g h:Heap)(L:Addr):List (Addr × Obj):=(Z8 h.objs.size).filterMap fun a=>if a=L\/(g.get? a).isSome=true then none else (h.get? a).map fun o=>(a,o)
def rest (g h:Heap)(L d:Addr):List (Addr × Obj):=(aj6 g h L).filter fun p=>decide (p.1≠d)
structure Mod (K:W.Frag) (mg:Str->Option Value) (base:Heap):Prop where
 kin:K.In base
 glob:base.Ns mainGlobals mg
 blt:∃ mb,base.Ns builtinsNs mb/\∀ x:Str,x≠"__name__"->mb x=bootBuiltins x
 nolimit:base.NoLimit
structure Cx where
 prog:Program
 w:World
 K:W.Frag
 mg:Str->Option Value
 base:Heap
 A:Around
 N:List Str
 s₀:Shared
 H₀:Hp
 env:Env
 outer:List Env
 stack:List Env
 ex:List Addr
 fn:Str->Bool
 calm:Bool
 pn:List (Addr × Obj)
 xe:Value->Shared->Prop
def frs (l:List Env):List Addr:=l.filterMap (·.frame)
abbrev Cx.fs (X:Cx):List Addr:=frs X.outer
def Vis (sc:Scope)(x:Str):Prop:=sc.names.lookup x=some .local\/sc.names.lookup x=some .cell\/sc.names.lookup x=some .free
def Loc (sc:Scope)(x:Str):Prop:=sc.names.lookup x=some .local\/sc.names.lookup x=some .cell
def Look (env:Env)(h:Heap)(m:Str->Option Value)(x:Str)(u:Value):Prop:=
 (env.kindOf x=some .local/\m x=some u)\/((env.kindOf x=some .cell\/env.kindOf x=some .free)/\∃ c,env.cells.lookup x=some c/\h.IsCell c (some u))
structure Cx.Ok (X:Cx):Prop where
 mod:Mod X.K X.mg X.base
 kind:X.env.scope.kind=.function
 glob:X.env.globals=mainGlobals
 blt:X.env.builtins=builtinsNs
 above:X.s₀.heap.objs.size<=X.env.locals
 inj:∀ x y c,X.env.cells.lookup x=some c->X.env.cells.lookup y=some c->x=y
 has:∀ x,(X.env.kindOf x=some .cell\/X.env.kindOf x=some .free)->∃ c,X.env.cells.lookup x=some c
 cab:∀ x c,X.fn x=true->X.env.cells.lookup x=some c->X.s₀.heap.objs.size<=c
 hd:X.calm=true->X.A.handled=none
 frames:X.A.frames=some X.stack
 stk:X.stack=X.outer\/(X.stack=X.env::X.outer/\X.env.frame=some X.env.locals)
 exf:∀ b∈X.ex,b≠X.env.locals/\∀ x c,X.env.cells.lookup x=some c->c≠b
 bs:∀ b o,X.base.get? b=some o->X.s₀.heap.get? b=some o/\X.H₀ b=none
 bsz:X.base.objs.size<=X.s₀.heap.objs.size
 noex:∀ b o,X.base.get? b=some o->b∉X.ex
 exfs:∀ b∈X.ex,b∉X.fs
 funs:X.s₀.heap.FunFrames X.base X.outer
 frf:∀ b∈X.fs,X.H₀ b=none
structure Inv (X:Cx) (pins:List (Addr × Obj)) (σ:List (Option V)) (H:Hp) (s:Shared):Prop where
 ok:X.Ok
 os:s.os=X.s₀.os
 bare:AllBare s.gens
 base:Un X.fs X.ex X.H₀ H X.s₀.heap s.heap
 loc:∃ m,s.heap.Ns X.env.locals m/\∀ (i:Nat) (x:Str) (v:V),X.N[i]?=some x->σ[i]?=some (some v)->Vis X.env.scope x->∃ u,RelV v u/\Look X.env s.heap m x u
 cell:∀ x c,X.env.cells.lookup x=some c->∃ v,s.heap.IsCell c v
 free:H X.env.locals=none
 freeC:∀ x c,X.env.cells.lookup x=some c->H c=none
 pin:∀ p∈X.pn++pins,s.heap.get? p.1=some p.2/\H p.1=none/\p.1≠X.env.locals/\p.1∉X.fs/\∀ v,p.2.data≠.cell v
 hok:HOk X.prog X.w H s.heap
 len:σ.length=X.N.length
section
variable {X:Cx} {pins:List (Addr × Obj)} {σ:List (Option V)} {H H':Hp} {s:Shared} {h':Heap}
theorem Cx.Ok.nofr (ok:X.Ok){b:Addr}{o:Obj}(e:X.base.get? b=some o):b∉X.fs:=fun hb=>by
 have:=(ok.funs.mem hb).1
 rw[e]at this;cases this
theorem Inv.bs (I:Inv X pins σ H s):∀ b o,X.base.get? b=some o->s.heap.get? b=some o/\H b=none:=fun b o e =>
 ⟨I.base.keep b o (I.ok.bs b o e).1 (I.ok.bs b o e).2 (I.ok.nofr e) (I.ok.noex b o e),I.base.free b o (I.ok.bs b o e).1 (I.ok.bs b o e).2 (I.ok.noex b o e)⟩
theorem Inv.bk (I:Inv X pins σ H s):∀ b o,X.base.get? b=some o->s.heap.get? b=some o:=fun b o e=>(I.bs b o e).1
theorem Inv.mod (I:Inv X pins σ H s):Mod X.K X.mg X.base:=I.ok.mod
theorem Inv.kIn (I:Inv X pins σ H s):X.K.In s.heap:=I.ok.mod.kin.keeps I.bk
theorem Inv.lt (I:Inv X pins σ H s):X.env.locals<s.heap.objs.size:=let ⟨_,hn,_⟩:=I.loc;hn.lt
theorem Inv.sz (I:Inv X pins σ H s):X.s₀.heap.objs.size<=s.heap.objs.size:=j5 I.ok.above (ag7 I.lt)
theorem Inv.nofs (I:Inv X pins σ H s){a:Addr}(h:s.heap.objs.size<=a):a∉X.fs:=fun hb=>by
 obtain⟨_,o,ho,_⟩:=I.ok.funs.mem hb
 exact absurd (g8 (c6 ho) (j5 I.sz h)) (n0 _)
theorem Inv.cne (I:Inv X pins σ H s):∀ x c,X.env.cells.lookup x=some c->c≠X.env.locals:=fun x c e z=>by
 obtain⟨v,o,ho,hd⟩:=I.cell x c e
 obtain⟨m,⟨o',es,ep,ho',hd',_⟩,_⟩:=I.loc
 rw[z,ho']at ho;cases ho;rw[hd']at hd;cases hd
theorem Inv.funs (I:Inv X pins σ H s):s.heap.FunFrames X.base X.outer:=by
 have all:∀ (l:List Env),(∀ b∈frs l,b∈X.fs)->X.s₀.heap.FunFrames X.base l->s.heap.FunFrames X.base l:=by
  intro l
  induction l with
  | nil=>intro _ _;trivial
  | cons env r ih =>
   intro hs hl
   obtain⟨hk,⟨L,o,hf,hn,ho,hd⟩,hr⟩:=hl
   have hL:L∈X.fs:=hs L (by unfold frs;rw[p9,hf];exact i5)
   obtain⟨sl,e⟩:=I.base.slot L o ho (I.ok.frf L hL) hL fun z=>I.ok.exfs L z hL
   exact⟨hk,⟨L,_,hf,hn,e,hd⟩,ih (fun b hb=>hs b (by unfold frs;rw[p9,hf];exact c2 _ hb)) hr⟩
 exact all X.outer (fun _ hb=>hb) I.ok.funs
theorem Inv.stack (I:Inv X pins σ H s):s.heap.FunFrames X.base X.stack:=by
 rcases I.ok.stk with e | ⟨e,hf⟩
 ·rw[e];exact I.funs
 ·rw[e]
  obtain⟨m,hn,_⟩:=I.loc
  refine .cons (by rw[I.ok.kind];decide) hf hn ?_ I.funs
  exact Heap.get?_none_of_le (j5 I.ok.bsz I.ok.above)
theorem Inv.stkSub (I:Inv X pins σ H s):∀ b∈frs X.stack,b∈X.env.locals::X.fs:=fun b hb=>by
 rcases I.ok.stk with e | ⟨e,hf⟩
 ·rw[e]at hb;exact c2 _ hb
 ·rw[e]at hb
  unfold frs at hb
  rw[p9,hf]at hb
  exact hb
theorem Inv.stkFree (I:Inv X pins σ H s):∀ b∈frs X.stack,H b=none:=fun b hb=>by
 rcases k6.mp (I.stkSub b hb) with e | hb
 ·rw[e];exact I.free
 ·obtain⟨_,o,ho,_⟩:=I.ok.funs.mem hb
  exact I.base.free b o ho (I.ok.frf b hb) fun z=>I.ok.exfs b z hb
theorem Inv.step {g':Array GenState}{t':Nat}{d':Drawn}{ch:List Addr}(I:Inv X pins σ H s)
  (hch:∀ b∈ch,(b∈X.ex\/X.s₀.heap.objs.size<=b)/\b≠X.env.locals/\(∀ x c,X.env.cells.lookup x=some c->c≠b)/\∀ p∈X.pn++pins,p.1≠b)
  (keep:∀ b o,b≠X.env.locals->b∉X.fs->b∉ch->s.heap.get? b=some o->H b=none->h'.get? b=some o)
  (slot:∀ b o,b≠X.env.locals->b∈X.fs->b∉ch->s.heap.get? b=some o->H b=none->∃ sl,h'.get? b=some { o with slots:=sl })(free:∀ b o,b∉ch->s.heap.get? b=some o->H b=none->H' b=none)
  (there:∀ b o,b∉ch->s.heap.get? b=some o->∃ o',h'.get? b=some o')
  (tups:∀ b xs,H b=some (.tup xs)->H' b=some (.tup xs))(frzs:∀ b o u,H b=some (.frz o u)->H' b=some (.frz o u))(tbls:∀ b ps,H b=some (.tbl ps)->∃ more,H' b=some (.tbl (ps++more)))
  (ns:∀ m,s.heap.Ns X.env.locals m->h'.Ns X.env.locals m)(hok:HOk X.prog X.w H' h')(hg:AllBare g') :
  Inv X pins σ H' { s with heap:=h',gens:=g',drawn:=d',toks:=t' }:=by
 have neL:∀ b o,X.s₀.heap.get? b=some o->b≠X.env.locals:=fun b o e=>g9 (g8 (c6 e) I.ok.above)
 have neC:∀ b o,X.s₀.heap.get? b=some o->b∉X.ex->b∉ch:=fun b o e hx hb=>by
  rcases(hch b hb).1 with z | z
  ·exact hx z
  ·exact absurd (g8 (c6 e) z) (n0 _)
 have cellK:∀ x c,X.env.cells.lookup x=some c->∀ v,s.heap.IsCell c v->h'.IsCell c v:=fun x c e v ⟨o,ho,hd⟩=>by
  have nch:c∉ch:=fun z=>(hch c z).2.2.1 x c e rfl
  by_cases hc:c∈X.fs
  ·obtain⟨sl,q⟩:=slot c o (I.cne x c e) hc nch ho (I.freeC x c e)
   exact⟨_,q,hd⟩
  ·exact⟨o,keep c o (I.cne x c e) hc nch ho (I.freeC x c e),hd⟩
 refine⟨I.ok,I.os,hg,⟨fun b o e n hb hx=>?_,fun b o e n hb hx=>?_,fun b o e n hx=>?_,fun b o e hx=>?_,fun b xs e=>tups b xs (I.base.tups b xs e),fun b o xs e=>frzs b o xs (I.base.frzs b o xs e),fun b ps e=>?_⟩,?_,fun x c e=>?_,?_,fun x c e=>?_,fun p hp=>?_,hok,I.len⟩
 ·exact keep b o (neL b o e) hb (neC b o e hx) (I.base.keep b o e n hb hx) (I.base.free b o e n hx)
 ·obtain⟨sl,e1⟩:=I.base.slot b o e n hb hx
  obtain⟨sl',e2⟩:=slot b _ (neL b o e) hb (neC b o e hx) e1 (I.base.free b o e n hx)
  exact⟨sl',e2⟩
 ·obtain⟨o',e1⟩:=I.base.there b o e hx
  exact free b o' (neC b o e hx) e1 (I.base.free b o e n hx)
 ·obtain⟨o',e1⟩:=I.base.there b o e hx
  exact there b o' (neC b o e hx) e1
 ·obtain⟨m1,e1⟩:=I.base.tbls b ps e
  obtain⟨m2,e2⟩:=tbls b _ e1
  exact⟨m1++m2,by rw[e2,M6]⟩
 ·obtain⟨m,hn,hl⟩:=I.loc
  refine⟨m,ns m hn,fun i x v e1 e2 e3=>?_⟩
  obtain⟨u,r,l⟩:=hl i x v e1 e2 e3
  refine⟨u,r,?_⟩
  rcases l with l | ⟨k,c,e,z⟩
  ·exact .inl l
  ·exact .inr ⟨k,c,e,cellK x c e _ z⟩
 ·obtain⟨v,z⟩:=I.cell x c e
  exact⟨v,cellK x c e v z⟩
 ·obtain⟨m,⟨o,_,_,ho,_⟩,_⟩:=I.loc
  exact free _ o (fun z=>(hch _ z).2.1 rfl) ho I.free
 ·obtain⟨v,o,ho,hd⟩:=I.cell x c e
  exact free c o (fun z=>(hch c z).2.2.1 x c e rfl) ho (I.freeC x c e)
 ·obtain⟨e,n,ne,nf,d⟩:=I.pin p hp
  have nch:p.1∉ch:=fun z=>(hch p.1 z).2.2.2 p hp rfl
  exact⟨keep p.1 p.2 ne nf nch e n,free p.1 p.2 nch e n,ne,nf,d⟩
theorem Inv.un {t':Nat}(I:Inv X pins σ H s)(u:Un X.fs [] H H' s.heap h')(hok:HOk X.prog X.w H' h'):Inv X pins σ H' { s with heap:=h',toks:=t' }:=by
 obtain⟨m,⟨o,es,ep,ho,r⟩,_⟩:=id I.loc
 obtain⟨sl,hL⟩:=u.any ho I.free (by simp)
 exact I.step (g':=s.gens) (d':=s.drawn) (ch:=[]) (fun _ z=>nomatch z) (fun b o _ hb _ e n=>u.keep b o e n hb (by simp)) (fun b o _ hb _ e n=>u.slot b o e n hb (by simp)) (fun b o _ e n=>u.free b o e n (by simp)) (fun b o _ e=>u.there b o e (by simp)) u.tups u.frzs u.tbls (fun m' hm=>by
  obtain⟨o',es',ep',ho',r'⟩:=hm
  rw[ho]at ho';cases ho'
  exact⟨_,es',ep',hL,r'⟩) hok I.bare
theorem Inv.call {g':Array GenState}{t':Nat}{d':Drawn}{ch:List Addr}(I:Inv X pins σ H s)(u:Un (frs X.stack) ch H H' s.heap h')(hok:HOk X.prog X.w H' h')(hg:AllBare g')
  (hch:∀ b∈ch,(b∈X.ex\/X.s₀.heap.objs.size<=b)/\b≠X.env.locals/\(∀ x c,X.env.cells.lookup x=some c->c≠b)/\∀ p∈X.pn++pins,p.1≠b) :
  Inv X pins σ H' { s with heap:=h',gens:=g',drawn:=d',toks:=t' }:=by
 obtain⟨m,⟨o,es,ep,ho,r⟩,_⟩:=id I.loc
 obtain⟨sl,hL⟩:=u.any ho I.free fun z=>(hch _ z).2.1 rfl
 exact I.step (ch:=ch) hch (fun b o hL hb hc e n=>u.keep b o e n (fun z=>(k6.mp (I.stkSub b z)).elim hL hb) hc) (fun b o _ _ hc e n=>u.any e n hc) (fun b o hc e n=>u.free b o e n hc) (fun b o hc e=>u.there b o e hc) u.tups u.frzs u.tbls (fun m' hm=>by
  obtain⟨o',es',ep',ho',r'⟩:=hm
  rw[ho]at ho';cases ho'
  exact⟨_,es',ep',hL,r'⟩) hok hg
theorem Inv.turned {t':Nat}{it:Addr}(I:Inv X pins σ H s)(k:∀ b o,b≠it->s.heap.get? b=some o->h'.get? b=some o)(hn:H it=none)(hL:it≠X.env.locals)
  (h1:it∈X.ex\/X.s₀.heap.objs.size<=it)(h2:∀ x c,X.env.cells.lookup x=some c->c≠it)(h3:∀ p∈X.pn++pins,p.1≠it):Inv X pins σ H { s with heap:=h',toks:=t' }:=by
 have nit:∀ b u,H b=some u->b≠it:=fun b u e z=>by rw[z,hn]at e;cases e
 refine I.step (g':=s.gens) (d':=s.drawn) (ch:=[it]) (fun b hb=>?_) (fun b o _ _ hc e _=>k b o (fun z=>hc (by simp[z])) e) (fun b o _ _ hc e _=>⟨o.slots,k b o (fun z=>hc (by simp[z])) e⟩) (fun _ _ _ _ n=>n)
  (fun b o hc e=>⟨o,k b o (fun z=>hc (by simp[z])) e⟩) (fun _ _ e=>e) (fun _ _ _ e=>e) (fun b ps e=>⟨#[],by rw[e];simp⟩) (fun m hm=>?_) (fun b u e=>?_) I.bare
 ·have e:b=it:=by simpa using hb
  subst e
  exact⟨h1,hL,h2,h3⟩
 ·obtain⟨o,es,ep,ho,r⟩:=hm
  exact⟨o,es,ep,k _ o (Ne.symm hL) ho,r⟩
 ·refine(I.hok b u e).stay (fun c v hc q=>k c v ?_ q) (fun _ q=>q) fun _ _ q=>q
  rcases hc with z | z
  ·rw[z];exact nit b u e
  ·exact nit c _ z
theorem Inv.tok (I:Inv X pins σ H s)(t:Nat):Inv X pins σ H { s with toks:=t }:=I.un (h':=s.heap) (t':=t) Un.refl I.hok
theorem Inv.kept {t':Nat}(I:Inv X pins σ H s)(k:∀ b u,s.heap.get? b=some u->h'.get? b=some u):Inv X pins σ H { s with heap:=h',toks:=t' }:=I.un (Un.kept k) (I.hok.kept k)
theorem Inv.laid {a:Addr}{o:HO}{t':Nat}(I:Inv X pins σ H s)(k:∀ b u,s.heap.get? b=some u->h'.get? b=some u)(hp:s.heap.objs.size<=a)(new:x5 X.prog X.w (upd H a o) h' a o) :
  Inv X pins σ (upd H a o) { s with heap:=h',toks:=t' }:=I.un (Un.laid k hp (I.hok.fresh hp)) (I.hok.laid k hp new)
theorem Inv.write {x e:Addr}{o:HO}{t':Nat}(I:Inv X pins σ H s)(mu:Mut (H x))(he:e=x\/H e=some (.own x))(k:∀ b u,b≠e->s.heap.get? b=some u->h'.get? b=some u)(heo:∃ u,h'.get? e=some u)
  (new:x5 X.prog X.w (upd H x o) h' x o):Inv X pins σ (upd H x o) { s with heap:=h',toks:=t' }:=I.un (Un.write mu he k heo) (I.hok.write mu he k heo new)
theorem Inv.pins_of {pins':List (Addr × Obj)}(I:Inv X pins σ H s)(h:∀ p∈pins',s.heap.get? p.1=some p.2/\H p.1=none/\p.1≠X.env.locals/\p.1∉X.fs/\∀ v,p.2.data≠.cell v):Inv X pins' σ H s:=
 ⟨I.ok,I.os,I.bare,I.base,I.loc,I.cell,I.free,I.freeC,fun p hp=>(j9.mp hp).elim (fun z=>I.pin p (K7 _ z)) (h p),I.hok,I.len⟩
theorem U9 {N:List Str}(hN:N.Nodup){i j:Nat}{x:Str}(a:N[i]?=some x)(b:N[j]?=some x):i=j:=by
 obtain⟨h1,e1⟩:=u9.mp a
 obtain⟨h2,e2⟩:=u9.mp b
 exact(List.getElem_inj hN).mp (e1.trans e2.symm)
theorem P4 {M:Model}{A:Around}{E:Value->Shared->Prop}{i:Nat}{x:Str}{v:V}{u:Value}{Q:Unit->Shared->Prop}(I:Inv X pins σ H s)(hN:X.N.Nodup)(hi:X.N[i]?=some x)(hx:Loc X.env.scope x)(r:RelV v u)
  (h:∀ s',Inv X pins (σ.set i (some v)) H s'->(∃ a,Heap.SameBut a s.heap s'.heap/\(a=X.env.locals\/X.env.cells.lookup x=some a))->Q () s')(hf:X.fn x=true\/X.env.scope.names.lookup x=some .local:=by first | exact .inl rfl | exact .inr rfl | assumption):wpAny M A (storeName X.env x u) Q E s:=by
 obtain⟨m,hn,hl⟩:=id I.loc
 have hcls:(X.env.scope.kind == .class || (X.env.scope.kind == .module && X.env.locals != X.env.globals))=false:=by rw[I.ok.kind];rfl
 have hiσ:i<σ.length:=by rw[I.len];exact(u9.mp hi).1
 have cne:=I.cne
 have tracked:∀ {a:Addr} {h':Heap},(∃ o,s.heap.get? a=some o/\H a=none)->Heap.SameBut a s.heap h'->HOk X.prog X.w H h':=fun {a h'} ha hs b ob e=>by
  obtain⟨_,_,hfree⟩:=ha
  refine(I.hok b ob e).stay (fun c w' hc q=>(hs.2 c ?_).trans q) (fun _ q=>q) fun _ _ q=>q
  rintro rfl
  rcases hc with rfl | hc
  ·rw[hfree]at e;cases e
  ·rw[hfree]at hc;cases hc
 rcases hx with hk | hk
 ·refine wpAny_storeName_local hk hn (fun h' hn' hs=>?_) hcls
  obtain⟨oL,_,_,hoL,_⟩:=id hn
  refine h _ ⟨I.ok,I.os,I.bare,⟨fun b o e n hb hx=>?_,fun b o e n hb hx=>?_,I.base.free,fun b o e hx=>?_,I.base.tups,I.base.frzs,I.base.tbls⟩,⟨_,hn',fun j y v' e1 e2 e3=>?_⟩,fun y c e=>?_,I.free,I.freeC,fun p hp=>?_,tracked ⟨oL,hoL,I.free⟩ hs,by simpa using I.len⟩ ⟨_,hs,.inl rfl⟩
  ·exact(hs.2 b (g9 (g8 (c6 e) I.ok.above))).trans (I.base.keep b o e n hb hx)
  ·obtain⟨sl,e1⟩:=I.base.slot b o e n hb hx
   exact⟨sl,(hs.2 b (g9 (g8 (c6 e) I.ok.above))).trans e1⟩
  ·obtain⟨o',e1⟩:=I.base.there b o e hx
   exact⟨o',(hs.2 b (g9 (g8 (c6 e) I.ok.above))).trans e1⟩
  ·by_cases hj:j=i
   ·subst hj
    rw[hi]at e1;cases e1
    rw[ab9 hiσ]at e2
    cases e2
    exact⟨u,r,.inl ⟨hk,by simp⟩⟩
   ·rw[ag8 (Ne.symm hj)]at e2
    obtain⟨u',r',q⟩:=hl j y v' e1 e2 e3
    refine⟨u',r',?_⟩
    rcases q with⟨k,e⟩ | ⟨k,c,e,z⟩
    ·refine .inl ⟨k,?_⟩
     have:y≠x:=fun e=>hj (U9 hN e1 (e ▸ hi))
     simp[this,e]
    ·exact .inr ⟨k,c,e,z.sameBut hs (cne y c e)⟩
  ·obtain⟨w',z⟩:=I.cell y c e
   exact⟨w',z.sameBut hs (cne y c e)⟩
  ·obtain⟨e,n,ne,nf,d⟩:=I.pin p hp
   exact⟨(hs.2 p.1 ne).trans e,n,ne,nf,d⟩
 ·have hfn:X.fn x=true:=by
   rcases hf with z | z
   ·exact z
   ·rw[z]at hk;cases hk
  obtain⟨c,hc⟩:=I.ok.has x (.inl hk)
  obtain⟨w',z⟩:=I.cell x c hc
  refine wpAny_storeName_cell I.ok.kind hk hc z (fun h' hc' hs=>?_)
  obtain⟨oc,hoc,hocd⟩:=id z
  refine h { s with heap:=h' } ⟨I.ok,I.os,I.bare,⟨fun b o e n hb hx=>?_,fun b o e n hb hx=>?_,I.base.free,fun b o e hx=>?_,I.base.tups,I.base.frzs,I.base.tbls⟩,⟨m,hn.sameBut hs (Ne.symm (cne x c hc)),fun j y v' e1 e2 e3=>?_⟩,fun y c' e=>?_,I.free,I.freeC,fun p hp=>?_,tracked ⟨oc,hoc,I.freeC x c hc⟩ hs,by simpa using I.len⟩ ⟨c,hs,.inr hc⟩
  ·exact(hs.2 b (g9 (g8 (c6 e) (I.ok.cab x c hfn hc)))).trans (I.base.keep b o e n hb hx)
  ·obtain⟨sl,e1⟩:=I.base.slot b o e n hb hx
   exact⟨sl,(hs.2 b (g9 (g8 (c6 e) (I.ok.cab x c hfn hc)))).trans e1⟩
  ·obtain⟨o',e1⟩:=I.base.there b o e hx
   exact⟨o',(hs.2 b (g9 (g8 (c6 e) (I.ok.cab x c hfn hc)))).trans e1⟩
  ·by_cases hj:j=i
   ·subst hj
    rw[hi]at e1;cases e1
    rw[ab9 hiσ]at e2
    cases e2
    exact⟨u,r,.inr ⟨.inl hk,c,hc,hc'⟩⟩
   ·rw[ag8 (Ne.symm hj)]at e2
    obtain⟨u',r',q⟩:=hl j y v' e1 e2 e3
    refine⟨u',r',?_⟩
    rcases q with q | ⟨k,c',e,z'⟩
    ·exact .inl q
    ·refine .inr ⟨k,c',e,z'.sameBut hs ?_⟩
     rintro rfl
     exact hj (U9 hN e1 (I.ok.inj _ _ _ e hc ▸ hi))
  ·by_cases hcc:c'=c
   ·subst hcc;exact⟨_,hc'⟩
   ·obtain⟨w2,z2⟩:=I.cell y c' e
    exact⟨w2,z2.sameBut hs hcc⟩
  ·obtain⟨e,n,ne,nf,d⟩:=I.pin p hp
   refine⟨(hs.2 p.1 ?_).trans e,n,ne,nf,d⟩
   intro q
   rw[q,hoc]at e
   have q':oc=p.2:=Option.some.inj e
   exact d w' (by rw[<- q'];exact hocd)
theorem T4 {M:Model}{A:Around}{E:Value->Shared->Prop}{i:Nat}{x:Str}{v:V}{u:Value}{Q:Unit->Shared->Prop}(I:Inv X pins σ H s)(hN:X.N.Nodup)(hi:X.N[i]?=some x)(hx:Loc X.env.scope x)(r:RelV v u)
  (h:∀ s',Inv X pins (σ.set i (some v)) H s'->Q () s')(hf:X.fn x=true\/X.env.scope.names.lookup x=some .local:=by first | exact .inl rfl | exact .inr rfl | assumption):wpAny M A (storeName X.env x u) Q E s:=
 P4 I hN hi hx r (fun s' I' _=>h s' I') hf
theorem Inv.call' {s':Shared}{ch:List Addr}(I:Inv X pins σ H s)(ho:s'.os=s.os)(u:Un (frs X.stack) ch H H' s.heap s'.heap)(hok:HOk X.prog X.w H' s'.heap)(hg:AllBare s'.gens)
  (hch:∀ b∈ch,(b∈X.ex\/X.s₀.heap.objs.size<=b)/\b≠X.env.locals/\(∀ x c,X.env.cells.lookup x=some c->c≠b)/\∀ p∈X.pn++pins,p.1≠b):Inv X pins σ H' s':=by
 obtain⟨h',g',d',t',o'⟩:=s'
 have e:o'=s.os:=ho
 subst e
 exact I.call (g':=g') (t':=t') (d':=d') u hok hg hch
end
abbrev XK:=Value->Option Addr->Hp->Prop
abbrev St:=List (Option V)
abbrev VK:=V->Hp->Prop
abbrev TE:=St->Hp->VK->Prop
abbrev TT:=St->Hp->(Bool->Hp->Prop)->Prop
abbrev TA:=St->Hp->(List V->Hp->Prop)->Prop
structure Ends where
 nx:St->Hp->Prop
 rt:VK
 bk:St->Hp->Prop:=fun _ _=>False
 ct:St->Hp->Prop:=fun _ _=>False
abbrev TS:=Ends->St->Hp->Prop
def EP (X:Cx)(pins:List (Addr × Obj))(σ:St)(Q:VK)(u:Value)(s':Shared):Prop:=∃ v H',Inv X pins σ H' s'/\RelV v u/\Q v H'
def TP (X:Cx)(pins:List (Addr × Obj))(σ:St)(Q:Bool->Hp->Prop)(b:Bool)(s':Shared):Prop:=∃ H',Inv X pins σ H' s'/\Q b H'
def AP (X:Cx)(pins:List (Addr × Obj))(σ:St)(Q:List V->Hp->Prop)(us:List Value)(s':Shared):Prop:=∃ vs H',Inv X pins σ H' s'/\i9 vs us/\Q vs H'
def SP (X:Cx)(pins:List (Addr × Obj))(D:Ends)(f:Flow)(s':Shared):Prop:=
 match f with
 | .next=>∃ σ' H',Inv X pins σ' H' s'/\D.nx σ' H'
 | .brk=>∃ σ' H',Inv X pins σ' H' s'/\D.bk σ' H'
 | .cont=>∃ σ' H',Inv X pins σ' H' s'/\D.ct σ' H'
 | .ret u=>∃ v σ' H',Inv X pins σ' H' s'/\RelV v u/\D.rt v H'
def PE (X:Cx)(e:Expr)(t:TE):Prop:=
 ∀ (pins:List (Addr × Obj)) (s:Shared) (σ:St) (H:Hp) (Q:VK),Inv X pins σ H s->t σ H Q->wpAny (model X.prog X.w) X.A (eval e X.env) (EP X pins σ Q) X.xe s
def PT (X:Cx)(e:Expr)(t:TT):Prop:=
 ∀ (pins:List (Addr × Obj)) (s:Shared) (σ:St) (H:Hp) (Q:Bool->Hp->Prop),Inv X pins σ H s->t σ H Q->wpAny (model X.prog X.w) X.A (isTrue e X.env (eval e X.env)) (TP X pins σ Q) X.xe s
def PW (X:Cx)(e:Expr)(t:TT):Prop:=
 ∀ (whole:Sem Value) (pins:List (Addr × Obj)) (s:Shared) (σ:St) (H:Hp) (Q:Bool->Hp->Prop),Inv X pins σ H s->t σ H Q->wpAny (model X.prog X.w) X.A (isTrue e X.env whole) (TP X pins σ Q) X.xe s
theorem PW.pt {X:Cx}{e:Expr}{t:TT}(h:PW X e t):PT X e t:=h _
def PA (X:Cx)(es:List Expr)(t:TA):Prop:=
 ∀ (pos:Pos) (pins:List (Addr × Obj)) (s:Shared) (σ:St) (H:Hp) (Q:List V->Hp->Prop),Inv X pins σ H s->t σ H Q->wpAny (model X.prog X.w) X.A (spliced (backTo pos (starEach es X.env))) (AP X pins σ Q) X.xe s
def PS (X:Cx)(st:Stmt)(t:TS):Prop:=
 ∀ (pins:List (Addr × Obj)) (s:Shared) (σ:St) (H:Hp) (D:Ends),Inv X pins σ H s->t D σ H->wpAny (model X.prog X.w) X.A (exec st X.env) (SP X pins D) X.xe s
def PSs (X:Cx)(st:List Stmt)(t:TS):Prop:=
 ∀ (pins:List (Addr × Obj)) (s:Shared) (σ:St) (H:Hp) (D:Ends),Inv X pins σ H s->t D σ H->wpAny (model X.prog X.w) X.A (execs st X.env) (SP X pins D) X.xe s
theorem thn {α:Type}{t:Sem α}{Q Q':α->Shared->Prop}{M:Model}{A:Around}{E:Value->Shared->Prop}{s:Shared}(h:wpAny M A t Q E s)(hQ:∀ a s,Q a s->Q' a s):wpAny M A t Q' E s:=wpAny_mono h hQ fun _ _ x=>x
section
variable {X:Cx}
def ar5 (i:Nat):TE:=fun σ H Q=>∃ v,σ[i]?=some (some v)/\Q v H
def tC (v:V):TE:=fun _ H Q=>Q v H
theorem an5 {i:Nat}{x:Str}{pos:Pos}(hN:X.N[i]?=some x)(hv:Vis X.env.scope x)(hd:(x == ("__debug__":Str))=false:=by decide)(hcd:(x == ("__classdict__":Str))=false:=by decide):PE X (.Name x pos) (ar5 i):=by
 intro pins s σ H Q I h
 obtain⟨v,e,h⟩:=h
 obtain⟨m,hn,hl⟩:=I.loc
 obtain⟨u,r,l⟩:=hl i x v hN e hv
 have fin:EP X pins σ Q u s:=⟨v,H,I,r,h⟩
 rcases l with⟨hk,hm⟩ | ⟨hk,c,hc,hcell⟩
 ·exact wpAny_Name (wpAny_loadName_local I.ok.kind hk hn hm fin) hd
 ·rcases hk with hk | hk
  ·exact wpAny_Name (wpAny_loadName_cell I.ok.kind hk hc hcell fin) hd
  ·exact wpAny_Name (wpAny_loadName_free I.ok.kind hk hc hcell fin hcd) hd
theorem a5 {i j pos}:PE X (.Constant (.int i) j pos) (tC (.int i)):=fun _ _ _ H _ I h=>wpAny_Constant_int ⟨.int i,H,I.tok _,⟨_,rfl⟩,h⟩
theorem E7 {b j pos}:PE X (.Constant (.bool b) j pos) (tC (.bl b)):=fun _ _ _ H _ I h=>Constant_bool ⟨.bl b,H,I,rfl,h⟩
theorem an6 {j pos}:PE X (.Constant .none j pos) (tC .non):=fun _ _ _ H _ I h=>Constant_none ⟨.non,H,I,rfl,h⟩
theorem e7 {x j pos}:PE X (.Constant (.str x) j pos) (tC (.str x)):=fun _ _ _ H _ I h=>Calls.Constant_str ⟨.str x,H,I.tok _,⟨_,rfl⟩,h⟩
def Gl (X:Cx)(x:Str):Prop:=X.env.kindOf x=some .globalImplicit
theorem J5 {E:Value->Shared->Prop}{pins:List (Addr × Obj)}{s:Shared}{σ:St}{H:Hp}{x:Str}{u:Value}{pos:Pos}{Q:Value->Shared->Prop}(I:Inv X pins σ H s)(hg:Gl X x)(hm:X.mg x=some u)(h:Q u s)
  (hd:(x == ("__debug__":Str))=false:=by decide):wpAny (model X.prog X.w) X.A (eval (.Name x pos) X.env) Q E s :=
 Calls.Name_function_global I.ok.kind hg (Calls.loadGlobal_global (by rw[I.ok.glob];exact I.mod.glob.keeps I.bk) hm h) hd
theorem W8 {E:Value->Shared->Prop}{pins:List (Addr × Obj)}{s:Shared}{σ:St}{H:Hp}{x:Str}{u:Value}{pos:Pos}{Q:Value->Shared->Prop}(I:Inv X pins σ H s)(hg:Gl X x)(hm:X.mg x=none)(hv:bootBuiltins x=some u)(h:Q u s)
  (hn:x≠"__name__":=by decide)(hd:(x == ("__debug__":Str))=false:=by decide):wpAny (model X.prog X.w) X.A (eval (.Name x pos) X.env) Q E s:=by
 obtain⟨mb,h1,h2⟩:=I.mod.blt
 exact Calls.Name_function_global I.ok.kind hg (Calls.loadGlobal_builtin (by rw[I.ok.glob];exact I.mod.glob.keeps I.bk) hm (by rw[I.ok.blt];exact h1.keeps I.bk) ((h2 x hn).trans hv) h) hd
theorem u7 {x:Str}{v:V}{u:Value}{pos:Pos}(hg:Gl X x)(hm:X.mg x=some u)(r:RelV v u)(hd:(x == ("__debug__":Str))=false:=by decide):PE X (.Name x pos) (tC v) :=
 fun _ _ _ H _ I h=>J5 I hg hm ⟨v,H,I,r,h⟩ hd
variable {a b:Expr} {ta tb:TE} {pos:Pos}
def tB (t:TE):TT:=fun σ H Q=>t σ H fun x H1=>∃ c,x=.bl c/\Q c H1
theorem E3 {e:Expr}{t:TE}(h:PE X e t)(he:∀ whole,isTrue e X.env whole=(do let v <- whole;standAt e.pos;holding [v] (truthy v)):=by intro _;rfl):PT X e (tB t):=by
 intro pins s σ H Q I hw
 refine isTrue_plain (thn (h pins s σ H _ I hw) fun v s1 ⟨x,H1,I1,r1,q1⟩=>?_) (he _)
 obtain⟨d,rfl,q⟩:=q1
 cases r1
 exact wpAny_truthy_bool ⟨H1,I1,q⟩
variable {tA tB':TT} {rest:List Expr}
def ay1 (t u:TT):TT:=fun σ H Q=>t σ H fun c H1=>if c=true then u σ H1 Q else Q false H1
def tOr (t u:TT):TT:=fun σ H Q=>t σ H fun c H1=>if c=true then Q true H1 else u σ H1 Q
def ax4 (t:TT):TT:=fun σ H Q=>t σ H fun c H1=>Q (!c) H1
theorem Y2 (ha:PT X a tA):PW X (.BoolOp .And [a] pos) tA:=by
 intro wh pins s σ H Q I h
 refine isTrue_and (thn (ha pins s σ H Q I h) fun c s1 e=>?_)
 cases c with
 | true=>exact isTrue_and_nil e
 | false=>exact e
theorem G9 (ha:PT X a tA):PW X (.BoolOp .Or [a] pos) tA:=by
 intro wh pins s σ H Q I h
 refine isTrue_or (thn (ha pins s σ H Q I h) fun c s1 e=>?_)
 cases c with
 | false=>exact isTrue_or_nil e
 | true=>exact e
theorem ae1 (ha:PT X a tA)(hb:PW X (.BoolOp .And (b::rest) pos) tB'):PW X (.BoolOp .And (a::b::rest) pos) (ay1 tA tB'):=by
 intro wh pins s σ H Q I h
 refine isTrue_and (thn (ha pins s σ H _ I h) fun c s1 ⟨H1,I1,q1⟩=>?_)
 cases c with
 | true=>exact hb wh pins s1 σ H1 Q I1 q1
 | false=>exact⟨H1,I1,q1⟩
theorem N0 (ha:PT X a tA)(hb:PW X (.BoolOp .Or (b::rest) pos) tB'):PW X (.BoolOp .Or (a::b::rest) pos) (tOr tA tB'):=by
 intro wh pins s σ H Q I h
 refine isTrue_or (thn (ha pins s σ H _ I h) fun c s1 ⟨H1,I1,q1⟩=>?_)
 cases c with
 | true=>exact⟨H1,I1,q1⟩
 | false=>exact hb wh pins s1 σ H1 Q I1 q1
theorem E4 (ha:PT X a tA):PT X (.UnaryOp .Not a pos) (ax4 tA):=by
 intro pins s σ H Q I h
 exact isTrue_not (ha pins s σ H (fun c H1=>Q (!c) H1) I h)
def as3 (ta tb:TE):TE:=fun σ H Q=>ta σ H fun x H1=>∃ c,x=.bl c/\if c=true then tb σ H1 Q else Q (.bl false) H1
def ax3 (ta tb:TE):TE:=fun σ H Q=>ta σ H fun x H1=>∃ c,x=.bl c/\if c=true then Q (.bl true) H1 else tb σ H1 Q
theorem R6 {op}{t:TE}(h:PE X a t):PE X (.BoolOp op [a] pos) t:=fun pins s σ H Q I hw=>BoolOp_one (h pins s σ H Q I hw)
theorem ae7 (ha:PE X a ta)(hb:PE X (.BoolOp .And (b::rest) pos) tb):PE X (.BoolOp .And (a::b::rest) pos) (as3 ta tb):=by
 intro pins s σ H Q I h
 refine BoolOp_and (thn (ha pins s σ H _ I h) fun v s1 ⟨x,H1,I1,r1,q1⟩=>?_)
 obtain⟨c,rfl,q1⟩:=q1
 cases r1
 refine wpAny_truthy_bool ?_
 cases c with
 | true=>exact hb pins s1 σ H1 Q I1 q1
 | false=>exact⟨.bl false,H1,I1,rfl,q1⟩
theorem ak6 (ha:PE X a ta)(hb:PE X (.BoolOp .Or (b::rest) pos) tb):PE X (.BoolOp .Or (a::b::rest) pos) (ax3 ta tb):=by
 intro pins s σ H Q I h
 refine BoolOp_or (thn (ha pins s σ H _ I h) fun v s1 ⟨x,H1,I1,r1,q1⟩=>?_)
 obtain⟨c,rfl,q1⟩:=q1
 cases r1
 refine wpAny_truthy_bool ?_
 cases c with
 | false=>exact hb pins s1 σ H1 Q I1 q1
 | true=>exact⟨.bl true,H1,I1,rfl,q1⟩
def tIf (t:TT)(ta tb:TE):TE:=fun σ H Q=>t σ H fun c H1=>if c=true then ta σ H1 Q else tb σ H1 Q
theorem U4 {c:Expr}(hc:PT X c tA)(ha:PE X a ta)(hb:PE X b tb):PE X (.IfExp c a b pos) (tIf tA ta tb):=by
 intro pins s σ H Q I h
 refine wpAny_IfExp (thn (hc pins s σ H _ I h) fun d s1 ⟨H1,I1,q1⟩=>?_)
 cases d with
 | true=>exact ha pins s1 σ H1 Q I1 q1
 | false=>exact hb pins s1 σ H1 Q I1 q1
end
def SqL (K:W.Frag)(H:Hp)(a:Addr)(xs:List V):Prop:=
 Rd H a (.lst xs) \/
  ∃ (o:Obj) (its:Array Value) (n:Nat),K.lookup a=some o/\o.cls=.type "list"/\o.dict=none/\o.data=.seq its n/\its.size<=sizeLine/\i9 xs its.toList
def SqT (K:W.Frag)(H:Hp)(a:Addr)(xs:List V):Prop:=
 Rd H a (.tup xs) \/
  ∃ (o:Obj) (its:Array Value) (n:Nat),K.lookup a=some o/\o.cls=.type "tuple"/\o.data=.seq its n/\its.size<=sizeLine/\i9 xs its.toList
def aA1:Value->Option V
 | .none=>some .non
 | .bool b=>some (.bl b)
 | .int i _=>some (.int i)
 | .str x _=>some (.str x)
 | .bytes b _=>some (.byt b)
 | .float b _=>some (.flt b)
 | .ref a=>some (.ref a)
 | .type n=>some (.ty n)
 | _=>none
theorem RelV.abs {x:V}{u:Value}(r:RelV x u):aA1 u=some x:=by
 cases x with
 | non=>cases r;rfl
 | bl _=>cases r;rfl
 | int _=>obtain⟨t,rfl⟩:=r;rfl
 | str _=>obtain⟨t,rfl⟩:=r;rfl
 | byt _=>obtain⟨t,rfl⟩:=r;rfl
 | flt _=>obtain⟨t,rfl⟩:=r;rfl
 | ref _=>cases r;rfl
 | ty _=>cases r;rfl
theorem RelV.inj {x y:V}{u:Value}(r:RelV x u)(q:RelV y u):x=y:=Option.some.inj (r.abs.symm.trans q.abs)
theorem i9.inj:∀ {xs ys:List V} {us:List Value},i9 xs us->i9 ys us->xs=ys
 | _,_,_,.nil,.nil=>rfl
 | _,_,_,.cons r t,.cons r' t'=>by rw[r.inj r',i9.inj t t']
section
variable {X:Cx} {pins:List (Addr × Obj)} {σ:St} {H:Hp} {s:Shared} {a:Addr} {xs ys:List V}
theorem SqL.of {K:W.Frag}(h:H a=some (.lst xs)):SqL K H a xs:=.inl (.inl h)
theorem SqT.of {K:W.Frag}(h:H a=some (.tup xs)):SqT K H a xs:=.inl (.inl h)
theorem Inv.list (I:Inv X pins σ H s)(h:SqL X.K H a xs):∃ its:List Value,i9 xs its/\PlainL s.heap a its.toArray/\xs.length<=sizeLine:=by
 rcases h with h | ⟨o,its,n,hk,hc,hd,hs,hz,r⟩
 ·obtain⟨z,its,n,r,e⟩:=h.ok I.hok
  exact⟨its,r,⟨_,n,e,rfl,rfl,rfl⟩,z⟩
 ·refine⟨its.toList,r,⟨o,n,I.kIn a o hk,hc,hd,by simpa using hs⟩,?_⟩
  have e:=r.length
  simp only[L9]at e
  omega
theorem Inv.tuple (I:Inv X pins σ H s)(h:SqT X.K H a xs):∃ its:List Value,i9 xs its/\IsTup s.heap a its.toArray/\xs.length<=sizeLine:=by
 rcases h with h | ⟨o,its,n,hk,hc,hs,hz,r⟩
 ·obtain⟨z,its,r,p⟩:=h.ok I.hok
  exact⟨its,r,p,z⟩
 ·refine⟨its.toList,r,⟨o,I.kIn a o hk,hc,n,by simpa using hs⟩,?_⟩
  have e:=r.length
  simp only[L9]at e
  omega
theorem Inv.list_inj (I:Inv X pins σ H s)(h:SqL X.K H a xs)(h':SqL X.K H a ys):xs=ys:=by
 obtain⟨its,r,⟨o,n,e,_,_,d⟩,_⟩:=I.list h
 obtain⟨its',r',⟨o',n',e',_,_,d'⟩,_⟩:=I.list h'
 rw[e]at e';cases e'
 rw[d]at d'
 injection d' with d1 _
 have:its=its':=by simpa using congrArg Array.toList d1
 subst this
 exact r.inj r'
end
abbrev Cx.wish (X:Cx)(E:Value->Shared->Prop):Cx:={ X with xe:=E }
abbrev Cx.nox (X:Cx):Cx:=X.wish fun _ _=>False
theorem Cx.Ok.wish {X:Cx}(ok:X.Ok)(E:Value->Shared->Prop):(X.wish E).Ok:=
 ⟨ok.mod,ok.kind,ok.glob,ok.blt,ok.above,ok.inj,ok.has,ok.cab,ok.hd,ok.frames,ok.stk,ok.exf,ok.bs,ok.bsz,ok.noex,ok.exfs,ok.funs,ok.frf⟩
theorem Cx.Ok.unwish {X:Cx}{E:Value->Shared->Prop}(ok:(X.wish E).Ok):X.Ok:=
 ⟨ok.mod,ok.kind,ok.glob,ok.blt,ok.above,ok.inj,ok.has,ok.cab,ok.hd,ok.frames,ok.stk,ok.exf,ok.bs,ok.bsz,ok.noex,ok.exfs,ok.funs,ok.frf⟩
section
variable {X:Cx} {pins:List (Addr × Obj)} {σ:St} {H:Hp} {s:Shared} {E:Value->Shared->Prop}
theorem Inv.wish (I:Inv X pins σ H s)(E:Value->Shared->Prop):Inv (X.wish E) pins σ H s:=⟨I.ok.wish E,I.os,I.bare,I.base,I.loc,I.cell,I.free,I.freeC,I.pin,I.hok,I.len⟩
theorem Inv.unwish (I:Inv (X.wish E) pins σ H s):Inv X pins σ H s:=⟨I.ok.unwish,I.os,I.bare,I.base,I.loc,I.cell,I.free,I.freeC,I.pin,I.hok,I.len⟩
theorem SP.unwish {D:Ends}{f:Flow}{s':Shared}(h:SP (X.wish E) pins D f s'):SP X pins D f s':=by
 cases f with
 | next=>obtain⟨σ',H',I,q⟩:=h;exact⟨σ',H',I.unwish,q⟩
 | brk=>obtain⟨σ',H',I,q⟩:=h;exact⟨σ',H',I.unwish,q⟩
 | cont=>obtain⟨σ',H',I,q⟩:=h;exact⟨σ',H',I.unwish,q⟩
 | ret u=>obtain⟨v,σ',H',I,r,q⟩:=h;exact⟨v,σ',H',I.unwish,r,q⟩
theorem PSs.nox {st:List Stmt}{t:TS}(h:PSs X.nox st t):PSs X st t:=fun pins s σ H D I hw =>
 wpAny_mono (h pins s σ H D (I.wish _) hw) (fun _ _ q=>q.unwish) fun _ _ z=>False.elim z
end
section
variable {X:Cx} {st:Stmt} {rest:List Stmt} {t u:TS} {e:Expr} {te:TE} {pos:Pos}
def ar9:TS:=fun D σ H=>D.nx σ H
def ax1 (t u:TS):TS:=fun D σ H=>t { D with nx:=u D } σ H
theorem e8:PSs X [] ar9:=fun _ _ σ H _ I h=>wpAny_execs_nil ⟨σ,H,I,h⟩
theorem b7 (h1:PS X st t)(h2:PSs X rest u):PSs X (st::rest) (ax1 t u):=by
 intro pins s σ H D I h
 refine wpAny_execs_cons (thn (h1 pins s σ H { D with nx:=u D } I h) fun f s1 q=>?_)
 cases f with
 | next =>
  obtain⟨σ',H',I',q⟩:=q
  exact h2 pins s1 σ' H' D I' q
 | ret v=>exact q
 | brk=>exact q
 | cont=>exact q
theorem c4 (h1:PS X st t):PSs X [st] t:=by
 intro pins s σ H D I h
 refine wpAny_execs_cons (thn (h1 pins s σ H D I h) fun f s1 q=>?_)
 cases f with
 | next=>exact wpAny_execs_nil q
 | ret v=>exact q
 | brk=>exact q
 | cont=>exact q
theorem Inv.quiet {pins:List (Addr × Obj)}{σ:St}{H:Hp}{s:Shared}(I:Inv X pins σ H s):interactive X.env=false:=by simp[interactive,I.ok.kind]
def as0 (te:TE):TS:=fun D σ H=>te σ H fun _ H1=>D.nx σ H1
theorem u6 (he:PE X e te)(hs:swapsWith e none pos.line X.env=pure false:=by rfl):PS X (.Expr e pos) (as0 te):=by
 intro pins s σ H D I h
 exact wpAny_Expr_any (thn (he pins s σ H _ I h) fun v s1 ⟨x,H1,I1,r1,q1⟩=>⟨σ,H1,I1,q1⟩) I.quiet hs
def ax2 (te:TE):TS:=fun D σ H=>te σ H D.rt
theorem i3 (he:PE X e te):PS X (.Return (some e) pos) (ax2 te):=by
 intro pins s σ H D I h
 exact wpAny_Return_some (thn (he pins s σ H _ I h) fun v s1 ⟨x,H1,I1,r1,q1⟩=>⟨x,σ,H1,I1,r1,q1⟩)
def ax7 (c:TT)(t u:TS):TS:=fun D σ H=>c σ H fun b H1=>if b=true then t D σ H1 else u D σ H1
theorem j8 {c:Expr}{a b:List Stmt}{tc:TT}(hc:PT X c tc)(ha:PSs X a t)(hb:PSs X b u):PS X (.If c a b pos) (ax7 tc t u):=by
 intro pins s σ H D I h
 refine wpAny_If (thn (hc pins s σ H _ I h) fun d s1 ⟨H1,I1,q1⟩=>?_)
 cases d with
 | true=>exact ha pins s1 σ H1 D I1 q1
 | false=>exact hb pins s1 σ H1 D I1 q1
def al6:TS:=fun _ _ _=>False
theorem k7 {sts:List Stmt}:PSs X sts al6:=fun _ _ _ _ _ _ h=>h.elim
end
abbrev TG:=V->St->Hp->(St->Hp->Prop)->Prop
def PG (X:Cx)(target:Expr)(t:TG):Prop:=
 ∀ (pins:List (Addr × Obj)) (s:Shared) (σ:St) (H:Hp) (v:V) (u:Value) (Q:St->Hp->Prop),Inv X pins σ H s->RelV v u->t v σ H Q ->
  wpAny (model X.prog X.w) X.A (assign target X.env u) (fun _ s'=>∃ σ' H',Inv X pins σ' H' s'/\Q σ' H') X.xe s
abbrev aq7:=V->V->V->Hp->(Hp->Prop)->Prop
def aw8 (X:Cx)(t:aq7):Prop:=
 ∀ (pins:List (Addr × Obj)) (s:Shared) (σ:St) (H:Hp) (o i v:V) (ov iv u:Value) (Q:Hp->Prop),Inv X pins σ H s->RelV o ov->RelV i iv->RelV v u->t o i v H Q ->
  wpAny (model X.prog X.w) X.A (setItem ov iv u) (fun _ s'=>∃ H',Inv X pins σ H' s'/\Q H') X.xe s
section
variable {X:Cx} {pos:Pos}
def V1 (i:Nat):TG:=fun v σ H Q=>Q (σ.set i (some v)) H
theorem t7 {i:Nat}{x:Str}(hN:X.N.Nodup)(hi:X.N[i]?=some x)(hx:Loc X.env.scope x)(hf:X.fn x=true\/X.env.scope.names.lookup x=some .local:=by first | exact .inl rfl | exact .inr rfl | assumption):PG X (.Name x pos) (V1 i):=by
 intro pins s σ H v u Q I r h
 exact wpAny_assign_Name (T4 I hN hi hx r (fun s' I'=>⟨_,H,I',h⟩) hf)
def az8 (to ti:TE)(t:aq7):TG:=fun v σ H Q=>to σ H fun o H1=>ti σ H1 fun i H2=>t o i v H2 fun H3=>Q σ H3
theorem ae5 {o i:Expr} {to ti:TE} {t:aq7} (ho:PE X o to) (hi:PE X i ti) (hs:aw8 X t)
  (ha : ∀ v, assign (.Subscript o i pos) X.env v = (do
   let ov <- holding [v] (eval o X.env)
   let iv <- holding [v,ov] (eval i X.env)
   standAt pos
   holding [v,ov,iv] (setItem ov iv v)
   release [v,ov,iv] []):=by intro _;rfl):PG X (.Subscript o i pos) (az8 to ti t):=by
 intro pins s σ H v u Q I r h
 rw[ha]
 refine wpAny_bind (wpAny_holding (thn (ho pins s σ H _ I h) fun ov s1 ⟨x,H1,I1,r1,q1⟩=>?_))
 refine wpAny_bind (wpAny_holding (thn (hi pins s1 σ H1 _ I1 q1) fun iv s2 ⟨y,H2,I2,r2,q2⟩=>?_))
 refine wpAny_bind (wpAny_standAt (wpAny_bind (wpAny_holding (thn (hs pins s2 σ H2 x y v ov iv u _ I2 r1 r2 r q2) fun _ s3 ⟨H3,I3,q3⟩=>?_))))
 exact wpAny_release ⟨σ,H3,I3,q3⟩
def as2 (te:TE)(g:TG):TS:=fun D σ H=>te σ H fun x H1=>g x σ H1 D.nx
theorem ae2 {tg e:Expr}{te:TE}{g:TG}(he:PE X e te)(hg:PG X tg g)(hs:swapsWithSole [tg] e pos.line X.env=pure false:=by rfl)(hw:swappedStores [tg] e X.env=pure none:=by rfl)
  (h1:(assignEach [tg] X.env).map (·.2)=[assign tg X.env]:=by rfl):PS X (.Assign [tg] e pos) (as2 te g):=by
 intro pins s σ H D I h
 refine wpAny_Assign_stores (thn (he pins s σ H _ I h) fun v s1 ⟨x,H1,I1,r1,q1⟩=>?_) hs hw
 rw[h1]
 exact thn (hg pins s1 σ H1 x v _ I1 r1 q1) fun _ s2 q=>q
theorem i6 {i:Nat}{x:Str}{e:Expr}{te:TE}{pos':Pos}(hN:X.N.Nodup)(hi:X.N[i]?=some x)(hx:Loc X.env.scope x)(he:PE X e te)(hs:swapsWith e (some (.Name x pos')) pos.line X.env=pure false:=by rfl)(hf:X.fn x=true\/X.env.scope.names.lookup x=some .local:=by first | exact .inl rfl | exact .inr rfl | assumption) :
  PS X (.Assign [.Name x pos'] e pos) (as2 te (V1 i)):=by
 intro pins s σ H D I h
 refine wpAny_Assign_Name (thn (he pins s σ H _ I h) fun v s1 ⟨y,H1,I1,r1,q1⟩=>?_) hs
 exact T4 I1 hN hi hx r1 (fun s2 I2=>⟨_,H1,I2,q1⟩) hf
end
section
variable {X:Cx} {pos:Pos}
end
structure It where
 go:Nat->Hp->Prop
 yld:Nat->Hp->V->Hp->Prop
 stop:Nat->Hp->Prop
def C4 (X:Cx)(pins:List (Addr × Obj))(H:Hp)(b:Addr):Prop:=
 H b=none/\b≠X.env.locals/\b∉X.fs/\(b∈X.ex\/X.s₀.heap.objs.size<=b)/\(∀ x c,X.env.cells.lookup x=some c->c≠b)/\∀ p∈X.pn++pins,p.1≠b
theorem Inv.fpOk {X:Cx}{pins:List (Addr × Obj)}{σ:St}{H H':Hp}{s:Shared}{b:Addr}(I:Inv X pins σ H s)(hb:s.heap.objs.size<=b)(hn:H' b=none):C4 X pins H' b:=by
 refine⟨hn,T2 (g8 I.lt hb),I.nofs hb,.inr (j5 I.sz hb),fun x c e z=>?_,fun p hp z=>?_⟩
 ·obtain⟨v,q⟩:=I.cell x c e
  exact absurd (g8 q.lt (by rw[z];exact hb)) (n0 _)
 ·exact absurd (g8 (c6 (I.pin p hp).1) (by rw[z];exact hb)) (n0 _)
structure Turn (P:Program) (w:World) (K:W.Frag) (tg:Expr) (J:It) (fp:List Addr) (it:Addr) (tn:Nat->Heap->Prop):Prop where
 mem:it∈fp
 obj:∀ i h,tn i h->∀ b∈fp,∃ o,h.get? b=some o/\∀ v,o.data≠.cell v
 keep:∀ i h h',tn i h->(∀ b∈fp,∀ o,h.get? b=some o->h'.get? b=some o)->tn i h'
 item:∀ (X:Cx),X.prog=P->X.w=w->X.K=K->X.calm=true->∀ (i:Nat) (pins:List (Addr × Obj)) (s:Shared) (σ:St) (H:Hp) (E:Value->Shared->Prop),Inv X pins σ H s->(∀ b∈fp,C4 X pins H b)->tn i s.heap->J.go i H ->
  wpAny (model P w) X.A (pyNext (.ref it)) (fun r s1=>∃ u,r=some u /\
   wpAny (model P w) X.A (letOwnedTupleGo tg (.ref it) u) (fun _ s2=>∃ x H',Inv X pins σ H' s2/\RelV x u/\J.yld i H x H'/\tn (i+1) s2.heap/\∀ b∈fp,H' b=none) E s1) E s
 done:∀ (X:Cx),X.prog=P->X.w=w->X.K=K->X.calm=true->∀ (i:Nat) (pins:List (Addr × Obj)) (s:Shared) (σ:St) (H:Hp) (E:Value->Shared->Prop),Inv X pins σ H s->(∀ b∈fp,C4 X pins H b)->tn i s.heap->J.stop i H ->
  wpAny (model P w) X.A (pyNext (.ref it)) (fun r s1=>r=none/\Inv X pins σ H s1) E s
 self:∀ (A:Around) (i:Nat) (s:Shared) (Q:Value->Shared->Prop) (E:Value->Shared->Prop),tn i s.heap->Q (.ref it) s->wpAny (model P w) A (pyIter (.ref it)) Q E s
abbrev TI:=St->Hp->(It->Hp->Prop)->Prop
def PIE (X:Cx)(pins:List (Addr × Obj))(σ:St)(tg:Expr)(R:It->Hp->Prop)(itv:Value)(s2:Shared):Prop:=
 ∃ (it:Addr) (fp:List Addr) (tn:Nat->Heap->Prop) (J:It) (H':Hp),itv=.ref it/\Inv X pins σ H' s2/\Turn X.prog X.w X.K tg J fp it tn/\tn 0 s2.heap/\(∀ b∈fp,C4 X pins H' b)/\R J H'
def PI (X:Cx)(tg iter:Expr)(wi:TI):Prop:=
 ∀ (pins:List (Addr × Obj)) (s:Shared) (σ:St) (H:Hp) (R:It->Hp->Prop),Inv X pins σ H s->wi σ H R ->
  wpAny (model X.prog X.w) X.A (eval iter X.env) (fun v s1=>wpAny (model X.prog X.w) X.A (pyIter v) (PIE X pins σ tg R) X.xe s1) X.xe s
theorem Z0 {M:Model} {A:Around} {E:Value->Shared->Prop} {s:Shared} {tg:Expr} {it:Addr} {u:Value} {o:Obj} {n:String} {vs:Array Value} {Q:Unit->Shared->Prop} (ho:s.heap.get? it=some o) (hc:o.cls=.type n) (hd:o.data=.fields vs)
    (hn:["enumerate","zip","dict_itemiterator","dict_reverseitemiterator","odict_iterator","itertools.zip_longest","itertools.pairwise"].contains n=false) (hQ:Q () s):wpAny M A (letOwnedTupleGo tg (.ref it) u) Q E s:=by
  unfold letOwnedTupleGo
  cases tg<;>first
    | exact wpAny_pure hQ
    | (cases u<;>first
        | exact wpAny_pure hQ
        | (refine wpAny_bind (wpAny_load ho ?_)
           rw[hc,hd]
           show wpAny M A (if (["enumerate","zip","dict_itemiterator","dict_reverseitemiterator","odict_iterator","itertools.zip_longest","itertools.pairwise"].contains n && vs[0]? == some (rawInt _))=true then _ else _) Q E s
           rw[if_neg (by intro h;rw[hn,k8]at h;cases h)]
           exact wpAny_pure hQ))
def Itl (K:W.Frag)(a:Addr):It:=
 ⟨fun i H=>∃ xs x,SqL K H a xs/\xs[i]?=some x,fun i H x H'=>H'=H/\∀ xs,SqL K H a xs->xs[i]?=some x,fun i H=>∃ xs,SqL K H a xs/\xs.length<=i⟩
def Itr (lo:Int)(n:Nat):It:=⟨fun i _=>i<n,fun i H x H'=>H'=H/\x=.int (lo+i),fun i _=>n<=i⟩
theorem aa2 {P:Program}{w:World}{K:W.Frag}{tg:Expr}(a it:Addr):Turn P w K tg (Itl K a) [it] it (fun i h=>h.IsListIter it a i) where
 mem:=by simp
 obj:=fun i h st b hb=>by
  have e:b=it:=by simpa using hb
  subst e
  obtain⟨o,e,c,d⟩:=st
  exact⟨o,e,fun v z=>by rw[d]at z;cases z⟩
 keep:=fun i h h' st k=>st.at fun o e=>k it (by simp) o e
 item:=by
  intro X hP hw hK hc i pins s σ H E I hf st hg
  subst hP hw hK
  obtain⟨xs,x,hq,hx⟩:=hg
  obtain⟨its,rv,p,hz⟩:=I.list hq
  obtain⟨u,hu,ru⟩:=rv.get hx
  obtain⟨f0,f1,f2,f3,f4,f5⟩:=hf it (by simp)
  refine wpAny_pyNext_list_item st p.isList (x:=u) (by simpa using hu) fun h' st' sb=>?_
  have I1:Inv X pins σ H { s with heap:=h' }:=I.turned (t':=s.toks) (fun b o hb e=>(sb.2 b hb).trans e) f0 f1 f3 f4 f5
  obtain⟨o,e,c,d⟩:=id st'
  exact⟨u,rfl,Z0 (s:={ s with heap:=h' }) e c d (by decide) ⟨x,H,I1,ru,⟨rfl,fun ys hy=>by rw[I.list_inj hy hq];exact hx⟩,st',fun b hb=>(hf b hb).1⟩⟩
 done:=by
  intro X hP hw hK hc i pins s σ H E I hf st hg
  subst hP hw hK
  obtain⟨xs,hq,hx⟩:=hg
  obtain⟨its,rv,p,hz⟩:=I.list hq
  obtain⟨f0,f1,f2,f3,f4,f5⟩:=hf it (by simp)
  have hl:=rv.length
  exact wpAny_pyNext_list_end (I.ok.hd hc) st p.isList (by simp;omega) fun h' eb=>⟨rfl,I.turned (t':=s.toks) (fun b o hb e=>eb b o hb e) f0 f1 f3 f4 f5⟩
 self:=fun _ _ _ _ _ st h=>wpAny_pyIter_listiter st h
theorem W1 {P:Program}{w:World}{K:W.Frag}{tg:Expr}(it:Addr)(lo:Int)(n:Nat):Turn P w K tg (Itr lo n) [it] it (fun i h=>IsRangeIter h it (lo+(i:Nat)*1) ((n:Int) - (i:Nat)) 1) where
 mem:=by simp
 obj:=fun i h st b hb=>by
  have e:b=it:=by simpa using hb
  subst e
  exact⟨_,st,fun v z=>by
   have z':Data.fields _=Data.cell v:=z
   cases z'⟩
 keep:=fun i h h' st k=>k it (by simp) _ st
 item:=by
  intro X hP hw hK hc i pins s σ H E I hf st hg
  subst hP hw hK
  obtain⟨f0,f1,f2,f3,f4,f5⟩:=hf it (by simp)
  have W:=Walks.range (prog:=X.prog) (w:=X.w) (I.ok.hd hc) it lo 1 n
  refine W.item i s _ _ hg st fun v h' tk hv st' kk=>?_
  obtain⟨t,rfl⟩:=hv
  have I1:Inv X pins σ H { s with heap:=h',toks:=tk }:=I.turned (fun b o hb e=>kk b o (by simpa using hb) e) f0 f1 f3 f4 f5
  refine⟨_,rfl,Z0 (s:={ s with heap:=h',toks:=tk }) (n:="range_iterator") st' rfl rfl (by decide) ⟨.int (lo+i),H,I1,⟨t,?_⟩,⟨rfl,rfl⟩,st',fun b hb=>(hf b hb).1⟩⟩
  rw[Int.mul_one]
 done:=by
  intro X hP hw hK hc i pins s σ H E I hf st hg
  subst hP hw hK
  obtain⟨f0,f1,f2,f3,f4,f5⟩:=hf it (by simp)
  exact wpAny_pyNext_range_end (I.ok.hd hc) st (by have:n<=i:=hg;omega) fun h' eb=>⟨rfl,I.turned (t':=s.toks) (fun b o hb e=>eb b o hb e) f0 f1 f3 f4 f5⟩
 self:=fun _ _ _ _ _ st h=>wpAny_pyIter_rangeiter st h
section
variable {X:Cx} {tg:Expr}
def aw5 (K:W.Frag)(tl:TE):TI:=fun σ H R=>tl σ H fun x H1=>∃ a,x=.ref a/\(∃ xs,SqL K H1 a xs)/\R (Itl K a) H1
theorem B0 {l:Expr}{tl:TE}(hl:PE X l tl):PI X tg l (aw5 X.K tl):=by
 intro pins s σ H R I h
 refine thn (hl pins s σ H _ I h) fun v s1 ⟨x,H1,I1,r1,q1⟩=>?_
 obtain⟨a,e,⟨xs,hq⟩,q⟩:=q1
 subst e
 cases r1
 obtain⟨its,rv,p,hz⟩:=I1.list hq
 refine wpAny_pyIter_list p.isList ?_
 refine⟨s1.heap.objs.size,[s1.heap.objs.size],_,_,H1,rfl,I1.kept (t':=s1.toks) fun b o e=>c8 _ e,aa2 a _,⟨_,j1 _ rfl,rfl,rfl⟩,fun b hb=>?_,q⟩
 have e:b=s1.heap.objs.size:=by simpa using hb
 subst e
 exact I1.fpOk (c9 _) (I1.hok.fresh (c9 _))
theorem ae0 {pins:List (Addr × Obj)}{σ:St}{H:Hp}{s:Shared}{R:It->Hp->Prop}{E:Value->Shared->Prop}{lo hi:Int}{t u v:Tok}{tk:Nat}(I:Inv X pins σ H s)(h1:-(2 ^ 62)<=lo)(h2:lo<2 ^ 62)(h3:-(2 ^ 62)<=hi)(h4:hi<2 ^ 62)
  (q:R (Itr lo (hi - lo).toNat) H):wpAny (model X.prog X.w) X.A (pyIter (.ref s.heap.objs.size)) (PIE X pins σ tg R) E { s with heap:=s.heap.push { cls:=.type "range",data:=.fields #[.int lo t,.int hi u,.int 1 v] },toks:=tk }:=by
 refine wpAny_pyIter_range (IsRange.new ..) (small_one h1 h2 h3 h4) ?_
 have I1:Inv X pins σ H { s with heap:=s.heap.push { cls:=.type "range",data:=.fields #[.int lo t,.int hi u,.int 1 v] },toks:=tk }:=I.kept fun b o e=>c8 _ e
 refine⟨(s.heap.push { cls:=.type "range",data:=.fields #[.int lo t,.int hi u,.int 1 v] }).objs.size,[(s.heap.push { cls:=.type "range",data:=.fields #[.int lo t,.int hi u,.int 1 v] }).objs.size],_,_,H,rfl,
  I1.kept (t':=tk) fun b o e=>c8 _ e,W1 _ lo (hi - lo).toNat,?_,fun b hb=>?_,q⟩
 ·have e1:lo+((0:Nat):Int)*1=lo:=by simp
  have e2:(((hi - lo).toNat:Nat):Int) - ((0:Nat):Int)=Builtin.Range.rangeSize lo hi 1:=by rw[rangeSize_one];split<;>omega
  show IsRangeIter _ _ (lo+((0:Nat):Int)*1) ((((hi - lo).toNat:Nat):Int) - ((0:Nat):Int)) 1
  rw[e1,e2]
  exact j1 _ rfl
 ·have e:b=(s.heap.push { cls:=.type "range",data:=.fields #[.int lo t,.int hi u,.int 1 v] }).objs.size:=by simpa using hb
  subst e
  exact I1.fpOk (c9 _) (I1.hok.fresh (c9 _))
def aw4 (ta:TA):TI:=fun σ H R=>ta σ H fun vs H1=>∃ j:Int,vs=[.int j] /\ -(2 ^ 62)<=j/\j<2 ^ 62/\R (Itr 0 j.toNat) H1
theorem P6 {a:Expr}{ta:TA}{p pos:Pos}(hg:Gl X "range")(hm:X.mg "range"=none)(ha:PA X [a] ta)(hs:starEach [a] X.env=[(false,eval a X.env)]:=by rfl):PI X tg (.Call (.Name "range" p) [a] [] pos) (aw4 ta):=by
 intro pins s σ H R I h
 refine Call_ (W8 I hg hm boot_range (PyProof.Rows.callWith_type1 (thn (ha pos pins s σ H _ I h) fun us s1 ⟨vs,H1,I1,r1,q1⟩=>?_) hs rfl))
 obtain⟨j,e,q1,q2,q⟩:=q1
 subst e
 cases r1 with
 | cons r rr =>
  cases rr
  obtain⟨t,rfl⟩:=r
  exact call_range_1 (ae0 I1 (by omega) (by omega) q1 q2 (by simpa using q))
def ax8 (wi:TI)(g:TG)(tb:TS):TS:=fun D σ H=>wi σ H fun J H1=>∃ W:Nat->Nat->St->Hp->Prop,(∃ m,W 0 m σ H1)/\∀ i m σ H,W i m σ H ->
 (J.stop i H/\D.nx σ H)\/(J.go i H/\∃ N:St->Hp->Prop,(∀ σ' H',N σ' H'->∃ m',m'<m/\W (i+1) m' σ' H')/\∀ x H',J.yld i H x H'->g x σ H' fun σ2 H2=>tb { D with nx:=N,ct:=N,bk:=D.nx } σ2 H2)
def I0 (fp:List Addr)(h:Heap):List (Addr × Obj):=fp.filterMap fun b=>(h.get? b).map fun o=>(b,o)
theorem q0 {fp:List Addr}{h:Heap}{b:Addr}{o:Obj}(hb:b∈fp)(e:h.get? b=some o):(b,o)∈I0 fp h:=D3.mpr ⟨b,hb,by rw[e];rfl⟩
theorem aa9 {fp:List Addr}{h:Heap}{p:Addr × Obj}(hp:p∈I0 fp h):p.1∈fp/\h.get? p.1=some p.2:=by
 obtain⟨b,hb,e⟩:=D3.mp hp
 cases q:h.get? b with
 | none=>rw[q]at e;cases e
 | some o =>
  rw[q]at e
  have e':(b,o)=p:=Option.some.inj e
  subst e'
  exact⟨hb,q⟩
theorem Inv.pinned {pins:List (Addr × Obj)}{σ:St}{H:Hp}{s:Shared}{fp:List Addr}(I:Inv X pins σ H s)(hf:∀ b∈fp,C4 X pins H b)(ho:∀ b∈fp,∃ o,s.heap.get? b=some o/\∀ v,o.data≠.cell v):Inv X (pins++I0 fp s.heap) σ H s:=
 I.pins_of fun p hp=>(j9.mp hp).elim (fun z=>I.pin p (d5 _ z)) fun z=>by
  obtain⟨hb,e⟩:=aa9 z
  obtain⟨f0,f1,f2,_⟩:=hf p.1 hb
  obtain⟨o,e',d⟩:=ho p.1 hb
  rw[e]at e';cases e'
  exact⟨e,f0,f1,f2,d⟩
theorem Inv.unpinned {pins pl:List (Addr × Obj)}{σ:St}{H:Hp}{s:Shared}(I:Inv X (pins++pl) σ H s):Inv X pins σ H s:=I.pins_of fun p hp=>I.pin p (d5 _ (K7 _ hp))
theorem N1 {iter:Expr}{body:List Stmt}{wi:TI}{g:TG}{tb:TS}{pos:Pos}(hp:PassesOwn (model X.prog X.w) X.A X.env X.xe)(hc:X.calm=true)(hi:PI X tg iter wi)(hg:PG X tg g)(hb:PSs X body tb)
  (hs:∀ x,foldedSetIterable iter X.env x=pure x:=by intro _;rfl):PS X (.For tg iter body [] pos) (ax8 wi g tb):=by
 intro pins s σ H D I h
 refine wpAny_For (thn (hi pins s σ H _ I h) fun v s1 h1=>thn h1 fun itv s2 h2=>?_) hs
 obtain⟨it,fp,tn,J,H2,e,I2,T,st2,f2,W,⟨m0,w0⟩,turn⟩:=h2
 subst e
 have stat:∀ {H':Hp},(∀ b∈fp,H' b=none)->∀ b∈fp,C4 X pins H' b:=fun hn b hb=>⟨hn b hb,(f2 b hb).2⟩
 refine codeAny_forLoop_any (fun n s'=>∃ i σ' H',Inv X pins σ' H' s'/\tn i s'.heap/\(∀ b∈fp,H' b=none)/\W i n σ' H') ?_ m0 ⟨0,σ,H2,I2,st2,fun b hb=>(f2 b hb).1,w0⟩
 rintro n s3 ⟨i,σ3,H3,I3,st3,fr3,w3⟩
 rcases turn i n σ3 H3 w3 with⟨stop,qn⟩ | ⟨go,N,hN,step⟩
 ·refine wpAny_passesOwn hp (thn (T.done X rfl rfl rfl hc i pins s3 σ3 H3 X.xe I3 (stat fr3) st3 stop) fun r s4 ⟨hr,I4⟩=>?_)
  subst hr
  exact wpAny_execs_nil ⟨σ3,H3,I4,qn⟩
 ·refine wpAny_passesOwn hp (thn (T.item X rfl rfl rfl hc i pins s3 σ3 H3 X.xe I3 (stat fr3) st3 go) fun r s4 ⟨u,hr,h4⟩=>?_)
  subst hr
  refine wpAny_passesOwn hp (thn h4 fun _ s5 ⟨x,H5,I5,r5,y5,st5,fr5⟩=>?_)
  have I5':=I5.pinned (stat fr5) (T.obj _ _ st5)
  refine wpAny_passesOwn hp (thn (hg _ s5 σ3 H5 x u _ I5' r5 (step x H5 y5)) fun _ s6 ⟨σ6,H6,I6,q6⟩=>?_)
  refine wpAny_passesOwn hp (thn (hb _ s6 σ6 H6 _ I6 q6) fun f s7 q7=>?_)
  have again:∀ {σ7:St} {H7:Hp},Inv X (pins++I0 fp s5.heap) σ7 H7 s7->N σ7 H7->∃ m,m<n/\∃ i σ' H',Inv X pins σ' H' s7/\tn i s7.heap/\(∀ b∈fp,H' b=none)/\W i m σ' H':=fun {σ7 H7} I7 n7=>by
   obtain⟨m',hm,w7⟩:=hN σ7 H7 n7
   refine⟨m',hm,i+1,σ7,H7,I7.unpinned,T.keep _ _ _ st5 fun b hb o e=>(I7.pin (b,o) (d5 _ (d5 _ (q0 hb e)))).1,fun b hb=>?_,w7⟩
   obtain⟨o,e,d⟩:=T.obj _ _ st5 b hb
   exact(I7.pin (b,o) (d5 _ (d5 _ (q0 hb e)))).2.1
  cases f with
  | next=>obtain⟨σ7,H7,I7,n7⟩:=q7;exact again I7 n7
  | cont=>obtain⟨σ7,H7,I7,n7⟩:=q7;exact again I7 n7
  | brk=>obtain⟨σ7,H7,I7,q7⟩:=q7;exact⟨σ7,H7,I7.unpinned,q7⟩
  | ret v=>obtain⟨x7,σ7,H7,I7,r7,q7⟩:=q7;exact⟨x7,σ7,H7,I7.unpinned,r7,q7⟩
end
theorem N6 {K:W.Frag}{a:Addr}{xs:List V}{g:TG}{tb:TS}{D:Ends}{σ:St}{H:Hp}(Pv:Nat->St->Hp->Prop)(h0:Pv 0 σ H)(hl:∀ i σ H,i<=xs.length->Pv i σ H->SqL K H a xs)
  (hs:∀ i x σ H,xs[i]?=some x->Pv i σ H->g x σ H fun σ2 H2=>tb { D with nx:=Pv (i+1),ct:=Pv (i+1),bk:=D.nx } σ2 H2)(hd:∀ σ H,Pv xs.length σ H->D.nx σ H) :
  ∃ W:Nat->Nat->St->Hp->Prop,(∃ m,W 0 m σ H)/\∀ i m σ H,W i m σ H ->
   ((Itl K a).stop i H/\D.nx σ H)\/((Itl K a).go i H/\∃ N:St->Hp->Prop,(∀ σ' H',N σ' H'->∃ m',m'<m/\W (i+1) m' σ' H')/\∀ x H',(Itl K a).yld i H x H'->g x σ H' fun σ2 H2=>tb { D with nx:=N,ct:=N,bk:=D.nx } σ2 H2):=by
 refine⟨fun i m σ H=>m=xs.length - i/\i<=xs.length/\Pv i σ H,⟨xs.length,by simp,o6 _,h0⟩,?_⟩
 rintro i m σ H ⟨rfl,hi,p⟩
 have q:=hl i σ H hi p
 by_cases hlt:i<xs.length
 ·refine .inr ⟨⟨xs,xs[i],q,by simp[hlt]⟩,Pv (i+1),fun σ' H' p'=>⟨xs.length - (i+1),by omega,rfl,hlt,p'⟩,fun x H' y=>?_⟩
  obtain⟨e,y⟩:=y
  subst e
  exact hs i x σ _ (y xs q) p
 ·have e:i=xs.length:=by omega
  subst e
  exact .inl ⟨⟨xs,q,c9 _⟩,hd σ H p⟩
theorem Q0 {lo:Int}{n:Nat}{g:TG}{tb:TS}{D:Ends}{σ:St}{H:Hp}(Pv:Nat->St->Hp->Prop)(h0:Pv 0 σ H)
  (hs:∀ i σ H,i<n->Pv i σ H->g (.int (lo+i)) σ H fun σ2 H2=>tb { D with nx:=Pv (i+1),ct:=Pv (i+1),bk:=D.nx } σ2 H2)(hd:∀ σ H,Pv n σ H->D.nx σ H) :
  ∃ W:Nat->Nat->St->Hp->Prop,(∃ m,W 0 m σ H)/\∀ i m σ H,W i m σ H ->
   ((Itr lo n).stop i H/\D.nx σ H)\/((Itr lo n).go i H/\∃ N:St->Hp->Prop,(∀ σ' H',N σ' H'->∃ m',m'<m/\W (i+1) m' σ' H')/\∀ x H',(Itr lo n).yld i H x H'->g x σ H' fun σ2 H2=>tb { D with nx:=N,ct:=N,bk:=D.nx } σ2 H2):=by
 refine⟨fun i m σ H=>m=n - i/\i<=n/\Pv i σ H,⟨n,by simp,o6 _,h0⟩,?_⟩
 rintro i m σ H ⟨rfl,hi,p⟩
 by_cases hlt:i<n
 ·refine .inr ⟨hlt,Pv (i+1),fun σ' H' p'=>⟨n - (i+1),by omega,rfl,hlt,p'⟩,fun x H' y=>?_⟩
  obtain⟨e,y⟩:=y
  subst e y
  exact hs i σ _ hlt p
 ·have e:i=n:=by omega
  subst e
  exact .inl ⟨c9 _,hd σ H p⟩
abbrev R2:=V->V->Hp->VK->Prop
def OpR (X:Cx)(f:Value->Value->Sem Value)(r:R2):Prop:=
 ∀ (pins:List (Addr × Obj)) (s:Shared) (σ:St) (H:Hp) (x y:V) (v u:Value) (Q:VK),Inv X pins σ H s->RelV x v->RelV y u->r x y H Q ->
  wpAny (model X.prog X.w) X.A (f v u) (EP X pins σ Q) X.xe s
def J6 (X:Cx)(f:Value)(r:List V->Hp->VK->Prop):Prop:=
 ∀ (pins:List (Addr × Obj)) (s:Shared) (σ:St) (H:Hp) (xs:List V) (us:List Value) (Q:VK),Inv X pins σ H s->i9 xs us->r xs H Q ->
  wpAny (model X.prog X.w) X.A (call f us) (EP X pins σ Q) X.xe s
def aA2 (X:Cx)(r:V->Hp->(Bool->Hp->Prop)->Prop):Prop:=
 ∀ (pins:List (Addr × Obj)) (s:Shared) (σ:St) (H:Hp) (x:V) (v:Value) (Q:Bool->Hp->Prop),Inv X pins σ H s->RelV x v->r x H Q ->
  wpAny (model X.prog X.w) X.A (truthy v) (TP X pins σ Q) X.xe s
def tOp (r:R2)(ta tb:TE):TE:=fun σ H Q=>ta σ H fun x H1=>tb σ H1 fun y H2=>r x y H2 Q
def rI (C:Int->Int->Prop)(g:Int->Int->V):R2:=fun x y H Q=>∃ i j,x=.int i/\y=.int j/\C i j/\Q (g i j) H
def rI0 (g:Int->Int->V):R2:=fun x y H Q=>∃ i j,x=.int i/\y=.int j/\Q (g i j) H
section
variable {X:Cx} {a b c:Expr} {ta tb tc:TE} {pos:Pos}
theorem aj4 (ha:PE X a ta)(hb:PE X b tb){pins:List (Addr × Obj)}{s:Shared}{σ:St}{H:Hp}{R:V->V->Hp->Prop}(I:Inv X pins σ H s)
  (h:ta σ H fun x H1=>tb σ H1 fun y H2=>R x y H2){Q:Value->Shared->Prop}{f:Value->Value->Sem Value}
  (hf:∀ v u s2 x y H2,Inv X pins σ H2 s2->RelV x v->RelV y u->R x y H2->wpAny (model X.prog X.w) X.A (f v u) Q X.xe s2) :
  wpAny (model X.prog X.w) X.A (eval a X.env) (fun v s₁=>wpAny (model X.prog X.w) X.A (eval b X.env) (fun u s₂=>wpAny (model X.prog X.w) X.A (f v u) Q X.xe s₂) X.xe s₁) X.xe s:=by
 refine thn (ha pins s σ H _ I h) fun v s1 ⟨x,H1,I1,r1,q1⟩=>?_
 refine thn (hb pins s1 σ H1 _ I1 q1) fun u s2 ⟨y,H2,I2,r2,q2⟩=>?_
 exact hf v u s2 x y H2 I2 r1 r2 q2
theorem g4 {op:Operator}{r:R2}(ho:OpR X (binaryOp op) r)(ha:PE X a ta)(hb:PE X b tb):PE X (.BinOp a op b pos) (tOp r ta tb):=by
 intro pins s σ H Q I h
 exact wpAny_BinOp (aj4 ha hb I h fun v u s2 x y H2 I2 rx ry q=>ho pins s2 σ H2 x y v u Q I2 rx ry q)
theorem opI {f:Value->Value->Sem Value}{C:Int->Int->Prop}{g:Int->Int->Int}
  (rule:∀ (i j:Int) (t u:Tok) (s:Shared) (Q:Value->Shared->Prop) (E:Value->Shared->Prop),C i j->Q (.int (g i j) s.toks) { s with toks:=s.toks+1 }->wpAny (model X.prog X.w) X.A (f (.int i t) (.int j u)) Q E s) :
  OpR X f (rI C fun i j=>.int (g i j)):=by
 intro pins s σ H x y v u Q I rx ry h
 obtain⟨i,j,rfl,rfl,hc,q⟩:=h
 obtain⟨t,rfl⟩:=rx
 obtain⟨t',rfl⟩:=ry
 exact rule i j t t' s _ _ hc ⟨.int (g i j),H,I.tok _,⟨_,rfl⟩,q⟩
theorem au6 {f:Value->Value->Sem Value}{g:Int->Int->Int}
  (rule:∀ (i j:Int) (t u:Tok) (s:Shared) (Q:Value->Shared->Prop) (E:Value->Shared->Prop),Q (.int (g i j) s.toks) { s with toks:=s.toks+1 }->wpAny (model X.prog X.w) X.A (f (.int i t) (.int j u)) Q E s) :
  OpR X f (rI0 fun i j=>.int (g i j)):=by
 intro pins s σ H x y v u Q I rx ry h
 obtain⟨i,j,rfl,rfl,q⟩:=h
 obtain⟨t,rfl⟩:=rx
 obtain⟨t',rfl⟩:=ry
 exact rule i j t t' s _ _ ⟨.int (g i j),H,I.tok _,⟨_,rfl⟩,q⟩
theorem ai2 {f:Value->Value->Sem Value}{g:Int->Int->Bool}
  (rule:∀ (i j:Int) (t u:Tok) (s:Shared) (Q:Value->Shared->Prop) (E:Value->Shared->Prop),Q (.bool (g i j)) s->wpAny (model X.prog X.w) X.A (f (.int i t) (.int j u)) Q E s) :
  OpR X f (rI0 fun i j=>.bl (g i j)):=by
 intro pins s σ H x y v u Q I rx ry h
 obtain⟨i,j,rfl,rfl,q⟩:=h
 obtain⟨t,rfl⟩:=rx
 obtain⟨t',rfl⟩:=ry
 exact rule i j t t' s _ _ ⟨.bl (g i j),H,I,rfl,q⟩
def aA6 (i j:Int):Prop:=0<j/\j<1073741824
def aA5 (i j:Int):Prop:=0<=j/\j<=1000000/\i.natAbs<2 ^ 64
def aq9 (i j:Int):Prop:=(-(2 ^ 64)<i/\i<2 ^ 64)\/(-(2 ^ 64)<j/\j<2 ^ 64)
theorem aq9.ok {i j:Int}(h:aq9 i j):IntMulOk i j:=by
 rcases h with⟨h1,h2⟩ | ⟨h1,h2⟩
 ·exact .of_left (intBits_le_64 h1 h2)
 ·exact .of_right (intBits_le_64 h1 h2)
theorem x6:OpR X (binaryOp .Add) (rI0 fun i j=>.int (i+j)):=au6 fun _ _ _ _ _ _ _ q=>add_int q
theorem ae8:OpR X (binaryOp .Sub) (rI0 fun i j=>.int (i - j)):=au6 fun _ _ _ _ _ _ _ q=>sub_int q
theorem W4:OpR X (binaryOp .Mult) (rI aq9 fun i j=>.int (i*j)):=opI fun _ _ _ _ _ _ _ hc q=>mul_int q hc.ok
theorem p5:OpR X (binaryOp .FloorDiv) (rI aA6 fun i j=>.int (i / j)):=opI fun i j _ _ _ _ _ hc q=>by
 have h1:(0:Int)<j:=hc.1
 have h2:j<1073741824:=hc.2
 exact floordiv_int (by omega) (by rw[Int.fdiv_eq_ediv_of_nonneg i (by omega)];exact q) (.inl (PyProof.noPylong_small (by omega)))
theorem o9:OpR X (binaryOp .Mod) (rI (fun _ j=>0<j) fun i j=>.int (i % j)):=opI fun i j _ _ _ _ _ hc q=>by
 have h1:(0:Int)<j:=hc
 exact mod_int' (by omega) (by rw[Int.fmod_eq_emod_of_nonneg i (by omega)];exact q)
theorem R8:OpR X (binaryOp .Pow) (rI aA5 fun i j=>.int (i ^ j.toNat)):=opI fun _ _ _ _ _ _ _ hc q=>pow_int_small hc.1 hc.2.1 hc.2.2 q
end
def at1:V->V->Bool
 | .non,.non=>true | .non,.int _=>true | .int _,.non=>true | .non,.bl _=>true | .bl _,.non=>true | .non,.str _=>true | .str _,.non=>true
 | .int _,.int _=>true | .bl _,.bl _=>true | .str _,.str _=>true | .byt _,.byt _=>true
 | .int _,.str _=>true | .str _,.int _=>true | .bl _,.str _=>true | .str _,.bl _=>true
 | _,_=>false
def rEq:R2:=fun x y H Q=>at1 x y=true/\Q (.bl (decide (x=y))) H
def rNe:R2:=fun x y H Q=>at1 x y=true/\Q (.bl (!decide (x=y))) H
theorem Z2 {i j:Int}:decide (V.int i=V.int j)=(i == j):=by
 rw[m9]
 simp
theorem ag1 {i j:Bool}:decide (V.bl i=V.bl j)=(i == j):=by
 rw[m9]
 simp
theorem Z1 {i j:Str}:decide (V.str i=V.str j)=(i == j):=by
 rw[m9]
 simp
theorem Z3 {i j:Array UInt8}:decide (V.byt i=V.byt j)=(i.toList == j.toList):=by
 rw[m9]
 cases i
 cases j
 simp
section
variable {X:Cx} {a b c:Expr} {ta tb tc:TE} {pos:Pos}
theorem j7 {pins:List (Addr × Obj)}{σ:St}{H:Hp}{s:Shared}{Q:VK}{k k':Bool}(I:Inv X pins σ H s)(q:Q (.bl k) H)(e:k=k'):EP X pins σ Q (.bool k') s:=by
 subst e
 exact⟨.bl k,H,I,rfl,q⟩
theorem p1:OpR X (compareOp .Eq) rEq:=by
 intro pins s σ H x y v u Q I rx ry h
 obtain⟨hs,q⟩:=h
 cases x with
 | non =>
  cases rx
  cases y with
  | non=>cases ry;exact PySem.EqNone.eq_none_none (j7 I q (by simp))
  | bl j=>cases ry;exact PySem.EqNone.eq_none_bool (j7 I q (by simp))
  | int j=>obtain⟨t',rfl⟩:=ry;exact PySem.EqNone.eq_none_int (j7 I q (by simp))
  | str j=>obtain⟨t',rfl⟩:=ry;exact PySem.EqNone.eq_none_str (j7 I q (by simp))
  | _=>exact absurd (show false=true from hs) d2
 | bl i =>
  cases rx
  cases y with
  | non=>cases ry;exact PySem.EqNone.eq_bool_none (j7 I q (by simp))
  | bl j=>cases ry;exact eq_bool (j7 I q ag1)
  | str j=>obtain⟨t',rfl⟩:=ry;exact PySem.EqMixed.eq_bool_str (j7 I q (by simp))
  | _=>exact absurd (show false=true from hs) d2
 | int i =>
  obtain⟨t,rfl⟩:=rx
  cases y with
  | non=>cases ry;exact PySem.EqNone.eq_int_none (j7 I q (by simp))
  | int j=>obtain⟨t',rfl⟩:=ry;exact eq_int (j7 I q Z2)
  | str j=>obtain⟨t',rfl⟩:=ry;exact PySem.EqMixed.eq_int_str (j7 I q (by simp))
  | _=>exact absurd (show false=true from hs) d2
 | str i =>
  obtain⟨t,rfl⟩:=rx
  cases y with
  | non=>cases ry;exact PySem.EqNone.eq_str_none (j7 I q (by simp))
  | bl j=>cases ry;exact PySem.EqMixed.eq_str_bool (j7 I q (by simp))
  | int j=>obtain⟨t',rfl⟩:=ry;exact PySem.EqMixed.eq_str_int (j7 I q (by simp))
  | str j=>obtain⟨t',rfl⟩:=ry;exact eq_str (j7 I q Z1)
  | _=>exact absurd (show false=true from hs) d2
 | byt i =>
  obtain⟨t,rfl⟩:=rx
  cases y with
  | byt j=>obtain⟨t',rfl⟩:=ry;exact PySem.W.eq_bytes (j7 I q Z3)
  | _=>exact absurd (show false=true from hs) d2
 | _=>cases y<;>exact absurd (show false=true from hs) d2
theorem L4:OpR X (compareOp .NotEq) rNe:=by
 intro pins s σ H x y v u Q I rx ry h
 obtain⟨hs,q⟩:=h
 cases x with
 | non =>
  cases rx
  cases y with
  | non=>cases ry;exact PySem.EqNone.ne_none_none (j7 I q (by simp))
  | bl j=>cases ry;exact PySem.EqNone.ne_none_bool (j7 I q (by simp))
  | int j=>obtain⟨t',rfl⟩:=ry;exact PySem.EqNone.ne_none_int (j7 I q (by simp))
  | str j=>obtain⟨t',rfl⟩:=ry;exact PySem.EqNone.ne_none_str (j7 I q (by simp))
  | _=>exact absurd (show false=true from hs) d2
 | bl i =>
  cases rx
  cases y with
  | non=>cases ry;exact PySem.EqNone.ne_bool_none (j7 I q (by simp))
  | bl j=>cases ry;exact ne_bool (j7 I q (congrArg not ag1))
  | str j=>obtain⟨t',rfl⟩:=ry;exact PySem.EqMixed.ne_bool_str (j7 I q (by simp))
  | _=>exact absurd (show false=true from hs) d2
 | int i =>
  obtain⟨t,rfl⟩:=rx
  cases y with
  | non=>cases ry;exact PySem.EqNone.ne_int_none (j7 I q (by simp))
  | int j=>obtain⟨t',rfl⟩:=ry;exact ne_int (j7 I q (congrArg not Z2))
  | str j=>obtain⟨t',rfl⟩:=ry;exact PySem.EqMixed.ne_int_str (j7 I q (by simp))
  | _=>exact absurd (show false=true from hs) d2
 | str i =>
  obtain⟨t,rfl⟩:=rx
  cases y with
  | non=>cases ry;exact PySem.EqNone.ne_str_none (j7 I q (by simp))
  | bl j=>cases ry;exact PySem.EqMixed.ne_str_bool (j7 I q (by simp))
  | int j=>obtain⟨t',rfl⟩:=ry;exact PySem.EqMixed.ne_str_int (j7 I q (by simp))
  | str j=>obtain⟨t',rfl⟩:=ry;exact ne_str (j7 I q (congrArg not Z1))
  | _=>exact absurd (show false=true from hs) d2
 | byt i =>
  obtain⟨t,rfl⟩:=rx
  cases y with
  | byt j=>obtain⟨t',rfl⟩:=ry;exact PySem.W.ne_bytes (j7 I q (congrArg not Z3))
  | _=>exact absurd (show false=true from hs) d2
 | _=>cases y<;>exact absurd (show false=true from hs) d2
theorem ae9:OpR X (compareOp .Lt) (rI0 fun i j=>.bl (decide (i<j))):=ai2 fun _ _ _ _ _ _ _ q=>lt_int q
theorem L5:OpR X (compareOp .LtE) (rI0 fun i j=>.bl (decide (i<=j))):=ai2 fun _ _ _ _ _ _ _ q=>le_int q
theorem au4:OpR X (compareOp .Gt) (rI0 fun i j=>.bl (decide (j<i))):=ai2 fun _ _ _ _ _ _ _ q=>gt_int q
theorem au5:OpR X (compareOp .GtE) (rI0 fun i j=>.bl (decide (j<=i))):=ai2 fun _ _ _ _ _ _ _ q=>ge_int q
theorem aa7:OpR X (compareOp .In) (fun x y H Q=>∃ i j,x=.str i/\y=.str j/\Q (.bl (!(Builtin.Str.occurrences j i 0 j.length 1).isEmpty)) H):=by
 intro pins s σ H x y v u Q I rx ry h
 obtain⟨i,j,rfl,rfl,q⟩:=h
 obtain⟨t,rfl⟩:=rx
 obtain⟨t',rfl⟩:=ry
 exact in_str (j7 I q rfl)
theorem ai1:OpR X (compareOp .IsNot) (fun x y H Q=>y=.non/\Q (.bl (!decide (x=.non))) H):=by
 intro pins s σ H x y v u Q I rx ry h
 obtain⟨rfl,q⟩:=h
 cases ry
 refine isnot_none_gen (j7 I q ?_)
 cases x<;>first
  | (cases rx;rfl)
  | (obtain⟨t,rfl⟩:=rx;rfl)
theorem R9:OpR X (compareOp .NotIn) (fun x y H Q=>∃ i j,x=.str i/\y=.str j/\Q (.bl (!(!(Builtin.Str.occurrences j i 0 j.length 1).isEmpty))) H):=by
 intro pins s σ H x y v u Q I rx ry h
 obtain⟨i,j,rfl,rfl,q⟩:=h
 obtain⟨t,rfl⟩:=rx
 obtain⟨t',rfl⟩:=ry
 exact notIn_str (j7 I q rfl)
theorem i4 (b:Expr){op:CmpOp}(h:op≠.In:=by decide)(h2:op≠.NotIn:=by decide):behindInMarks op b=false:=by
 have e1:(op == CmpOp.In)=false:=by cases op<;>first | rfl | exact absurd rfl h
 have e2:(op == CmpOp.NotIn)=false:=by cases op<;>first | rfl | exact absurd rfl h2
 cases b<;>simp[behindInMarks,e1,e2]
theorem y7 {op:CmpOp}{r:R2}(ho:OpR X (compareOp op) r)(ha:PE X a ta)(hb:PE X b tb)(hm:behindInMarks op b=false):PE X (.Compare a [op] [b] pos) (tOp r ta tb):=by
 intro pins s σ H Q I h
 exact wpAny_Compare1 (aj4 ha hb I h fun v u s2 x y H2 I2 rx ry q=>ho pins s2 σ H2 x y v u Q I2 rx ry q) hm
def ak1 (t:TE):TT:=fun σ H Q=>t σ H fun x H'=>∃ k,x=.bl k/\Q k H'
theorem g7 {op:CmpOp}{r:R2}(ho:OpR X (compareOp op) r)(ha:PE X a ta)(hb:PE X b tb)(hm:behindInMarks op b=false):PT X (.Compare a [op] [b] pos) (ak1 (tOp r ta tb)):=by
 intro pins s σ H Q I h
 refine wpAny_isTrue_Compare1 (thn (ha pins s σ H _ I h) fun v s1 ⟨x,H1,I1,r1,q1⟩=>thn (hb pins s1 σ H1 _ I1 q1) fun u s2 ⟨y,H2,I2,r2,q2⟩ =>
  thn (ho pins s2 σ H2 x y v u _ I2 r1 r2 q2) fun c s3 ⟨z,H3,I3,r3,k,e,q3⟩=>?_) hm
 subst e
 cases r3
 exact wpAny_truthy_bool ⟨H3,I3,q3⟩
def al7 (r r':R2)(ta tb tc:TE):TE:=fun σ H Q=>ta σ H fun x H1=>tb σ H1 fun y H2=>r x y H2 fun z H3=>∃ k,z=.bl k /\
 (if k=true then tc σ H3 fun w' H4=>r' y w' H4 Q else Q (.bl false) H3)
theorem J3 {op op':CmpOp}{r r':R2}(ho:OpR X (compareOp op) r)(ho':OpR X (compareOp op') r')(ha:PE X a ta)(hb:PE X b tb)(hc:PE X c tc)
  (hm:lastMarks [op,op'] [b,c]=false:=by with_unfolding_all rfl):PT X (.Compare a [op,op'] [b,c] pos) (ak1 (al7 r r' ta tb tc)):=by
 intro pins s σ H Q I h
 refine isTrue_chain (thn (ha pins s σ H _ I h) fun v s1 ⟨x,H1,I1,r1,q1⟩=>test_link (thn (hb pins s1 σ H1 _ I1 q1) fun u s2 ⟨y,H2,I2,r2,q2⟩ =>
  thn (ho pins s2 σ H2 x y v u _ I2 r1 r2 q2) fun d s3 ⟨z,H3,I3,r3,k,e,q3⟩=>?_)) hm
 subst e
 cases r3
 refine wpAny_truthy_bool ?_
 cases k with
 | false =>
  obtain⟨k',e',q'⟩:=q3
  cases e'
  exact ite_ff ⟨H3,I3,q'⟩
 | true =>
  refine ite_tt (test_last (thn (hc pins s3 σ H3 _ I3 q3) fun w' s4 ⟨z',H4,I4,r4,q4⟩=>thn (ho' pins s4 σ H4 y z' u w' _ I4 r2 r4 q4) fun d' s5 ⟨z2,H5,I5,r5,k2,e2,q5⟩=>?_))
  subst e2
  cases r5
  exact wpAny_truthy_bool ⟨H5,I5,q5⟩
def aw6 (K:W.Frag)(x:V)(H:Hp)(k:Bool):Prop:=
 match x with
 | .non=>k=false
 | .bl b=>k=b
 | .int i=>k=(i != 0)
 | .str y=>y.length<=sizeLine/\k=((y.length:Int) != 0)
 | .byt y=>y.size<=sizeLine/\k=((y.size:Int) != 0)
 | .ref p=>(∃ xs,SqL K H p xs/\k=!xs.isEmpty)\/(∃ xs,SqT K H p xs/\k=!xs.isEmpty)\/∃ kvs,H p=some (.dK kvs)/\k=!kvs.isEmpty
 | _=>False
theorem W9 {κ:Type}{kvs:List (κ × V)}{vs:List (κ × Value)}(r:KV kvs vs):(!vs.isEmpty)=!kvs.isEmpty:=by
 cases r<;>rfl
theorem N4 {xs:List V}{its:List Value}(r:i9 xs its):(!its.toArray.isEmpty)=!xs.isEmpty:=by
 cases r<;>simp
theorem K4:(sizeLine:Nat)<2 ^ 63:=by rw[sizeLine_eq];decide
theorem al4:aA2 X (fun x H Q=>∃ k,aw6 X.K x H k/\Q k H):=by
 intro pins s σ H x v Q I rx h
 obtain⟨k,e,q⟩:=h
 have hl:=K4
 have hs:sizeLine=16777216:=sizeLine_eq
 cases x with
 | non =>
  cases rx
  have e':k=false:=e
  subst e'
  exact truthy_none ⟨H,I,q⟩
 | bl b =>
  cases rx
  have e':k=b:=e
  subst e'
  exact wpAny_truthy_bool ⟨H,I,q⟩
 | int i =>
  obtain⟨t,rfl⟩:=rx
  have e':k=(i != 0):=e
  subst e'
  exact PySem.P.truthy_int ⟨H,I,q⟩
 | str y =>
  obtain⟨t,rfl⟩:=rx
  obtain⟨hy,e'⟩:y.length<=sizeLine/\k=((y.length:Int) != 0):=e
  subst e'
  exact PySem.P.truthy_str (by omega) ⟨H,I.tok _,q⟩
 | byt y =>
  obtain⟨t,rfl⟩:=rx
  obtain⟨hy,e'⟩:y.size<=sizeLine/\k=((y.size:Int) != 0):=e
  subst e'
  exact PySem.W.truthy_bytes (by omega) ⟨H,I.tok _,q⟩
 | ref p =>
  cases rx
  have e':(∃ xs,SqL X.K H p xs/\k=!xs.isEmpty)\/(∃ xs,SqT X.K H p xs/\k=!xs.isEmpty)\/∃ kvs,H p=some (.dK kvs)/\k=!kvs.isEmpty:=e
  rcases e' with⟨xs,hx,e'⟩ | ⟨xs,hx,e'⟩ | ⟨kvs,hx,e'⟩
  ·subst e'
   obtain⟨its,r,pl,hz⟩:=I.list hx
   have hlen:=r.length
   exact wpAny_truthy_list pl.isList (by simp only[c7];omega) ⟨H,I.tok _,by rw[N4 r];exact q⟩
  ·subst e'
   obtain⟨its,r,pl,hz⟩:=I.tuple hx
   have hlen:=r.length
   exact truthy_tuple pl (by simp only[c7];omega) ⟨H,I.tok _,by rw[N4 r];exact q⟩
  ·subst e'
   obtain⟨hz,hS,vs,r,m⟩:kvs.length<=sizeLine/\(p == sysModules)=false/\∃ vs,KV kvs vs/\s.heap.DictOf (S2 X.prog X.w) p vs:=I.hok p _ hx
   have hlen:kvs.length=vs.length:=Paired.length r
   exact wpAny_truthy_dict hS m (by omega) ⟨H,I.tok _,by rw[W9 r];exact q⟩
 | _=>exact(show False from e).elim
theorem U2 (ha:PE X a ta)(he:∀ whole,isTrue a X.env whole=(do let v <- whole;standAt a.pos;holding [v] (truthy v))) :
  PT X a (fun σ H Q=>ta σ H fun x H'=>∃ k,aw6 X.K x H' k/\Q k H'):=by
 intro pins s σ H Q I h
 exact isTrue_plain (thn (ha pins s σ H _ I h) fun v s1 ⟨x,H1,I1,r1,q1⟩=>al4 pins s1 σ H1 x v Q I1 r1 q1) (he _)
theorem t8:OpR X (binaryOp .Add) (fun x y H Q=>∃ i j,x=.str i/\y=.str j/\i.length+j.length<=sizeLine/\Q (.str (i++j)) H):=by
 intro pins s σ H x y v u Q I rx ry h
 obtain⟨i,j,rfl,rfl,hz,q⟩:=h
 obtain⟨t,rfl⟩:=rx
 obtain⟨t',rfl⟩:=ry
 exact add_str (fun t' tk=>⟨.str (i++j),H,I.tok _,⟨_,rfl⟩,q⟩) hz
def ag4 (b:Expr):Prop:=∀ o i,subscripted b false o i=operate [o,i] (getItem o i)
theorem E5 (ha:PE X a ta)(hb:PE X b tb)(hs:ag4 b) :
  PE X (.Subscript a b pos) (tOp (fun x y H Q=>∃ z i c,x=.str z/\y=.int i/\0<=i/\i<2 ^ 63/\i<z.length/\z.cps[i.toNat]?=some c/\Q (.str ⟨#[c]⟩) H) ta tb):=by
 intro pins s σ H Q I h
 refine Subscript_ (aj4 ha hb I h fun v u s2 x y H2 I2 rx ry q=>?_)
 obtain⟨z,i,c,rfl,rfl,h0,h63,h1,hc,q⟩:=q
 obtain⟨t,rfl⟩:=rx
 obtain⟨t',rfl⟩:=ry
 have e:seqIndex? i z.length=some i.toNat:=PySem.StrLaws.seqIndex_nonneg h0 h1
 exact tail_any (typeIs_str s2 z t) slot_str_getitem.lookup (getItem_str (c:=c) (by
  have e1:decide (i < -(2 ^ 63:Int))=false:=decide_eq_false (by omega)
  have e2:decide (i≥2 ^ 63)=false:=decide_eq_false (by omega)
  rw[e1,e2]<;>rfl) (by rw[e];exact hc) ⟨.str ⟨#[c]⟩,H2,I2.tok _,⟨_,rfl⟩,q⟩) (hs _ _)
theorem vals1 {x:V}{us:List Value}(r:i9 [x] us):∃ u,us=[u]/\RelV x u:=by
 cases r with
 | cons r1 r2=>cases r2;exact⟨_,rfl,r1⟩
theorem S7:J6 X (.type "str") (fun xs H Q=>∃ i,xs=[.int i]/\i.natAbs.log2<1920/\Q (.str (toString i)) H):=by
 intro pins s σ H xs us Q I r h
 obtain⟨i,rfl,hz,q⟩:=h
 obtain⟨u,rfl,t,rfl⟩:=vals1 r
 exact PySem.P.str_of_int hz ⟨.str _,H,I.tok _,⟨_,rfl⟩,q⟩
def aA3 (K:W.Frag)(x:V)(H:Hp)(n:Nat):Prop:=
 match x with
 | .str y=>y.length<=sizeLine/\n=y.length
 | .byt y=>y.size<=sizeLine/\n=y.size
 | .ref p=>(∃ xs,SqL K H p xs/\n=xs.length)\/∃ xs,SqT K H p xs/\n=xs.length
 | _=>False
theorem N7:J6 X (.builtin "len") (fun xs H Q=>∃ x n,xs=[x]/\aA3 X.K x H n/\Q (.int n) H):=by
 intro pins s σ H xs us Q I r h
 obtain⟨x,n,rfl,e,q⟩:=h
 obtain⟨u,rfl,rx⟩:=vals1 r
 have hl:=K4
 have hs:sizeLine=16777216:=sizeLine_eq
 cases x with
 | str y =>
  obtain⟨t,rfl⟩:=rx
  obtain⟨hy,e'⟩:y.length<=sizeLine/\n=y.length:=e
  subst e'
  exact len_str (by omega) ⟨.int _,H,I.tok _,⟨_,rfl⟩,q⟩
 | byt y =>
  obtain⟨t,rfl⟩:=rx
  obtain⟨hy,e'⟩:y.size<=sizeLine/\n=y.size:=e
  subst e'
  exact PySem.W.len_bytes (by omega) ⟨.int _,H,I.tok _,⟨_,rfl⟩,q⟩
 | ref p =>
  cases rx
  have e':(∃ xs,SqL X.K H p xs/\n=xs.length)\/∃ xs,SqT X.K H p xs/\n=xs.length:=e
  rcases e' with⟨xs,hx,e'⟩ | ⟨xs,hx,e'⟩
  ·subst e'
   obtain⟨its,r',pl,hz⟩:=I.list hx
   have hlen:=r'.length
   exact Calls.call_len_list pl.isList (by simp only[c7];omega) ⟨.int xs.length,H,I.tok _,⟨_,by simp only[c7];rw[hlen]⟩,q⟩
  ·subst e'
   obtain⟨its,r',pl,hz⟩:=I.tuple hx
   have hlen:=r'.length
   exact len_tuple pl (by simp only[c7];omega) ⟨.int xs.length,H,I.tok _,⟨_,by simp only[c7];rw[hlen]⟩,q⟩
 | _=>exact(show False from e).elim
end
structure aA7 (h:Heap) (x dx C:Addr) (mA:Str->Option Value):Prop where
 obj:h.get? x=some (PySem.W.instObj C dx)
 ns:h.Ns1 dx mA
 ne:dx≠x
section
variable {prog:Program} {w:World} {A:Around} {E:Value->Shared->Prop} {s:Shared} {K:W.Frag} {x dx C f:Addr} {mA:Str->Option Value} {name:Str} {v:Value}
end
section
variable {P:Program} {w:World} {H H':Hp} {h h':Heap} {a C dx:Addr} {fs fs':List (Str × V)}
end
structure Cls (K:W.Frag) (C:Addr):Prop where
 pg:PySem.W.plainGet K C Str.empty=true
 hd:PySem.W.hasDictIn K C=true
 po:PySem.W.plainOver K C=true
 sa:PySem.W.findIn K (.ref C) "__setattr__"=some (some (.builtin "object.__setattr__"))
structure Con (K:W.Frag) (C:Addr) (f:Str) (v:V) (u:Value):Prop where
 at_:PySem.W.findIn K (.ref C) f=some (some u)
 rel:RelV v u
 get:PySem.W.specialIn K u "__get__"=some none
 cp:PySem.W.copiedNames.contains f=false
structure aA8 (K:W.Frag) (C:Addr) (m:Str) (f:Addr):Prop where
 at_:PySem.W.findIn K (.ref C) m=some (some (.ref f))
 fn:PySem.W.isFn K (.ref f)=true
 kp:a9 K (.ref f)=true
section
variable {X:Cx} {pins:List (Addr × Obj)} {σ:St} {H:Hp} {s:Shared} {a C dx:Addr} {fs:List (Str × V)} {f:Str} {v:V} {A:Around} {E:Value->Shared->Prop}
end
section
variable {X:Cx} {o e value:Expr} {f:Str} {pos pos' tpos:Pos} {ta tv:TE}
end
section
variable {X:Cx} {pins:List (Addr × Obj)} {σ:St} {H:Hp} {s:Shared} {A:Around} {E:Value->Shared->Prop} {Q:Value->Shared->Prop} {c:Value} {b:Bool}
inductive N8 (K:W.Frag) (H:Hp):V->Value->Prop where
 | non:N8 K H .non (.type "NoneType")
 | bl (x:Bool):N8 K H (.bl x) (.type "bool")
 | int (i:Int):N8 K H (.int i) (.type "int")
 | str (x:Str):N8 K H (.str x) (.type "str")
 | flt (x:UInt64):N8 K H (.flt x) (.type "float")
 | lst {a:Addr} {xs:List V} (e:H a=some (.lst xs)):N8 K H (.ref a) (.type "list")
 | frz {a:Addr} {o:Obj} {xs:List V} (e:H a=some (.frz o (.lst xs))):N8 K H (.ref a) (.type "list")
 | tup {a:Addr} {xs:List V} (e:H a=some (.tup xs)):N8 K H (.ref a) (.type "tuple")
 | dK {a:Addr} {kvs:List (Key × V)} (e:H a=some (.dK kvs)):N8 K H (.ref a) (.type "dict")
 | dT {a:Addr} {kvs:List (List Key × V)} (e:H a=some (.dT kvs)):N8 K H (.ref a) (.type "dict")
 | ins {a C dx:Addr} {fs:List (Str × V)} (e:H a=some (.ins C dx fs)) (cl:Cls K C) (ha:PySem.W.findIn K (.ref C) "__class__"=some (some (.builtin "object.__class__")))
   (hn:PySem.W.specialIn K (.builtin "object.__class__") "__get__"=some (some (.builtin "getset_descriptor.__get__"))) (htk:PySem.W.takesIn K (.builtin "object.__class__")=some true)
   (hm:PySem.W.mroIn K C (.type "object")=some true):N8 K H (.ref a) (.ref C)
end
structure D2 (k:Nat) (A:Around):Prop where
 hd:A.handled=none
 dp:A.depth+3*k+5<recursionLimit
 un:A.units+16*k+200<cLine
theorem D2.mono {j k:Nat}{A:Around}(r:D2 k A)(h:j<=k):D2 j A:=⟨r.hd,by have:=r.dp;omega,by have:=r.un;omega⟩
theorem D2.deeper {k:Nat}{A:Around}(r:D2 (k+1) A)(env:Env):D2 k (A.deeper env):=
 ⟨r.hd,by have:=r.dp;show A.depth+1+3*k+5<_;omega,by have:=r.un;show A.units+3+16*k+200<_;omega⟩
theorem D2.depth {k:Nat}{A:Around}(r:D2 k A):A.depth<recursionLimit:=by have:=r.dp;omega
theorem D2.units {k:Nat}{A:Around}(r:D2 k A):A.units+64<cLine:=by have:=r.un;omega
def ax5:TA:=fun _ H Q=>Q [] H
def ak2 (ta:TE)(tr:TA):TA:=fun σ H Q=>ta σ H fun x H1=>tr σ H1 fun xs H2=>Q (x::xs) H2
section
variable {X:Cx} {e:Expr} {es:List Expr} {te:TE} {t:TA} {pos:Pos}
theorem b8:PA X [] ax5:=fun _ _ _ _ H Q I h=>Calls.spliced_nil ⟨[],H,I,.nil,h⟩
theorem a3 (ha:PE X e te)(hr:PA X es t)(hs:starEach (e::es) X.env=(false,eval e X.env)::starEach es X.env:=by rfl):PA X (e::es) (ak2 te t):=by
 intro pos pins s σ H Q I h
 rw[hs]
 show wpAny _ _ (spliced ((false,eval e X.env)::backTo pos (starEach es X.env))) _ _ s
 refine Calls.spliced_cons (thn (ha pins s σ H _ I h) fun u s1 ⟨x,H1,I1,r1,q1⟩=>?_)
 exact thn (hr pos pins s1 σ H1 _ I1 q1) fun us s2 ⟨xs,H2,I2,r2,q2⟩=>⟨x::xs,H2,I2,.cons r1 r2,q2⟩
def ax0 (t:TA):TE:=fun σ H Q=>t σ H fun xs H1=>xs.length<=sizeLine/\∀ p,H1 p=none->Q (.ref p) (upd H1 p (.tup xs))
def ax6 (t:TA):TE:=fun σ H Q=>t σ H fun xs H1=>xs.length<=sizeLine/\∀ p,H1 p=none->Q (.ref p) (upd H1 p (.lst xs))
theorem A2 {x1}(h:PA X es t):PE X (.Tuple es x1 pos) (ax0 t):=by
 intro pins s σ H Q I hq
 refine wpAny_Tuple_spliced (thn (h pos pins s σ H _ I hq) fun us s1 ⟨xs,H1,I1,r,z,q⟩=>⟨by rw[<- r.length];exact z,?_⟩)
 have hf:H1 s1.heap.objs.size=none:=I1.hok.fresh (c9 _)
 refine⟨.ref s1.heap.objs.size,upd H1 s1.heap.objs.size (.tup xs),I1.laid (t':=s1.toks) (fun b u e=>c8 _ e) (c9 _) ?_,rfl,q _ hf⟩
 exact⟨z,us,r,⟨_,j1 _ rfl,rfl,_,rfl⟩⟩
theorem B4 (h:PA X es t):PE X (.List es pos) (ax6 t):=by
 intro pins s σ H Q I hq
 refine wpAny_List_spliced (thn (h pos pins s σ H _ I hq) fun us s1 ⟨xs,H1,I1,r,z,q⟩=>⟨by rw[<- r.length];exact z,?_⟩)
 have hf:H1 s1.heap.objs.size=none:=I1.hok.fresh (c9 _)
 refine⟨.ref s1.heap.objs.size,upd H1 s1.heap.objs.size (.lst xs),I1.laid (t':=s1.toks) (fun b u e=>c8 _ e) (c9 _) ?_,rfl,q _ hf⟩
 exact⟨z,us,0,r,j1 _ rfl⟩
end
abbrev Sp:=List V->Hp->VK->XK->Prop
abbrev CXT:=List Env->Hp->Shared->XK->Value->Shared->Prop
structure aj8 (P:Program) (w:World) (K:W.Frag) (mg:Str->Option Value) (base:Heap) (A:Around) (outer:List Env) (s:Shared) (H:Hp):Prop where
 frames:A.frames=some outer
 mod:Mod K mg base
 bs:∀ b o,base.get? b=some o->s.heap.get? b=some o/\H b=none
 bsz:base.objs.size<=s.heap.objs.size
 funs:s.heap.FunFrames base outer
 frf:∀ b∈frs outer,H b=none
 hok:HOk P w H s.heap
 bare:AllBare s.gens
def CE (outer:List Env)(P:Program)(w:World)(H:Hp)(s:Shared)(Q:VK)(u:Value)(s':Shared):Prop:=
 ∃ v H',s'.os=s.os/\AllBare s'.gens/\Un (frs outer) [] H H' s.heap s'.heap/\HOk P w H' s'.heap/\RelV v u/\Q v H'
def CR (CX:CXT)(outer:List Env)(P:Program)(w:World)(H:Hp)(s:Shared)(Q:VK)(E:XK)(r:Result)(s':Shared):Prop:=
 match r with
 | .ok (.ret u)=>CE outer P w H s Q u s'
 | .ok _=>False
 | .error e=>CX outer H s E e s'
structure d7 (P:Program) (w:World) (K:W.Frag) (mg:Str->Option Value) (base:Heap) (CX:CXT) (k:Nat) (f:Addr) (fd:FuncData) (ps:List Str) (sp:Sp):Prop where
 len:∀ vs H Q E,sp vs H Q E->vs.length=ps.length
 run:∀ (A:Around) (outer:List Env) (s:Shared) (H:Hp) (args:Args) (us:List Value) (vs:List V) (Q:VK) (E:XK),D2 k A->aj8 P w K mg base A outer s H->BindsTo s fd args (ps.zip us)->i9 vs us->sp vs H Q E ->
  codeAny (model P w) A (.call (.ref f) args) (CR CX outer P w H s Q E) s
theorem d7.mono {P:Program}{w:World}{K:W.Frag}{mg:Str->Option Value}{base:Heap}{CX:CXT}{j k:Nat}{f:Addr}{fd:FuncData}{ps:List Str}{sp:Sp}(F:d7 P w K mg base CX j f fd ps sp)(h:j<=k) :
  d7 P w K mg base CX k f fd ps sp:=⟨F.len,fun A outer s H args us vs Q E hr=>F.run A outer s H args us vs Q E (hr.mono h)⟩
section
variable {X:Cx} {pins:List (Addr × Obj)} {σ:St} {H:Hp} {s s':Shared}
theorem Inv.env0 (I:Inv X pins σ H s):aj8 X.prog X.w X.K X.mg X.base X.A X.stack s H:=
 ⟨I.ok.frames,I.ok.mod,I.bs,j5 I.ok.bsz I.sz,I.stack,I.stkFree,I.hok,I.bare⟩
theorem Inv.after {Q:VK}{u:Value}(I:Inv X pins σ H s)(h:CE X.stack X.prog X.w H s Q u s'):EP X pins σ Q u s':=by
 obtain⟨v,H',os,bare,un,hok,r,q⟩:=h
 obtain⟨hh,g,d,t,os'⟩:=s'
 obtain rfl:os'=s.os:=os
 exact⟨v,H',I.call (h':=hh) (g':=g) (d':=d) (t':=t) (ch:=[]) un hok bare (fun b z=>absurd z (by simp)),r,q⟩
end
def as1 (sp:Sp)(dvs:List V)(E:XK)(t:TA):TE:=fun σ H Q=>t σ H fun vs H1=>sp (vs++dvs) H1 Q E
def Binds (K:W.Frag)(fd:FuncData)(ps:List Str)(ds:List Value):Prop:=
 ∀ (s:Shared) (us:List Value),K.In s.heap->(us++ds).length=ps.length->BindsTo s fd ⟨us,[]⟩ (ps.zip (us++ds))
theorem Binds.all {K:W.Frag}{fd:FuncData}{ps:List Str}(h:∀ us:List Value,us.length=ps.length->bindArgs fd ⟨us,[]⟩=pure (ps.zip us)):Binds K fd ps []:=fun s us _ hl=>by
 rw[List.append_nil]at hl ⊢
 exact .of_eq (h us hl)
def N9 (CX:CXT)(X:Cx)(E:XK):Prop:=∀ (pins:List (Addr × Obj)) (σ:St) (H:Hp) (s:Shared) (e:Value) (s':Shared),Inv X pins σ H s->CX X.stack H s E e s'->X.xe e s'
section
variable {X:Cx} {CX:CXT} {k:Nat} {f C:Addr} {fd:FuncData} {ps:List Str} {sp:Sp} {dvs:List V} {ds:List Value} {E:XK} {x m:Str} {p pos apos:Pos} {e o:Expr} {es:List Expr} {ta:TE} {t:TA}
theorem an1 {pins:List (Addr × Obj)}{σ:St}{H:Hp}{s:Shared}{Q:VK}{us:List Value}{vs:List V}(F:d7 X.prog X.w X.K X.mg X.base CX k f fd ps sp)(hr:D2 k X.A)(hb:Binds X.K fd ps ds)(hd:i9 dvs ds)(hx:N9 CX X E)
  (I:Inv X pins σ H s)(r:i9 vs us)(h:sp (vs++dvs) H Q E):wpAny (model X.prog X.w) X.A (call (.ref f) us) (EP X pins σ Q) X.xe s:=by
 have r2:i9 (vs++dvs) (us++ds):=r.append hd
 have hl:(us++ds).length=ps.length:=by rw[<- r2.length];exact F.len _ _ _ _ h
 refine wpAny_call (codeAny_mono (F.run X.A X.stack s H ⟨us,[]⟩ (us++ds) (vs++dvs) Q E hr I.env0 (hb s us I.kIn hl) r2 h) fun r s' hq=>?_)
 cases r with
 | error e=>exact hx pins σ H s e s' I hq
 | ok fl =>
  cases fl with
  | ret u=>exact I.after hq
  | next=>exact False.elim hq
  | brk=>exact False.elim hq
  | cont=>exact False.elim hq
theorem d8 (F:d7 X.prog X.w X.K X.mg X.base CX k f fd ps sp)(hr:D2 k X.A)(hg:Gl X x)(hm:X.mg x=some (.ref f))(hk:a9 X.K (.ref f)=true)(hb:Binds X.K fd ps ds)(hd:i9 dvs ds)(hx:N9 CX X E)
  (ha:PA X (e::es) t)(hdb:(x == ("__debug__":Str))=false:=by decide)(he:starEach (e::es) X.env=(false,eval e X.env)::starEach es X.env:=by rfl)(hpl:(backTo pos (starEach es X.env)).any (·.1)=false:=by rfl) :
  PE X (.Call (.Name x p) (e::es) [] pos) (as1 sp dvs E t):=by
 intro pins s σ H Q I h
 refine wpAny_Call_Name_kw (J5 I hg hm ?_ hdb)
 refine PySem.W.callWith_K (h₀:=X.base) I.ok.mod.kin hk (thn (ha pos pins s σ H _ I h) fun us s1 ⟨vs,H1,I1,r,q⟩=>⟨I1.kIn,?_⟩) he hpl
 exact an1 F hr hb hd hx I1 r q
structure Mk (K:W.Frag) (C f:Addr):Prop where
 makes:PySem.W.makesIn K C=true
 init:PySem.W.findIn K (.ref C) "__init__"=some (some (.ref f))
 fn:PySem.W.isFn K (.ref f)=true
 kp:a9 K (.ref C)=true
end
section
variable {X:Cx} {CX:CXT} {k:Nat} {f C:Addr} {fd:FuncData} {ps ks:List Str} {sp:Sp} {E:XK} {x m:Str} {p pos apos kpos:Pos} {e o:Expr} {es:List Expr} {kws:List Keyword} {te ta:TE} {t tk:TA} {nm:Option Str}
structure aA4 (K:W.Frag) (fd:FuncData) (ps ks:List Str) (g:List Value->List Value->List Value) (gV:List V->List V->List V):Prop where
 to:∀ (s:Shared) (us ws:List Value),K.In s.heap->(g us ws).length=ps.length->BindsTo s fd ⟨us,ks.zip ws⟩ (ps.zip (g us ws))
 rel:∀ {vs:List V} {us:List Value} {zs:List V} {ws:List Value},i9 vs us->i9 zs ws->i9 (gV vs zs) (g us ws)
variable {g:List Value->List Value->List Value} {gV:List V->List V->List V}
end
structure i0 (N P:List Str) (sc:Scope):Prop where
 kind:sc.kind=.function
 co:sc.isCoroutine=false
 gen:sc.isGenerator=false
 nd:N.Nodup
 pre:N.take P.length=P
 par:∀ x∈P,sc.names.lookup x=some .local\/sc.names.lookup x=some .cell
 nofree:∀ y∈sc.names,y.2≠.free
theorem Q2 {kindOf:Str->Option NameKind}{x:Str}:∀ {binds:List (Str × Value)} {m:Str->Option Value},(∀ v,(x,v)∉binds)->bindL kindOf binds m x=m x
 | [],_,_=>rfl
 | (n,v)::r,m,h=>by
  unfold bindL
  rw[Q2 fun w hw=>h w (c2 _ hw)]
  split
  ·have:x≠n:=by rintro rfl;exact h v i5
   simp[this]
  ·rfl
theorem Q4 {kindOf:Str->Option NameKind}{x:Str}:∀ {binds:List (Str × Value)} {m:Str->Option Value},(∀ v,(x,v)∉binds)->bindC kindOf binds m x=m x
 | [],_,_=>rfl
 | (n,v)::r,m,h=>by
  unfold bindC
  rw[Q4 fun w hw=>h w (c2 _ hw)]
  split
  ·rfl
  ·have:x≠n:=by rintro rfl;exact h v i5
   simp[this]
theorem Q3 {kindOf:Str->Option NameKind}{x:Str}{v:Value}:∀ {P:List Str} {vs:List Value} {i:Nat} {m:Str->Option Value},P.Nodup->P[i]?=some x->vs[i]?=some v->kindOf x=some .local ->
  bindL kindOf (P.zip vs) m x=some v
 | [],_,_,_,_,h,_,_=>by simp at h
 | _::_,[],_,_,_,_,h,_=>by simp at h
 | p::P,w::vs,0,m,nd,h1,h2,hk=>by
  simp at h1 h2;subst h1;subst h2
  show bindL kindOf ((p,w)::P.zip vs) m p=_
  unfold bindL
  rw[Q2 fun v hv=>(J7.mp nd).1 (V8 hv).1,if_pos hk]
  simp
 | p::P,w::vs,i+1,m,nd,h1,h2,hk=>by
  show bindL kindOf ((p,w)::P.zip vs) m x=_
  unfold bindL
  exact Q3 (i:=i) (J7.mp nd).2 (by simpa using h1) (by simpa using h2) hk
theorem Q5 {kindOf:Str->Option NameKind}{x:Str}{v:Value}:∀ {P:List Str} {vs:List Value} {i:Nat} {m:Str->Option Value},P.Nodup->P[i]?=some x->vs[i]?=some v->kindOf x≠some .local ->
  bindC kindOf (P.zip vs) m x=some v
 | [],_,_,_,_,h,_,_=>by simp at h
 | _::_,[],_,_,_,_,h,_=>by simp at h
 | p::P,w::vs,0,m,nd,h1,h2,hk=>by
  simp at h1 h2;subst h1;subst h2
  show bindC kindOf ((p,w)::P.zip vs) m p=_
  unfold bindC
  rw[Q4 fun v hv=>(J7.mp nd).1 (V8 hv).1,if_neg hk]
  simp
 | p::P,w::vs,i+1,m,nd,h1,h2,hk=>by
  show bindC kindOf ((p,w)::P.zip vs) m x=_
  unfold bindC
  exact Q5 (i:=i) (J7.mp nd).2 (by simpa using h1) (by simpa using h2) hk
def start (N:List Str)(vs:List V):St:=vs.map some++f9 (N.length - vs.length) none
def B6 (CX:CXT)(P:Program)(w:World)(K:W.Frag)(mg:Str->Option Value)(base:Heap)(N:List Str)(qual:Str)(scope:Scope)(f:Addr)(cd:Value)(A:Around)(outer:List Env)(s:Shared)(H:Hp)(E:XK):Cx where
 prog:=P
 w:=w
 K:=K
 mg:=mg
 base:=base
 A:=A.deeper (envOfC qual scope s.heap.objs.size f cd)
 N:=N
 s₀:=s
 H₀:=H
 env:=envOfC qual scope s.heap.objs.size f cd
 outer:=outer
 stack:=envOfC qual scope s.heap.objs.size f cd::outer
 ex:=[]
 calm:=true
 fn:=fun _=>true
 pn:=[]
 xe:=fun e s'=>wpAny (model P w) (A.deeper (envOfC qual scope s.heap.objs.size f cd)) (leaving (envOfC qual scope s.heap.objs.size f cd) e) (fun _ s''=>CX outer H s E e s'') (fun e' s''=>CX outer H s E e' s'') s'
theorem V4 {sc:Scope}{n:Nat}{x:Str}(h:sc.names.lookup x=some .cell):∃ c,(cellsFrom n sc.names []).lookup x=some c:=by
 have q:=PySem.W.cellsFrom_some sc.names n [] (.inl h)
 exact D4.mp q
theorem ab2 {CX:CXT}{P:Program}{w:World}{K:W.Frag}{mg:Str->Option Value}{base:Heap}{N ps:List Str}{qual:Str}{scope:Scope}{f:Addr}{cd:Value}{A:Around}{outer:List Env}{s s1:Shared}{H:Hp}{E:XK}{us:List Value}{vs:List V}
  (S:i0 N ps scope)(hd:A.handled=none)(e0:aj8 P w K mg base A outer s H)(hl:vs.length=ps.length)(r:i9 vs us)
  (x:InCallC s s.heap.objs.size (bindL (envOfC qual scope s.heap.objs.size f cd).kindOf (ps.zip us) fun _=>none) (cellsFrom (s.heap.objs.size+1) scope.names []) (bindC (envOfC qual scope s.heap.objs.size f cd).kindOf (ps.zip us) fun _=>none) s1) :
  Inv (B6 CX P w K mg base N qual scope f cd A outer s H E) [] (start N vs) H s1:=by
 have hpl:ps.length<=N.length:=by have:=congrArg List.length S.pre;rw[o4]at this;omega
 obtain⟨h1,tk,rfl,hk⟩:=x.done
 have noA:∀ b:Addr,b∉(B6 CX P w K mg base N qual scope f cd A outer s H E).ex:=fun b z=>absurd (show b∈([]:List Addr) from z) (by simp)
 refine⟨⟨e0.mod,S.kind,rfl,rfl,c9 _,fun y z c h1 h2=>?_,fun y hy=>?_,fun y c _ h=>?_,fun _=>hd,Around.frames_deeper e0.frames,.inr ⟨rfl,rfl⟩,fun b z=>absurd z (noA b),e0.bs,e0.bsz,fun b _ _=>noA b,fun b z=>absurd z (noA b),e0.funs,e0.frf⟩,
  rfl,e0.bare,Un.kept hk,⟨_,x.toInCall.ns,fun i y v h1 h2 h3=>?_⟩,fun y c h=>⟨_,x.cell y c h⟩,e0.hok.fresh (c9 _),fun y c h=>?_,fun p hp=>absurd (show p∈([]:List (Addr × Obj)) from hp) (by simp),e0.hok.kept hk,?_⟩
 ·exact name_of_addr x.apart (PySem.mem_of_lookup h1) (PySem.mem_of_lookup h2)
 ·have hy:scope.names.lookup y=some .cell\/scope.names.lookup y=some .free:=hy
  rcases hy with hy | hy
  ·exact V4 hy
  ·exact absurd rfl (S.nofree _ (PySem.mem_of_lookup hy))
 ·exact ag7 (x.above y c (PySem.mem_of_lookup h))
 ·have hi:i<vs.length:=by
   unfold start at h2
   by_cases hi:i<vs.length
   ·exact hi
   ·rw[List.getElem?_append_right (by simpa using hi)]at h2
    rw[List.getElem?_replicate]at h2
    split at h2<;>cases h2
  have ha:vs[i]?=some v:=by
   unfold start at h2
   rw[List.getElem?_append_left (by simpa using hi),j4]at h2
   cases e:vs[i]? with
   | none=>rw[e]at h2;cases h2
   | some a=>rw[e]at h2;cases h2;rfl
  obtain⟨u,hu,rv⟩:=r.get ha
  have hp:ps[i]?=some y:=by
   rw[<- S.pre,List.getElem?_take_of_lt (by omega)];exact h1
  have ndP:ps.Nodup:=by rw[<- S.pre];exact S.nd.sublist (List.take_sublist _ _)
  refine⟨u,rv,?_⟩
  rcases S.par y (B2 hp) with k | k
  ·exact .inl ⟨k,Q3 ndP hp hu k⟩
  ·obtain⟨c,e⟩:=V4 (n:=s.heap.objs.size+1) k
   refine .inr ⟨.inl k,c,e,?_⟩
   have q:=x.cell y c e
   rw[Q5 ndP hp hu (by show scope.names.lookup y≠_;rw[k];decide)]at q
   exact q
 ·exact e0.hok.fresh (ag7 (x.above y c (PySem.mem_of_lookup h)))
 ·unfold start
  show _=N.length
  rw[d9,a8,J8]
  omega
theorem al0 {CX:CXT} {P:Program} {w:World} {K:W.Frag} {mg:Str->Option Value} {base:Heap} {k:Nat} {f:Addr} {name qual:Str} {params:Arguments} {body:List Stmt} {scope:Scope} {dV kV doc pm cdv ct oc:Value} {an od:Option Addr}
  {osl:Array (Option Value)} {N ps:List Str} {sp:Sp} (lk:K.lookup f=some ⟨oc,od,.func (c3 name qual params body scope dV kV doc pm an cdv ct),osl⟩) (hcd:b9 K cdv qual=true) (S:i0 N ps scope)
  (len:∀ vs H Q E,sp vs H Q E->vs.length=ps.length)
  (hbody : ∀ (A : Around) (outer : List Env) (s : Shared) (H : Hp) (vs : List V) (Q : VK) (E : XK), D2 k (A.deeper (envOfC qual scope s.heap.objs.size f cdv)) -> sp vs H Q E ->
   ∃ t,PSs (B6 CX P w K mg base N qual scope f cdv A outer s H E) body t/\t { nx:=fun _ H'=>Q .non H',rt:=Q } (start N vs) H) :
  d7 P w K mg base CX (k+1) f (c3 name qual params body scope dV kV doc pm an cdv ct) ps sp:=by
 refine⟨len,fun A outer s H args us vs Q E hr e0 hb r hsp=>?_⟩
 have hl:=len _ _ _ _ hsp
 have KX:K.In s.heap:=e0.mod.kin.keeps fun b o e=>(e0.bs b o e).1
 have lim:s.heap.NoLimit:=e0.mod.nolimit.keeps fun b o e=>(e0.bs b o e).1
 have hkind:∀ y∈ps.zip us,scope.names.lookup y.1=some .local\/(scope.names.lookup y.1=some .cell/\((cellsFrom (s.heap.objs.size+1) scope.names []).lookup y.1).isSome=true):=fun⟨n,v⟩ hy=>by
  rcases S.par n (V8 hy).1 with q | q
  ·exact .inl q
  ·exact .inr ⟨q,PySem.W.cellsFrom_some _ _ _ (.inl q)⟩
 refine codeAny_call_function hr.depth (KX _ _ lk) rfl S.co S.gen rfl (PySem.W.codeRec_of KX hcd) (hb _ _ _ _ ?_)
 refine wpAny_newFunctionEnv_cells S.kind hkind fun env he s1 x=>?_
 subst he
 refine⟨lim.keeps x.toInCall.keep,codeAny_func ?_⟩
 obtain⟨t,ht,hq⟩:=hbody A outer s H vs Q E (hr.deeper _) hsp
 have I:Inv (B6 CX P w K mg base N qual scope f cdv A outer s H E) [] (start N vs) H s1:=ab2 S hr.hd e0 hl r x
 refine wpAny_mono (ht [] s1 (start N vs) H _ I hq) (fun fl s' hs=>?_) fun e s' hs=>hs
 have fin:∀ {σ':St} {H':Hp} {v:V} {u:Value},Inv (B6 CX P w K mg base N qual scope f cdv A outer s H E) [] σ' H' s'->RelV v u->Q v H'->CE outer P w H s Q u s':=
  fun {σ' H' v u} J rv q=>⟨v,H',J.os,J.bare,J.base,J.hok,rv,q⟩
 cases fl with
 | ret u =>
  obtain⟨v,σ',H',J,rv,q⟩:=hs
  exact fin J rv q
 | next =>
  obtain⟨σ',H',J,q⟩:=hs
  exact fin (v:=V.non) (u:=Value.none) J rfl q
 | brk =>
  obtain⟨_,_,_,q⟩:=hs
  exact False.elim q
 | cont =>
  obtain⟨_,_,_,q⟩:=hs
  exact False.elim q
section
variable {X:Cx} {x:Str} {p pos:Pos} {e:Expr} {es:List Expr} {t:TA} {id T:String} {r:List V->Hp->VK->Prop}
def tCB (r:List V->Hp->VK->Prop)(t:TA):TE:=fun σ H Q=>t σ H fun vs H1=>r vs H1 Q
theorem o8 (hc:J6 X (.builtin id) r)(hg:Gl X x)(hm:X.mg x=none)(hv:bootBuiltins x=some (.builtin id))(ha:PA X (e::es) t)(hn:x≠"__name__":=by decide)(hdb:(x == ("__debug__":Str))=false:=by decide)
  (he:starEach (e::es) X.env=(false,eval e X.env)::starEach es X.env:=by rfl)(hpl:(backTo pos (starEach es X.env)).any (·.1)=false:=by rfl):PE X (.Call (.Name x p) (e::es) [] pos) (tCB r t):=by
 intro pins s σ H Q I h
 refine wpAny_Call_Name_kw (W8 I hg hm hv ?_ hn hdb)
 exact PyProof.Rows.callWith_builtin1 (thn (ha pos pins s σ H _ I h) fun us s1 ⟨vs,H1,I1,r1,q1⟩=>hc pins s1 σ H1 vs us Q I1 r1 q1) he hpl
theorem K2 (hc:J6 X (.type T) r)(hg:Gl X x)(hm:X.mg x=none)(hv:bootBuiltins x=some (.type T))(ha:PA X (e::es) t)(hn:x≠"__name__":=by decide)(hdb:(x == ("__debug__":Str))=false:=by decide)
  (he:starEach (e::es) X.env=(false,eval e X.env)::starEach es X.env:=by rfl)(hpl:(backTo pos (starEach es X.env)).any (·.1)=false:=by rfl):PE X (.Call (.Name x p) (e::es) [] pos) (tCB r t):=by
 intro pins s σ H Q I h
 refine wpAny_Call_Name_kw (W8 I hg hm hv ?_ hn hdb)
 exact PyProof.Rows.callWith_type1 (thn (ha pos pins s σ H _ I h) fun us s1 ⟨vs,H1,I1,r1,q1⟩=>hc pins s1 σ H1 vs us Q I1 r1 q1) he hpl
end
end L2
namespace HT
open PySem PyProof.Rows
section
open PySem.SeqAt
open PySem.AutoSeq1 (wpAny_loadPart')
open PySem.MeetsSeq PySem.MeetsSeq2 PySem.MeetsSeq3
end
section
variable {prog:Program} {w:World} {A:Around} {E:Value->Shared->Prop} {s:Shared}
def sIx (n d:Nat):Option Int->Nat
 | none=>d
 | some v=>if v<0 then (v+(n:Int)).toNat else min v.toNat n
theorem T8 (n d:Nat):sIx n d none=d:=rfl
theorem Y1 (n d k:Nat):sIx n d (some (k:Int))=min k n:=by
 show (if (k:Int)<0 then ((k:Int)+(n:Int)).toNat else min (k:Int).toNat n)=min k n
 rw[if_neg (by omega),Q7]
end
end HT
namespace L2
open PySem PySem.Spec PyProof.Rows
abbrev TO:=St->Hp->(Option Int->Hp->Prop)->Prop
def PO (X:Cx)(e:Option Expr)(t:TO):Prop:=
 ∀ (pins:List (Addr × Obj)) (s:Shared) (σ:St) (H:Hp) (Q:Option Int->Hp->Prop),Inv X pins σ H s->t σ H Q ->
  wpAny (model X.prog X.w) X.A (evalPart e X.env) (fun u s'=>∃ o H',Inv X pins σ H' s'/\IsPart u o/\Q o H') X.xe s
def ah1:TO:=fun _ H Q=>Q none H
def ar8 (t:TE):TO:=fun σ H Q=>t σ H fun x H1=>∃ i,x=.int i/\Q (some i) H1
section
variable {X:Cx} {e:Expr} {te:TE} {lo hi:Option Expr} {tl th:TO} {pos p2:Pos}
theorem p0:PO X none ah1:=by
 intro pins s σ H Q I h
 rw[evalPart_none]
 exact wpAny_pure ⟨none,H,I,.none,h⟩
theorem n5 (h:PE X e te):PO X (some e) (ar8 te):=by
 intro pins s σ H Q I hw
 rw[evalPart_some]
 refine thn (h pins s σ H _ I hw) fun u s1 ⟨x,H1,I1,r1,q1⟩=>?_
 obtain⟨i,rfl,q⟩:=q1
 obtain⟨t,rfl⟩:=r1
 exact⟨some i,H1,I1,.int i t,q⟩
def SlR (X:Cx)(r:V->Option Int->Option Int->Hp->VK->Prop):Prop:=
 ∀ (pins:List (Addr × Obj)) (s:Shared) (σ:St) (H:Hp) (x:V) (v vl vu:Value) (lo hi:Option Int) (sl:Addr) (Q:VK),Inv X pins σ H s->RelV x v->s.heap.IsSliceOf sl vl vu .none->IsPart vl lo->IsPart vu hi->r x lo hi H Q ->
  ∃ T id,typeLookup (.type T) "__getitem__"=pure (some (.builtin id))/\s.TypeIs v T/\wpAny (model X.prog X.w) X.A (getItem v (.ref sl)) (EP X pins σ Q) X.xe s
def tSl (r:V->Option Int->Option Int->Hp->VK->Prop)(te:TE)(tl th:TO):TE:=fun σ H Q=>te σ H fun x H1=>tl σ H1 fun l H2=>th σ H2 fun u H3=>r x l u H3 Q
theorem l9 {r:V->Option Int->Option Int->Hp->VK->Prop}(hr:SlR X r)(he:PE X e te)(hl:PO X lo tl)(hu:PO X hi th):PE X (.Subscript e (.Slice lo hi none p2) pos) (tSl r te tl th):=by
 intro pins s σ H Q I h
 refine Subscript_ (thn (he pins s σ H _ I h) fun v s1 ⟨x,H1,I1,r1,q1⟩=>?_)
 refine wpAny_Slice (thn (hl pins s1 σ H1 _ I1 q1) fun vl s2 ⟨l,H2,I2,pl,q2⟩=>thn (hu pins s2 σ H2 _ I2 q2) fun vu s3 ⟨u,H3,I3,pu,q3⟩=>?_)
 rw[evalPart_none]
 refine wpAny_pure ?_
 have I4:Inv X pins σ H3 { s3 with heap:=s3.heap.push { cls:=.type "slice",data:=.fields #[vl,vu,.none] } }:=I3.kept (t':=s3.toks) fun b ob q=>c8 _ q
 obtain⟨T,id,hT,ht,hg⟩:=hr pins { s3 with heap:=s3.heap.push { cls:=.type "slice",data:=.fields #[vl,vu,.none] } } σ H3 x v vl vu l u s3.heap.objs.size Q I4 r1 (Heap.IsSliceOf.new ..) pl pu q3
 show wpAny (model X.prog X.w) X.A (subscriptTail e (.Slice lo hi none p2) v (.ref s3.heap.objs.size)) (EP X pins σ Q) X.xe { s3 with heap:=s3.heap.push { cls:=.type "slice",data:=.fields #[vl,vu,.none] } }
 exact tail_any (ops:=[.ref s3.heap.objs.size,v]) ht hT hg (by with_unfolding_all rfl)
def K5 (xs:List V)(lo hi:Option Int):List V:=(xs.drop (HT.sIx xs.length 0 lo)).take (HT.sIx xs.length xs.length hi - HT.sIx xs.length 0 lo)
theorem V2 (xs:List V)(lo hi:Option Int):(K5 xs lo hi).length<=xs.length:=by
 unfold K5
 rw[o4,o5]
 omega
end
def ixN (n:Nat)(i:Int):Option Nat:=if 0<=i then (if i<n then some i.toNat else none) else if -(n:Int)<=i then some (i+n).toNat else none
def atI {α:Type}(xs:List α)(i:Int):Option α:=(ixN xs.length i).bind fun j=>xs[j]?
theorem S3 {n:Nat}{i:Int}{j:Nat}(h:ixN n i=some j):seqIndex? i n=some j/\j<n /\ -(n:Int)<=i/\i<n:=by
 unfold ixN at h
 by_cases h0:0<=i
 ·rw[if_pos h0]at h
  by_cases h1:i<n
  ·rw[if_pos h1]at h
   have e:i.toNat=j:=Option.some.inj h
   exact⟨by rw[seqIndex_of h0 h1,e],by omega,by omega,h1⟩
  ·rw[if_neg h1]at h;cases h
 ·rw[if_neg h0]at h
  by_cases h1:-(n:Int)<=i
  ·rw[if_pos h1]at h
   have e:(i+n).toNat=j:=Option.some.inj h
   exact⟨by rw[seqIndex_neg (by omega) h1,e],by omega,h1,by omega⟩
  ·rw[if_neg h1]at h;cases h
theorem Z4 {α:Type}{xs:List α}{i:Int}{v:α}(h:atI xs i=some v):∃ j,seqIndex? i xs.length=some j/\xs[j]?=some v/\j<xs.length /\ -(xs.length:Int)<=i/\i<xs.length:=by
 unfold atI at h
 cases e:ixN xs.length i with
 | none=>rw[e]at h;cases h
 | some j =>
  rw[e]at h
  obtain⟨h1,h2,h3,h4⟩:=S3 e
  exact⟨j,h1,h,h2,h3,h4⟩
theorem j0 {α:Type}{xs:List α}{j:Nat}{v:α}(h:xs[j]?=some v):atI xs (j:Int)=some v:=by
 have hj:j<xs.length:=(u9.mp h).1
 have e:ixN xs.length (j:Int)=some j:=by
  unfold ixN
  rw[if_pos (by omega),if_pos (by omega)];simp
 unfold atI;rw[e];exact h
def Z6 (b:Expr):Prop:=∀ o i,subscripted b false o i=operate [o,i] (getItem o i)
def IxR (X:Cx)(r:R2):Prop:=
 ∀ (value slice:Expr) (pins:List (Addr × Obj)) (s:Shared) (σ:St) (H:Hp) (x y:V) (v u:Value) (Q:VK),Inv X pins σ H s->RelV x v->RelV y u->r x y H Q ->
  subscripted slice false v u=operate [v,u] (getItem v u)->wpAny (model X.prog X.w) X.A (subscriptTail value slice v u) (EP X pins σ Q) X.xe s
def MtR (X:Cx)(id:String)(r:V->List V->Hp->VK->Prop):Prop:=
 ∀ (pins:List (Addr × Obj)) (s:Shared) (σ:St) (H:Hp) (x:V) (xs:List V) (v:Value) (us:List Value) (Q:VK),Inv X pins σ H s->RelV x v->i9 xs us->r x xs H Q ->
  wpAny (model X.prog X.w) X.A (call (.builtin id) (v::us)) (EP X pins σ Q) X.xe s
section
variable {X:Cx} {a b:Expr} {ta tb:TE} {pos:Pos}
theorem n9 {r:R2}(hr:IxR X r)(ha:PE X a ta)(hb:PE X b tb)(hs:Z6 b):PE X (.Subscript a b pos) (tOp r ta tb):=by
 intro pins s σ H Q I h
 exact Subscript_ (aj4 ha hb I h fun v u s2 x y H2 I2 rx ry q=>hr a b pins s2 σ H2 x y v u Q I2 rx ry q (hs _ _))
def az1 (K:W.Frag):R2:=fun x y H Q=>∃ p xs i v,x=.ref p/\y=.int i/\SqL K H p xs/\atI xs i=some v/\Q v H
def au2 (K:W.Frag):R2:=fun x y H Q=>∃ p xs i v,x=.ref p/\y=.int i/\SqT K H p xs/\atI xs i=some v/\Q v H
theorem l3:IxR X (az1 X.K):=by
 intro value slice pins s σ H x y v u Q I rx ry h hs
 obtain⟨p,xs,i,z,rfl,rfl,hq,he,q⟩:=h
 cases rx
 obtain⟨t,rfl⟩:=ry
 obtain⟨its,r,pl,hz⟩:=I.list hq
 obtain⟨j,h1,h2,h3,h4,h5⟩:=Z4 he
 obtain⟨w,ew,rw'⟩:=r.get h2
 have hl:=r.length
 have hn:=K4
 have fin:EP X pins σ Q w s:=⟨z,H,I,rw',q⟩
 by_cases h0:0<=i
 ·have hj:i.toNat=j:=by
   rw[seqIndex_of h0 h5]at h1
   exact Option.some.inj h1
  exact item_listR pl.isList h0 (by omega) (by rw[hj];simpa using ew) fin hs
 ·have hj:(i+(its.toArray.size:Int)).toNat=j:=by
   rw[seqIndex_neg (by omega) h4]at h1
   rw[c7,<- hl]
   exact Option.some.inj h1
  exact subscriptTail_builtinR (x:=w) pl.isList.typeIs slot_list_getitem.lookup
   (wpAny_getItem_list_neg (Q:=fun r s'=>r=w/\EP X pins σ Q r s') pl.isList (by omega) (by rw[c7]<;>omega) (by omega) (by rw[hj];simpa using ew) ⟨rfl,fin⟩) hs
theorem E9:IxR X (au2 X.K):=by
 intro value slice pins s σ H x y v u Q I rx ry h hs
 obtain⟨p,xs,i,z,rfl,rfl,hq,he,q⟩:=h
 cases rx
 obtain⟨t,rfl⟩:=ry
 obtain⟨its,r,pl,hz⟩:=I.tuple hq
 obtain⟨j,h1,h2,h3,h4,h5⟩:=Z4 he
 obtain⟨w,ew,rw'⟩:=r.get h2
 have hl:=r.length
 have hn:=K4
 have fin:EP X pins σ Q w s:=⟨z,H,I,rw',q⟩
 exact subscriptTail_builtinR (x:=w) pl.typeIs slot_tuple_getitem.lookup
  (getItem_tuple (j:=j) (Q:=fun r s'=>r=w/\EP X pins σ Q r s') pl (by omega) (by omega) (by rw[c7,<- hl];exact h1) (by simpa using ew) ⟨rfl,fin⟩) hs
theorem W6 (its:List Value)(n j:Nat)(u:Value):Obj.mapSeq (·.setIfInBounds j u) { cls:=.type "list",data:=.seq its.toArray n }={ cls:=.type "list",data:=.seq (its.set j u).toArray n }:=by
 simp[Obj.mapSeq]
theorem Inv.lst {pins:List (Addr × Obj)}{σ:St}{H:Hp}{s:Shared}{p:Addr}{xs:List V}(I:Inv X pins σ H s)(h:H p=some (.lst xs)) :
  ∃ (its:List Value) (n:Nat),i9 xs its/\s.heap.get? p=some { cls:=.type "list",data:=.seq its.toArray n }/\xs.length<=sizeLine:=by
 obtain⟨z,its,n,r,e⟩:=I.hok p _ h
 exact⟨its,n,r,e,z⟩
theorem Inv.lstUpd {pins:List (Addr × Obj)}{σ:St}{H:Hp}{s:Shared}{p:Addr}{xs ys:List V}{its its':List Value}{n n':Nat}{f:Obj->Obj}(I:Inv X pins σ H s)(h:H p=some (.lst xs))
  (ho:s.heap.get? p=some { cls:=.type "list",data:=.seq its.toArray n })(hf:f { cls:=.type "list",data:=.seq its.toArray n }={ cls:=.type "list",data:=.seq its'.toArray n' })(r:i9 ys its')(hz:ys.length<=sizeLine)(t:Nat) :
  Inv X pins σ (upd H p (.lst ys)) { s with heap:=s.heap.update p f,toks:=t }:=by
 have e:(s.heap.update p f).get? p=some { cls:=.type "list",data:=.seq its'.toArray n' }:=by
  rw[ag5 f ho (by rw[hf]<;>rfl),hf]
 refine I.write (x:=p) (e:=p) (by rw[h];trivial) (.inl rfl) (fun b u hb q=>(x9 _ _ (Ne.symm hb)).trans q) ⟨_,e⟩ ?_
 exact⟨hz,its',n',r,e⟩
def au0:V->V->V->Hp->(Hp->Prop)->Prop:=fun o i v H Q=>∃ p xs k j,o=.ref p/\i=.int k/\H p=some (.lst xs)/\ixN xs.length k=some j/\Q (upd H p (.lst (xs.set j v)))
theorem set_list:aw8 X au0:=by
 intro pins s σ H o i v ov iv u Q I ro ri rv h
 obtain⟨p,xs,k,j,rfl,rfl,hp,hj,q⟩:=h
 cases ro
 obtain⟨t,rfl⟩:=ri
 obtain⟨its,n,r,ho,hz⟩:=I.lst hp
 obtain⟨h1,h2,h3,h4⟩:=S3 hj
 have hl:=r.length
 have hn:=K4
 have I':Inv X pins σ (upd H p (.lst (xs.set j v))) { s with heap:=s.heap.update p (Obj.mapSeq (·.setIfInBounds j u)) }:=
  I.lstUpd hp ho (W6 its n j u) (r.set rv j) (by rw[V9];exact hz) s.toks
 by_cases h0:0<=k
 ·have hk:k.toNat=j:=by
   rw[seqIndex_of h0 h4]at h1
   exact Option.some.inj h1
  exact PySem.W.ki_setAt ho h0 (by omega) (by rw[c7,<- hl];exact h4) (by rw[hk];exact⟨_,I',q⟩)
 ·have hk:(k+(its.toArray.size:Int)).toNat=j:=by
   rw[seqIndex_neg (by omega) h3]at h1
   rw[c7,<- hl]
   exact Option.some.inj h1
  exact PySem.W.ki_setBack ho (by omega) (by rw[c7,<- hl];exact h3) (by omega) (by rw[hk];exact⟨_,I',q⟩)
theorem R0 (lo hi:Option Int)(n:Nat):(sliceBounds lo hi none n).1=((HT.sIx n 0 lo:Nat):Int)/\(sliceBounds lo hi none n).2.1=((HT.sIx n n hi:Nat):Int)/\(sliceBounds lo hi none n).2.2=1:=by
 refine⟨?_,?_,rfl⟩
 ·cases lo with
  | none=>simp[sliceBounds,HT.sIx]
  | some i =>
   simp only[sliceBounds,HT.sIx,al1,show (1:Int) > 0 by decide,if_true]
   by_cases h:i<0
   ·simp only[h,if_true]<;>omega
   ·simp only[h,if_false]<;>omega
 ·cases hi with
  | none=>simp[sliceBounds,HT.sIx]
  | some i =>
   simp only[sliceBounds,HT.sIx,al1,show (1:Int) > 0 by decide,if_true]
   by_cases h:i<0
   ·simp only[h,if_true]<;>omega
   ·simp only[h,if_false]<;>omega
theorem O1 (its:List Value)(lo hi:Option Int):slicePick its.toArray lo hi none=((its.drop (HT.sIx its.length 0 lo)).take (HT.sIx its.length its.length hi - HT.sIx its.length 0 lo)).toArray:=by
 obtain⟨h1,h2,h3⟩:=R0 lo hi its.toArray.size
 unfold slicePick
 rw[h1,h2,h3]
 simp only[sliceRange_one,pick_run,c7]<;>rfl
def ay9 (K:W.Frag):V->Option Int->Option Int->Hp->VK->Prop:=fun x lo hi H Q=>∃ a xs,x=.ref a/\SqL K H a xs/\∀ p,H p=none->Q (.ref p) (upd H p (.lst (K5 xs lo hi)))
theorem v7:SlR X (ay9 X.K):=by
 intro pins s σ H x v vl vu lo hi sl Q I rx hs pl pu h
 obtain⟨a,xs,rfl,hx,q⟩:=h
 cases rx
 obtain⟨its,r,ht,hz⟩:=I.list hx
 have hlen:=r.length
 refine⟨"list",_,slot_list_getitem.lookup,ht.isList.typeIs,?_⟩
 refine wpAny_getItem_list_slice ht.isList hs pl pu .none (by simp) ?_ (by rw[c7]<;>omega)
 rw[O1,<- hlen]
 refine⟨.ref s.heap.objs.size,_,I.laid (t':=s.toks) (o:=.lst (K5 xs lo hi)) (fun b ob q=>c8 _ q) (c9 _) ?_,rfl,q _ (I.hok.fresh (c9 _))⟩
 exact⟨j5 (V2 xs lo hi) hz,_,0,(r.drop (HT.sIx xs.length 0 lo)).take (HT.sIx xs.length xs.length hi - HT.sIx xs.length 0 lo),j1 _ rfl⟩
def L7:V->Bool
 | .non=>true
 | .bl _=>true
 | .int _=>true
 | .str _=>true
 | _=>false
def eqV:V->V->Bool
 | .non,.non=>true
 | .bl a,.bl b=>a == b
 | .bl a,.int b=>(if a then 1 else 0) == b
 | .int a,.bl b=>a == (if b then 1 else 0)
 | .int a,.int b=>a == b
 | .str a,.str b=>a == b
 | _,_=>false
theorem aq5 {A:Around}{s:Shared}{y x:V}{u v:Value}(ry:RelV y u)(rx:RelV x v)(fy:L7 y=true)(fx:L7 x=true):SeqAt.EqAt A s u v (eqV y x):=by
 cases y with
 | non =>
  cases ry
  cases x with
  | non=>cases rx;exact SeqAt.EqAt.same _
  | bl b=>cases rx;exact SeqAt.EqAt.none_bool b
  | int b=>obtain⟨t,rfl⟩:=rx;exact SeqAt.EqAt.none_int b t
  | str b=>obtain⟨t,rfl⟩:=rx;exact SeqAt.EqAt.none_str b t
  | _=>exact absurd (show false=true from fx) d2
 | bl a =>
  cases ry
  cases x with
  | non=>cases rx;exact SeqAt.EqAt.bool_none a
  | bl b=>cases rx;exact SeqAt.EqAt.bool_bool a b
  | int b=>obtain⟨t,rfl⟩:=rx;exact SeqAt.EqAt.bool_int a b t
  | str b=>obtain⟨t,rfl⟩:=rx;exact SeqAt.EqAt.bool_str a b t
  | _=>exact absurd (show false=true from fx) d2
 | int a =>
  obtain⟨t',rfl⟩:=ry
  cases x with
  | non=>cases rx;exact SeqAt.EqAt.int_none a t'
  | bl b=>cases rx;exact SeqAt.EqAt.int_bool a t' b
  | int b=>obtain⟨t,rfl⟩:=rx;exact SeqAt.EqAt.int_int a t' b t
  | str b=>obtain⟨t,rfl⟩:=rx;exact SeqAt.EqAt.int_str a t' b t
  | _=>exact absurd (show false=true from fx) d2
 | str a =>
  obtain⟨t',rfl⟩:=ry
  cases x with
  | non=>cases rx;exact SeqAt.EqAt.str_none a t'
  | bl b=>cases rx;exact SeqAt.EqAt.str_bool a t' b
  | int b=>obtain⟨t,rfl⟩:=rx;exact SeqAt.EqAt.str_int a t' b t
  | str b=>obtain⟨t,rfl⟩:=rx;exact SeqAt.EqAt.str_str a t' b t
  | _=>exact absurd (show false=true from fx) d2
 | _=>exact absurd (show false=true from fy) d2
def eqU (x:V)(u:Value):Bool:=match u with
 | .none=>eqV .non x
 | .bool b=>eqV (.bl b) x
 | .int i _=>eqV (.int i) x
 | .str z _=>eqV (.str z) x
 | _=>false
theorem ag0 {x y:V}{u:Value}(r:RelV y u)(f:L7 y=true):eqU x u=eqV y x:=by
 cases y with
 | non=>cases r;rfl
 | bl b=>cases r;rfl
 | int i=>obtain⟨t,rfl⟩:=r;rfl
 | str z=>obtain⟨t,rfl⟩:=r;rfl
 | _=>exact absurd (show false=true from f) d2
theorem S8 {x:V}:∀ {xs:List V} {us:List Value},i9 xs us->xs.all L7=true->us.any (eqU x)=xs.any fun y=>eqV y x
 | _,_,.nil,_=>rfl
 | y::xs,u::us,.cons r t,f=>by
  rw[List.all_cons,d6]at f
  rw[List.any_cons,List.any_cons,ag0 r f.1,S8 t f.2]
theorem N3 {A:Around}{s:Shared}{x:V}{v:Value}(rx:RelV x v)(fx:L7 x=true):∀ {xs:List V} {us:List Value},i9 xs us->xs.all L7=true->∀ u∈us,SeqAt.EqAt A s u v (eqU x u)
 | _,_,.nil,_=>fun u hu=>by cases hu
 | y::xs,u::us,.cons r t,f=>fun u' hu=>by
  rw[List.all_cons,d6]at f
  rcases k6.mp hu with rfl | hu
  ·rw[ag0 r f.1];exact aq5 r rx f.1 fx
  ·exact N3 rx fx t f.2 u' hu
def inV (x:V)(xs:List V):Bool:=xs.any fun y=>eqV y x
def rIn (K:W.Frag)(neg:Bool):R2:=fun x y H Q=>∃ p xs,y=.ref p/\(SqL K H p xs\/SqT K H p xs)/\L7 x=true/\xs.all L7=true/\Q (.bl (if neg then !inV x xs else inV x xs)) H
theorem S0:OpR X (compareOp .NotIn) (rIn X.K true):=by
 intro pins s σ H x y v u Q I rx ry h
 obtain⟨p,xs,rfl,hq,fx,fs,q⟩:=h
 cases ry
 rcases hq with hq | hq
 ·obtain⟨its,r,pl,hz⟩:=I.list hq
  refine SeqAt.notIn_listAt (eqU x) pl.isList (fun w hw=>N3 rx fx r fs w (by simpa using hw)) ⟨.bl _,H,I,rfl,?_⟩
  rw[show its.toArray.any (eqU x)=its.any (eqU x) by simp,S8 r fs]
  exact q
 ·obtain⟨its,r,pl,hz⟩:=I.tuple hq
  refine SeqAt.notIn_tupleAt (eqU x) pl (fun w hw=>N3 rx fx r fs w (by simpa using hw)) ⟨.bl _,H,I,rfl,?_⟩
  rw[show its.toArray.any (eqU x)=its.any (eqU x) by simp,S8 r fs]
  exact q
theorem m7:J6 X (.builtin "len") (fun xs H Q=>∃ p ys,xs=[.ref p]/\(SqL X.K H p ys\/SqT X.K H p ys)/\Q (.int ys.length) H):=by
 intro pins s σ H xs us Q I r h
 obtain⟨p,ys,rfl,hq,q⟩:=h
 obtain⟨u,rfl,rx⟩:=vals1 r
 cases rx
 have hn:=K4
 rcases hq with hq | hq
 ·obtain⟨its,r',pl,hz⟩:=I.list hq
  have hlen:=r'.length
  exact Calls.call_len_list pl.isList (by simp only[c7]<;>omega) ⟨.int ys.length,H,I.tok _,⟨s.toks+1,by rw[c7,hlen]⟩,q⟩
 ·obtain⟨its,r',pl,hz⟩:=I.tuple hq
  have hlen:=r'.length
  exact len_tuple pl (by simp only[c7]<;>omega) ⟨.int ys.length,H,I.tok _,⟨s.toks+1,by rw[c7,hlen]⟩,q⟩
theorem O5:J6 X (.type "tuple") (fun xs H Q=>∃ p ys,xs=[.ref p]/\((SqL X.K H p ys/\∀ l,H l=none->Q (.ref l) (upd H l (.tup ys)))\/(SqT X.K H p ys/\Q (.ref p) H))):=by
 intro pins s σ H xs us Q I r h
 obtain⟨p,ys,rfl,h⟩:=h
 obtain⟨u,rfl,rx⟩:=vals1 r
 cases rx
 rcases h with⟨hq,q⟩ | ⟨hq,q⟩
 ·obtain⟨its,r',pl,hz⟩:=I.list hq
  have hlen:=r'.length
  refine call_tuple_list pl.isList (fun h' kp=>?_) (by simp only[c7]<;>omega)
  have I1:Inv X pins σ H { s with heap:=h' }:=I.kept (t':=s.toks) kp
  have I2:Inv X pins σ (upd H h'.objs.size (.tup ys)) { s with heap:=h'.push { cls:=.type "tuple",data:=.seq its.toArray } } :=
   I1.laid (t':=s.toks) (fun b o e=>c8 _ e) (c9 _) (show x5 X.prog X.w _ _ _ (.tup ys) from ⟨hz,its,r',IsTup.new _ _⟩)
  exact⟨.ref h'.objs.size,_,I2,rfl,q _ (I1.hok.fresh (c9 _))⟩
 ·obtain⟨its,r',pl,hz⟩:=I.tuple hq
  exact call_tuple_same pl ⟨.ref p,H,I,rfl,q⟩
def tyV (K:W.Frag)(T:String)(x:V)(H:Hp):Prop:=match x with
 | .str _=>T="str"
 | .int _=>T="int"
 | .ref p=>(T="list"/\∃ xs,SqL K H p xs)\/(T="tuple"/\∃ o,K.lookup p=some o/\o.cls=.type "tuple"/\o.dict=none) \/
   (T="dict"/\((∃ kvs,H p=some (.dK kvs))\/∃ kvs,H p=some (.dT kvs)))\/(T="set"/\∃ S n,H p=some (.set S n))
 | _=>False
theorem ac4 {pins:List (Addr × Obj)}{σ:St}{H:Hp}{s:Shared}{T:String}{x:V}{v:Value}(I:Inv X pins σ H s)(r:RelV x v)(ty:tyV X.K T x H) :
  s.TypeIs v T/\∀ a,v=.ref a->∃ ob,s.heap.get? a=some ob/\ob.dict=none:=by
 cases x with
 | str z =>
  obtain⟨t,rfl⟩:=r
  cases (show T="str" from ty)
  exact⟨typeIs_str s z t,fun _ e=>nomatch e⟩
 | int i =>
  obtain⟨t,rfl⟩:=r
  cases (show T="int" from ty)
  exact⟨typeIs_int s i t,fun _ e=>nomatch e⟩
 | ref p =>
  cases r
  rcases ty with⟨rfl,xs,hq⟩ | ⟨rfl,o,hk,hc,hd⟩ | ⟨rfl,hk⟩ | ⟨rfl,S,n,hk⟩
  ·obtain⟨its,_,pl,_⟩:=I.list hq
   refine⟨pl.isList.typeIs,fun a e=>?_⟩
   cases e
   obtain⟨o,n,e,c,hd,_⟩:=pl
   exact⟨o,e,hd⟩
  ·refine⟨⟨o,I.kIn p o hk,hc⟩,fun a e=>?_⟩
   cases e
   exact⟨o,I.kIn _ o hk,hd⟩
  ·have z:∃ o,s.heap.get? p=some o/\o.ExactDict:=by
    rcases hk with⟨kvs,hk⟩ | ⟨kvs,hk⟩
    ·obtain⟨_,_,_,_,o,_,_,e,ex,_⟩:=I.hok p _ hk
     exact⟨o,e,ex⟩
    ·obtain⟨_,_,_,_,o,_,_,e,ex,_⟩:=I.hok p _ hk
     exact⟨o,e,ex⟩
   obtain⟨o,e,ex⟩:=z
   refine⟨⟨o,e,ex.1⟩,fun a e2=>?_⟩
   cases e2
   exact⟨o,e,ex.2.1⟩
  ·obtain⟨o,_,_,_,e,ex,_⟩:=I.hok p _ hk
   refine⟨⟨o,e,ex.1⟩,fun a e2=>?_⟩
   cases e2
   exact⟨o,e,ex.2.1⟩
 | _=>exact False.elim ty
def ay0 (K:W.Frag)(T:String)(r:V->List V->Hp->VK->Prop)(to:TE):TE:=fun σ H Q=>to σ H fun x H1=>tyV K T x H1/\r x [] H1 Q
def tBM (K:W.Frag)(T:String)(r:V->List V->Hp->VK->Prop)(to:TE)(t:TA):TE:=fun σ H Q=>to σ H fun x H1=>tyV K T x H1/\t σ H1 fun xs H2=>r x xs H2 Q
variable {o e:Expr} {es:List Expr} {to:TE} {t:TA} {name:Str} {apos cpos:Pos} {T id:String} {r:V->List V->Hp->VK->Prop}
theorem an7 (pa:PlainAttrs T)(slot:Slot T name id)(hty:typeOf (.builtin id)=pure (.type "method_descriptor"))(hm:MtR X id r)(ho:PE X o to)
  (hbase:attributeBase o name X.env (eval o X.env)=eval o X.env:=by rfl)(hline:(apos.endLine == cpos.line)=true:=by rfl):PE X (.Call (.Attribute o name apos) [] [] cpos) (ay0 X.K T r to):=by
 intro pins s σ H Q I h
 refine wpAny_Call_method0_late hbase hline (thn (ho pins s σ H _ I h) fun v s1 ⟨x,H1,I1,r1,ty,q1⟩=>?_)
 obtain⟨h1,h2⟩:=ac4 I1 r1 ty
 exact⟨T,id,pa,slot,hty,h1,h2,Calls.callWith_builtin rfl (PySem.evalArgs_none (hm pins s1 σ H1 x [] v [] Q I1 r1 .nil q1))⟩
theorem v5 (pa:PlainAttrs T) (slot:Slot T name id) (hty:typeOf (.builtin id)=pure (.type "method_descriptor")) (hm:MtR X id r) (ho:PE X o to) (ha:PA X (e::es) t)
  (hbase:attributeBase o name X.env (eval o X.env)=eval o X.env:=by rfl)
  (hfew : ((backTo cpos (starEach (e :: es) X.env)).all (fun x => !x.1) && (backToKw cpos (keywordEach [] X.env)).all (fun x => x.1.isSome)
   && decide ((e::es).length+([]:List Keyword).length+(if ([]:List Keyword).isEmpty then 0 else 1)<30))=true:=by rfl)
  (hline:(apos.endLine == cpos.line)=true:=by rfl) (hs:starEach (e::es) X.env=(false,eval e X.env)::starEach es X.env:=by rfl) (hplain:(backTo cpos (starEach es X.env)).any (·.1)=false:=by rfl) :
  PE X (.Call (.Attribute o name apos) (e::es) [] cpos) (tBM X.K T r to t):=by
 intro pins s σ H Q I h
 refine wpAny_Call_method_late hbase hfew hline rfl (thn (ho pins s σ H _ I h) fun v s1 ⟨x,H1,I1,r1,ty,q1⟩=>?_)
 obtain⟨h1,h2⟩:=ac4 I1 r1 ty
 refine⟨T,id,pa,slot,hty,h1,h2,?_⟩
 have hA:=ha cpos pins s1 σ H1 _ I1 q1
 rw[hs]at hA ⊢
 refine Calls.callWith_builtin (by show (false || (backTo cpos (starEach es X.env)).any (·.1))=false;rw[hplain]<;>rfl) (Calls.evalArgs_plain ?_)
 exact thn hA fun us s2 ⟨vs,H2,I2,r2,q2⟩=>hm pins s2 σ H2 x vs v us Q I2 r1 r2 q2
/- xs.append(e),list.index on a module's tuple .. are MtR facts of 06m -/
end
def MtM (X:Cx)(id:String)(r:V->List V->Hp->VK->Prop):Prop:=
 ∀ (pins:List (Addr × Obj)) (s:Shared) (σ:St) (H:Hp) (x:V) (xs:List V) (v:Value) (us:List Value) (Q:VK),Inv X pins σ H s->RelV x v->i9 xs us->r x xs H Q ->
  wpAny (model X.prog X.w) X.A (call (.builtin id) (v::us)) (EP X pins σ Q) X.xe s
theorem i9.one:∀ {x:V} {us:List Value},i9 [x] us->∃ u,us=[u]/\RelV x u
 | _,_,.cons r .nil=>⟨_,rfl,r⟩
theorem i9.zero:∀ {us:List Value},i9 [] us->us=[]
 | _,.nil=>rfl
theorem i9.eraseIdx:∀ {xs:List V} {us:List Value} (i:Nat),i9 xs us->i9 (xs.eraseIdx i) (us.eraseIdx i)
 | _,_,_,.nil=>.nil
 | _,_,0,.cons _ t=>t
 | _,_,i+1,.cons r t=>.cons r (i9.eraseIdx i t)
theorem i9.rep {xs:List V}{us:List Value}(h:i9 xs us):∀ k:Nat,i9 (f9 k xs).flatten (f9 k us).flatten
 | 0=>.nil
 | k+1=>by
  rw[n4,n4,z0,z0]
  exact i9.append h (i9.rep h k)
theorem P9 {α:Type}:∀ (l:List α) (i:Nat),(l.eraseIdx i).length<=l.length
 | [],_=>c9 _
 | _::_,0=>Nat.le_succ _
 | _::r,i+1=>Nat.succ_le_succ (P9 r i)
theorem foldl_rep (its:List Value):∀ (k:Nat) (acc:List Value),
  ar0 (fun x1 x2=>x1++x2) acc.toArray (f9 k its.toArray)=(acc++(f9 k its).flatten).toArray
 | 0,acc=>by simp
 | k+1,acc=>by
  have e:acc.toArray++its.toArray=(acc++its).toArray:=by simp
  have e2:(acc++its)++(f9 k its).flatten=acc++(f9 (k+1) its).flatten:=by
   rw[n4,z0,List.append_assoc]
  rw[<- e2,<- foldl_rep its k (acc++its),<- e,n4,W0]
section
variable {X:Cx} {pins:List (Addr × Obj)} {σ:St} {H:Hp} {s:Shared} {l b:Addr} {xs ys zs:List V}
theorem Inv.lset {its its':List Value}{n:Nat}{f:Array Value->Array Value}{t':Nat}(I:Inv X pins σ H s)(hH:H l=some (.lst xs))
  (e:s.heap.get? l=some { cls:=.type "list",data:=.seq its.toArray n })(hf:f its.toArray=its'.toArray)(hv:i9 ys its')(hz:ys.length<=sizeLine) :
  Inv X pins σ (upd H l (.lst ys)) { s with heap:=s.heap.update l (Obj.mapSeq f),toks:=t' }:=by
 have q:=PySem.IsL.update e f
 rw[hf]at q
 refine I.write (x:=l) (e:=l) (by rw[hH];exact trivial) (.inl rfl) (fun b' u hb hu=>(x9 s.heap (Obj.mapSeq f) (Ne.symm hb)).trans hu) ⟨_,q⟩ ?_
 exact⟨hz,its',_,hv,q⟩
theorem Inv.lnew {its:List Value}{t':Nat}(I:Inv X pins σ H s)(hv:i9 ys its)(hz:ys.length<=sizeLine) :
  Inv X pins σ (upd H s.heap.objs.size (.lst ys)) { s with heap:=s.heap.push { cls:=.type "list",data:=.seq its.toArray },toks:=t' } :=
 I.laid (fun _ _ q=>c8 _ q) (c9 _) ⟨hz,its,0,hv,j1 _ rfl⟩
theorem Inv.fresh (I:Inv X pins σ H s):H s.heap.objs.size=none:=I.hok.fresh (c9 _)
theorem Inv.lstM (I:Inv X pins σ H s)(hH:H l=some (.lst xs)):xs.length<=sizeLine/\∃ (its:List Value) (n:Nat),i9 xs its/\xs.length=its.length/\s.heap.get? l=some { cls:=.type "list",data:=.seq its.toArray n }:=by
 obtain⟨z,its,n,r,e⟩:=I.hok l _ hH
 exact⟨z,its,n,r,r.length,e⟩
theorem af1 {n:Nat}(h:n<=sizeLine):Builtin.List.listTooLong n=false:=by
 unfold Builtin.List.listTooLong
 exact decide_eq_false (by omega)
end
section
variable {X:Cx}
def ah9:V->List V->Hp->VK->Prop:=fun x vs H Q=>∃ l xs y,x=.ref l/\vs=[y]/\H l=some (.lst xs)/\xs.length<sizeLine/\Q .non (upd H l (.lst (xs++[y])))
theorem C2:MtM X "list.append" ah9:=by
 intro pins s σ H x vs v us Q I rx rv h
 obtain⟨l,xs,y,rfl,rfl,hH,hz,q⟩:=h
 cases rx
 obtain⟨u,rfl,ru⟩:=rv.one
 obtain⟨z,its,n,r,hl,e⟩:=I.lstM hH
 refine call_meets F.slot_list_append ⟨_,e,rfl⟩ F.entry_list_append (F.args_list_append_2 _ _) (PySem.list_append l its.toArray n u (by rw[c7];omega)) ⟨e,?_⟩
 refine⟨.non,_,I.lset (its':=its++[u]) hH e (by simp) (r.append (.cons ru .nil)) ?_,rfl,q⟩
 rw[d9,ag6]
 omega
def an4:V->List V->Hp->VK->Prop:=fun x vs H Q=>∃ l xs i k y,x=.ref l/\vs=[.int i]/\H l=some (.lst xs) /\ -(2 ^ 63)<=i/\i<2 ^ 63/\seqIndex? i xs.length=some k/\xs[k]?=some y/\Q y (upd H l (.lst (xs.eraseIdx k)))
theorem af3:MtM X "list.pop" an4:=by
 intro pins s σ H x vs v us Q I rx rv h
 obtain⟨l,xs,i,k,y,rfl,rfl,hH,h1,h2,hk,hy,q⟩:=h
 cases rx
 obtain⟨u,rfl,ru⟩:=rv.one
 obtain⟨t,rfl⟩:=ru
 obtain⟨z,its,n,r,hl,e⟩:=I.lstM hH
 obtain⟨w,hw,rw'⟩:=r.get hy
 refine call_meets F.slot_list_pop ⟨_,e,rfl⟩ F.entry_list_pop (F.args_list_pop_2 _ _)
  (MeetsSeq.list_pop_at l its.toArray n i t k w (fitsIndex_both h1 h2) (by rw[c7,<- hl];exact hk) (by rw[<- n6];exact hw) (by rw[c7];omega)) ⟨e,?_⟩
 refine⟨y,_,I.lset (its':=its.eraseIdx k) hH e ?_ (r.eraseIdx k) ?_,rw',q⟩
 ·show its.toArray.eraseIdxIfInBounds k=(its.eraseIdx k).toArray
  rw[List.eraseIdxIfInBounds_toArray]
 ·have:=P9 xs k
  omega
def az3:R2:=fun x y H Q=>∃ l b xs zs,x=.ref l/\y=.ref b/\H l=some (.lst xs)/\H b=some (.lst zs)/\xs.length+zs.length<=sizeLine/\∀ p,H p=none->Q (.ref p) (upd H p (.lst (xs++zs)))
theorem W5:OpR X (binaryOp .Add) az3:=by
 intro pins s σ H x y v u Q I rx ry h
 obtain⟨l,b,xs,zs,rfl,rfl,hH,hB,hz,q⟩:=h
 cases rx
 cases ry
 obtain⟨z,its,n,r,hl,e⟩:=I.lstM hH
 obtain⟨z2,its2,n2,r2,hl2,e2⟩:=I.lstM hB
 refine PySem.P.add_list e e2 ?_ (by rw[c7,c7];omega)
 have ea:its.toArray++its2.toArray=(its++its2).toArray:=by simp
 rw[ea]
 exact⟨.ref _,_,I.lnew (t':=s.toks) (r.append r2) (by rw[d9];omega),rfl,q _ I.fresh⟩
def az0:R2:=fun x y H Q=>∃ l k xs,x=.ref l/\y=.int k/\H l=some (.lst xs) /\ -(2 ^ 63)<=k/\k<2 ^ 63/\xs.length*k.toNat<=sizeLine /\
 ∀ p,H p=none->Q (.ref p) (upd H p (.lst (f9 k.toNat xs).flatten))
theorem len_rep {α:Type}(xs:List α)(k:Nat):(f9 k xs).flatten.length=k*xs.length:=by
 induction k with
 | zero=>simp
 | succ k ih=>rw[n4,z0,d9,ih,ag9,Nat.add_comm]
theorem an9:OpR X (binaryOp .Mult) az0:=by
 intro pins s σ H x y v u Q I rx ry h
 obtain⟨l,k,xs,rfl,rfl,hH,h1,h2,hz,q⟩:=h
 cases rx
 obtain⟨t,rfl⟩:=ry
 obtain⟨z,its,n,r,hl,e⟩:=I.lstM hH
 have hlen:its.toArray.size*k.toNat<=sizeLine:=by rw[c7,<- hl];exact hz
 have hcap:¬ its.toArray.size*k.toNat > (2 ^ 63 - 1) / 8:=by
  have:(sizeLine:Nat)<=(2 ^ 63 - 1) / 8:=by decide
  omega
 have hfit:¬ (!Builtin.List.listFitsIndex k)=true:=by
  rw[fitsIndex_both h1 h2]
  exact d2
 have hlong:¬ Builtin.List.listTooLong (its.toArray.size*k.toNat)=true:=by
  rw[af1 hlen]
  exact d2
 have hnew:ar0 (fun x1 x2=>x1++x2) #[] (f9 (if its.toArray.isEmpty=true then 0 else k.toNat) its.toArray)=(f9 k.toNat its).flatten.toArray:=by
  have f0:∀ m:Nat,ar0 (fun x1 x2=>x1++x2) #[] (f9 m its.toArray)=(f9 m its).flatten.toArray:=fun m=>by
   have:=foldl_rep its m []
   rw[List.nil_append]at this
   exact this
  rw[f0]
  cases its with
  | nil=>simp
  | cons a r'=>rw[if_neg (by simp)]
 refine wpAny_binaryOp_repeat_ref (T:="list") (U:="int") (by decide) ⟨_,e,rfl⟩ (fun s'=>typeIs_int s' k t) noFill_list_mul F.fills_int_mul F.slot_int_rmul repeat_list F.slot_int_index.lookup
  (call_meets F.slot_int_rmul (typeIs_int s k t) F.entry_int_rmul (F.args_int_rmul_2 _ _) (int___rmul___int_list k t l its.toArray n)
   ⟨e,rfl,⟨_,e,rfl⟩,call_meets F.slot_list_mul ⟨_,e,rfl⟩ F.entry_list_mul (F.args_list_mul_2 _ _) (AutoListH.list___mul___list_int_3 l its.toArray n k t hfit hcap hlong) ⟨e,?_⟩⟩)
 rw[hnew]
 exact⟨.ref _,_,I.lnew (t':=s.toks) (r.rep k.toNat) (by rw[len_rep,Nat.mul_comm];exact hz),rfl,q _ I.fresh⟩
end
section
variable {prog:Program} {w:World} {A:Around} {E:Value->Shared->Prop} {s:Shared}
end
section
variable {X:Cx}
end
end L2
namespace Att
open PySem PySem.W PySem.Calls PyProof.Rows
theorem M3 {P:Params}{h:Heap}:∀ (ns:List Int) (vs:List Value),WellAll P h vs (ns.map WData.int)->IntsAre vs ns:=by
 intro ns
 induction ns with
 | nil =>
  intro vs w
  rw[List.map_nil]at w
  cases w
  exact .nil
 | cons n ns ih =>
  intro vs w
  rw[B7]at w
  cases w with
  | cons a b =>
   cases a
   exact .cons _ _ (ih _ b)
theorem aa5 {l:OpenLaw}{n:Nat}(hn:l.most=some n){P:Params}{h:Heap}{args:List WData}{vals:List Value}
  (hpre:l.row.toRowW.claim.pre args=true)(hwl:WellAll P h vals args) :
  ∃ a vs ns,vals=[Value.ref a]/\args=[WData.list (ns.map WData.int)]/\h.get? a=some { cls:=.type "list",data:=.seq vs.toArray }/\IntsAre vs ns/\ns.length<=n:=by
 have hsh:WShape.hasAll [] args [.list .int]=true:=(pre_splitW hpre).1
 have hc:l.pre.holds [] { args:=args }=true:=(pre_splitW hpre).2
 obtain⟨d,r,rfl,h1,h2⟩:=hasAllW_cons hsh
 obtain rfl:=hasAllW_nil h2
 obtain⟨xs,rfl,h3⟩:=hasW_list h1
 obtain⟨ns,rfl⟩:=items_int h3
 have hlen:ns.length<=n:=by
  unfold OpenLaw.pre at hc
  have h4:(WTm.not (.lt (.lit (.int (n:Int))) (.len (.arg 0)))).holds [] { args:=[.list (ns.map .int)] }=true:=by
   have h4:=(holds_andW hc).1
   rw[hn]at h4
   exact h4
  have h5:=condW_of h4 (w_not (w_lt w_lit (w_len_list (w_arg rfl))))
  rw[a8]at h5
  refine Nat.le_of_not_lt fun q=>?_
  have q':(n:Int)<((ns.length:Nat):Int):=by omega
  first
   | (rw[decide_eq_true q']at h5;exact absurd h5 (by decide))
   | (simp at h5;omega)
 cases hwl with
 | cons w1 w2 =>
  cases w2
  cases w1 with
  | list ho hall=>exact⟨_,_,ns,rfl,rfl,ho,M3 ns _ hall,hlen⟩
theorem aa6 (l:OpenLaw)(args:List WData):l.row.toRowW.claim.post args (.bool true) args=true:=
 postW_of (r:=l.row.toRowW) (X:=(true == true))
  (show WShape.has [] (.bool true) .bool=true by first | rfl | decide | simp[WShape.has,WShape.arms,WShape.armsAll])
  (show (WTm.eq .res (.lit (.bool true))).value [] { args:=args,res:=some (.bool true),after:=args }=some (.bool (true == true)) from w_eq_bool (w_res rfl) w_lit) rfl
theorem attach_call {l:OpenLaw} {n:Nat} {q:Program} {loose:List Str} {XP:(Str->Option Value)->Heap->Prop} {YP:World->Heap->Prop} {d:DefRec}
  (hn:l.most=some n) (hdf:d.params.defaults=[])
  (call : ∀ (w : World) (s₀ s₁ : Shared) (mg mb : Str -> Option Value) (fa : Addr) (o : Obj) (pm cd doc : Value) (a : Addr) (vs : List Value) (ns : List Int),
   Ground q loose [] XP w s₀ mg mb s₁.heap->YP w s₁.heap ->
   s₁.heap.get? fa=some o->o.data=.func (docDef d.name d.params d.body d.scope pm cd doc)->s₁.heap.CodeRec cd d.name->mg d.name=some (.ref fa) ->
   s₁.heap.get? a=some { cls:=.type "list",data:=.seq vs.toArray }->IntsAre vs ns->ns.length<=n->s₁.gens=#[] ->
   codeAny (model l.prog w) callerA (.call (.ref fa) ⟨[.ref a],[]⟩) (fun r s'=>r=.ok (.ret (.bool true))/\OldK s₁.heap s'.heap/\s'.os=s₁.os/\AllBare s'.gens) s₁) :
  WalkO q loose XP YP l.row.toRowW d [] (fun f vs=>PySem.call f vs):=by
 intro w s₀ s₁ mg mb G Y fa o pm cd doc dV kV ho hd hcd hD hmg hg args vals as hpre hlay hrd hwl hlo
 obtain rfl:dV=.none:=Dflts.none hD hdf
 obtain rfl:kV=.none:=Dflts.noKw hD
 obtain⟨a,vs,ns,rfl,rfl,hobj,hints,hlen⟩:=aa5 hn hpre hwl
 refine enter_call (codeAny_mono (call w s₀ s₁ mg mb fa o pm cd doc a vs ns G Y ho (fd_plain hd) hcd hmg hobj hints hlen hg) fun r s' hq=>?_)
 obtain⟨rfl,h2,h3,h4⟩:=hq
 exact⟨.inl ⟨.bool true,.bool true,[],rfl,fun _=>rfl,.bool true,aa6 l _,fun _=>⟨List.Pairwise.nil,fun _ hm=>(nomatch hm)⟩⟩,h2,h3,h4⟩
section
variable {prog:Program} {w:World} {A:Around} {E:Value->Shared->Prop} {s:Shared} {K:Frag}
end
end Att
namespace L2
open PySem PySem.Spec PyProof.Rows
theorem P2:∀ {vs:List Value} {ns:List Int},IntsAre vs ns->i9 (ns.map V.int) vs
 | _,_,.nil=>.nil
 | _,_,.cons n t h=>.cons ⟨t,rfl⟩ (P2 h)
def aq8 (H:Hp):Prop:=∀ b,H b=none\/∃ o xs,H b=some (.frz o (.lst xs))
theorem af6 {P:Program}{w:World}{K:W.Frag}{mg mb:Str->Option Value}{CX:CXT}{k:Nat}{fa a:Addr}{fd:FuncData}{x:Str}{sp:Sp}{s₁:Shared}{vs:List Value}{ns:List Int}
  (KX:K.In s₁.heap)(hns:s₁.heap.Ns mainGlobals mg)(hb:s₁.heap.Ns builtinsNs mb)(hbb:∀ x:Str,x≠"__name__"->mb x=bootBuiltins x)(hlim:s₁.heap.NoLimit)(hg:s₁.gens=#[])
  (ha:s₁.heap.get? a=some { cls:=.type "list",data:=.seq vs.toArray })(hi:IntsAre vs ns)(hl:ns.length<=sizeLine)(hr:D2 k callerA)
  (F:∀ base:Heap,K.In base->base.Ns mainGlobals mg->d7 P w K mg base CX k fa fd [x] sp)(hbind:∀ (s:Shared) (u:Value),BindsTo s fd ⟨[u],[]⟩ [(x,u)])
  (hsp:∀ H:Hp,aq8 H->SqL K H a (ns.map V.int)->sp [.ref a] H (fun v _=>v=.bl true) fun _ _ _=>False)
  (hCX:∀ H e s',CX [] H s₁ (fun _ _ _=>False) e s'->False) :
  codeAny (model P w) callerA (.call (.ref fa) ⟨[.ref a],[]⟩) (fun r s'=>r=.ok (.ret (.bool true))/\OldK s₁.heap s'.heap/\s'.os=s₁.os/\AllBare s'.gens) s₁:=by
 have rv:=P2 hi
 have lenV:=hi.length
 have core:∀ H:Hp,aq8 H->SqL K H a (ns.map V.int)->HOk P w H s₁.heap->(∀ b,H b≠none->b=a)->(H a≠none->K.lookup a=none) ->
   codeAny (model P w) callerA (.call (.ref fa) ⟨[.ref a],[]⟩) (fun r s'=>r=.ok (.ret (.bool true))/\OldK s₁.heap s'.heap/\s'.os=s₁.os/\AllBare s'.gens) s₁:=by
  intro H hO hS hok hA hK
  have base_of:∀ {b:Addr} {o:Obj},s₁.heap.get? b=some o->H b=none->(S5 s₁.heap H).get? b=some o:=fun e n=>af8 e n
  have noA:∀ {b:Addr} {o:Obj} {es:Array DictEntry} {ep:Nat},s₁.heap.get? b=some o->o.data=.dict es ep->H b=none:=fun {b o es ep} e d=>by
   cases q:H b with
   | none=>rfl
   | some u =>
    have e':b=a:=hA b (by rw[q];simp)
    subst e'
    rw[ha]at e;cases e
    have d':Data.seq vs.toArray _=Data.dict es ep:=d
    cases d'
  have nsK:∀ {b:Addr} {m:Str->Option Value},s₁.heap.Ns b m->(S5 s₁.heap H).Ns b m:=fun {b m} ⟨o,es,ep,e,d,r⟩=>⟨o,es,ep,base_of e (noA e d),d,r⟩
  have hKb:K.In (S5 s₁.heap H):=fun b o e=>base_of (KX b o e) (by
   cases q:H b with
   | none=>rfl
   | some u =>
    have e':b=a:=hA b (by rw[q];simp)
    subst e'
    rw[hK (by rw[q];simp)]at e;cases e)
  have hM:Mod K mg (S5 s₁.heap H):=⟨hKb,nsK hns,⟨mb,nsK hb,hbb⟩,let ⟨mc,h1,h2⟩:=hlim;⟨mc,nsK h1,h2⟩⟩
  have e0:aj8 P w K mg (S5 s₁.heap H) callerA [] s₁ H:=⟨rfl,hM,fun b o e=>aj1 e,Nat.le_of_eq (ab3 _ _),trivial,fun b hb=>absurd (show b∈([]:List Addr) from hb) (by simp),hok,.of_eq hg⟩
  refine codeAny_mono ((F _ hKb (nsK hns)).run callerA [] s₁ H ⟨[.ref a],[]⟩ [.ref a] [.ref a] _ _ hr e0 (hbind s₁ (.ref a)) (.cons rfl .nil) (hsp H hO hS)) fun r s' h=>?_
  cases r with
  | error e=>exact(hCX H e s' h).elim
  | ok fl =>
   cases fl with
   | next=>exact False.elim h
   | brk=>exact False.elim h
   | cont=>exact False.elim h
   | ret u =>
    obtain⟨v,H',os,bare,un,hok',r',q⟩:=h
    have q':v=.bl true:=q
    subst q'
    obtain rfl:u=Value.bool true:=r'
    refine⟨rfl,OldK.of_keep fun b o e=>?_,os,bare⟩
    cases q:H b with
    | none=>exact un.keep b o e q (by intro z;exact absurd (show b∈([]:List Addr) from z) (by simp)) (by simp)
    | some u =>
     rcases hO b with z | ⟨ob,xs,z⟩
     ·rw[q]at z;cases z
     ·have z2:=un.frzs b ob _ z
      obtain⟨e1,_⟩:=hok b _ z
      obtain⟨e2,_⟩:=hok' b _ z2
      rw[e]at e1;cases e1
      exact e2
 cases hk:K.lookup a with
 | some o =>
  have e:=KX a o hk
  rw[ha]at e
  cases e
  refine core (fun _=>none) (fun _=>.inl rfl) (.inr ⟨_,vs.toArray,_,hk,rfl,rfl,rfl,by rw[c7,lenV];exact hl,by simpa using rv⟩) (fun b u z=>by have z':(none:Option HO)=some u:=z;cases z') (fun b z=>absurd rfl z) fun z=>absurd rfl z
 | none =>
  refine core (fun b=>if b=a then some (.frz { cls:=.type "list",data:=.seq vs.toArray } (.lst (ns.map V.int))) else none) (fun b=>?_) (.inl (.inr ⟨{ cls:=.type "list",data:=.seq vs.toArray },if_pos rfl⟩)) (fun b u z=>?_) (fun b z=>?_) fun _=>hk
  ·by_cases hb:b=a
   ·exact .inr ⟨_,_,if_pos hb⟩
   ·exact .inl (if_neg hb)
  ·by_cases hb:b=a
   ·have z':=(if_pos hb).symm.trans z
    cases z'
    subst hb
    exact⟨ha,by rw[a8];exact hl,vs,_,rv,ha⟩
   ·have z':=(if_neg hb).symm.trans z
    cases z'
  ·by_cases hb:b=a
   ·exact hb
   ·exact absurd (if_neg hb) z
theorem walk_of {l:PySem.W.OpenLaw} {n k:Nat} {q:Program} {loose:List Str} {XP:(Str->Option Value)->Heap->Prop} {YP:World->Heap->Prop} {d:DefRec} {K:Params->PySem.W.Frag} {CX:World->CXT} {sp:World->Sp} {x:Str}
  (hn:l.most=some n) (hn2:n<=sizeLine) (hdf:d.params.defaults=[]) (hr:D2 k callerA)
  (hY:∀ (w:World) (h:Heap),YP w h->(K w.params).In h)
  (F : ∀ (w : World) (mg : Str -> Option Value) (fa : Addr) (h : Heap), (K w.params).In h -> h.Ns mainGlobals mg -> mg d.name = some (.ref fa) ->
   ∃ fd:FuncData,(∀ (s:Shared) (u:Value),BindsTo s fd ⟨[u],[]⟩ [(x,u)]) /\
    ∀ base:Heap,(K w.params).In base->base.Ns mainGlobals mg->d7 l.prog w (K w.params) mg base (CX w) k fa fd [x] (sp w))
  (hsp:∀ (w:World) (H:Hp) (a:Addr) (ns:List Int),ns.length<=n->aq8 H->SqL (K w.params) H a (ns.map V.int)->sp w [.ref a] H (fun v _=>v=.bl true) fun _ _ _=>False)
  (hCX:∀ (w:World) (H:Hp) (s:Shared) (e:Value) (s':Shared),CX w [] H s (fun _ _ _=>False) e s'->False) :
  PySem.W.WalkO q loose XP YP l.row.toRowW d [] (fun f vs=>PySem.call f vs):=by
 refine Att.attach_call hn hdf fun w s₀ s₁ mg mb fa o pm cd doc a vs ns G Y ho hd hcd hmg hobj hints hlen hg=>?_
 have KX:=hY w _ Y
 obtain⟨fd,hb,hF⟩:=F w mg fa _ KX G.T.g hmg
 exact af6 KX G.T.g G.T.b G.T.builtins G.T.nolimit hg hobj hints (j5 hlen hn2) hr hF hb (fun H hO hS=>hsp w H a ns hlen hO hS) fun H e s'=>hCX w H s₁ e s'
end L2
namespace L2
open PySem PySem.Spec PyProof.Rows
def h8 (s:Stmt):Arguments:=match s with
 | .FunctionDef _ a _ _ _ _ _ _ _ _=>a
 | _=>{ posonlyargs:=[],args:=[],vararg:=none,kwonlyargs:=[],kw_defaults:=[],kwarg:=none,defaults:=[] }
def e9 (s:Stmt):List Stmt:=match s with
 | .FunctionDef _ _ b _ _ _ _ _ _ _=>b
 | _=>[]
def a6 (s:Stmt):Scope:=match s with
 | .FunctionDef _ _ _ _ _ _ sc _ _ _=>sc
 | _=>{ kind:=.function,names:=[],isGenerator:=false,isCoroutine:=false }
abbrev CX0:CXT:=fun _ _ _ _ _ _=>False
abbrev E0:XK:=fun _ _ _=>False
theorem E8 {X:Cx}:N9 CX0 X E0:=fun _ _ _ _ _ _ _ h=>h.elim
structure Fun (K:W.Frag) (x qual:Str) (st:Stmt) (f:Addr) (fd:FuncData):Prop where
 ex:∃ (oc:Value) (od:Option Addr) (kV doc pm:Value) (an:Option Addr) (cdv ct:Value) (osl:Array (Option Value)),
  fd=c3 x qual (h8 st) (e9 st) (a6 st) .none kV doc pm an cdv ct/\K.lookup f=some ⟨oc,od,.func fd,osl⟩/\b9 K cdv qual=true
 kp:a9 K (.ref f)=true
section
variable {P:Program} {w:World} {K:W.Frag} {mg:Str->Option Value} {base:Heap}
theorem Fun.ok {x qual:Str} {st:Stmt} {f:Addr} {fd:FuncData} {N ps:List Str} {k:Nat} {sp:Sp} (F:Fun K x qual st f fd) (S:i0 N ps (a6 st)) (len:∀ vs H Q E,sp vs H Q E->vs.length=ps.length)
  (hbody : ∀ (cdv : Value) (A : Around) (outer : List Env) (s : Shared) (H : Hp) (vs : List V) (Q : VK) (E : XK), D2 k (A.deeper (envOfC qual (a6 st) s.heap.objs.size f cdv)) -> sp vs H Q E ->
   ∃ t,PSs (B6 CX0 P w K mg base N qual (a6 st) f cdv A outer s H E).nox (e9 st) t/\t { nx:=fun _ H'=>Q .non H',rt:=Q } (start N vs) H):d7 P w K mg base CX0 (k+1) f fd ps sp:=by
 obtain⟨oc,od,kV,doc,pm,an,cdv,ct,osl,rfl,lk,hcd⟩:=F.ex
 refine al0 lk hcd S len fun A outer s H vs Q E hr hsp=>?_
 obtain⟨t,h,q⟩:=hbody cdv A outer s H vs Q E hr hsp
 exact⟨t,h.nox,q⟩
theorem Fun.binds {x qual:Str}{st:Stmt}{f:Addr}{fd:FuncData}{ps:List Str}(F:Fun K x qual st f fd)
  (h:∀ (kV doc pm:Value) (an:Option Addr) (cdv ct:Value) (us:List Value),us.length=ps.length->bindArgs (c3 x qual (h8 st) (e9 st) (a6 st) .none kV doc pm an cdv ct) ⟨us,[]⟩=pure (ps.zip us)):Binds K fd ps []:=by
 obtain⟨oc,od,kV,doc,pm,an,cdv,ct,osl,rfl,lk,hcd⟩:=F.ex
 exact .all (h kV doc pm an cdv ct)
theorem j2 {x qual:Str}{st:Stmt}{f:Addr}{oc:Value}{od an:Option Addr}{osl:Array (Option Value)}{kV doc pm cdv ct:Value}(l:K.lookup f=some ⟨oc,od,.func (c3 x qual (h8 st) (e9 st) (a6 st) .none kV doc pm an cdv ct),osl⟩)
  (c:b9 K cdv qual=true)(k:a9 K (.ref f)=true):Fun K x qual st f (c3 x qual (h8 st) (e9 st) (a6 st) .none kV doc pm an cdv ct):=⟨⟨oc,od,kV,doc,pm,an,cdv,ct,osl,rfl,l,c⟩,k⟩
end
section
variable {X:Cx}
theorem pv (i:Nat){x:Str}{pos:Pos}(hN:X.N[i]?=some x:=by rfl)(hv:Vis X.env.scope x:=by first | exact Or.inl rfl | exact Or.inr (Or.inl rfl) | exact Or.inr (Or.inr rfl))(hd:(x == ("__debug__":Str))=false:=by decide)
  (hcd:(x == ("__classdict__":Str))=false:=by decide):PE X (.Name x pos) (ar5 i):=an5 hN hv hd hcd
end
theorem x8 {A B:Prop}(h:B):if false=true then A else B:=by
 rw[if_neg d2]
 exact h
theorem v3 {A B:Prop}(h:A):if true=true then A else B:=by
 rw[if_pos rfl]
 exact h
theorem p8 {c A B:Prop}[Decidable c](h1:c->A)(h2:¬ c->B):if c then A else B:=by
 by_cases h:c
 ·rw[if_pos h]
  exact h1 h
 ·rw[if_neg h]
  exact h2 h
theorem aw3 {c A B:Prop}[Decidable c](hc:c)(h:B):if (!decide c)=true then A else B:=by
 rw[decide_eq_true hc]
 exact x8 h
def j3 (H H':Hp):Prop:=∀ b o,H b=some o->H' b=some o
theorem j3.refl (H:Hp):j3 H H:=fun _ _ h=>h
theorem j3.trans {H H1 H2:Hp}(a:j3 H H1)(b:j3 H1 H2):j3 H H2:=fun c o h=>b c o (a c o h)
theorem j3.free {H H':Hp}(e:j3 H H'){l:Addr}(h:H' l=Option.none):H l=Option.none:=by
 cases q:H l with
 | none=>rfl
 | some o =>
  rw[e l o q]at h
  cases h
theorem j3.seq {K:W.Frag}{H H':Hp}{a:Addr}{xs:List V}(e:j3 H H')(h:SqL K H a xs):SqL K H' a xs:=by
 rcases h with(h | ⟨o,h⟩) | h
 ·exact .inl (.inl (e _ _ h))
 ·exact .inl (.inr ⟨o,e _ _ h⟩)
 ·exact .inr h
end L2
namespace Tim
open PySem PyProof.Rows
structure Ord (B:Keyed->Keyed->Bool):Prop where
 irr:∀ x,B x x=false
 tr:∀ x y z,B x y=true->B y z=true->B x z=true
 ng:∀ x y z,B x z=true->B x y=true\/B y z=true
def le (B:Keyed->Keyed->Bool)(x y:Keyed):Prop:=B y x=false
section
variable {prog:Program} {w:World} {A:Around} {E:Value->Shared->Prop} {s:Shared} {κ:SortKind} {S:Keyed->Prop} {B:Keyed->Keyed->Bool}
end
structure MI (R:Keyed->Keyed->Prop) (out ra rb all:List Keyed):Prop where
 so:out.Pairwise R
 oa:∀ x∈out,∀ y∈ra,R x y
 ob:∀ x∈out,∀ y∈rb,R x y
 sa:ra.Pairwise R
 sb:rb.Pairwise R
 pm:(out++(ra++rb)).Perm all
structure Sm (st st':SortSt):Prop where
 k:kindOf st'=kindOf st
 a:arrOf st'=arrOf st
 p:pendingOf st'=pendingOf st
 f:failedOf st'=failedOf st
section
variable {prog:Program} {w:World} {A:Around} {E:Value->Shared->Prop} {s:Shared} {κ:SortKind} {S:Keyed->Prop} {B:Keyed->Keyed->Bool}
structure LoI (B:Keyed->Keyed->Bool) (a b out:Array Keyed) (ia ib:Nat):Prop where
 m:MI (le B) out.toList (a.toList.drop ia) (b.toList.drop ib) (a.toList++b.toList)
 ha:ia+1<a.size
 hb:ib<b.size
 sz:out.size=ia+ib
def Good (B:Keyed->Keyed->Bool)(a b r:Array Keyed):Prop:=r.toList.Pairwise (le B)/\r.toList.Perm (a.toList++b.toList)
end
section
variable {prog:Program} {w:World} {A:Around} {E:Value->Shared->Prop} {s:Shared} {κ:SortKind} {S:Keyed->Prop} {B:Keyed->Keyed->Bool}
abbrev HM (B:Keyed->Keyed->Bool)(a b out:Array Keyed)(na nb:Nat):Prop:=MI (fun x y=>le B y x) out.toList (a.toList.take na).reverse (b.toList.take nb).reverse (a.toList++b.toList)
structure HiI (B:Keyed->Keyed->Bool) (a b out:Array Keyed) (na nb:Nat):Prop where
 m:HM B a b out na nb
 ha:0<na
 ha':na<=a.size
 hb:1<nb
 hb':nb<=b.size
 sz:out.size+na+nb=a.size+b.size
end
section
variable {O:KeyOrd} {f:Keyed->O.α} {d:O.α}
end
structure SI (a₀:Array Keyed) (κ:SortKind) (p:Array (Nat × Nat × Nat)) (st:SortSt):Prop where
 perm:(arrOf st).Perm a₀
 kind:kindOf st=κ
 failed:failedOf st=none
 pend:pendingOf st=p
section
variable {prog:Program} {w:World} {A:Around} {E:Value->Shared->Prop} {s:Shared} {κ:SortKind} {a₀:Array Keyed} {p:Array (Nat × Nat × Nat)} {O:KeyOrd} {f:Keyed->O.α} {d:O.α}
end
def shape (ps:List (Nat × Nat × Nat)):List (Nat × Nat):=ps.map fun x=>(x.1,x.2.1)
def av9:Nat->List (List Keyed)->List (Nat × Nat)
 | _,[]=>[]
 | k,r::rs=>(k,r.length)::av9 (k+r.length) rs
structure SR (a₀:Array Keyed) (κ:SortKind) (B:Keyed->Keyed->Bool) (runs:List (List Keyed)) (suf:List Keyed) (st:SortSt):Prop where
 perm:(arrOf st).Perm a₀
 kind:kindOf st=κ
 failed:failedOf st=none
 sh:shape (pendingOf st).toList=av9 0 runs
 ok:∀ r∈runs,r≠[]/\r.Pairwise (le B)
 arr:(arrOf st).toList=runs.flatten++suf
section
variable {prog:Program} {w:World} {A:Around} {E:Value->Shared->Prop} {s:Shared} {κ:SortKind} {a₀:Array Keyed} {B:Keyed->Keyed->Bool}
end
section
variable {prog:Program} {w:World} {A:Around} {E:Value->Shared->Prop} {s:Shared} {κ:SortKind} {a₀:Array Keyed} {O:KeyOrd} {f:Keyed->O.α}
end
end Tim
namespace Tim
open PySem PyProof.Rows PySem.W
def aw0:List Int->List Int->Bool
 | [],[]=>false
 | [],_::_=>true
 | _::_,[]=>false
 | a::x,b::y=>if a=b then aw0 x y else decide (a<b)
section
variable {prog:Program} {w:World}
variable {A:Around} {E:Value->Shared->Prop} {s:Shared}
end
end Tim
namespace Sett
open PySem PySem.SetTable
def st (m i pt:Nat):Probe:={ j:=i,more:=runEnd m i - i,i:=i,perturb:=pt,dummy:=none }
def it (t:SetTable):Nat->Probe->Probe
 | 0,p=>p
 | n+1,p=>it t n (t.advance p)
def f5 (m i:Nat):Nat:=(i*5+1) % (m+1)
def Good (m:Nat):Prop:=m=7\/m=31\/m=127\/m=511
def Asc (xs:Array Nat):Prop:=∀ (i j a b:Nat),i<j->xs[i]?=some a->xs[j]?=some b->a<b
abbrev En:=Int × Value
structure Tb (t:SetTable) (es:Array En):Prop where
 dum:t.dummies=#[]
 len:t.place.size=es.size
 asc:Asc t.place
 bnd:∀ (i j:Nat),t.place[i]?=some j->j<=t.mask
 good:Good t.mask
 nf:es.size*5<t.mask*3
 path:∀ (i:Nat) (e:En),es[i]?=some e->∃ n,n<10*turns t.mask/\t.place[i]?=some (it t n (t.probeStart e.1)).j/\∀ k,k<n->∃ i':Nat,t.place[i']?=some (it t k (t.probeStart e.1)).j
structure Tb' (t:SetTable) (es:Array En):Prop where
 dum:t.dummies=#[]
 len:t.place.size=es.size
 asc:Asc t.place
 bnd:∀ (i j:Nat),t.place[i]?=some j->j<=t.mask
 good:Good t.mask
 fil:es.size<=t.mask
 path:∀ (i:Nat) (e:En),es[i]?=some e->∃ n,n<10*turns t.mask/\t.place[i]?=some (it t n (t.probeStart e.1)).j/\∀ k,k<n->∃ i':Nat,t.place[i']?=some (it t k (t.probeStart e.1)).j
structure LI (t:SetTable) (hs:Array Int) (owner:Array (Option Nat)) (k:Nat):Prop where
 size:owner.size=t.mask+1
 lt:∀ (j i:Nat),owner[j]?=some (some i)->i<k
 inj:∀ (j j' i:Nat),owner[j]?=some (some i)->owner[j']?=some (some i)->j=j'
 has:∀ (i:Nat) (h:Int),i<k->hs[i]?=some h->∃ n,n<10*turns t.mask/\owner[(it t n (t.probeStart h)).j]?=some (some i)/\∀ c,c<n->∃ i':Nat,owner[(it t c (t.probeStart h)).j]?=some (some i')
end Sett
namespace Sett
open PySem PySem.SetTable PyProof.Rows
def hp (n:Nat):Nat:=bits (reduceHash (Builtin.Tuple.tupleHashOf [hashInt ((n / 24:Nat):Int),hashInt ((n % 24:Nat):Int)])) % 3708
section
variable {prog:Program} {w:World}
variable {A:Around} {E:Value->Shared->Prop} {s:Shared}
end
section
variable {prog:Program} {w:World} {A:Around} {E:Value->Shared->Prop} {s:Shared}
end
section
variable {prog:Program} {w:World} {A:Around} {E:Value->Shared->Prop} {s:Shared}
end
section
variable {prog:Program} {w:World}
variable {A:Around} {E:Value->Shared->Prop} {s:Shared}
end
end Sett
namespace L2
open PySem PySem.Spec PyProof.Rows
section
variable {X:Cx} {pins:List (Addr × Obj)} {σ:St} {H:Hp} {s:Shared}
end
section
variable {X:Cx}
end
def i7 (X:Cx)(scope:Scope)(cl:List (Str × Addr))(N':List Str)(s₃:Shared)(H₃:Hp)(fp:List Addr)(xe':Value->Shared->Prop):Cx:=
 { X with N:=N',s₀:=s₃,H₀:=H₃,env:=compEnvC scope cl s₃.heap.objs.size X.env,outer:=X.stack,ex:=fp,fn:=fun _=>false,pn:=[],xe:=xe' }
def T1 (env:Env):List (Str × Addr)->Prop
 | []=>True
 | (x,c)::r=>env.cells.lookup x=some c/\T1 env r
theorem T1.get {env:Env}:∀ {cl:List (Str × Addr)} {x:Str} {c:Addr},T1 env cl->cl.lookup x=some c->env.cells.lookup x=some c
 | [],_,_,_,h=>by cases h
 | (y,d)::r,x,c,⟨h1,h2⟩,h=>by
  rw[ar2]at h
  cases e:x == y with
  | true =>
   rw[e]at h
   cases h
   rw[eq_of_beq e]
   exact h1
  | false =>
   rw[e]at h
   exact T1.get h2 h
def S9 (names:List (Str × NameKind))(cl:List (Str × Addr)):Bool:=names.all fun y=>y.2 != .cell && (y.2 != .free || (cl.lookup y.1).isSome)
theorem A3 {env:Env}:∀ {names:List (Str × NameKind)} {x:Str} {k:NameKind},(names.map fun(n,k)=>if (k == NameKind.free && env.scope.kind == .function && env.kindOf n == some .cell) then (n,NameKind.cell) else (n,k)).lookup x=some k ->
  ∃ k',(x,k')∈names/\(k'=k\/(k'=.free/\k=.cell))
 | [],_,_,h=>by cases h
 | (n,k0)::r,x,k,h=>by
  rw[B7]at h
  have hn:∀ k1,(List.lookup x ((n,k1)::r.map fun(n,k)=>if (k == NameKind.free && env.scope.kind == .function && env.kindOf n == some .cell) then (n,NameKind.cell) else (n,k)))=some k->(x=n/\k1=k)\/∃ k',(x,k')∈r/\(k'=k\/(k'=.free/\k=.cell)):=fun k1 h=>by
   rw[ar2]at h
   cases e:x == n with
   | true=>rw[e]at h;cases h;exact .inl ⟨eq_of_beq e,rfl⟩
   | false=>rw[e]at h;exact .inr (A3 h)
  dsimp only at h
  by_cases hc:(k0 == NameKind.free && env.scope.kind == .function && env.kindOf n == some .cell)=true
  ·rw[if_pos hc]at h
   rcases hn _ h with⟨rfl,rfl⟩ | ⟨k',h1,h2⟩
   ·simp only[d6]at hc
    have e0:k0=.free:=eq_of_beq hc.1.1
    exact⟨k0,i5,.inr ⟨e0,rfl⟩⟩
   ·exact⟨k',c2 _ h1,h2⟩
  ·rw[if_neg hc]at h
   rcases hn _ h with⟨rfl,rfl⟩ | ⟨k',h1,h2⟩
   ·exact⟨k0,i5,.inl rfl⟩
   ·exact⟨k',c2 _ h1,h2⟩
def M4 (lk:List (Option Nat))(σ:St):St:=lk.map fun o=>o.bind fun j=>(σ[j]?).join
def ab7 (X:Cx)(N':List Str)(lk:List (Option Nat))(scope:Scope)(cl:List (Str × Addr)):Prop:=
 lk.length=N'.length/\∀ (i j:Nat) (x:Str),N'[i]?=some x->lk[i]?=some (some j)->X.N[j]?=some x/\(X.env.scope.names.lookup x=some .cell\/X.env.scope.names.lookup x=some .free)/\(cl.lookup x).isSome=true /\
  ((compEnvC scope cl 0 X.env).kindOf x=some .cell\/(compEnvC scope cl 0 X.env).kindOf x=some .free)
section
variable {X:Cx}
theorem J0 {pins:List (Addr × Obj)}{σ:St}{H3:Hp}{s3:Shared}{h1:Heap}{tk:Nat}{scope:Scope}{cl:List (Str × Addr)}{N':List Str}{lk:List (Option Nat)}{fp:List Addr}{xe':Value->Shared->Prop}{m0:Str->Option Value}
  (I:Inv X pins σ H3 s3)(hf:∀ b∈fp,C4 X pins H3 b)(hkind:scope.kind=.function)(hcl:T1 X.env cl)(hfr:S9 scope.names cl=true)(hlk:ab7 X N' lk scope cl)
  (hn:h1.Ns s3.heap.objs.size m0)(hk:∀ b u,s3.heap.get? b=some u->h1.get? b=some u)(hfs:∀ b∈fp,b<s3.heap.objs.size):Inv (i7 X scope cl N' s3 H3 fp xe') [] (M4 lk σ) H3 { s3 with heap:=h1,toks:=tk }:=by
 have hC:H3 s3.heap.objs.size=none:=I.hok.fresh (c9 _)
 have hmem:∀ y∈scope.names,y.2≠.cell/\(y.2=.free->(cl.lookup y.1).isSome=true):=fun y hy=>by
  unfold S9 at hfr
  rw[h9]at hfr
  have:=hfr y hy
  rw[d6]at this
  refine⟨by simpa using this.1,fun e=>?_⟩
  have h2:=this.2
  rw[e]at h2
  simpa using h2
 have hcell:∀ x c,cl.lookup x=some c->X.env.cells.lookup x=some c:=fun x c e=>hcl.get e
 have clt:∀ x c,cl.lookup x=some c->c<s3.heap.objs.size:=fun x c e=>by
  obtain⟨v,q⟩:=I.cell x c (hcell x c e)
  exact q.lt
 refine⟨⟨I.ok.mod,hkind,I.ok.glob,I.ok.blt,c9 _,fun x y c e1 e2=>I.ok.inj x y c (hcell x c e1) (hcell y c e2),fun x hx=>?_,(fun x c e=>by cases e),I.ok.hd,I.ok.frames,.inl rfl,fun b hb=>?_,fun b o e=>I.bs b o e,j5 I.ok.bsz I.sz,fun b o e hb=>?_,fun b hb z=>?_,I.stack,I.stkFree⟩,
  rfl,I.bare,Un.kept hk,⟨m0,hn,fun i x v e1 e2 e3=>?_⟩,fun x c e=>?_,hC,fun x c e=>?_,(fun p hp=>nomatch hp),I.hok.kept hk,?_⟩
 ·have hx':(relabel scope X.env).names.lookup x=some .cell\/(relabel scope X.env).names.lookup x=some .free:=hx
  have:∃ k',(x,k')∈scope.names/\k'=.free:=by
   rcases hx' with h | h
   ·obtain⟨k',h1,h2⟩:=A3 h
    rcases h2 with h2 | h2
    ·exact absurd h2 (hmem _ h1).1
    ·exact⟨k',h1,h2.1⟩
   ·obtain⟨k',h1,h2⟩:=A3 h
    rcases h2 with h2 | h2
    ·exact⟨k',h1,h2⟩
    ·exact⟨k',h1,h2.1⟩
  obtain⟨k',h1,h2⟩:=this
  exact D4.mp ((hmem _ h1).2 h2)
 ·obtain⟨f0,f1,f2,f3,f4,f5⟩:=hf b hb
  exact⟨g9 (hfs b hb),fun x c e=>f4 x c (hcell x c e)⟩
 ·obtain⟨f0,f1,f2,f3,f4,f5⟩:=hf b hb
  rcases f3 with f3 | f3
  ·exact I.ok.noex b o e f3
  ·exact absurd (g8 (c6 e) (j5 I.ok.bsz f3)) (n0 _)
 ·obtain⟨f0,f1,f2,f3,f4,f5⟩:=hf b hb
  rcases k6.mp (I.stkSub b z) with e | e
  ·exact f1 e
  ·exact f2 e
 ·-- a captured name
  have e2':(M4 lk σ)[i]?=some (some v):=e2
  unfold M4 at e2'
  rw[j4]at e2'
  cases hq:lk[i]? with
  | none=>rw[hq]at e2';cases e2'
  | some o =>
   rw[hq]at e2'
   have e2'':(o.bind fun j=>(σ[j]?).join)=some v:=Option.some.inj e2'
   cases o with
   | none=>cases e2''
   | some j =>
    obtain⟨q1,q2,q3,q4⟩:=hlk.2 i j x e1 hq
    have hσ:σ[j]?=some (some v):=by
     have z:(σ[j]?).join=some v:=e2''
     cases hh:σ[j]? with
     | none=>rw[hh]at z;cases z
     | some o=>rw[hh]at z;rw[show o=some v from z]
    obtain⟨m,hnX,hl⟩:=I.loc
    obtain⟨u,r,lo⟩:=hl j x v q1 hσ (q2.elim (fun a=>.inr (.inl a)) (fun a=>.inr (.inr a)))
    refine⟨u,r,.inr ?_⟩
    obtain⟨c,hc⟩:=D4.mp q3
    refine⟨q4,c,hc,?_⟩
    have hcX:=hcell x c hc
    rcases lo with⟨k,_⟩ | ⟨_,c',hc',z⟩
    ·have k':X.env.scope.names.lookup x=some .local:=k
     rw[k']at q2
     rcases q2 with q2 | q2<;>cases q2
    ·rw[hcX]at hc'
     cases hc'
     obtain⟨o,ho,hd⟩:=z
     exact⟨o,hk c o ho,hd⟩
 ·obtain⟨v,o,ho,hd⟩:=I.cell x c (hcell x c e)
  exact⟨v,o,hk c o ho,hd⟩
 ·exact I.freeC x c (hcell x c e)
 ·show (M4 lk σ).length=N'.length
  unfold M4
  rw[a8]
  exact hlk.1
def PTs (X:Cx)(ifs:List Expr)(t:TT):Prop:=
 ∀ (pins:List (Addr × Obj)) (s:Shared) (σ:St) (H:Hp) (Q:Bool->Hp->Prop),Inv X pins σ H s->t σ H Q->wpAny (model X.prog X.w) X.A (forIn ifs true fun c r=>if r=true then do let ok <- isTrue c X.env (eval c X.env);pure (ForInStep.yield ok) else pure (ForInStep.yield r)) (TP X pins σ Q) X.xe s
def ak0:TT:=fun _ H Q=>Q true H
theorem F7:PTs X [] ak0:=fun pins s σ H Q I h=>wpAny_tests_nil ⟨H,I,h⟩
theorem ai0 {c:Expr}{t:TT}(h:PT X c t):PTs X [c] t:=fun pins s σ H Q I q=>wpAny_tests_one (h pins s σ H Q I q)
def X6 (wi:TI)(lk:List (Option Nat))(g:TG)(tt:TT)(te:TE):TE:=fun σ H Q=>wi σ H fun J H1=>∀ D,H1 D=none->∃ W:Nat->Nat->List V->St->Hp->Prop,(∃ m,W 0 m [] (M4 lk σ) (upd H1 D (.lst [])))/\∀ i m xs σ' H',W i m xs σ' H' ->
 H' D=some (.lst xs)/\((J.stop i H'/\Q (.ref D) H')\/(J.go i H'/\xs.length<sizeLine/\∀ x H'',J.yld i H' x H''->g x σ' H'' fun σ2 H2=>tt σ2 H2 fun b H3 =>
  if b=true then te σ2 H3 fun v H4=>H4 D=some (.lst xs)/\∃ m',m'<m/\W (i+1) m' (xs++[v]) σ2 (upd H4 D (.lst (xs++[v]))) else ∃ m',m'<m/\W (i+1) m' xs σ2 H3))
theorem R7 {elt iter tg:Expr}{ifs:List Expr}{scope:Scope}{pos:Pos}{cl:List (Str × Addr)}{N':List Str}{lk:List (Option Nat)}{wi:TI}{g:TG}{tt:TT}{te:TE}(hc:X.calm=true)(hi:PI X tg iter wi)(hclos:closureFor scope X.env=pure cl)(hkind:scope.kind=.function)
  (hnames:∀ y∈scope.names,y.2=.local->scope.names.lookup y.1=some .local)(hcl:T1 X.env cl)(hfr:S9 scope.names cl=true)(hlk:ab7 X N' lk scope cl)
  (hg:∀ s3 H3 fp,PG (i7 X scope cl N' s3 H3 fp fun _ _=>False) tg g)(ht:∀ s3 H3 fp,PTs (i7 X scope cl N' s3 H3 fp fun _ _=>False) ifs tt)(he:∀ s3 H3 fp,PE (i7 X scope cl N' s3 H3 fp fun _ _=>False) elt te)
  (hs:∀ x,foldedSetIterable iter X.env x=pure x:=by intro _;rfl):PE X (.ListComp elt [⟨tg,iter,ifs,0⟩] scope pos) (X6 wi lk g tt te):=by
 intro pins s σ H Q I h
 rw[eval_ListComp]
 have hcellN:∀ y∈scope.names,y.2≠.cell:=fun y hy=>by
  unfold S9 at hfr
  rw[h9]at hfr
  have:=hfr y hy
  rw[d6]at this
  simpa using this.1
 refine wpAny_comprehension_free (use:=none) rfl hs hclos hkind hnames (thn (hi pins s σ H _ I h) fun v s1 h1=>thn h1 fun itv s2 h2=>?_)
 obtain⟨it,fp,tn,J,H2,e,I2,T,st2,f2,q⟩:=h2
 subst e
 refine wpAny_newList ?_ (o6 _)
 have hD:H2 s2.heap.objs.size=none:=I2.hok.fresh (c9 _)
 have I3:=I2.lnew (ys:=[]) (its:=[]) (t':=s2.toks) .nil (o6 _)
 obtain⟨W,⟨m0,w0⟩,turn⟩:=q s2.heap.objs.size hD
 have fpl:∀ b∈fp,b<s2.heap.objs.size:=fun b hb=>by
  obtain⟨o,ho,_⟩:=T.obj 0 s2.heap st2 b hb
  exact c6 ho
 refine wpAny_newFunctionEnv hcellN (by intro y hy;cases hy) (fun h1 hns1 hsb1=>?_) hkind
 dsimp only at hns1 hsb1 ⊢
 have e3:s2.heap.push { cls:=.type "list",dict:=none,data:=.seq ([]:List Value).toArray }=s2.heap.push { cls:=.type "list",data:=.seq ([]:List Value).toArray }:=rfl
 generalize hh3:s2.heap.push { cls:=.type "list",dict:=none,data:=.seq ([]:List Value).toArray }=h3 at *
 have I3':Inv X pins σ (upd H2 s2.heap.objs.size (.lst [])) { s2 with heap:=h3,toks:=s2.toks }:=I3
 have size3:h3.objs.size=s2.heap.objs.size+1:=by rw[<- hh3,X1]
 have f3:∀ b∈fp,C4 X pins (upd H2 s2.heap.objs.size (.lst [])) b:=fun b hb=>by
  obtain⟨f0,fr⟩:=f2 b hb
  exact⟨by rw[p6 (g9 (fpl b hb))];exact f0,fr⟩
 have up:∀ b u,h3.get? b=some u->h1.get? b=some u:=fun b u eb=>by
  rw[hsb1.2 b (g9 (c6 eb))]
  exact c8 _ eb
 have I4:Inv (i7 X scope cl N' { s2 with heap:=h3,toks:=s2.toks } (upd H2 s2.heap.objs.size (.lst [])) fp fun _ _=>False) [] (M4 lk σ) (upd H2 s2.heap.objs.size (.lst [])) { s2 with heap:=h1,toks:=s2.toks+([]:List (Str × Value)).length }:=
  J0 (s3:={ s2 with heap:=h3,toks:=s2.toks }) I3' f3 hkind hcl hfr hlk hns1 up fun b hb=>by show b<h3.objs.size;rw[size3];exact u4 (fpl b hb)
 have st4:tn 0 h1:=T.keep 0 s2.heap h1 st2 fun b hb o eb=>up b o (by rw[<- hh3];exact c8 _ eb)
 have hCs:h3.objs.size=(compEnvC scope cl h3.objs.size X.env).locals:=rfl
 have stat:∀ {H':Hp},(∀ b∈fp,H' b=none)->∀ b∈fp,C4 (i7 X scope cl N' { s2 with heap:=h3,toks:=s2.toks } (upd H2 s2.heap.objs.size (.lst [])) fp fun _ _=>False) [] H' b:=fun {H'} hn b hb=>by
  obtain⟨f0,f1,f2',f3',f4,f5⟩:=f3 b hb
  refine⟨hn b hb,?_,fun z=>?_,.inl hb,fun x c ex=>f4 x c (hcl.get ex),fun p hp=>nomatch hp⟩
  ·show b≠h3.objs.size
   rw[size3]
   exact g9 (u4 (fpl b hb))
  ·rcases k6.mp (I3'.stkSub b z) with q | q
   ·exact f1 q
   ·exact f2' q
 have fin:∀ (s':Shared) (σ':St) (H':Hp),Inv (i7 X scope cl N' { s2 with heap:=h3,toks:=s2.toks } (upd H2 s2.heap.objs.size (.lst [])) fp fun _ _=>False) [] σ' H' s'->Q (.ref s2.heap.objs.size) H' ->
   compPost (model X.prog X.w) X.A X.xe none (EP X pins σ Q) (.ref s2.heap.objs.size) h3.objs.size (.ok .next) s':=fun s' σ' H' I' q'=>by
  obtain⟨m,hm,_⟩:=id I'.loc
  have I5:Inv X pins σ H' s':=I3'.call' (ch:=fp) I'.os I'.base I'.hok I'.bare fun b hb=>by
   obtain⟨f0,f1,f2',f3',f4,f5⟩:=f3 b hb
   exact⟨f3',f1,f4,f5⟩
  refine⟨m,hm,fun h' hsb=>?_⟩
  refine⟨.ref s2.heap.objs.size,H',?_,rfl,q'⟩
  have hfc:H' h3.objs.size=none:=I'.free
  have hcl1:∀ b o,h3.get? b=some o->b≠h3.objs.size:=fun b o eb=>g9 (c6 eb)
  obtain⟨h0',g0,d0,t0,o0⟩:=s'
  refine I5.turned (t':=t0) (it:=h3.objs.size) (fun b o hb eb=>(hsb.2 b hb).trans eb) hfc ?_ (.inr I3'.sz) (fun x c ex z=>?_) (fun p hp z=>?_)
  ·exact T2 I3'.lt
  ·obtain⟨v',q2⟩:=I3'.cell x c ex
   exact absurd q2.lt (by rw[z];exact n0 _)
  ·exact absurd (c6 (I3'.pin p hp).1) (by rw[z];exact n0 _)
 have loop:∀ s5:Shared,s5={ s2 with heap:=h1,toks:=s2.toks+([]:List (Str × Value)).length } ->
   codeAny (model X.prog X.w) X.A (.compLoop (.ListComp elt [⟨tg,iter,ifs,0⟩] scope pos) 0 (.ref it) (.ref s2.heap.objs.size) (compEnvC scope cl h3.objs.size X.env)) (compPost (model X.prog X.w) X.A X.xe none (EP X pins σ Q) (.ref s2.heap.objs.size) h3.objs.size) s5:=by
  rintro s5 rfl
  refine codeAny_loop rfl (fun n s'=>∃ i xs σ' H',Inv (i7 X scope cl N' { s2 with heap:=h3,toks:=s2.toks } (upd H2 s2.heap.objs.size (.lst [])) fp fun _ _=>False) [] σ' H' s'/\tn i s'.heap/\(∀ b∈fp,H' b=none)/\W i n xs σ' H')
   (fun n s6 hI=>?_) m0 ⟨0,[],M4 lk σ,_,I4,st4,fun b hb=>(f3 b hb).1,w0⟩
  obtain⟨i,xs,σ6,H6,I6,st6,fr6,w6⟩:=hI
  show wpAny _ X.A ((compTurn (.ListComp elt [⟨tg,iter,ifs,0⟩] scope pos) 0 (.ref it) (.ref s2.heap.objs.size) (compEnvC scope cl h3.objs.size X.env)).onRaise (fun x=>do noteFrame x (compEnvC scope cl h3.objs.size X.env);theTreesLotGoes x)) _ _ s6
  refine wpAny_noted ?_
  rw[compTurn_list]
  refine wpAny_bind (wpAny_standAt (wpAny_bind ?_))
  obtain⟨hD6,hw⟩:=turn i n xs σ6 H6 w6
  rcases hw with⟨stop,qn⟩ | ⟨go,hlen,step⟩
  ·refine thn (T.done (i7 X scope cl N' { s2 with heap:=h3,toks:=s2.toks } (upd H2 s2.heap.objs.size (.lst [])) fp fun _ _=>False) rfl rfl rfl hc i [] s6 σ6 H6 _ I6 (stat fr6) st6 stop) fun r s7 ⟨hr,I7⟩=>?_
   subst hr
   exact wpAny_pure (fin s7 σ6 H6 I7 qn)
  ·refine thn (T.item (i7 X scope cl N' { s2 with heap:=h3,toks:=s2.toks } (upd H2 s2.heap.objs.size (.lst [])) fp fun _ _=>False) rfl rfl rfl hc i [] s6 σ6 H6 _ I6 (stat fr6) st6 go) fun r s7 ⟨u,hr,h7⟩=>?_
   subst hr
   refine wpAny_bind (thn h7 fun _ s8 ⟨x,H8,I8,r8,y8,st8,fr8⟩=>?_)
   have I8':=I8.pinned (stat fr8) (T.obj _ _ st8)
   refine wpAny_bind (wpAny_mono (hg _ _ _ _ s8 σ6 H8 x u _ I8' r8 (step x H8 y8)) (fun _ s9 ⟨σ9,H9,I9,q9⟩=>?_) (fun _ _ z=>False.elim z))
   refine wpAny_bind (wpAny_mono (ht _ _ _ _ s9 σ9 H9 _ I9 q9) (fun ok s10 ⟨H10,I10,q10⟩=>?_) (fun _ _ z=>False.elim z))
   have again:∀ {σ':St} {H':Hp} {ys:List V} {s':Shared},Inv (i7 X scope cl N' { s2 with heap:=h3,toks:=s2.toks } (upd H2 s2.heap.objs.size (.lst [])) fp fun _ _=>False) ([]++I0 fp s8.heap) σ' H' s'->(∃ m',m'<n/\W (i+1) m' ys σ' H') ->
     ∃ m',m'<n/\∃ i xs σ' H',Inv (i7 X scope cl N' { s2 with heap:=h3,toks:=s2.toks } (upd H2 s2.heap.objs.size (.lst [])) fp fun _ _=>False) [] σ' H' s'/\tn i s'.heap/\(∀ b∈fp,H' b=none)/\W i m' xs σ' H':=fun {σ' H' ys s'} I' ⟨m',hm,w'⟩=>by
    refine⟨m',hm,i+1,ys,σ',H',I'.unpinned,T.keep _ _ _ st8 fun b hb o eb=>(I'.pin (b,o) (d5 _ (d5 _ (q0 hb eb)))).1,fun b hb=>?_,w'⟩
    obtain⟨o,eb,_⟩:=T.obj _ _ st8 b hb
    exact(I'.pin (b,o) (d5 _ (d5 _ (q0 hb eb)))).2.1
   cases ok with
   | false =>
    have q10':∃ m',m'<n/\W (i+1) m' xs σ9 H10:=by simpa using q10
    exact wpAny_pure ⟨rfl,again I10 q10'⟩
   | true =>
    rw[if_pos rfl]at q10
    refine wpAny_bind (wpAny_bind (wpAny_mono (he _ _ _ _ s10 σ9 H10 _ I10 q10) (fun y s11 ⟨v11,H11,I11,r11,hD11,q11⟩=>?_) (fun _ _ z=>False.elim z)))
    refine wpAny_bind (wpAny_mono (C2 (X:=i7 X scope cl N' { s2 with heap:=h3,toks:=s2.toks } (upd H2 s2.heap.objs.size (.lst [])) fp fun _ _=>False) _ s11 σ9 H11 (.ref s2.heap.objs.size) [v11] (.ref s2.heap.objs.size) [y] (fun _ H'=>∃ m',m'<n/\W (i+1) m' (xs++[v11]) σ9 H') I11 rfl (.cons r11 .nil) ⟨s2.heap.objs.size,xs,v11,rfl,rfl,hD11,hlen,q11⟩) (fun _ s12 ⟨_,H12,I12,_,q12⟩=>?_) (fun _ _ z=>False.elim z))
    exact wpAny_pure (wpAny_pure ⟨rfl,again I12 q12⟩)
 exact codeAny_compStart_list (loop _ rfl) (T.self X.A 0 _ _ _ st4 (loop _ rfl))
end
section
variable {X:Cx}
end
theorem C3 {K:W.Frag}{a D:Addr}{ys:List V}{g:TG}{tt:TT}{te:TE}{Qd:Hp->Prop}{σ0:St}{H0:Hp}(Pv:Nat->List V->St->Hp->Prop)(h0:Pv 0 [] σ0 H0)(hz:ys.length<=sizeLine)(hl:∀ i xs σ H,i<=ys.length->Pv i xs σ H->SqL K H a ys/\H D=some (.lst xs)/\xs.length<=i)
  (hs:∀ i xs x σ H (N:List V->St->Hp->Prop),(∀ xs' σ' H',Pv (i+1) xs' σ' H'->N xs' σ' H')->ys[i]?=some x->Pv i xs σ H->g x σ H fun σ2 H2=>tt σ2 H2 fun b H3=>if b=true then te σ2 H3 fun v H4=>H4 D=some (.lst xs)/\N (xs++[v]) σ2 (upd H4 D (.lst (xs++[v]))) else N xs σ2 H3)
  (hd:∀ xs σ H,Pv ys.length xs σ H->Qd H) :
  ∃ W:Nat->Nat->List V->St->Hp->Prop,(∃ m,W 0 m [] σ0 H0)/\∀ i m xs σ' H',W i m xs σ' H'->H' D=some (.lst xs)/\(((Itl K a).stop i H'/\Qd H')\/((Itl K a).go i H'/\xs.length<sizeLine/\∀ x H'',(Itl K a).yld i H' x H''->g x σ' H'' fun σ2 H2=>tt σ2 H2 fun b H3 =>
   if b=true then te σ2 H3 fun v H4=>H4 D=some (.lst xs)/\∃ m',m'<m/\W (i+1) m' (xs++[v]) σ2 (upd H4 D (.lst (xs++[v]))) else ∃ m',m'<m/\W (i+1) m' xs σ2 H3)):=by
 refine⟨fun i m xs σ H=>m=ys.length - i/\i<=ys.length/\Pv i xs σ H,⟨ys.length,by simp,o6 _,h0⟩,?_⟩
 rintro i m xs σ H ⟨rfl,hi,p⟩
 obtain⟨q,hD,hx⟩:=hl i xs σ H hi p
 refine⟨hD,?_⟩
 by_cases hlt:i<ys.length
 ·refine .inr ⟨⟨ys,ys[i],q,by simp[hlt]⟩,by omega,fun x H'' y=>?_⟩
  obtain⟨e,y⟩:=y
  subst e
  exact hs i xs x σ _ (fun zs σ' H'=>∃ m',m'<ys.length - i/\m'=ys.length - (i+1)/\i+1<=ys.length/\Pv (i+1) zs σ' H') (fun zs σ' H' r=>⟨_,by omega,rfl,hlt,r⟩) (y ys q) p
 ·have e:i=ys.length:=by omega
  subst e
  exact .inl ⟨⟨ys,q,c9 _⟩,hd xs σ H p⟩
mutual
def Dt (K:W.Frag)(H:Hp):PyData->V->Prop
 | .none,v=>v=.non
 | .bool b,v=>v=.bl b
 | .int i,v=>v=.int i
 | .str x,v=>v=.str x
 | .list ds,v=>∃ a xs,v=.ref a/\SqL K H a xs/\q8 K H ds xs
 | .tuple ds,v=>∃ a xs,v=.ref a/\SqT K H a xs/\q8 K H ds xs
 | .dict _,_=>False
def q8 (K:W.Frag)(H:Hp):List PyData->List V->Prop
 | [],xs=>xs=[]
 | d::ds,xs=>∃ y ys,xs=y::ys/\Dt K H d y/\q8 K H ds ys
end
section
variable {X:Cx} {pins:List (Addr × Obj)} {σ:St} {H:Hp} {s:Shared}
mutual
theorem Dt.reads (I:Inv X pins σ H s):∀ (d:PyData) (v:V) (u:Value),Dt X.K H d v->RelV v u->∃ as,Reads s.heap u d as
 | .none,v,u,h,r=>by unfold Dt at h;subst h;cases r;exact⟨_,.none⟩
 | .bool b,v,u,h,r=>by unfold Dt at h;subst h;cases r;exact⟨_,.bool b⟩
 | .int i,v,u,h,r=>by unfold Dt at h;subst h;obtain⟨t,rfl⟩:=r;exact⟨_,.int i t⟩
 | .str x,v,u,h,r=>by unfold Dt at h;subst h;obtain⟨t,rfl⟩:=r;exact⟨_,.str x t⟩
 | .list ds,v,u,h,r=>by
  unfold Dt at h
  obtain⟨a,xs,rfl,hq,hd⟩:=h
  cases r
  obtain⟨its,rv,⟨o,n,ho,hc,_,hdd⟩,_⟩:=I.list hq
  obtain⟨as,ra⟩:=q8.reads I ds xs its hd rv
  exact⟨_,.list ho hc hdd (by simpa using ra)⟩
 | .tuple ds,v,u,h,r=>by
  unfold Dt at h
  obtain⟨a,xs,rfl,hq,hd⟩:=h
  cases r
  obtain⟨its,rv,⟨o,ho,hc,n,hdd⟩,_⟩:=I.tuple hq
  obtain⟨as,ra⟩:=q8.reads I ds xs its hd rv
  exact⟨_,.tuple ho hc hdd (by simpa using ra)⟩
 | .dict _,v,u,h,r=>by unfold Dt at h;exact h.elim
theorem q8.reads (I:Inv X pins σ H s):∀ (ds:List PyData) (xs:List V) (us:List Value),q8 X.K H ds xs->i9 xs us->∃ as,ReadsAll s.heap us ds as
 | [],xs,us,h,r=>by unfold q8 at h;subst h;cases r;exact⟨_,.nil⟩
 | d::ds,xs,us,h,r=>by
  unfold q8 at h
  obtain⟨y,ys,rfl,h1,h2⟩:=h
  cases r with
  | cons q t =>
   obtain⟨as,ra⟩:=Dt.reads I d y _ h1 q
   obtain⟨bs,rb⟩:=q8.reads I ds ys _ h2 t
   exact⟨_,.cons ra rb⟩
end
end
mutual
theorem Dt.same {K:W.Frag}{H H':Hp}(hs:∀ b o,H b=some o->H' b=some o):∀ (d:PyData) (v:V),Dt K H d v->Dt K H' d v
 | .none,v,h=>by unfold Dt at h ⊢;exact h
 | .bool b,v,h=>by unfold Dt at h ⊢;exact h
 | .int i,v,h=>by unfold Dt at h ⊢;exact h
 | .str x,v,h=>by unfold Dt at h ⊢;exact h
 | .list ds,v,h=>by
  unfold Dt at h ⊢
  obtain⟨a,xs,rfl,hq,hd⟩:=h
  refine⟨a,xs,rfl,?_,q8.same hs ds xs hd⟩
  rcases hq with(h | ⟨o,h⟩) | h
  ·exact .inl (.inl (hs _ _ h))
  ·exact .inl (.inr ⟨o,hs _ _ h⟩)
  ·exact .inr h
 | .tuple ds,v,h=>by
  unfold Dt at h ⊢
  obtain⟨a,xs,rfl,hq,hd⟩:=h
  refine⟨a,xs,rfl,?_,q8.same hs ds xs hd⟩
  rcases hq with(h | ⟨o,h⟩) | h
  ·exact .inl (.inl (hs _ _ h))
  ·exact .inl (.inr ⟨o,hs _ _ h⟩)
  ·exact .inr h
 | .dict _,v,h=>by unfold Dt at h;exact h.elim
theorem q8.same {K:W.Frag}{H H':Hp}(hs:∀ b o,H b=some o->H' b=some o):∀ (ds:List PyData) (xs:List V),q8 K H ds xs->q8 K H' ds xs
 | [],xs,h=>by unfold q8 at h ⊢;exact h
 | d::ds,xs,h=>by
  unfold q8 at h ⊢
  obtain⟨y,ys,rfl,h1,h2⟩:=h
  exact⟨y,ys,rfl,Dt.same hs d y h1,q8.same hs ds ys h2⟩
end
section
variable {X:Cx}
def az2 (K:W.Frag)(A:Around)(neg:Bool):R2:=fun x y H Q=>∃ dx dy,Dt K H dx x/\Dt K H dy y/\dx.canLay0=true/\dy.canLay0=true/\A.units+min dx.depth dy.depth<cLine/\Q (.bl (if neg then !PyData.eqv dx dy else PyData.eqv dx dy)) H
theorem ao0:OpR X (compareOp .NotEq) (az2 X.K X.A true):=by
 intro pins s σ H x y v u Q I rx ry h
 obtain⟨dx,dy,h1,h2,h3,h4,h5,q⟩:=h
 obtain⟨as,ra⟩:=h1.reads I dx x v rx
 obtain⟨bs,rb⟩:=h2.reads I dy y u ry
 exact SeqAt.compareNe_reads ra rb h3 h4 h5 ⟨.bl _,H,I,rfl,q⟩
end
end L2
namespace L2
open PySem PySem.Spec PyProof.Rows
theorem x5.there {P:Program}{w:World}{H:Hp}{h:Heap}{a:Addr}{o:HO}(x:x5 P w H h a o):∃ ob,h.get? a=some ob:=by
 cases o with
 | lst xs=>obtain⟨_,_,_,_,e⟩:=x;exact⟨_,e⟩
 | tup xs=>obtain⟨_,_,_,ob,e,_⟩:=x;exact⟨_,e⟩
 | dK kvs=>obtain⟨_,_,_,_,o,_,_,e,_⟩:=x;exact⟨_,e⟩
 | dT kvs=>obtain⟨_,_,_,_,o,_,_,e,_⟩:=x;exact⟨_,e⟩
 | set S n=>obtain⟨o,_,_,_,e,_⟩:=x;exact⟨_,e⟩
 | ins C dx fs=>obtain⟨_,_,_,e,_⟩:=x;exact⟨_,e⟩
 | own y=>obtain⟨ob,e⟩:=x;exact⟨ob,e⟩
 | xd fs=>obtain⟨_,⟨_,_,_,e,_⟩,_⟩:=x;exact⟨_,e⟩
 | rng lo hi=>obtain⟨_,_,_,e⟩:=x;exact⟨_,e⟩
 | frz ob u=>obtain⟨e,_⟩:=x;exact⟨_,e⟩
 | tbl ps=>exact⟨_,(show h.get? a=some _ from x)⟩
 | met f y=>exact⟨_,(show h.get? a=some _ from x)⟩
 | ext φ=>obtain⟨_,⟨ob,e⟩,_⟩:=x;exact⟨ob,e⟩
theorem HOk.stays {P:Program} {w:World} {H:Hp} {h h':Heap} (ok:HOk P w H h) (k:∀ b o,h.get? b=some o->H b≠none->h'.get? b=some o):HOk P w H h':=fun a o e =>
 (ok a o e).stay (fun b u hb q => k b u q (by
  rcases hb with z | z
  ·rw[z,e];simp
  ·rw[z];simp)) (fun _ q=>q) fun _ _ q=>q
def aw9 (outer:List Env)(x:Addr)(cls:Value)(h0:Heap)(H':Hp)(h':Heap):Prop:=
 ∃ (B:Heap) (a0:Value),Heap.FlyingW B outer x cls a0 h'/\∀ b o,h'.get? b=some o->(H' b≠none\/h0.get? b≠none)->b∉frs outer->B.get? b=some o
def CXE (P:Program)(w:World):CXT:=fun outer H s E e s' =>
 ∃ (x:Addr) (cls:Value) (H':Hp),e=.ref x/\s'.os=s.os/\AllBare s'.gens/\Un (frs outer) [] H H' s.heap s'.heap/\HOk P w H' s'.heap/\s.heap.get? x=none/\H' x=none/\aw9 outer x cls s.heap H' s'.heap/\E cls none H'
theorem Un.onto {fs:List Addr}{H H':Hp}{h h' h'':Heap}(u:Un fs [] H H' h h')(stay:∀ b o,h'.get? b=some o->h.get? b≠none->b∉fs->h''.get? b=some o)
  (slots:∀ b o,h'.get? b=some o->h.get? b≠none->b∈fs->∃ sl,h''.get? b=some { o with slots:=sl }):Un fs [] H H' h h'' where
 keep:=fun b o e n hb hx=>stay b o (u.keep b o e n hb hx) (by rw[e];simp) hb
 slot:=fun b o e n hb hx=>by
  obtain⟨sl,e1⟩:=u.slot b o e n hb hx
  obtain⟨sl2,e2⟩:=slots b _ e1 (by rw[e];simp) hb
  exact⟨sl2,e2⟩
 free:=u.free
 there:=fun b o e hx=>by
  obtain⟨o',e1⟩:=u.there b o e hx
  by_cases hb:b∈fs
  ·obtain⟨sl,e2⟩:=slots b o' e1 (by rw[e];simp) hb
   exact⟨_,e2⟩
  ·exact⟨o',stay b o' e1 (by rw[e];simp) hb⟩
 tups:=u.tups
 frzs:=u.frzs
 tbls:=u.tbls
theorem o7 {α:Type}{o:Option α}(h:o≠none):∃ x,o=some x:=by
 cases o with
 | none=>exact absurd rfl h
 | some x=>exact⟨x,rfl⟩
theorem N5 {env:Env}{outer:List Env}{L:Addr}(h:env.frame=some L):frs (env::outer)=L::frs outer:=by
 unfold frs
 rw[p9,h]
section
variable {P:Program} {w:World} {K:W.Frag} {mg:Str->Option Value} {base:Heap} {N:List Str} {qual:Str} {scope:Scope} {f:Addr} {cd:Value} {A:Around} {outer:List Env} {s:Shared} {H:Hp} {E:XK}
 {pins:List (Addr × Obj)} {σ:St} {H1:Hp} {s1:Shared}
theorem ah0 {e:Addr}{cls:Value}{vs:List Value}{h2:Heap}(I:Inv (B6 (CXE P w) P w K mg base N qual scope f cd A outer s H E) pins σ H1 s1)(hx:Heap.MadeExcOf s1.heap h2 e cls vs)(hE:E cls none H1) :
  (B6 (CXE P w) P w K mg base N qual scope f cd A outer s H E).xe (.ref e) { s1 with heap:=h2 }:=by
 have hst:=I.stack
 have hfr:=I.ok.frames
 have hlt:=I.lt
 have hL:=I.free
 have hab:=I.ok.above
 have hbs:Un (frs outer) [] H H1 s.heap s1.heap:=I.base
 change s1.heap.FunFrames base (envOfC qual scope s.heap.objs.size f cd::outer) at hst
 change (A.deeper (envOfC qual scope s.heap.objs.size f cd)).frames=some (envOfC qual scope s.heap.objs.size f cd::outer) at hfr
 change H1 s.heap.objs.size=none at hL
 have hff:frs (envOfC qual scope s.heap.objs.size f cd::outer)=s.heap.objs.size::frs outer:=N5 rfl
 have hin:∀ env∈(envOfC qual scope s.heap.objs.size f cd::outer),∀ b,env.frame=some b->b∈frs (envOfC qual scope s.heap.objs.size f cd::outer):=fun env he b hb=>D3.mpr ⟨env,he,hb⟩
 have old:∀ b,(H1 b≠none\/s.heap.get? b≠none)->b∉frs outer->∃ o,s1.heap.get? b=some o/\b∉frs (envOfC qual scope s.heap.objs.size f cd::outer):=fun b hb hno=>by
  have hne:b≠s.heap.objs.size:=by
   rcases hb with z | z
   ·intro q;rw[q]at z;exact z hL
   ·obtain⟨o,z⟩:=o7 z
    exact g9 (c6 z)
  have hex:∃ o,s1.heap.get? b=some o:=by
   rcases hb with z | z
   ·obtain⟨o,z⟩:=o7 z
    exact(I.hok b o z).there
   ·obtain⟨o,z⟩:=o7 z
    exact hbs.there b o z (by simp)
  obtain⟨o,ho⟩:=hex
  refine⟨o,ho,?_⟩
  rw[hff]
  intro hm
  rcases k6.mp hm with q | q
  ·exact hne q
  ·exact hno q
 have eNew:s.heap.get? e=none:=by
  cases q:s.heap.get? e with
  | none=>rfl
  | some o =>
   obtain⟨o',z⟩:=hbs.there e o q (by simp)
   rw[hx.new]at z
   cases z
 have eFree:H1 e=none:=by
  cases q:H1 e with
  | none=>rfl
  | some o =>
   obtain⟨o',z⟩:=(I.hok e o q).there
   rw[hx.new]at z
   cases z
 refine wpAny_leaves_madeW (base:=PySem.W.hideAll s1.heap (frs (envOfC qual scope s.heap.objs.size f cd::outer))) hfr rfl (fun b o q=>PySem.W.of_hideAll _ q) (PySem.W.funFrames_hide hst hin) hx fun h' t x1 x2 x3 x4=>?_
 have stay:∀ b o,s1.heap.get? b=some o->(H1 b≠none\/s.heap.get? b≠none)->b∉frs outer->h'.get? b=some o:=fun b o ho hb hno=>by
  obtain⟨o',ho',hm⟩:=old b hb hno
  rw[ho]at ho'
  cases ho'
  exact x1.1 b o (PySem.W.hideAll_get _ ho hm)
 have frNone:∀ b∈frs outer,H1 b=none:=fun b hb=>I.stkFree b (by
  show b∈frs (envOfC qual scope s.heap.objs.size f cd::outer)
  rw[hff]
  exact c2 _ hb)
 refine⟨e,cls,H1,rfl,I.os,I.bare,hbs.onto (fun b o ho hh hno=>stay b o ho (.inr hh) hno) (fun b o ho hh hm=>?_),I.hok.stays fun b o ho hh=>stay b o ho (.inl hh) fun hm=>hh (frNone b hm),eNew,eFree,⟨_,_,x1,fun b o ho hb hno=>?_⟩,hE⟩
 ·obtain⟨_,o',ho',hd⟩:=hst.mem (b:=b) (by
   show b∈frs (envOfC qual scope s.heap.objs.size f cd::outer)
   rw[hff]
   exact c2 _ hm)
  rw[ho]at ho'
  cases ho'
  exact x4 b o (hx.keeps b o ho) hd
 ·obtain⟨o',ho',hm⟩:=old b hb hno
  have:=stay b o' ho' hb hno
  rw[ho]at this
  cases this
  exact PySem.W.hideAll_get _ ho' hm
theorem n8:N9 (CXE P w) (B6 (CXE P w) P w K mg base N qual scope f cd A outer s H E) E:=by
 intro pins σ H1 s1 e s2 I hc
 obtain⟨x,cls,H2,rfl,hos,hb2,u,hok,new,hxn,⟨B,a0,fl,st⟩,hE⟩:=hc
 have hst:=I.stack
 have hfr:=I.ok.frames
 have hL:=I.free
 have hbs:Un (frs outer) [] H H1 s.heap s1.heap:=I.base
 change s1.heap.FunFrames base (envOfC qual scope s.heap.objs.size f cd::outer) at hst
 change (A.deeper (envOfC qual scope s.heap.objs.size f cd)).frames=some (envOfC qual scope s.heap.objs.size f cd::outer) at hfr
 change H1 s.heap.objs.size=none at hL
 change Un (frs (envOfC qual scope s.heap.objs.size f cd::outer)) [] H1 H2 s1.heap s2.heap at u
 change Heap.FlyingW B (envOfC qual scope s.heap.objs.size f cd::outer) x cls a0 s2.heap at fl
 have hff:frs (envOfC qual scope s.heap.objs.size f cd::outer)=s.heap.objs.size::frs outer:=N5 rfl
 have st':∀ b o,s2.heap.get? b=some o->(H2 b≠none\/s1.heap.get? b≠none)->b∉frs (envOfC qual scope s.heap.objs.size f cd::outer)->B.get? b=some o:=st
 rw[hff]at u st'
 have hLo:∃ o,s1.heap.get? s.heap.objs.size=some o:=by
  obtain⟨m,⟨o,_,_,ho,_⟩,_⟩:=I.loc
  exact⟨o,ho⟩
 have hL2:H2 s.heap.objs.size=none:=by
  obtain⟨o,ho⟩:=hLo
  exact u.free _ o ho hL (by simp)
 have old:∀ b,(H2 b≠none\/s.heap.get? b≠none)->b∉frs outer->∃ o,s2.heap.get? b=some o/\B.get? b=some o:=fun b hb hno=>by
  have hne:b≠s.heap.objs.size:=by
   rcases hb with z | z
   ·intro q;rw[q]at z;exact z hL2
   ·obtain⟨o,z⟩:=o7 z
    exact g9 (c6 z)
  have hm:b∉s.heap.objs.size::frs outer:=fun hm=>by
   rcases k6.mp hm with q | q
   ·exact hne q
   ·exact hno q
  rcases hb with z | z
  ·obtain⟨o,z'⟩:=o7 z
   obtain⟨o',ho⟩:=(hok b o z').there
   exact⟨o',ho,st' b o' ho (.inl z) hm⟩
  ·obtain⟨o,z⟩:=o7 z
   obtain⟨o1,h1⟩:=hbs.there b o z (by simp)
   obtain⟨o2,h2⟩:=u.there b o1 h1 (by simp)
   exact⟨o2,h2,st' b o2 h2 (.inr (by rw[h1];simp)) hm⟩
 have u2:Un (frs outer) [] H H2 s.heap s2.heap:=by
  refine⟨fun b o e n hb hx=>?_,fun b o e n hb hx=>?_,fun b o e n hx=>?_,fun b o e hx=>?_,fun b xs e=>u.tups b xs (hbs.tups b xs e),fun b o v e=>u.frzs b o v (hbs.frzs b o v e),fun b ps e=>?_⟩
  ·refine u.keep b o (hbs.keep b o e n hb hx) (hbs.free b o e n hx) (fun hm=>?_) hx
   rcases k6.mp hm with q | q
   ·exact g9 (c6 e) q
   ·exact hb q
  ·obtain⟨sl,e1⟩:=hbs.slot b o e n hb hx
   obtain⟨sl2,e2⟩:=u.slot b _ e1 (hbs.free b o e n hx) (c2 _ hb) hx
   exact⟨sl2,e2⟩
  ·obtain⟨o',e1⟩:=hbs.there b o e hx
   exact u.free b o' e1 (hbs.free b o e n hx) hx
  ·obtain⟨o',e1⟩:=hbs.there b o e hx
   exact u.there b o' e1 hx
  ·obtain⟨m1,e1⟩:=hbs.tbls b ps e
   obtain⟨m2,e2⟩:=u.tbls b _ e1
   exact⟨m1++m2,by rw[e2,M6]⟩
 have frNone:∀ b∈frs outer,H2 b=none:=fun b hb=>by
  have h1:=I.stkFree b (by
   show b∈frs (envOfC qual scope s.heap.objs.size f cd::outer)
   rw[hff]
   exact c2 _ hb)
  obtain⟨_,o,ho,_⟩:=hst.mem (b:=b) (by
   show b∈frs (envOfC qual scope s.heap.objs.size f cd::outer)
   rw[hff]
   exact c2 _ hb)
  exact u.free b o ho h1 (by simp)
 refine wpAny_leaves_onW hfr rfl fl fun h' x1 x2=>?_
 have stay:∀ b o,s2.heap.get? b=some o->(H2 b≠none\/s.heap.get? b≠none)->b∉frs outer->h'.get? b=some o:=fun b o ho hb hno=>by
  obtain⟨o',ho',hB⟩:=old b hb hno
  rw[ho]at ho'
  cases ho'
  exact x1.1 b o hB
 refine⟨x,cls,H2,rfl,hos.trans I.os,hb2,u2.onto (fun b o ho hh hno=>stay b o ho (.inr hh) hno) (fun b o ho hh hm=>?_),hok.stays fun b o ho hh=>stay b o ho (.inl hh) fun hm=>hh (frNone b hm),?_,hxn,⟨B,a0,x1,fun b o ho hb hno=>?_⟩,hE⟩
 ·obtain⟨_,o',ho',hd⟩:=fl.2.2.1.mem (b:=b) (by
   show b∈frs (envOfC qual scope s.heap.objs.size f cd::outer)
   rw[hff]
   exact c2 _ hm)
  rw[ho]at ho'
  cases ho'
  exact x2 b o ho hd
 ·cases q:s.heap.get? x with
  | none=>rfl
  | some o =>
   obtain⟨o',z⟩:=hbs.there x o q (by simp)
   rw[new]at z
   cases z
 ·obtain⟨o',ho',hB⟩:=old b hb hno
  have:=stay b o' ho' hb hno
  rw[ho]at this
  cases this
  exact hB
end
theorem Fun.okX {P:Program} {w:World} {K:W.Frag} {mg:Str->Option Value} {base:Heap} {x qual:Str} {st:Stmt} {f:Addr} {fd:FuncData} {N ps:List Str} {k:Nat} {sp:Sp} (F:Fun K x qual st f fd) (S:i0 N ps (a6 st)) (len:∀ vs H Q E,sp vs H Q E->vs.length=ps.length)
  (hbody : ∀ (cdv : Value) (A : Around) (outer : List Env) (s : Shared) (H : Hp) (vs : List V) (Q : VK) (E : XK), D2 k (A.deeper (envOfC qual (a6 st) s.heap.objs.size f cdv)) -> sp vs H Q E ->
   ∃ t,PSs (B6 (CXE P w) P w K mg base N qual (a6 st) f cdv A outer s H E) (e9 st) t/\t { nx:=fun _ H'=>Q .non H',rt:=Q } (start N vs) H):d7 P w K mg base (CXE P w) (k+1) f fd ps sp:=by
 obtain⟨oc,od,kV,doc,pm,an,cdv,ct,osl,rfl,lk,hcd⟩:=F.ex
 exact al0 lk hcd S len fun A outer s H vs Q E hr hsp=>hbody cdv A outer s H vs Q E hr hsp
structure K6 (K:W.Frag) (C:Addr):Prop where
 q:PySem.W.excIn K C [.type "ValueError",.type "Exception",.type "BaseException",.type "object"] "ValueError.__new__"=true
section
variable {X:Cx}
end
section
variable {X:Cx}
end
def LkL (X:Cx)(scope:Scope)(cl:List (Str × Addr)):List Str->List (Option Nat)->Prop
 | [],[]=>True
 | _::N,none::lk=>LkL X scope cl N lk
 | x::N,some j::lk=>(X.N[j]?=some x/\(X.env.scope.names.lookup x=some .cell\/X.env.scope.names.lookup x=some .free)/\(cl.lookup x).isSome=true /\
  ((compEnvC scope cl 0 X.env).kindOf x=some .cell\/(compEnvC scope cl 0 X.env).kindOf x=some .free))/\LkL X scope cl N lk
 | _,_=>False
theorem LkL.len {X:Cx}{scope:Scope}{cl:List (Str × Addr)}:∀ {N:List Str} {lk:List (Option Nat)},LkL X scope cl N lk->lk.length=N.length
 | [],[],_=>rfl
 | _::N,none::lk,h=>congrArg (·+1) (LkL.len (N:=N) (lk:=lk) h)
 | _::N,some _::lk,h=>congrArg (·+1) (LkL.len (N:=N) (lk:=lk) h.2)
 | [],_::_,h=>h.elim
 | _::_,[],h=>h.elim
theorem LkL.get {X:Cx}{scope:Scope}{cl:List (Str × Addr)}:∀ {N:List Str} {lk:List (Option Nat)},LkL X scope cl N lk->∀ (i j:Nat) (x:Str),N[i]?=some x->lk[i]?=some (some j) ->
  X.N[j]?=some x/\(X.env.scope.names.lookup x=some .cell\/X.env.scope.names.lookup x=some .free)/\(cl.lookup x).isSome=true/\((compEnvC scope cl 0 X.env).kindOf x=some .cell\/(compEnvC scope cl 0 X.env).kindOf x=some .free)
 | [],[],_,i,j,x,h1,_=>by simp at h1
 | _::N,none::lk,h,0,j,x,h1,h2=>by simp at h2
 | _::N,none::lk,h,i+1,j,x,h1,h2=>LkL.get (N:=N) (lk:=lk) h i j x (by simpa using h1) (by simpa using h2)
 | y::N,some k::lk,h,0,j,x,h1,h2=>by
  simp at h1 h2
  subst h1 h2
  exact h.1
 | _::N,some _::lk,h,i+1,j,x,h1,h2=>LkL.get (N:=N) (lk:=lk) h.2 i j x (by simpa using h1) (by simpa using h2)
 | [],_::_,h,_,_,_,_,_=>h.elim
 | _::_,[],h,_,_,_,_,_=>h.elim
theorem LkL.ok {X:Cx}{scope:Scope}{cl:List (Str × Addr)}{N:List Str}{lk:List (Option Nat)}(h:LkL X scope cl N lk):ab7 X N lk scope cl:=⟨h.len,h.get⟩
theorem B8 {σ:St}{H:Hp}{A B:Hp->Prop}(h:A H):ak0 σ H (fun b H3=>if b=true then A H3 else B H3):=by
 show if true=true then A H else B H
 exact v3 h
theorem t5 {i:Nat}{v:V}{σ:St}{H:Hp}{Q:St->Hp->Prop}(h:Q (σ.set i (some v)) H):V1 i v σ H Q:=h
theorem j3.upd {H H':Hp}{l:Addr}{o:HO}(e:j3 H H')(h:H l=none):j3 H (upd H' l o):=fun b u q=>by
 rw[p6 (t9 q h)]
 exact e b u q
end L2
namespace L2
open PySem
theorem Q1 (xs:List V)(k:Nat):K5 xs (some (k:Int)) none=xs.drop k:=by
 unfold K5
 rw[HT.Y1,HT.T8]
 rcases Nat.le_total k xs.length with h | h
 ·rw[Nat.min_eq_left h]
  exact r9 (by rw[o5];omega)
 ·rw[Nat.min_eq_right h,ac0 h,ac0 (c9 _)]
  simp
theorem S6 (xs:List V)(k:Nat):K5 xs none (some (k:Int))=xs.take k:=by
 unfold K5
 rw[HT.Y1,HT.T8,List.drop_zero,Nat.sub_zero]
 rcases Nat.le_total k xs.length with h | h
 ·rw[Nat.min_eq_left h]
 ·rw[Nat.min_eq_right h,r9 h,r9 (c9 _)]
theorem ar3 {u d:Nat}(h:u+64<cLine)(hd:d<=64):u+d<cLine:=by omega
theorem Dt.mkL {K:W.Frag}{H:Hp}{a:Addr}{xs:List V}{ds:List PyData}(h:SqL K H a xs)(d:q8 K H ds xs):Dt K H (.list ds) (.ref a):=by unfold Dt;exact⟨a,xs,rfl,h,d⟩
theorem q8.mkN {K:W.Frag}{H:Hp}:q8 K H [] []:=by unfold q8;rfl
theorem p7 {i:Nat}{z:Int}{σ:St}{H:Hp}{Q:St->Hp->Prop}(h:∀ c:Int,c=z->V1 i (.int c) σ H Q):V1 i (.int z) σ H Q:=h z rfl
theorem int_at {ns:List Int}{i:Nat}{x:V}(h:(ns.map V.int)[i]?=some x):∃ z:Int,x=V.int z:=by
 rw[j4]at h
 cases e:ns[i]? with
 | none=>rw[e]at h;cases h
 | some z=>rw[e]at h;exact⟨z,(Option.some.inj h).symm⟩
theorem ab4 (ns:List Int)(lo hi:Option Int):∃ ms:List Int,K5 (ns.map V.int) lo hi=ms.map V.int/\ms.length<=ns.length:=by
 unfold K5
 rw[<- List.map_drop,<- O0]
 exact⟨_,rfl,by rw[o4,o5];omega⟩
theorem S4 {n j:Nat}(h:j<n):ixN n (j:Int)=some j:=by
 unfold ixN
 rw[if_pos (by omega),if_pos (by omega)]
 simp
end L2
namespace L2
open PySem PySem.Spec PyProof.Rows
abbrev bmV:List Value:=[.type "ValueError",.type "Exception",.type "BaseException",.type "object"]
theorem aq4 {K:W.Frag}{h:Heap}{C:Addr}(KI:K.In h)(c:K6 K C):∃ bm N nm q bs hd sn sub ab col dd k0 k1 k2 k3 k5 mN,h.get? C=some (excClassObj nm q C N bs bm hd sn sub ab col dd k0 k1 k2 k3 k5 "ValueError.__new__") /\
  h.Ns N mN/\mN "__init__"=none/\OwnTail h bmV bm:=by
 have z:=c.q
 revert z
 unfold PySem.W.excIn
 split
 ·rename_i d1 c1 s1 hl
  split
  ·rename_i D bm y0 y1 y2 y3 nn y5 e1 e2
   intro z
   rw[d6,d6,d6,d6,d6]at z
   obtain⟨⟨⟨⟨⟨z1,z2⟩,z3⟩,z4⟩,z5⟩,z6⟩:=z
   have z1':D=C:=beq_iff_eq.mp z1
   have z2':nn="ValueError.__new__":=beq_iff_eq.mp z2
   have z6':=beq_iff_eq.mp z6
   subst z1' z2'
   obtain⟨w1,w2,w3,w4,w5,w6,w7,w8,w9,w10,w11⟩:=c1
   dsimp only at e1 z3 z5 z6'
   subst e1
   have z3':w11=false:=by simpa using z3
   subst z3'
   have e3:s1=#[y0,y1,y2,y3,some (.builtin "ValueError.__new__"),y5]:=by
    obtain⟨l1⟩:=s1
    exact congrArg Array.mk e2
   subst e3
   exact⟨bm,w4,w1,w5,w2,w6,w7,w8,w9,w10,d1,y0,y1,y2,y3,y5,_,KI _ _ hl,.of_isNs (PySem.W.isNs_of_in KI z5),PySem.W.nsMap_none_of_in KI z5 z6',PySem.W.tail_of_in KI z4⟩
  ·intro z;cases z
 ·intro z;cases z
section
variable {P:Program} {w:World} {K:W.Frag} {mg:Str->Option Value} {base:Heap} {N:List Str} {qual:Str} {scope:Scope} {f:Addr} {cd:Value} {A:Around} {outer:List Env} {s:Shared} {H:Hp} {E:XK}
def al5 (E:XK)(C:Addr):TS:=fun _ _ H=>E (.ref C) none H
theorem v8 {x txt:Str}{C:Addr}{j:Nat}{np cp ep pos:Pos}(hg:Gl (B6 (CXE P w) P w K mg base N qual scope f cd A outer s H E) x)(hm:mg x=some (.ref C))(c:K6 K C)(hd:(x == ("__debug__":Str))=false:=by decide) :
  PS (B6 (CXE P w) P w K mg base N qual scope f cd A outer s H E) (.Raise (some (.Call (.Name x np) [.Constant (.str txt) j cp] [] ep)) none pos) (al5 E C):=by
 intro pins s1 σ H1 D I hE
 have hh:(B6 (CXE P w) P w K mg base N qual scope f cd A outer s H E).A.handled=none:=I.ok.hd rfl
 obtain⟨bm,N',nm,q,bs,hdc,sn,sub,ab,col,dd,k0,k1,k2,k3,k5,mN,hC,hN,hni,T⟩:=aq4 I.kIn c
 refine wpAny_Raise_call_subT (C:=C) (nm:=nm) (q:=q) (N:=N') (bs:=bs) (bm:=bm) (hdct:=hdc) (sn:=sn) (sub:=sub) (ab:=ab) (col:=col) (dd:=dd) (k0:=k0) (k1:=k1) (k2:=k2) (k3:=k3) (k5:=k5)
  PySem.F.excBase_ValueError (mN:=mN) (T.hasType (by decide +kernel)) hh rfl hni (J5 I hg hm ⟨rfl,?_⟩ hd)
 refine Calls.evalArgs_plain ?_
 refine PyProof.Rows.spliced_more (Calls.Constant_str ?_)
 refine PyProof.Rows.spliced_none ⟨rfl,by show 1<=sizeLine;decide,hC,hN,T,fun h' e hx=>?_⟩
 exact ah0 (I.tok _) hx hE
end
def X5 (X:Cx)(pins:List (Addr × Obj))(E:St->XK):Cx:={ X with pn:=X.pn++pins,xe:=fun e s'=>∃ σ H s,Inv X pins σ H s/\CXE X.prog X.w X.stack H s (E σ) e s' }
def aq1 (X:Cx)(v:Value):Cx:={ X with A:=X.A.mark (some v),calm:=false,xe:=fun _ _=>False }
section
variable {X:Cx} {pins pins':List (Addr × Obj)} {σ:St} {H:Hp} {s:Shared} {E:St->XK}
theorem Inv.toTry (I:Inv X pins σ H s):Inv (X5 X pins E) [] σ H s:=
  ⟨⟨I.ok.mod, I.ok.kind, I.ok.glob, I.ok.blt, I.ok.above, I.ok.inj, I.ok.has, I.ok.cab, I.ok.hd, I.ok.frames, I.ok.stk, I.ok.exf, I.ok.bs, I.ok.bsz, I.ok.noex, I.ok.exfs, I.ok.funs, I.ok.frf⟩,
    I.os,I.bare,I.base,I.loc,I.cell,I.free,I.freeC,fun p hp=>I.pin p (by
      rcases j9.mp hp with z | z
      · exact z
      · cases z),I.hok,I.len⟩
theorem Inv.ofTry (I:Inv (X5 X pins E) pins' σ H s):Inv X pins σ H s:=
  ⟨⟨I.ok.mod, I.ok.kind, I.ok.glob, I.ok.blt, I.ok.above, I.ok.inj, I.ok.has, I.ok.cab, I.ok.hd, I.ok.frames, I.ok.stk, I.ok.exf, I.ok.bs, I.ok.bsz, I.ok.noex, I.ok.exfs, I.ok.funs, I.ok.frf⟩,
    I.os,I.bare,I.base,I.loc,I.cell,I.free,I.freeC,fun p hp=>I.pin p (K7 _ hp),I.hok,I.len⟩
theorem Inv.toHd (I:Inv X pins σ H s) (v:Value):Inv (aq1 X v) pins σ H s:=
  ⟨⟨I.ok.mod, I.ok.kind, I.ok.glob, I.ok.blt, I.ok.above, I.ok.inj, I.ok.has, I.ok.cab, (fun z => by cases z), I.ok.frames, I.ok.stk, I.ok.exf, I.ok.bs, I.ok.bsz, I.ok.noex, I.ok.exfs, I.ok.funs, I.ok.frf⟩,
    I.os,I.bare,I.base,I.loc,I.cell,I.free,I.freeC,I.pin,I.hok,I.len⟩
theorem Inv.ofHd {v:Value} (I:Inv (aq1 X v) pins σ H s) (hd:X.calm=true->X.A.handled=none):Inv X pins σ H s:=
  ⟨⟨I.ok.mod, I.ok.kind, I.ok.glob, I.ok.blt, I.ok.above, I.ok.inj, I.ok.has, I.ok.cab, hd, I.ok.frames, I.ok.stk, I.ok.exf, I.ok.bs, I.ok.bsz, I.ok.noex, I.ok.exfs, I.ok.funs, I.ok.frf⟩,
    I.os,I.bare,I.base,I.loc,I.cell,I.free,I.freeC,I.pin,I.hok,I.len⟩
end
def Z7 (CX:CXT)(X:Cx)(E:St->XK):Prop:=∀ (pins:List (Addr × Obj)) (σ:St) (H:Hp) (s:Shared) (e:Value) (s':Shared),Inv X pins σ H s->CX X.stack H s (E σ) e s'->X.xe e s'
theorem J4 {X:Cx}{pins:List (Addr × Obj)}{E:St->XK}:Z7 (CXE X.prog X.w) (X5 X pins E) E:=fun _ σ H s _ _ I h=>⟨σ,H,s,I.ofTry,h⟩
def al8 (sp:Sp)(E:St->XK)(t:TA):TE:=fun σ H Q=>t σ H fun vs H1=>sp (vs++[]) H1 Q (E σ)
section
variable {X:Cx} {CX:CXT} {k:Nat} {f:Addr} {fd:FuncData} {ps:List Str} {sp:Sp} {E:St->XK} {x:Str} {p pos:Pos} {e:Expr} {es:List Expr} {t:TA}
theorem E6 (F:d7 X.prog X.w X.K X.mg X.base CX k f fd ps sp)(hr:D2 k X.A)(hg:Gl X x)(hm:X.mg x=some (.ref f))(hk:a9 X.K (.ref f)=true)(hb:Binds X.K fd ps [])(hx:Z7 CX X E)
  (ha:PA X (e::es) t)(hdb:(x == ("__debug__":Str))=false:=by decide)(he:starEach (e::es) X.env=(false,eval e X.env)::starEach es X.env:=by rfl)(hpl:(backTo pos (starEach es X.env)).any (·.1)=false:=by rfl) :
  PE X (.Call (.Name x p) (e::es) [] pos) (al8 sp E t):=by
 intro pins s σ H Q I h
 refine wpAny_Call_Name_kw (J5 I hg hm ?_ hdb)
 refine PySem.W.callWith_K (h₀:=X.base) I.ok.mod.kin hk (thn (ha pos pins s σ H _ I h) fun us s1 ⟨vs,H1,I1,r,q⟩=>⟨I1.kIn,?_⟩) he hpl
 have r2:i9 (vs++[]) (us++[]):=r.append .nil
 have hl:(us++[]).length=ps.length:=by rw[<- r2.length];exact F.len _ _ _ _ q
 refine wpAny_call (codeAny_mono (F.run X.A X.stack s1 H1 ⟨us,[]⟩ (us++[]) (vs++[]) Q (E σ) hr I1.env0 (hb s1 us I1.kIn hl) r2 q) fun r s' hq=>?_)
 cases r with
 | error e=>exact hx pins σ H1 s1 e s' I1 hq
 | ok fl =>
  cases fl with
  | ret u=>exact I1.after hq
  | next=>exact False.elim hq
  | brk=>exact False.elim hq
  | cont=>exact False.elim hq
end
section
variable {X:Cx} {pins:List (Addr × Obj)} {σ:St} {H:Hp} {s:Shared}
end
end L2
set_option maxRecDepth 100000
namespace L2
open PySem PySem.Spec PyProof.Rows PySem.W
structure aB0 (K:W.Frag) (C:Addr):Prop where
 ga:findIn K (.ref C) "__getattribute__"=some (some (.builtin "BaseException.__getattribute__"))
 na:findIn K (.ref C) "__getattr__"=some none
 cl:findIn K (.ref C) "__class__"=some (some (.builtin "object.__class__"))
 sb:subIn K (.ref C) (.type "BaseException")=some true
 so:subIn K (.ref C) (.type "object")=some true
 cs:(clsIn K C).isSome=true
section
variable {prog:Program} {w:World} {A:Around} {E:Value->Shared->Prop} {h:Heap} {g:Array GenState} {d:Drawn} {t:Nat} {os:OsState} {a C:Addr} {o:Obj} {K:W.Frag}
end
section
variable {X:Cx}
end
end L2
namespace L2
open PySem PySem.Spec PyProof.Rows
section
variable {X:Cx} {o e:Expr} {es:List Expr} {to:TE} {t:TA} {name:Str} {apos cpos:Pos} {T id:String} {r:V->List V->Hp->VK->Prop}
theorem ae6 (K:W.Frag)(hK:X.K=K){te:TE}(h:PE X e (tBM X.K T r to t)):PE X e (tBM K T r to t):=by subst hK;exact h
end
end L2
namespace HT
open PySem PyProof.Rows
section
variable {prog:Program} {w:World} {A:Around} {E:Value->Shared->Prop} {s:Shared}
end
end HT
namespace L2
open PySem PySem.Spec PyProof.Rows
section
variable {X:Cx} {e st:Expr} {te ts:TE} {pos p2:Pos}
def ax9 (t u:TS):TS:=fun D σ H=>∃ Mid:St->Hp->Prop,t { D with nx:=Mid } σ H/\∀ σ' H',Mid σ' H'->u D σ' H'
theorem p4 {stm:Stmt}{rest:List Stmt}{t u:TS}(h1:PS X stm t)(h2:PSs X rest u):PSs X (stm::rest) (ax9 t u):=by
 intro pins s σ H D I ⟨Mid,h,k⟩
 refine wpAny_execs_cons (thn (h1 pins s σ H { D with nx:=Mid } I h) fun f s1 q=>?_)
 cases f with
 | next =>
  obtain⟨σ',H',I',q⟩:=q
  exact h2 pins s1 σ' H' D I' (k _ _ q)
 | ret v=>exact q
 | brk=>exact q
 | cont=>exact q
end
def sgn (x:Str):List V:=x.cps.toList.map fun c=>V.str ⟨#[c]⟩
theorem m8 (x:Str):x.cps.toList.length=x.length:=L9
def Its (x:Str):It:=⟨fun i _=>i<x.length,fun i H y H'=>H'=H/\(sgn x)[i]?=some y,fun i _=>x.length<=i⟩
theorem W3 {x:Str}{i:Nat}(h:i<x.length):x.cps[i]?=some (x.cps.toList.getD i 0)/\(sgn x)[i]?=some (.str ⟨#[x.cps.toList.getD i 0]⟩):=by
 have hl:i<x.cps.toList.length:=by rw[m8];exact h
 have e:x.cps.toList[i]?=some (x.cps.toList.getD i 0):=by rw[u5,j6 hl];rfl
 refine⟨by rw[<- n6];exact e,?_⟩
 unfold sgn
 rw[j4,e]
 rfl
theorem aa1 {P:Program}{w:World}{K:W.Frag}{tg:Expr}(x:Str)(t:Tok)(it:Addr):Turn P w K tg (Its x) [it] it (fun i h=>h.IsStrIter it "str_ascii_iterator" x t i) where
 mem:=by simp
 obj:=fun i h st b hb=>by
  have e:b=it:=by simpa using hb
  subst e
  obtain⟨o,e,c,d⟩:=st
  exact⟨o,e,fun v z=>by rw[d]at z;cases z⟩
 keep:=fun i h h' st k=>let ⟨o,ho,r⟩:=st;⟨o,k it (by simp) o ho,r⟩
 item:=by
  intro X hP hw hK hc i pins s σ H E I hf st hg
  subst hP hw hK
  obtain⟨f0,f1,f2,f3,f4,f5⟩:=hf it (by simp)
  obtain⟨e1,e2⟩:=W3 (show i<x.length from hg)
  refine wpAny_pyNext_ascii_item st e1 fun h' st' sb=>?_
  have I1:Inv X pins σ H { s with heap:=h',toks:=s.toks+1 }:=I.turned (fun b o hb e=>sb.extBut b o hb e) f0 f1 f3 f4 f5
  obtain⟨o,e,c,d⟩:=id st'
  exact⟨_,rfl,Z0 (s:={ s with heap:=h',toks:=s.toks+1 }) e c d (by decide) ⟨.str ⟨#[x.cps.toList.getD i 0]⟩,H,I1,⟨_,rfl⟩,⟨rfl,e2⟩,st',fun b hb=>(hf b hb).1⟩⟩
 done:=by
  intro X hP hw hK hc i pins s σ H E I hf st hg
  subst hP hw hK
  obtain⟨f0,f1,f2,f3,f4,f5⟩:=hf it (by simp)
  have hg':x.cps.size<=i:=hg
  exact wpAny_pyNext_ascii_end (I.ok.hd hc) st (by simpa using hg') fun h' eb=>⟨rfl,I.turned (t':=s.toks) (fun b o hb e=>eb b o hb e) f0 f1 f3 f4 f5⟩
 self:=fun _ _ _ _ _ st h=>wpAny_pyIter_striter_ascii st h
theorem aa0 {P:Program}{w:World}{K:W.Frag}{tg:Expr}(x:Str)(t:Tok)(it:Addr):Turn P w K tg (Its x) [it] it (fun i h=>h.IsStrIter it "str_iterator" x t i) where
 mem:=by simp
 obj:=fun i h st b hb=>by
  have e:b=it:=by simpa using hb
  subst e
  obtain⟨o,e,c,d⟩:=st
  exact⟨o,e,fun v z=>by rw[d]at z;cases z⟩
 keep:=fun i h h' st k=>let ⟨o,ho,r⟩:=st;⟨o,k it (by simp) o ho,r⟩
 item:=by
  intro X hP hw hK hc i pins s σ H E I hf st hg
  subst hP hw hK
  obtain⟨f0,f1,f2,f3,f4,f5⟩:=hf it (by simp)
  obtain⟨e1,e2⟩:=W3 (show i<x.length from hg)
  refine wpAny_pyNext_wide_item st e1 fun h' st' sb=>?_
  have I1:Inv X pins σ H { s with heap:=h',toks:=s.toks+1 }:=I.turned (fun b o hb e=>sb.extBut b o hb e) f0 f1 f3 f4 f5
  obtain⟨o,e,c,d⟩:=id st'
  exact⟨_,rfl,Z0 (s:={ s with heap:=h',toks:=s.toks+1 }) e c d (by decide) ⟨.str ⟨#[x.cps.toList.getD i 0]⟩,H,I1,⟨_,rfl⟩,⟨rfl,e2⟩,st',fun b hb=>(hf b hb).1⟩⟩
 done:=by
  intro X hP hw hK hc i pins s σ H E I hf st hg
  subst hP hw hK
  obtain⟨f0,f1,f2,f3,f4,f5⟩:=hf it (by simp)
  have hg':x.cps.size<=i:=hg
  exact wpAny_pyNext_wide_end (I.ok.hd hc) st (by simpa using hg') fun h' eb=>⟨rfl,I.turned (t':=s.toks) (fun b o hb e=>eb b o hb e) f0 f1 f3 f4 f5⟩
 self:=fun _ _ _ _ _ st h=>wpAny_pyIter_striter_wide st h
section
variable {X:Cx}
def az7 (tl:TE):TI:=fun σ H R=>tl σ H fun x H1=>∃ z,x=.str z/\R (Its z) H1
theorem ae4 {tg l:Expr}{tl:TE}(hl:PE X l tl):PI X tg l (az7 tl):=by
 intro pins s σ H R I h
 refine thn (hl pins s σ H _ I h) fun v s1 ⟨x,H1,I1,r1,q1⟩=>?_
 obtain⟨z,rfl,q⟩:=q1
 obtain⟨t,rfl⟩:=r1
 have fp:∀ b∈[s1.heap.objs.size],C4 X pins H1 b:=fun b hb=>by
  have e:b=s1.heap.objs.size:=by simpa using hb
  subst e
  exact I1.fpOk (c9 _) (I1.hok.fresh (c9 _))
 cases ha:z.cps.all (·<128)
 ·exact wpAny_pyIter_wide ha ⟨s1.heap.objs.size,[s1.heap.objs.size],_,_,H1,rfl,I1.kept (t':=s1.toks) fun b o e=>c8 _ e,aa0 z t _,⟨_,j1 _ rfl,rfl,rfl⟩,fp,q⟩
 ·exact wpAny_pyIter_ascii ha ⟨s1.heap.objs.size,[s1.heap.objs.size],_,_,H1,rfl,I1.kept (t':=s1.toks) fun b o e=>c8 _ e,aa1 z t _,⟨_,j1 _ rfl,rfl,rfl⟩,fp,q⟩
theorem an8 {x:Str}{j:Nat}{pos:Pos}{es:List Expr}{t:TA}(h:PA X es t):PA X (.Constant (.str x) j pos::es) (ak2 (tC (.str x)) t):=a3 e7 h (by rfl)
def strsOf:List Expr->List (Str × Nat × Pos)
 | .Constant (.str x) j p::es=>(x,j,p)::strsOf es
 | _=>[]
def mkS (q:Str × Nat × Pos):Expr:=.Constant (.str q.1) q.2.1 q.2.2
def ac5 (xs:List Str):TA:=fun _ H Q=>Q (xs.map V.str) H
theorem U7:∀ l:List (Str × Nat × Pos),PA X (l.map mkS) (ac5 (l.map (·.1)))
 | []=>b8
 | q::l=>an8 (x:=q.1) (j:=q.2.1) (pos:=q.2.2) (t:=ac5 (l.map (·.1))) (U7 l)
theorem M5 (xs:List Str){es:List Expr}(h:es=(strsOf es).map mkS:=by rfl)(h1:(strsOf es).map (·.1)=xs:=by rfl):PA X es (ac5 xs):=by
 rw[h,<- h1]
 exact U7 _
def ay8:V->Option Int->Option Int->Hp->VK->Prop:=fun v lo hi H Q=>∃ x,v=.str x/\x.length<=sizeLine/\Q (.str (Txt.slice x lo hi)) H
theorem C7:SlR X ay8:=by
 intro pins s σ H x v vl vu lo hi sl Q I rx hs pl pu h
 obtain⟨z,rfl,hz,q⟩:=h
 obtain⟨t,rfl⟩:=rx
 refine⟨"str",_,F.slot_str_getitem.lookup,typeIs_str _ _ _,?_⟩
 have fin:∀ t' k,EP X pins σ Q (.str (Txt.slice z lo hi) t') { s with toks:=k }:=fun t' k=>⟨.str _,H,I.tok _,⟨_,rfl⟩,q⟩
 have hl:(Txt.slice z lo hi).length<=sizeLine:=j5 (Txt.slice_le z _ _) hz
 cases pl with
 | none =>
  cases pu with
  | none=>exact wpAny_getItem_str_slice (l:=none) (u:=none) (st:=none) hs rfl (post_val_or_str ⟨hl,fin⟩)
  | int j uj=>exact wpAny_getItem_str_slice (l:=none) (u:=some (j,uj)) (st:=none) hs rfl (post_val_or_str ⟨hl,fin⟩)
 | int i ui =>
  cases pu with
  | none=>exact wpAny_getItem_str_slice (l:=some (i,ui)) (u:=none) (st:=none) hs rfl (post_val_or_str ⟨hl,fin⟩)
  | int j uj=>exact wpAny_getItem_str_slice (l:=some (i,ui)) (u:=some (j,uj)) (st:=none) hs rfl (post_val_or_str ⟨hl,fin⟩)
def ah7:V->List V->Hp->VK->Prop:=fun x vs H Q=>∃ a b,x=.str a/\vs=[.str b]/\Q (.bl (Txt.startswith a b)) H
theorem K3:MtR X "str.startswith" ah7:=by
 intro pins s σ H x vs v us Q I rx rv h
 obtain⟨a,b,rfl,rfl,q⟩:=h
 obtain⟨t,rfl⟩:=rx
 obtain⟨u,rfl,t',rfl⟩:=i9.one rv
 exact SC.startswith ⟨.bl _,H,I,rfl,q⟩
theorem O7:J6 X (.type "int") (fun xs H Q=>∃ x n,xs=[.str x]/\PySem.intText? x=some n/\x.length<=640/\Q (.int n) H):=by
 intro pins s σ H xs us Q I r h
 obtain⟨x,n,rfl,hn,hl,q⟩:=h
 obtain⟨u,rfl,t,rfl⟩:=vals1 r
 exact PySem.W.KIN.call_text hn hl ⟨.int n,H,I.tok _,⟨_,rfl⟩,q⟩
theorem Y4:OpR X (binaryOp .Mult) (fun x y H Q=>∃ i n,x=.str i/\y=.int n/\i.length<=1000/\0<=n/\n<=1000/\Q (.str (Txt.mul i n)) H):=by
 intro pins s σ H x y v u Q I rx ry h
 obtain⟨i,n,rfl,rfl,h1,h2,h3,q⟩:=h
 obtain⟨t,rfl⟩:=rx
 obtain⟨t',rfl⟩:=ry
 have hm:i.length*n.toNat<=1000*1000:=Nat.mul_le_mul h1 (by omega)
 refine SB.mul ⟨?_,fun h4 _=>?_,fun _ _=>?_⟩ fun t' k=>⟨.str _,H,I.tok _,⟨_,rfl⟩,q⟩
 ·rw[decide_eq_false (by omega),decide_eq_false (by omega)];rfl
 ·have:(2 ^ 63 - 1:Int) / 1000<=(2 ^ 63 - 1) / n:=by
   rw[Int.le_ediv_iff_mul_le (by omega)]
   have:(2 ^ 63 - 1:Int) / 1000*n<=(2 ^ 63 - 1) / 1000*1000:=Int.mul_le_mul_of_nonneg_left h3 (by decide)
   have:(2 ^ 63 - 1:Int) / 1000*1000<=2 ^ 63 - 1:=by decide
   omega
  have:(1000:Int)<(2 ^ 63 - 1) / 1000:=by decide
  omega
 ·have:sizeLine=16777216:=sizeLine_eq
  unfold Builtin.Str.tooLong
  exact decide_eq_false (by omega)
end
theorem V3 {x:Str}{D:Addr}{g:TG}{tt:TT}{te:TE}{Qd:Hp->Prop}{σ0:St}{H0:Hp}(Pv:Nat->List V->St->Hp->Prop)(h0:Pv 0 [] σ0 H0)(hz:x.length<=sizeLine)(hl:∀ i xs σ H,i<=x.length->Pv i xs σ H->H D=some (.lst xs)/\xs.length<=i)
  (hs:∀ i xs c σ H (N:List V->St->Hp->Prop),(∀ xs' σ' H',Pv (i+1) xs' σ' H'->N xs' σ' H')->x.cps.toList[i]?=some c->Pv i xs σ H->g (.str ⟨#[c]⟩) σ H fun σ2 H2=>tt σ2 H2 fun b H3=>if b=true then te σ2 H3 fun v H4=>H4 D=some (.lst xs)/\N (xs++[v]) σ2 (upd H4 D (.lst (xs++[v]))) else N xs σ2 H3)
  (hd:∀ xs σ H,Pv x.length xs σ H->Qd H) :
  ∃ W:Nat->Nat->List V->St->Hp->Prop,(∃ m,W 0 m [] σ0 H0)/\∀ i m xs σ' H',W i m xs σ' H'->H' D=some (.lst xs)/\(((Its x).stop i H'/\Qd H')\/((Its x).go i H'/\xs.length<sizeLine/\∀ y H'',(Its x).yld i H' y H''->g y σ' H'' fun σ2 H2=>tt σ2 H2 fun b H3 =>
   if b=true then te σ2 H3 fun v H4=>H4 D=some (.lst xs)/\∃ m',m'<m/\W (i+1) m' (xs++[v]) σ2 (upd H4 D (.lst (xs++[v]))) else ∃ m',m'<m/\W (i+1) m' xs σ2 H3)):=by
 refine⟨fun i m xs σ H=>m=x.length - i/\i<=x.length/\Pv i xs σ H,⟨x.length,by simp,o6 _,h0⟩,?_⟩
 rintro i m xs σ H ⟨rfl,hi,p⟩
 obtain⟨hD,hx⟩:=hl i xs σ H hi p
 refine⟨hD,?_⟩
 by_cases hlt:i<x.length
 ·refine .inr ⟨hlt,by omega,fun y H'' hy=>?_⟩
  obtain⟨e,hy⟩:=hy
  subst e
  obtain⟨e1,e2⟩:=W3 hlt
  rw[e2]at hy
  cases hy
  exact hs i xs _ σ _ (fun zs σ' H'=>∃ m',m'<x.length - i/\m'=x.length - (i+1)/\i+1<=x.length/\Pv (i+1) zs σ' H') (fun zs σ' H' r=>⟨_,by omega,rfl,hlt,r⟩) (by rw[n6];exact e1) p
 ·have e:i=x.length:=by omega
  subst e
  exact .inl ⟨c9 _,hd xs σ H p⟩
theorem K9 (x:Str):(Txt.slice x (some 1) none).cps.toList=x.cps.toList.drop 1:=by
 by_cases h:1<=x.length
 ·rw[PyProof.Rows.slice_from_eq (x:=x) (i:=1) (b:=(x.length:Int)) (by decide) (by omega) rfl]
  show ((x.cps.toList.drop 1).take ((x.length:Int) - 1).toNat)=_
  rw[r9]
  rw[o5,m8]
  omega
 ·have e:x.cps.toList=[]:=r6 (by rw[m8];omega)
  have l:(Txt.slice x (some 1) none).length<=x.length:=Txt.slice_le x _ _
  rw[e]
  exact r6 (by rw[m8];omega)
theorem aa4 (x:Str):(Txt.slice x none (some 1)).cps.toList=x.cps.toList.take 1:=by
 by_cases h:1<=x.length
 ·rw[beq_iff_eq.mp (PyProof.Rows.slice_closes_toL (x:=x) (j:=1) (by decide) (by omega))]
  rfl
 ·have e:x.cps.toList=[]:=r6 (by rw[m8];omega)
  have l:(Txt.slice x none (some 1)).length<=x.length:=Txt.slice_le x _ _
  rw[e]
  exact r6 (by rw[m8];omega)
theorem M7 (a b:Str):a=b↔a.cps.toList=b.cps.toList:=⟨fun e=>by rw[e],PyProof.Rows.ext_toList⟩
theorem W2 (x:Str)(c:Nat):Txt.startswith x ⟨#[c]⟩=decide (x.cps.toList.head?=some c):=by
 unfold Txt.startswith Builtin.Str.subAt
 have hb:(x.cps.extract 0 (0+(⟨#[c]⟩:Str).length) == (⟨#[c]⟩:Str).cps)=decide (x.cps.toList.take 1=[c]):=by
  rw[m9,beq_iff_eq,decide_eq_true_iff]
  have:(x.cps.extract 0 1).toList=x.cps.toList.take 1:=by simp
  show x.cps.extract 0 1=#[c]↔_
  rw[<- this]
  constructor
  ·intro e;rw[e]
  ·intro e;exact ar1.mp e
 rw[hb]
 have hl:(⟨#[c]⟩:Str).length=1:=rfl
 rw[hl]
 have e:=m8 x
 cases h:x.cps.toList with
 | nil =>
  rw[h]at e
  have:x.length=0:=e.symm
  rw[this];rfl
 | cons a l =>
  rw[h]at e
  have:0+1<=x.length:=by rw[<- e];simp
  rw[decide_eq_true this,Bool.true_and]
  simp
theorem Y5 (x:Str)(n:Int)(hn:0<=n):(Txt.mul x n).length<=x.length*n.toNat+x.length:=by
 have rep:∀ (k:Nat) (acc:Array Nat),((f9 k x.cps).foldl (·++·) acc).size=acc.size+k*x.cps.size:=by
  intro k
  induction k with
  | zero=>intro acc;simp
  | succ k ih=>intro acc;rw[n4,W0,ih,Array.size_append];rw[ag9];omega
 unfold Txt.mul
 split
 ·exact o6 _
 ·split
  ·omega
  ·show ((f9 n.toNat x.cps).foldl (·++·) #[]).size<=_
   rw[rep]
   have:x.cps.size=x.length:=rfl
   rw[this,Nat.mul_comm]
   simp
def t6 (x:Str):Prop:=∀ c∈x.cps.toList,c<128
theorem y9 {a b:Str}(ha:t6 a)(hb:t6 b):t6 (a++b):=by
 intro c hc
 rw[PySem.W.KT.app_list,j9]at hc
 exact hc.elim (ha c) (hb c)
theorem A1 {x:Str}(h:t6 x)(lo hi:Option Int):t6 (Txt.slice x lo hi):=by
 intro c hc
 unfold Txt.slice at hc
 split at hc
 ·exact h c hc
 ·have hc':c∈(Builtin.Str.strSliceIndices lo hi 1 x.length).filterMap (x.cps[·]?):=hc
  obtain⟨k,_,hk⟩:=D3.mp hc'
  refine h c ?_
  rw[<- n6]at hk
  exact B2 hk
theorem Z5 {x:Str}(h:t6 x)(n:Int):t6 (Txt.mul x n):=by
 have rep:∀ (k:Nat) (acc:Array Nat),(∀ c∈acc.toList,c<128)->∀ c∈((f9 k x.cps).foldl (·++·) acc).toList,c<128:=by
  intro k
  induction k with
  | zero=>intro acc ha;exact ha
  | succ k ih =>
   intro acc ha
   rw[n4,W0]
   refine ih _ fun c hc=>?_
   rw[Array.toList_append,j9]at hc
   exact hc.elim (ha c) (h c)
 intro c hc
 unfold Txt.mul at hc
 split at hc
 ·have:c∈([]:List Nat):=hc
  cases this
 ·split at hc
  ·exact h c hc
  ·exact rep n.toNat #[] (fun c hc=>by cases hc) c hc
theorem aj5 {n:Int}(h0:0<=n):t6 (Str.ofString (toString n)):=by
 obtain⟨m,rfl⟩:=ac1 h0
 intro c hc
 rw[PySem.W.KIN.signs_num]at hc
 obtain⟨ch,hch,e⟩:=List.mem_map.mp hc
 have r:=digit_range (Nat.isDigit_of_mem_toDigits (by decide) (by decide) hch)
 rw[<- e]
 omega
theorem aq6 {x:Str}(h:t6 x):PyData.strOk x=true:=by
 unfold PyData.strOk
 rw[Array.all_eq_true_iff_forall_mem]
 intro c hc
 have:=h c (by simpa using hc)
 exact decide_eq_true (by omega)
theorem len_app (a b:Str):(a++b).length=a.length+b.length:=by
 rw[<- m8,<- m8 a,<- m8 b,PySem.W.KT.app_list,d9]
def aq3:List Nat:=[48,49,50,51,52,53,54,55,56,57]
theorem aq2:("0123456789":Str).cps.toList=aq3:=by decide +kernel
def isD (c:Nat):Bool:=decide (c∈aq3)
theorem aj2 (c:Nat):isD c=true↔48<=c/\c<=57:=by
 unfold isD aq3
 rw[decide_eq_true_iff]
 simp only[k6,List.not_mem_nil,or_false]
 omega
theorem af9 (c:Nat):(!(Builtin.Str.occurrences ("0123456789":Str) ⟨#[c]⟩ 0 ("0123456789":Str).length 1).isEmpty)=isD c:=by
 rw[PySem.StrLaws.found_one,aq2]
 rfl
def fgL (L:List Nat):List Nat:=if L.head?=some 45 then L.drop 1 else L
def okW (m:Int)(L:List Nat):Bool:=(decide (1<=((fgL L).length:Int)) && decide (((fgL L).length:Int)<=m)) && (fgL L).all isD && (decide (L=[48]) || !decide ((fgL L).head?=some 48))
theorem aj0 {m:Int}{x:Str}(hm:m<=100)(h:okW m x.cps.toList=true):∃ n,PySem.intText? x=some n:=by
 unfold okW at h
 rw[d6,d6,d6,decide_eq_true_iff,decide_eq_true_iff]at h
 obtain⟨⟨⟨h1,h2⟩,h3⟩,_⟩:=h
 have hd:∀ cs:List Nat,cs.all isD=true->PySem.NumText.AllDigits cs:=fun cs h c hc=>(aj2 c).mp (h9.mp h c hc)
 unfold fgL at h1 h2 h3
 by_cases hh:x.cps.toList.head?=some 45
 ·rw[if_pos hh]at h1 h2 h3
  obtain⟨cs,hx⟩:∃ cs,x.cps.toList=45::cs:=by
   cases e:x.cps.toList with
   | nil=>rw[e]at hh;cases hh
   | cons a l=>rw[e]at hh;cases hh;exact⟨l,rfl⟩
  have hl:=m8 x
  rw[hx]at h1 h2 h3 hl
  refine⟨_,PySem.intText_neg hx (hd _ h3) (fun z=>?_) ?_⟩
  ·rw[z]at h1;simp at h1
  ·have:(List.drop 1 (45::cs)).length=cs.length:=rfl
   rw[this]at h2
   rw[d3]at hl
   omega
 ·rw[if_neg hh]at h1 h2 h3
  refine⟨_,PySem.intText_digits (hd _ h3) (fun z=>?_) ?_⟩
  ·rw[z]at h1;simp at h1
  ·rw[m8]at h2;omega
theorem fgS (x:Str):(if Txt.startswith x ⟨#[45]⟩=true then Txt.slice x (some 1) none else x).cps.toList=fgL x.cps.toList:=by
 rw[W2]
 unfold fgL
 by_cases h:x.cps.toList.head?=some 45
 ·rw[if_pos h,if_pos (decide_eq_true h),K9]
 ·rw[if_neg h,if_neg (by rw[decide_eq_false h];exact d2)]
theorem dtS {K:W.Frag}{H:Hp}{a:Addr}{cs:List Nat}(h:SqL K H a (cs.map fun c=>V.str ⟨#[c]⟩)):Dt K H (.list (cs.map fun c=>.str ⟨#[c]⟩)) (.ref a):=by
 refine Dt.mkL h ?_
 clear h
 induction cs with
 | nil=>exact .mkN
 | cons c cs ih=>unfold q8;exact⟨_,_,rfl,by unfold Dt;rfl,ih⟩
theorem az5 {cs:List Nat}(h:∀ c∈cs,c<128):(PyData.list (cs.map fun c=>.str ⟨#[c]⟩)).canLay0=true:=by
 show PyData.canLayAll0 _=true
 induction cs with
 | nil=>rfl
 | cons c cs ih =>
  show (PyData.canLay0 (.str ⟨#[c]⟩) && PyData.canLayAll0 _)=true
  rw[ih fun d hd=>h d (c2 _ hd),Bool.and_true]
  exact aq6 (x:=⟨#[c]⟩) fun d hd=>by
   have:d∈[c]:=hd
   rw[i8.mp this]
   exact h c i5
theorem az9 (cs:List Nat):PyData.eqv (.list (cs.map fun c=>.str ⟨#[c]⟩)) (.list [])=cs.isEmpty:=by
 cases cs with
 | nil=>simp[PyData.eqv,PyData.eqvAll]
 | cons c cs=>simp[PyData.eqv,PyData.eqvAll]
theorem aA0 (cs:List Nat):(PyData.list (cs.map fun c=>.str ⟨#[c]⟩)).depth<=1:=by
 show PyData.depthAll _+1<=1
 have:PyData.depthAll (cs.map fun c=>PyData.str ⟨#[c]⟩)=0:=by
  induction cs with
  | nil=>rfl
  | cons c cs ih=>show max 0 _=0;rw[ih];rfl
 rw[this]
 exact c9 _
end L2
set_option Elab.async false
set_option maxRecDepth 100000
namespace L2
open PySem PySem.Spec PyProof.Rows
section
variable (P:Program) (w:World)
end
section
variable {P:Program} {w:World} {H H':Hp} {h h':Heap} {a:Addr} {o:HO}
end
section
variable {P:Program} {w:World} {H:Hp} {h h':Heap} {x e:Addr} {o':HO}
end
section
variable {fs fs' ex ex':List Addr} {H H1 H2:Hp} {h h1 h2 h':Heap} {a x e:Addr} {o:HO}
end
section
variable {X:Cx} {pins:List (Addr × Obj)} {σ:List (Option V)} {H H':Hp} {s:Shared} {h':Heap}
end
section
variable {X:Cx}
variable {a b:Expr} {ta tb:TE} {pos:Pos}
variable {tA tB':TT} {rest:List Expr}
end
section
variable {X:Cx} {pins:List (Addr × Obj)} {σ:St} {H:Hp} {s:Shared} {a:Addr} {xs ys:List V}
end
section
variable {X:Cx} {pins:List (Addr × Obj)} {σ:St} {H:Hp} {s:Shared} {E:Value->Shared->Prop}
end
section
variable {X:Cx} {st:Stmt} {rest:List Stmt} {t u:TS} {e:Expr} {te:TE} {pos:Pos}
end
section
variable {X:Cx} {pos:Pos}
end
section
variable {X:Cx} {pos:Pos}
end
section
variable {X:Cx} {tg:Expr}
end
section
variable {X:Cx} {a b c:Expr} {ta tb tc:TE} {pos:Pos}
end
section
variable {X:Cx} {a b c:Expr} {ta tb tc:TE} {pos:Pos}
end
section
variable {prog:Program} {w:World} {A:Around} {E:Value->Shared->Prop} {s:Shared} {K:W.Frag} {x dx C f:Addr} {mA:Str->Option Value} {name:Str} {v:Value}
end
section
variable {P:Program} {w:World} {H H':Hp} {h h':Heap} {a C dx:Addr} {fs fs':List (Str × V)}
end
section
variable {X:Cx} {pins:List (Addr × Obj)} {σ:St} {H:Hp} {s:Shared} {a C dx:Addr} {fs:List (Str × V)} {f:Str} {v:V} {A:Around} {E:Value->Shared->Prop}
end
section
variable {X:Cx} {o e value:Expr} {f:Str} {pos pos' tpos:Pos} {ta tv:TE}
end
section
variable {X:Cx} {pins:List (Addr × Obj)} {σ:St} {H:Hp} {s:Shared} {A:Around} {E:Value->Shared->Prop} {Q:Value->Shared->Prop} {c:Value} {b:Bool}
end
section
variable {X:Cx} {e:Expr} {es:List Expr} {te:TE} {t:TA} {pos:Pos}
end
section
variable {X:Cx} {pins:List (Addr × Obj)} {σ:St} {H:Hp} {s s':Shared}
end
section
variable {X:Cx} {CX:CXT} {k:Nat} {f C:Addr} {fd:FuncData} {ps:List Str} {sp:Sp} {dvs:List V} {ds:List Value} {E:XK} {x m:Str} {p pos apos:Pos} {e o:Expr} {es:List Expr} {ta:TE} {t:TA}
end
section
variable {X:Cx} {CX:CXT} {k:Nat} {f C:Addr} {fd:FuncData} {ps ks:List Str} {sp:Sp} {E:XK} {x m:Str} {p pos apos kpos:Pos} {e o:Expr} {es:List Expr} {kws:List Keyword} {te ta:TE} {t tk:TA} {nm:Option Str}
variable {g:List Value->List Value->List Value} {gV:List V->List V->List V}
end
section
variable {X:Cx} {x:Str} {p pos:Pos} {e:Expr} {es:List Expr} {t:TA} {id T:String} {r:List V->Hp->VK->Prop}
end
section
variable {κ:Type} [DecidableEq κ]
end
abbrev KT (H:Hp):List (List Key × V)->List (List Key × Addr × Value)->Prop:=Paired fun p q=>p.1=q.1/\H q.2.1=some (.tup (p.1.map kV))/\RelV p.2 q.2.2
section
variable {P:Program} {w:World} {H:Hp} {h:Heap} {a:Addr}
end
section
variable {X:Cx} {pins:List (Addr × Obj)} {σ:St} {H:Hp} {s:Shared} {a:Addr} {y v:V} {u r:Value} {o:Option V} {A:Around} {E:Value->Shared->Prop}
end
section
variable {X:Cx} {pins:List (Addr × Obj)} {σ:St} {H:Hp} {s:Shared} {a:Addr} {kvs:List (Key × V)} {k:Key} {u:Value} {A:Around} {E:Value->Shared->Prop}
end
section
variable {X:Cx} {o i e value:Expr} {pos pos' tpos:Pos} {td ty tv:TE}
end
section
variable {X:Cx} {pos:Pos}
end
structure M1 (X:Cx) (o:Expr) (m:Str) (apos:Pos) (e:Expr) (cpos:Pos):Prop where
 base:attributeBase o m X.env (eval o X.env)=eval o X.env
 few:((backTo cpos (starEach [e] X.env)).all (fun x=>!x.1) && (backToKw cpos (keywordEach [] X.env)).all (fun x=>x.1.isSome)
  && decide (([e]:List Expr).length+([]:List Keyword).length+(if ([]:List Keyword).isEmpty then 0 else 1)<30))=true
 line:(apos.endLine == cpos.line)=true
 trees:backTo cpos (starEach [e] X.env)=[(false,eval e X.env)]
structure M2 (X:Cx) (o:Expr) (m:Str) (apos:Pos) (e f:Expr) (cpos:Pos):Prop where
 base:attributeBase o m X.env (eval o X.env)=eval o X.env
 few:((backTo cpos (starEach [e,f] X.env)).all (fun x=>!x.1) && (backToKw cpos (keywordEach [] X.env)).all (fun x=>x.1.isSome)
  && decide (([e,f]:List Expr).length+([]:List Keyword).length+(if ([]:List Keyword).isEmpty then 0 else 1)<30))=true
 line:(apos.endLine == cpos.line)=true
 trees:backTo cpos (starEach [e,f] X.env)=[(false,eval e X.env),(false,eval f X.env)]
section
variable {X:Cx} {pins:List (Addr × Obj)} {σ:St} {H:Hp} {s:Shared} {a:Addr} {y d:V} {u r:Value} {o:Option V} {A:Around} {E:Value->Shared->Prop}
end
section
variable {X:Cx} {o e f:Expr} {apos cpos:Pos} {td ty tx:TE}
end
section
variable {X:Cx} {pins:List (Addr × Obj)} {σ:St} {H:Hp} {s:Shared} {a:Addr} {kvs:List (Key × V)} {A:Around} {E:Value->Shared->Prop}
end
section
variable {X:Cx} {pins:List (Addr × Obj)} {σ:St} {H:Hp} {s:Shared} {a:Addr} {y:V} {u:Value} {A:Around} {E:Value->Shared->Prop}
end
end L2
namespace Att
open PySem PySem.W PySem.Calls PyProof.Rows
section
variable {prog:Program} {w:World} {A:Around} {E:Value->Shared->Prop} {s:Shared} {K:Frag}
end
end Att
namespace L2
open PySem PySem.Spec PyProof.Rows
section
variable {P:Program} {w:World} {K:W.Frag} {mg:Str->Option Value} {base:Heap}
end
section
variable {X:Cx}
end
section
variable {κ:Type} [DecidableEq κ]
end
end L2
namespace L2
open PySem PySem.Spec PyProof.Rows PySem.Builtin PySem.Builtin.Str
section
variable {X:Cx}
theorem P1:∀ l:List (Str × Tok),i9 ((l.map (·.1)).map V.str) (strValues l)
 | []=>.nil
 | (x,t)::l=>.cons ⟨t,rfl⟩ (P1 l)
theorem P3:∀ {xs:List Str} {vs:List Value},i9 (xs.map V.str) vs->∃ l:List (Str × Tok),l.map (·.1)=xs/\strValues l=vs
 | [],_,.nil=>⟨[],rfl,rfl⟩
 | x::xs,_,.cons ⟨t,rfl⟩ r=>let ⟨l,h1,h2⟩:=P3 r;⟨(x,t)::l,by rw[B7,h1],by rw[<- h2];rfl⟩
def an3:V->List V->Hp->VK->Prop:=fun v vs H Q=>∃ a b,v=.str a/\vs=[.str b]/\(b.length == 0)=false/\a.length<=100000/\(Txt.split a b).length<=sizeLine/\∀ l,H l=none->Q (.ref l) (upd H l (.lst ((Txt.split a b).map V.str)))
theorem C1:MtR X "str.split" an3:=by
 intro pins s σ H v vs u us Q I rx rv h
 obtain⟨x,y,rfl,rfl,hy,hx,hn,q⟩:=h
 obtain⟨t,rfl⟩:=rx
 obtain⟨_,rfl,t',rfl⟩:=i9.one rv
 have hsz:x.length<=sizeLine:=by rw[sizeLine_eq];omega
 have fin:∀ (l:List (Str × Tok)) (k:Nat),l.map (·.1)=Txt.split x y->EP X pins σ Q (.ref s.heap.objs.size) { s with heap:=s.heap.push { cls:=.type "list",data:=.seq (strValues l).toArray },toks:=k }:=fun l k e=>by
  have hv:=P1 l
  rw[e]at hv
  exact⟨.ref s.heap.objs.size,_,I.laid (t':=k) (fun b o e=>c8 _ e) (c9 _) (show x5 X.prog X.w _ _ _ (.lst ((Txt.split x y).map V.str)) from ⟨by rw[a8];exact hn,strValues l,0,hv,j1 _ rfl⟩),rfl,q _ (I.hok.fresh (c9 _))⟩
 cases h1:(decide (x.length<y.length) || decide (strKind x<strKind y))
 ·cases hf:(occurrences x y 0 x.length (x.length+1)).isEmpty
  ·have es:Txt.split x y=partsBetween x (occurrences x y 0 x.length (x.length+1)) y.length:=(if_neg (ne_true_of_eq_false h1)).trans (if_neg (ne_true_of_eq_false hf))
   refine call_meets F.slot_str_split (typeIs_str _ _ _) F.entry_str_split (F.args_str_split_2 _ _) (meets_str_split_sep x y t t' h1 hy hf hsz (by rw[<- es];exact hn)) ?_
   show wants _ X.xe _ { s with toks:=_,heap:=s.heap.push { cls:=.type "list",data:=.seq (strsFrom s.toks (partsBetween x (occurrences x y 0 x.length (x.length+1)) y.length)).toArray } }
   rw[strsFrom_eq]
   exact fin (numbered s.toks _) _ ((numbered_texts _ _).trans es.symm)
  ·exact call_meets F.slot_str_split (typeIs_str _ _ _) F.entry_str_split (F.args_str_split_2 _ _) (meets_str_split_not_found x y t t' h1 hy hf) (fin [(x,t)] s.toks ((if_neg (ne_true_of_eq_false h1)).trans (if_pos hf)).symm)
 ·exact call_meets F.slot_str_split (typeIs_str _ _ _) F.entry_str_split (F.args_str_split_2 _ _) (meets_str_split_cannot_occur x y t t' h1) (fin [(x,t)] s.toks (if_pos h1).symm)
def rJoin (K:W.Frag):V->List V->Hp->VK->Prop:=fun v vs H Q=>∃ (x:Str) (l:Addr) (xs:List Str),v=.str x/\vs=[.ref l]/\SqL K H l (xs.map V.str)/\JoinOk x xs=true/\Q (.str (Txt.join x xs)) H
theorem S1:MtR X "str.join" (rJoin X.K):=by
 intro pins s σ H v vs u us Q I rx rv h
 obtain⟨x,l,xs,rfl,rfl,hq,hok,q⟩:=h
 obtain⟨t,rfl⟩:=rx
 obtain⟨_,rfl,e⟩:=i9.one rv
 cases e
 obtain⟨its,r,pl,hz⟩:=I.list hq
 obtain⟨ls,e1,e2⟩:=P3 r
 subst e2
 exact SC.join pl.isList e1 hok fun t' k=>⟨.str _,H,I.tok k,⟨_,rfl⟩,q⟩
def an2:V->List V->Hp->VK->Prop:=fun v vs H Q=>∃ (x:Str),v=.str x/\vs=[]/\tooLong (Txt.upper x).length=false/\Q (.str (Txt.upper x)) H
theorem af2:MtR X "str.upper" an2:=by
 intro pins s σ H v vs u us Q I rx rv h
 obtain⟨x,rfl,rfl,hf,q⟩:=h
 obtain⟨t,rfl⟩:=rx
 have hus:=rv.zero
 subst hus
 exact SC.upper hf ⟨.str _,H,I.tok _,⟨_,rfl⟩,q⟩
def au1:V->List V->Hp->VK->Prop:=fun v vs H Q=>∃ (x y:Str),v=.str x/\vs=[.str y]/\(y.length == 0)=false/\x.length<=100000/\∀ l,H l=none->Q (.ref l) (upd H l (.tup [.str (Txt.partition x y).1,.str (Txt.partition x y).2.1,.str (Txt.partition x y).2.2]))
theorem Y6:MtR X "str.partition" au1:=by
 intro pins s σ H v vs u us Q I rx rv h
 obtain⟨x,y,rfl,rfl,hy,hx,q⟩:=h
 obtain⟨t,rfl⟩:=rx
 obtain⟨_,rfl,t',rfl⟩:=i9.one rv
 have hsz:x.length<=sizeLine:=by rw[sizeLine_eq];omega
 have fin:∀ (ta tb tc:Tok) (k:Nat),EP X pins σ Q (.ref s.heap.objs.size) { s with heap:=s.heap.push { cls:=.type "tuple",data:=.seq [.str (Txt.partition x y).1 ta,.str (Txt.partition x y).2.1 tb,.str (Txt.partition x y).2.2 tc].toArray },toks:=k }:=fun ta tb tc k=>by
  have hv:i9 [V.str (Txt.partition x y).1,.str (Txt.partition x y).2.1,.str (Txt.partition x y).2.2] [.str (Txt.partition x y).1 ta,.str (Txt.partition x y).2.1 tb,.str (Txt.partition x y).2.2 tc]:=.cons ⟨ta,rfl⟩ (.cons ⟨tb,rfl⟩ (.cons ⟨tc,rfl⟩ .nil))
  exact⟨.ref s.heap.objs.size,_,I.laid (t':=k) (fun b o e=>c8 _ e) (c9 _) (show x5 X.prog X.w _ _ _ (.tup _) from ⟨by show 3<=sizeLine;rw[sizeLine_eq];decide,_,hv,_,j1 _ rfl,rfl,0,rfl⟩),rfl,q _ (I.hok.fresh (c9 _))⟩
 refine call_meets F.slot_str_partition (typeIs_str _ _ _) F.entry_str_partition (F.args_str_partition_2 _ _) (meets_str_partition x y t t' hy hsz) ?_
 have h':=fin
 unfold Txt.partition at h'
 revert h'
 cases occurrences x y 0 x.length 1 with
 | nil=>intro h';exact h' _ _ _ _
 | cons i r=>intro h';exact h' _ _ _ _
end
theorem sub_len (x:Str)(i j:Nat):(strSub x i j).length<=x.length:=by
 show (x.cps.extract i j).size<=x.cps.size
 rw[Array.size_extract]
 omega
theorem ah2 {x:Str}(h:t6 x)(i j:Nat):t6 (strSub x i j):=fun c hc=>h c (by
 have hc':c∈(x.cps.extract i j).toList:=hc
 rw[Array.toList_extract]at hc'
 exact K8 (B3 hc'))
theorem B9 {x y p:Str}(h:p∈Txt.split x y):p.length<=x.length/\(t6 x->t6 p):=by
 unfold Txt.split at h
 split at h
 ·rw[i8.mp h];exact⟨c9 _,id⟩
 ·split at h
  ·rw[i8.mp h];exact⟨c9 _,id⟩
  ·obtain⟨⟨i,j⟩,_,rfl⟩:=List.mem_map.mp h
   exact⟨sub_len x i j,fun a=>ah2 a i j⟩
theorem split_len (x y:Str):1<=(Txt.split x y).length/\(Txt.split x y).length<=x.length+2:=by
 unfold Txt.split
 split
 ·exact⟨c9 _,Nat.le_add_left _ _⟩
 ·split
  ·exact⟨c9 _,Nat.le_add_left _ _⟩
  ·rw[PyProof.Rows.len_partsBetween]
   have:=PySem.StrLaws.occ_length_le x y 0 x.length (x.length+1)
   omega
theorem U6 (x y:Str):(Txt.partition x y).1.length<=x.length/\(Txt.partition x y).2.2.length<=x.length:=by
 unfold Txt.partition
 split
 ·exact⟨sub_len _ _ _,sub_len _ _ _⟩
 ·exact⟨c9 _,o6 _⟩
theorem ac6 {m:Nat}:∀ {xs:List Str},(∀ x∈xs,x.length<=m)->(xs.map (·.length)).sum<=xs.length*m
 | [],_=>o6 _
 | x::xs,h=>by
  have h1:=ac6 (xs:=xs) fun y hy=>h y (c2 _ hy)
  have h2:=h x i5
  rw[B7,List.sum_cons,d3,ag9]
  omega
theorem Y9 {y:Str}{xs:List Str}{m n:Nat}(h:∀ x∈xs,x.length<=m)(hn:xs.length<=n)(hb:n*m+n*y.length<=100000):JoinOk y xs=true/\(Txt.join y xs).length<=n*m+n*y.length:=by
 have h1:=ac6 h
 have h2:xs.length*m<=n*m:=aj9 _ hn
 have h3:xs.length*y.length<=n*y.length:=aj9 _ hn
 refine⟨?_,?_⟩
 ·unfold JoinOk
  rw[StrLaws.joinTotal]
  have:tooLong ((xs.map (·.length)).sum+xs.length*y.length)=false:=by
   unfold tooLong
   rw[decide_eq_false_iff_not,sizeLine_eq]
   omega
  rw[this];rfl
 ·show (glued y xs).length<=_
  rw[StrLaws.glued_eq_join]
  exact j5 (StrLaws.join_length_le y xs) (by omega)
theorem V0 {y:Str}(hy:t6 y){xs:List Str}(h:∀ x∈xs,t6 x):t6 (Txt.join y xs):=by
 show t6 (glued y xs)
 rw[StrLaws.glued_eq_join]
 induction xs with
 | nil=>intro c hc;cases hc
 | cons x xs ih =>
  cases xs with
  | nil=>exact h x i5
  | cons z r=>exact y9 (y9 (h x i5) hy) (ih fun u hu=>h u (c2 _ hu))
end L2
namespace Web
open PySem L2
def Asc (ks:List (List Int)):Prop:=ks.Pairwise fun a b=>Tim.aw0 a b=true
def up:List Int->List Int
 | [a,b]=>[if b<a then b else a,if b > a then b else a]
 | k=>k
end Web
namespace L2
open PySem PySem.Spec PyProof.Rows
section
variable {prog:Program} {w:World} {A:Around} {E:Value->Shared->Prop} {s:Shared}
end
section
variable {X:Cx} {pins:List (Addr × Obj)} {σ:St} {H:Hp} {s:Shared} {A:Around} {E:Value->Shared->Prop}
theorem Inv.turn {h':Heap}{t':Nat}{it:Addr}(I:Inv X pins σ H s)(f:C4 X pins H it)(k:∀ b o,b≠it->s.heap.get? b=some o->h'.get? b=some o):Inv X pins σ H { s with heap:=h',toks:=t' }:=
 I.turned k f.1 f.2.1 f.2.2.2.1 f.2.2.2.2.1 f.2.2.2.2.2
end
section
variable {X:Cx} {pins:List (Addr × Obj)} {σ:St} {H:Hp} {s:Shared} {A:Around} {E:Value->Shared->Prop}
end
section
variable {X:Cx} {pins:List (Addr × Obj)} {σ:St} {H:Hp} {s:Shared} {A:Around} {E:Value->Shared->Prop}
end
section
variable {X:Cx} {pins:List (Addr × Obj)} {σ:St} {H:Hp} {s:Shared} {A:Around}
end
structure aA9 (base:Heap) (mg:Str->Option Value) (c P:Addr):Prop where
 hd:PySem.W.CodeHd base c P
 blt:base.BuiltinsAt mg P
 ne:mainGlobals≠P
section
variable {X:Cx}
end
section
variable {X:Cx}
end
section
variable {X:Cx}
theorem ag3 {prog:Program}{w:World}{A:Around}{E:Value->Shared->Prop}{s:Shared}{l:Addr}{items:Array Value}{n:Nat}{x:Int}{t:Tok}{u:Value}{Q:Value->Shared->Prop}(e:s.heap.get? l=some { cls:=.type "list",data:=.seq items n })(hsz:items.size<=sizeLine)(h0:-(2 ^ 63)<=x)(h1:x<2 ^ 63)
  (h:Q .none { s with heap:=s.heap.update l (Obj.mapSeq fun xs=>have k:=if x<0 then (x+(xs.size:Int)).toNat else min x.toNat xs.size;(xs.extract 0 k).push u++xs.extract k),toks:=s.toks }) :
  wpAny (model prog w) A (call (.builtin "list.insert") [.ref l,.int x t,u]) Q E s :=
 call_meets F.slot_list_insert ⟨_,e,rfl⟩ F.entry_list_insert (F.args_list_insert_3 _ _ _) (PySem.AutoSeq1.list_insert_list_int_val_1 l items n x t u (by rw[show Builtin.List.listFitsIndex x=true from fitsIndex_both h0 h1];decide) hsz) ⟨e,h⟩
def ah8:V->List V->Hp->VK->Prop:=fun x vs H Q=>∃ l xs y,∃ i:Nat,x=.ref l/\vs=[.int i,y]/\H l=some (.lst xs)/\i<=xs.length/\xs.length<1000/\Q .non (upd H l (.lst (xs.take i++[y]++xs.drop i)))
theorem ab1:MtM X "list.insert" ah8:=by
 intro pins s σ H x vs v us Q I rx rv h
 obtain⟨l,xs,y,i,rfl,rfl,hH,hi,hz0,q⟩:=h
 cases rx
 cases rv with
 | cons r1 rr =>
  cases rr with
  | cons ru rr =>
   cases rr
   obtain⟨t,rfl⟩:=r1
   rename_i u
   obtain⟨z,its,n,r,hl,e⟩:=I.lstM hH
   have hsl:1000<sizeLine:=by decide
   have hsz:its.toArray.size<=sizeLine:=by rw[c7];omega
   refine ag3 (x:=(i:Int)) e hsz (Int.le_trans (show (-(2 ^ 63):Int)<=0 by decide) (Int.natCast_nonneg i)) (Int.lt_trans (show (i:Int)<1000 by omega) (by decide)) ?_
   refine⟨.non,_,I.lset (its':=its.take i++[u]++its.drop i) hH e ?_ ((r.take i).append (.cons ru .nil) |>.append (r.drop i)) ?_,rfl,q⟩
   ·have hk:(if (i:Int)<0 then ((i:Int)+(its.toArray.size:Int)).toNat else min (i:Int).toNat its.toArray.size)=i:=by
     rw[if_neg (by omega),c7,Q7]
     omega
    show ((its.toArray.extract 0 (if (i:Int)<0 then ((i:Int)+(its.toArray.size:Int)).toNat else min (i:Int).toNat its.toArray.size)).push u++its.toArray.extract (if (i:Int)<0 then ((i:Int)+(its.toArray.size:Int)).toNat else min (i:Int).toNat its.toArray.size))=_
    rw[hk]
    apply ar1.mp
    simp
    exact r9 (by rw[o5];omega)
   ·rw[d9,d9,o4,o5,ag6]
    omega
end
end L2
namespace L2
open PySem PySem.Spec PyProof.Rows PySem.SeqAt
theorem X4:∀ {bs:List Bool} {its:List Value},i9 (bs.map V.bl) its->its=bs.map Value.bool
 | [],_,.nil=>rfl
 | b::bs,_,.cons r t=>by rw[X4 t,show _=Value.bool b from r];rfl
section
variable {X:Cx}
end
theorem B1 {X:Cx}{a b:Expr}{pos:Pos}{ta tb:TE}(K:W.Frag)(hK:X.K=K)(ha:PE X a ta)(hb:PE X b tb)(hs:Z6 b):PE X (.Subscript a b pos) (tOp (au2 K) ta tb):=by
 cases hK
 exact n9 E9 ha hb hs
end L2
namespace L2
open PySem PySem.Spec PyProof.Rows
section
variable {X:Cx} {pins:List (Addr × Obj)} {σ:St} {H:Hp} {s:Shared} {A:Around} {E:Value->Shared->Prop}
end
section
variable {X:Cx}
end
section
variable {prog:Program} {w:World} {A:Around} {E:Value->Shared->Prop} {s:Shared}
end
section
variable {prog:Program} {w:World} {A:Around} {E:Value->Shared->Prop} {s:Shared}
end
section
variable {X:Cx}
end
section
variable {X:Cx}
end
section
variable {X:Cx}
theorem P7:OpR X (compareOp .IsNot) (fun x y H Q=>∃ i j,x=.bl i/\y=.bl j/\Q (.bl (!decide (i=j))) H):=by
 intro pins s σ H x y v u Q I rx ry h
 obtain⟨i,j,rfl,rfl,q⟩:=h
 cases rx
 cases ry
 exact isnot_bool (j7 I q (by cases i<;>cases j<;>rfl))
end
section
variable {X:Cx}
end
section
variable {X:Cx}
end
section
variable {X:Cx}
end
end L2
namespace L2
open PySem PySem.Spec PyProof.Rows PySem.SeqAt
section
variable {prog:Program} {w:World} {A:Around} {E:Value->Shared->Prop} {s:Shared}
end
section
variable {prog:Program} {w:World} {A:Around} {E:Value->Shared->Prop} {s:Shared}
end
section
variable {X:Cx}
end
section
variable {X:Cx}
theorem ab6 {bs:List Bool}{i:Nat}{v:Value}(h:(bs.map Value.bool)[i]?=some v):v=.bool (bs.getD i false):=by
 rw[j4]at h
 cases e:bs[i]? with
 | none=>rw[e]at h;cases h
 | some b=>rw[e]at h;cases h;rw[u5,e];rfl
theorem all_range (bs:List Bool):((Z8 bs.length).all fun i=>bs.getD i false)=bs.all id:=by
 rw[m9,h9,h9]
 constructor
 ·intro h b hb
  obtain⟨i,hi,rfl⟩:=List.mem_iff_getElem.mp hb
  have:=h i (L8.mpr hi)
  rw[u5,j6 hi]at this
  exact this
 ·intro h i hi
  have hi:=L8.mp hi
  rw[u5,j6 hi]
  exact h _ (A4 hi)
theorem boot_all:bootBuiltins "all"=some (.builtin "all"):=by decide +kernel
theorem ab5 (hc:X.calm=true):J6 X (.builtin "all") (fun xs H Q=>∃ (l:Addr) (bs:List Bool),xs=[.ref l]/\H l=some (.lst (bs.map V.bl))/\Q (.bl (bs.all id)) H):=by
 intro pins s σ H xs us Q I r h
 obtain⟨l,bs,rfl,hH,q⟩:=h
 obtain⟨u,rfl,rx⟩:=vals1 r
 cases rx
 obtain⟨z,its,n,r,hl,e⟩:=I.lstM hH
 obtain rfl:=X4 r
 have hl1:s.heap.IsList l (bs.map Value.bool).toArray:=⟨_,e,rfl,_,rfl⟩
 refine call_all_walkS (wpAny_pyIter_list hl1 ?_)
 have hlt:l<s.heap.objs.size:=c6 e
 have hh:X.A.in1.handled=none:=by simp[I.ok.hd hc]
 refine⟨_,_,_,_,_,_,_,fun i=>bs.getD i false,rfl,(Walks.list hh _ l (g9 hlt) (bs.map Value.bool).toArray).toS,⟨⟨_,j1 _ rfl,rfl,rfl⟩,hl1.push _⟩,?_,fun s' hm=>?_⟩
 ·intro i v s Q E hv hq
  have:=ab6 (bs:=bs) (i:=i) (v:=v) (by simpa using hv)
  subst this
  exact wpAny_pure hq
 ·refine⟨.bl (bs.all id),H,?_,?_,q⟩
  ·rw[Moved.eq_with hm]
   exact I.kept (t':=s'.toks) fun b o eo=>hm.heap b o (fun hb=>absurd (c6 eo) (by rw[i8.mp hb];exact n0 _)) (c8 _ eo)
  ·show _=Value.bool (bs.all id)
   rw[<- all_range]
   simp
end
section
variable {prog:Program} {w:World} {A:Around} {E:Value->Shared->Prop} {s:Shared}
end
section
variable {X:Cx}
end
end L2
namespace L2
open PySem PySem.Spec PyProof.Rows
section
variable {X:Cx}
def ar7 (i:Nat)(t:TE):TS:=fun D σ H=>t σ H fun v H1=>D.nx (σ.set i (some v)) H1
end
section
variable {M:Model} {A:Around} {Er:Value->Shared->Prop} {s:Shared}
theorem W7 {B:Heap}{env:Env}{outer:List Env}{L e:Addr}{cls a0 fl:Value}{Q:Unit->Shared->Prop}(hfr:A.frames=some (env::outer))(hf:env.frame=some L)(h1:B.StaysIn s.heap)(h2:B.get? e=none)(h3:s.heap.FunFrames B (env::outer))(h4:s.heap.TracedAtW B e cls a0 fl)
  (hQ:∀ h',Heap.FlyingW B outer e cls a0 h'->s.heap.UpToSlots h'->Q () { s with heap:=h' }):wpAny M A (leaving env (.ref e)) Q Er s:=by
 by_cases hfl:fl=rawInt L
 ·subst hfl
  unfold leaving
  refine wpAny_bind (wpAny_noteFrame_againW hf h4 (wpAny_landsW (L:=L) ⟨h1,h2,h3,h4⟩ fun h' x1 x2=>hQ h' ⟨x1.1,x1.2.1,x1.2.2.1.2.2,x1.2.2.2⟩ x2))
 ·obtain⟨oe,vs,T,oT,ts,he,⟨hcl,h0⟩,hd,e1,nT,Te,hT,dT,e3⟩:=h4
  subst hcl
  have oth:∀ b,b≠T->(s.heap.update T (Obj.mapFields (·.setIfInBounds 3 Value.none))).get? b=s.heap.get? b:=fun b z=>x9 _ _ (Ne.symm z)
  have noT:∀ b o,s.heap.get? b=some o->(∀ vs,o.data≠.fields vs)->b≠T:=fun b o q n z=>by
   rw[z,hT]at q
   cases q
   exact n ts dT
  unfold leaving noteFrame
  rw[hf]
  refine wpAny_bind (wpAny_bind (wpAny_field he hd e1 ?_))
  rw[if_pos (by simp:(Value.ref T != Value.none)=true)]
  refine wpAny_bind (wpAny_field hT dT e3 ?_)
  rw[if_neg (by simpa using hfl)]
  refine wpAny_bind (wpAny_setField hT dT (C5.mp e3).1 ?_)
  refine wpAny_newEntryW hfr (h3.of_keeps fun b o q n=>⟨o,by rw[oth b (noT b o q n)];exact q,rfl⟩) hf (by rw[oth e (Ne.symm Te)];exact he) (fun b o q=>?_) h2 hd (C5.mp e1).1 h0 fun h' y=>?_
  ·rw[oth b (fun z=>by rw[z,nT]at q;cases q)]
   exact h1 b o q
  ·obtain⟨y1,y2,y3,y4⟩:=y
   exact hQ h' ⟨y1,h2,y2.2.2,y3⟩ fun b o q n=>y4 b o (by show (s.heap.update T _).get? b=_;rw[oth b (noT b o q n)];exact q) n
end
theorem L6 {h h' B B':Heap}:∀ {l:List Env},(∀ b∈frs l,B.get? b=none->B'.get? b=none)->(∀ b∈frs l,∀ o,h.get? b=some o->(∀ vs,o.data≠.fields vs)->∃ o',h'.get? b=some o'/\∀ vs,o'.data≠.fields vs)->h.FunFrames B l->h'.FunFrames B' l
 | [],_,_,_=>trivial
 | env::r,k1,k2,⟨hk,⟨L,o,hf,hn,ho,hd⟩,hr⟩=>by
  have hL:L∈frs (env::r):=by unfold frs;rw[p9,hf];exact i5
  obtain⟨o',ho',hd'⟩:=k2 L hL o ho hd
  have up:∀ b∈frs r,b∈frs (env::r):=fun b hb=>by unfold frs;rw[p9,hf];exact c2 _ hb
  exact⟨hk,⟨L,o',hf,k1 L hL hn,ho',hd'⟩,L6 (fun b hb=>k1 b (up b hb)) (fun b hb=>k2 b (up b hb)) hr⟩
def CXA (P:Program)(w:World)(stack:List Env)(H:Hp)(s:Shared)(E:XK)(e:Value)(s':Shared):Prop:=
 ∃ x cls H2 fl,e=.ref x/\s'.os=s.os/\AllBare s'.gens/\Un (frs stack) [] H H2 s.heap s'.heap/\HOk P w H2 s'.heap/\s.heap.get? x=none/\H2 x=none /\
  (∃ B a0,(B.StaysIn s'.heap/\B.get? x=none/\s'.heap.FunFrames B stack/\s'.heap.TracedAtW B x cls a0 fl)/\∀ b o,s'.heap.get? b=some o->(H2 b≠none\/s.heap.get? b≠none)->b∉frs stack->B.get? b=some o)/\E cls none H2
section
variable {P:Program} {w:World} {K:W.Frag} {mg:Str->Option Value} {base:Heap} {N:List Str} {qual:Str} {scope:Scope} {f:Addr} {cd:Value} {A:Around} {outer:List Env} {s:Shared} {H:Hp} {E:XK}
 {pins:List (Addr × Obj)} {σ:St} {H1:Hp} {s1:Shared}
theorem au3 {e:Value}{s2:Shared}(I:Inv (B6 (CXE P w) P w K mg base N qual scope f cd A outer s H E) pins σ H1 s1)(hc:CXA P w (B6 (CXE P w) P w K mg base N qual scope f cd A outer s H E).stack H1 s1 E e s2):(B6 (CXE P w) P w K mg base N qual scope f cd A outer s H E).xe e s2:=by
 obtain⟨x,cls,H2,fly,rfl,hos,hb2,u,hok,new,hxn,⟨B,a0,⟨k1,k2,k3,k4⟩,st⟩,hE⟩:=hc
 have hst:=I.stack
 have hfr:=I.ok.frames
 have hL:=I.free
 have hbs:Un (frs outer) [] H H1 s.heap s1.heap:=I.base
 change s1.heap.FunFrames base (envOfC qual scope s.heap.objs.size f cd::outer) at hst
 change (A.deeper (envOfC qual scope s.heap.objs.size f cd)).frames=some (envOfC qual scope s.heap.objs.size f cd::outer) at hfr
 change H1 s.heap.objs.size=none at hL
 change Un (frs (envOfC qual scope s.heap.objs.size f cd::outer)) [] H1 H2 s1.heap s2.heap at u
 change s2.heap.FunFrames B (envOfC qual scope s.heap.objs.size f cd::outer) at k3
 have hff:frs (envOfC qual scope s.heap.objs.size f cd::outer)=s.heap.objs.size::frs outer:=N5 rfl
 have st':∀ b o,s2.heap.get? b=some o->(H2 b≠none\/s1.heap.get? b≠none)->b∉frs (envOfC qual scope s.heap.objs.size f cd::outer)->B.get? b=some o:=st
 rw[hff]at u st'
 have hLo:∃ o,s1.heap.get? s.heap.objs.size=some o:=by
  obtain⟨m,⟨o,_,_,ho,_⟩,_⟩:=I.loc
  exact⟨o,ho⟩
 have hL2:H2 s.heap.objs.size=none:=by
  obtain⟨o,ho⟩:=hLo
  exact u.free _ o ho hL (by simp)
 have old:∀ b,(H2 b≠none\/s.heap.get? b≠none)->b∉frs outer->∃ o,s2.heap.get? b=some o/\B.get? b=some o:=fun b hb hno=>by
  have hne:b≠s.heap.objs.size:=by
   rcases hb with z | z
   ·intro q;rw[q]at z;exact z hL2
   ·obtain⟨o,z⟩:=o7 z
    exact g9 (c6 z)
  have hm:b∉s.heap.objs.size::frs outer:=fun hm=>by
   rcases k6.mp hm with q | q
   ·exact hne q
   ·exact hno q
  rcases hb with z | z
  ·obtain⟨o,z'⟩:=o7 z
   obtain⟨o',ho⟩:=(hok b o z').there
   exact⟨o',ho,st' b o' ho (.inl z) hm⟩
  ·obtain⟨o,z⟩:=o7 z
   obtain⟨o1,h1⟩:=hbs.there b o z (by simp)
   obtain⟨o2,h2⟩:=u.there b o1 h1 (by simp)
   exact⟨o2,h2,st' b o2 h2 (.inr (by rw[h1];simp)) hm⟩
 have u2:Un (frs outer) [] H H2 s.heap s2.heap:=by
  refine⟨fun b o e n hb hx=>?_,fun b o e n hb hx=>?_,fun b o e n hx=>?_,fun b o e hx=>?_,fun b xs e=>u.tups b xs (hbs.tups b xs e),fun b o v e=>u.frzs b o v (hbs.frzs b o v e),fun b ps e=>?_⟩
  ·refine u.keep b o (hbs.keep b o e n hb hx) (hbs.free b o e n hx) (fun hm=>?_) hx
   rcases k6.mp hm with q | q
   ·exact g9 (c6 e) q
   ·exact hb q
  ·obtain⟨sl,e1⟩:=hbs.slot b o e n hb hx
   obtain⟨sl2,e2⟩:=u.slot b _ e1 (hbs.free b o e n hx) (c2 _ hb) hx
   exact⟨sl2,e2⟩
  ·obtain⟨o',e1⟩:=hbs.there b o e hx
   exact u.free b o' e1 (hbs.free b o e n hx) hx
  ·obtain⟨o',e1⟩:=hbs.there b o e hx
   exact u.there b o' e1 hx
  ·obtain⟨m1,e1⟩:=hbs.tbls b ps e
   obtain⟨m2,e2⟩:=u.tbls b _ e1
   exact⟨m1++m2,by rw[e2,M6]⟩
 have frNone:∀ b∈frs outer,H2 b=none:=fun b hb=>by
  have h1:=I.stkFree b (by
   show b∈frs (envOfC qual scope s.heap.objs.size f cd::outer)
   rw[hff]
   exact c2 _ hb)
  obtain⟨_,o,ho,_⟩:=hst.mem (b:=b) (by
   show b∈frs (envOfC qual scope s.heap.objs.size f cd::outer)
   rw[hff]
   exact c2 _ hb)
  exact u.free b o ho h1 (by simp)
 refine W7 hfr rfl k1 k2 k3 k4 fun h' x1 x2=>?_
 have stay:∀ b o,s2.heap.get? b=some o->(H2 b≠none\/s.heap.get? b≠none)->b∉frs outer->h'.get? b=some o:=fun b o ho hb hno=>by
  obtain⟨o',ho',hB⟩:=old b hb hno
  rw[ho]at ho'
  cases ho'
  exact x1.1 b o hB
 refine⟨x,cls,H2,rfl,hos.trans I.os,hb2,u2.onto (fun b o ho hh hno=>stay b o ho (.inr hh) hno) (fun b o ho hh hm=>?_),hok.stays fun b o ho hh=>stay b o ho (.inl hh) fun hm=>hh (frNone b hm),?_,hxn,⟨B,a0,x1,fun b o ho hb hno=>?_⟩,hE⟩
 ·obtain⟨_,o',ho',hd⟩:=k3.mem (b:=b) (by
   show b∈frs (envOfC qual scope s.heap.objs.size f cd::outer)
   rw[hff]
   exact c2 _ hm)
  rw[ho]at ho'
  cases ho'
  exact x2 b o ho hd
 ·cases q:s.heap.get? x with
  | none=>rfl
  | some o =>
   obtain⟨o',z⟩:=hbs.there x o q (by simp)
   rw[new]at z
   cases z
 ·obtain⟨o',ho',hB⟩:=old b hb hno
  have:=stay b o' ho' hb hno
  rw[ho]at this
  cases this
  exact hB
end
theorem ab0 {e:Value}{env env':Env}(h:env.frame=env'.frame):noteFrame e env=noteFrame e env':=by
 unfold noteFrame PySem.frameOf
 rw[h]
def XeC (X:Cx)(E:XK)(pins:List (Addr × Obj))(σ:St)(C:Addr)(e:Value)(s':Shared):Prop:=
 ∃ s1 H1 m,Inv X pins σ H1 s1/\C4 X pins H1 C/\s1.heap.Ns C m/\CXE X.prog X.w X.stack H1 s1 E e s'
section
variable {P:Program} {w:World} {K:W.Frag} {mg:Str->Option Value} {base:Heap} {N:List Str} {qual:Str} {scope:Scope} {f:Addr} {cd:Value} {A:Around} {outer:List Env} {s:Shared} {H:Hp} {E:XK}
 {pins:List (Addr × Obj)} {σ:St}
theorem v9 {X:Cx}(eX:X=B6 (CXE P w) P w K mg base N qual scope f cd A outer s H E){C:Addr}{cenv:Env}(hcf:cenv.frame=X.env.frame){e:Value}{s':Shared}{Q:Value->Shared->Prop}{acc:Value}(h:XeC X E pins σ C e s') :
  notedBy (model X.prog X.w) X.A cenv (fun x s''=>compPost (model X.prog X.w) X.A X.xe none Q acc C (.error x) s'') e s':=by
 obtain⟨s1,H1,m,I1,fC,hn,x,cls,H2,rfl,hos,hb2,u,hok,new,hxn,⟨B,a0,fl,st⟩,hE⟩:=h
 have hstk:X.stack=X.env::X.outer:=by rw[eX];rfl
 have hf:X.env.frame=some X.env.locals:=by rw[eX];rfl
 have hfr:X.A.frames=some (X.env::X.outer):=by rw[<- hstk];exact I1.ok.frames
 rw[hstk]at fl
 have nC:C∉frs X.stack:=fun z=>by
  rcases k6.mp (I1.stkSub C z) with q | q
  ·exact fC.2.1 q
  ·exact fC.2.2.1 q
 obtain⟨oC,es,ep,hC,dC,rC⟩:=hn
 have hC':s'.heap.get? C=some oC:=u.keep C oC hC fC.1 nC (by simp)
 have hC2:H2 C=none:=u.free C oC hC fC.1 (by simp)
 have frN:∀ b∈frs X.stack,H2 b=none:=fun b hb=>by
  obtain⟨_,o,ho,_⟩:=I1.stack.mem hb
  exact u.free b o ho (I1.stkFree b hb) (by simp)
 unfold notedBy
 rw[ab0 hcf]
 refine wpAny_looks_onW hfr hf fl fun h4 held up=>?_
 obtain⟨k1,k2,k3,oe,vs,T,oT,ts,he,hcl,hd,e1,nT,Te,hT,dT,e3⟩:=held
 have hsz3:3<ts.size:=(C5.mp e3).1
 have hn4:h4.Ns C m:=up.ns ⟨oC,es,ep,hC',dC,rC⟩
 obtain⟨oC4,es4,ep4,hC4,dC4,_⟩:=id hn4
 have xC:x≠C:=fun z=>by
  rw[z,hC4]at he
  cases he
  rw[dC4]at hd
  cases hd
 have TC:T≠C:=fun z=>by
  rw[z,hC4]at hT
  cases hT
  rw[dC4]at dT
  cases dT
 refine⟨m,hn4,fun h5 hsb cenv' _=>?_⟩
 have g5:∀ b,b≠C->h5.get? b=h4.get? b:=fun b hb=>hsb.2 b hb
 have he5:=(g5 x xC).trans he
 have hT5:=(g5 T TC).trans hT
 unfold PySem.passOn
 refine wpAny_bind (wpAny_field he5 hd e1 ?_)
 rw[if_neg (by simp:¬ ((Value.ref T == Value.none)=true))]
 refine wpAny_bind ?_
 unfold setFlight
 refine wpAny_bind (wpAny_field he5 hd e1 ?_)
 rw[if_pos (by simp:(Value.ref T != Value.none)=true)]
 refine wpAny_setField hT5 dT hsz3 (wpAny_throw ?_)
 generalize hfv:(cenv'.frame.elim Value.none fun f=>rawInt f)=fv
 have oth:∀ b,b≠T->(h5.update T (Obj.mapFields (·.setIfInBounds 3 fv))).get? b=h5.get? b:=fun b z=>x9 _ _ (Ne.symm z)
 have inB:∀ b o,B.get? b=some o->b≠C->(h5.update T (Obj.mapFields (·.setIfInBounds 3 fv))).get? b=some o:=fun b o q z=>by
  rw[oth b (fun z'=>by rw[z',nT]at q;cases q),g5 b z]
  exact k1 b o q
 have frO:∀ b∈frs X.stack,∀ o,s'.heap.get? b=some o->∃ sl,(h5.update T (Obj.mapFields (·.setIfInBounds 3 fv))).get? b=some { o with slots:=sl }:=fun b hb o q=>by
  obtain⟨_,o',q',nf⟩:=fl.2.2.1.mem (b:=b) (by rw[hstk]at hb;exact hb)
  rw[q]at q'
  cases q'
  obtain⟨sl,q4⟩:=up b o q nf
  refine⟨sl,?_⟩
  rw[oth b (fun z=>by rw[z,hT]at q4;cases q4;exact nf _ dT),g5 b (fun z=>nC (by rw[<- z];exact hb))]
  exact q4
 generalize hh6:h5.update T (Obj.mapFields (·.setIfInBounds 3 fv))=h6 at oth inB frO
 have I1':Inv X pins σ H1 { s1 with heap:=PySem.W.hideAll s1.heap [C],toks:=s1.toks }:=I1.turn fC fun b o hb q=>PySem.W.hideAll_get _ q (by simpa using hb)
 have nh:∀ {g:Heap} {b:Addr} {o:Obj},(PySem.W.hideAll g [C]).get? b=some o->b≠C:=fun {g b o} q z=>by
  rw[z,PySem.W.hideAll_none _ (i8.mpr rfl)]at q
  cases q
 subst eX
 refine au3 (s1:={ s1 with heap:=PySem.W.hideAll s1.heap [C],toks:=s1.toks }) I1' ⟨x,cls,H2,fv,rfl,hos,hb2,?_,?_,?_,hxn,⟨PySem.W.hideAll B [C],a0,⟨?_,?_,?_,?_⟩,?_⟩,hE⟩
 ·refine⟨fun b o q n hb hx=>?_,fun b o q n hb hx=>?_,fun b o q n hx=>u.free b o (PySem.W.of_hideAll _ q) n hx,fun b o q hx=>?_,u.tups,u.frzs,u.tbls⟩
  ·have q1:=PySem.W.of_hideAll _ q
   exact inB b o (st b o (u.keep b o q1 n hb hx) (.inr (by rw[q1];simp)) hb) (nh q)
  ·obtain⟨sl,q1⟩:=u.slot b o (PySem.W.of_hideAll _ q) n hb hx
   obtain⟨sl',q2⟩:=frO b hb _ q1
   exact⟨sl',q2⟩
  ·have q1:=PySem.W.of_hideAll _ q
   obtain⟨o',q2⟩:=u.there b o q1 hx
   by_cases hb:b∈frs (B6 (CXE P w) P w K mg base N qual scope f cd A outer s H E).stack
   ·obtain⟨sl,q3⟩:=frO b hb _ q2
    exact⟨_,q3⟩
   ·exact⟨o',inB b o' (st b o' q2 (.inr (by rw[q1];simp)) hb) (nh q)⟩
 ·refine hok.stays fun b o q hh=>inB b o (st b o q (.inl hh) fun z=>hh (frN b z)) fun z=>hh (by rw[z];exact hC2)
 ·cases q:(PySem.W.hideAll s1.heap [C]).get? x with
  | none=>rfl
  | some o =>
   rw[PySem.W.of_hideAll _ q]at new
   cases new
 ·exact fun b o q=>inB b o (PySem.W.of_hideAll _ q) (nh q)
 ·cases q:(PySem.W.hideAll B [C]).get? x with
  | none=>rfl
  | some o =>
   rw[PySem.W.of_hideAll _ q]at k2
   cases k2
 ·refine L6 (fun b hb n=>?_) (fun b hb o q nf=>?_) fl.2.2.1
  ·cases q:(PySem.W.hideAll B [C]).get? b with
   | none=>rfl
   | some o =>
    rw[PySem.W.of_hideAll _ q]at n
    cases n
  ·obtain⟨sl,q2⟩:=frO b hb o q
   exact⟨_,q2,nf⟩
 ·refine⟨oe,vs,T,_,_,(oth x (Ne.symm Te)).trans he5,hcl,hd,e1,?_,Te,by rw[<- hh6];exact ag5 _ hT5 (Obj.isFreed_of_fields (Obj.data_mapFields dT _)),Obj.data_mapFields dT _,by simp[hsz3]⟩
  cases q:(PySem.W.hideAll B [C]).get? T with
  | none=>rfl
  | some o =>
   rw[PySem.W.of_hideAll _ q]at nT
   cases nT
 ·intro b o q hh hb
  have bC:b≠C:=fun z=>by
   rcases hh with z' | z'
   ·exact z' (by rw[z];exact hC2)
   ·exact z' (by rw[z];exact PySem.W.hideAll_none _ (i8.mpr rfl))
  have hin:∃ o',s'.heap.get? b=some o'/\B.get? b=some o':=by
   rcases hh with z' | z'
   ·obtain⟨ho,q'⟩:=o7 z'
    obtain⟨o',q2⟩:=(hok b ho q').there
    exact⟨o',q2,st b o' q2 (.inl z') hb⟩
   ·obtain⟨o1,q'⟩:=o7 z'
    have q1:=PySem.W.of_hideAll _ q'
    obtain⟨o',q2⟩:=u.there b o1 q1 (by simp)
    exact⟨o',q2,st b o' q2 (.inr (by rw[q1];simp)) hb⟩
  obtain⟨o',q2,qB⟩:=hin
  have:=inB b o' qB bC
  have q':h6.get? b=some o:=q
  rw[this]at q'
  cases q'
  exact PySem.W.hideAll_get _ qB (by simpa using bC)
end
theorem Y3 {X:Cx}{pins:List (Addr × Obj)}{σ:St}{E:XK}{scope:Scope}{cl:List (Str × Addr)}{N':List Str}{s3:Shared}{H3:Hp}{fp:List Addr}(I3:Inv X pins σ H3 s3)(f3:∀ b∈fp,C4 X pins H3 b) :
  N9 (CXE X.prog X.w) (i7 X scope cl N' s3 H3 fp (XeC X E pins σ s3.heap.objs.size)) E:=by
 intro pins' σ' H1 s1 e s' I' hc
 obtain⟨m,hm,_⟩:=I'.loc
 refine⟨s1,H1,m,I3.call' (ch:=fp) I'.os I'.base I'.hok I'.bare fun b hb=>?_,I3.fpOk (c9 _) I'.free,hm,hc⟩
 obtain⟨f0,f1,f2',f3',f4,f5⟩:=f3 b hb
 exact⟨f3',f1,f4,f5⟩
section
variable {P:Program} {w:World} {K:W.Frag} {mg:Str->Option Value} {base:Heap} {N:List Str} {qual:Str} {scope0:Scope} {f:Addr} {cd:Value} {A:Around} {outer:List Env} {s0:Shared} {H0:Hp} {E:XK} {X:Cx}
theorem U5 (eX:X=B6 (CXE P w) P w K mg base N qual scope0 f cd A outer s0 H0 E){elt iter tg:Expr}{ifs:List Expr}{scope:Scope}{pos:Pos}{cl:List (Str × Addr)}{N':List Str}{lk:List (Option Nat)}{wi:TI}{g:TG}{tt:TT}{te:TE}(hc:X.calm=true)(hi:PI X tg iter wi)(hclos:closureFor scope X.env=pure cl)(hkind:scope.kind=.function)
  (hnames:∀ y∈scope.names,y.2=.local->scope.names.lookup y.1=some .local)(hcl:T1 X.env cl)(hfr:S9 scope.names cl=true)(hlk:ab7 X N' lk scope cl)
  (hg:∀ pins σ s3 H3 fp,PG (i7 X scope cl N' s3 H3 fp (XeC X E pins σ s3.heap.objs.size)) tg g)(ht:∀ pins σ s3 H3 fp,PTs (i7 X scope cl N' s3 H3 fp (XeC X E pins σ s3.heap.objs.size)) ifs tt)(he:∀ pins σ s3 H3 fp,Inv X pins σ H3 s3->(∀ b∈fp,C4 X pins H3 b)->PE (i7 X scope cl N' s3 H3 fp (XeC X E pins σ s3.heap.objs.size)) elt te)
  (hs:∀ x,foldedSetIterable iter X.env x=pure x:=by intro _;rfl):PE X (.ListComp elt [⟨tg,iter,ifs,0⟩] scope pos) (X6 wi lk g tt te):=by
 intro pins s σ H Q I h
 rw[eval_ListComp]
 have hcellN:∀ y∈scope.names,y.2≠.cell:=fun y hy=>by
  unfold S9 at hfr
  rw[h9]at hfr
  have:=hfr y hy
  rw[d6]at this
  simpa using this.1
 refine wpAny_comprehension_free (use:=none) rfl hs hclos hkind hnames (thn (hi pins s σ H _ I h) fun v s1 h1=>thn h1 fun itv s2 h2=>?_)
 obtain⟨it,fp,tn,J,H2,e,I2,T,st2,f2,q⟩:=h2
 subst e
 refine wpAny_newList ?_ (o6 _)
 have hD:H2 s2.heap.objs.size=none:=I2.hok.fresh (c9 _)
 have I3:=I2.lnew (ys:=[]) (its:=[]) (t':=s2.toks) .nil (o6 _)
 obtain⟨W,⟨m0,w0⟩,turn⟩:=q s2.heap.objs.size hD
 have fpl:∀ b∈fp,b<s2.heap.objs.size:=fun b hb=>by
  obtain⟨o,ho,_⟩:=T.obj 0 s2.heap st2 b hb
  exact c6 ho
 refine wpAny_newFunctionEnv hcellN (by intro y hy;cases hy) (fun h1 hns1 hsb1=>?_) hkind
 dsimp only at hns1 hsb1 ⊢
 have e3:s2.heap.push { cls:=.type "list",dict:=none,data:=.seq ([]:List Value).toArray }=s2.heap.push { cls:=.type "list",data:=.seq ([]:List Value).toArray }:=rfl
 generalize hh3:s2.heap.push { cls:=.type "list",dict:=none,data:=.seq ([]:List Value).toArray }=h3 at *
 have I3':Inv X pins σ (upd H2 s2.heap.objs.size (.lst [])) { s2 with heap:=h3,toks:=s2.toks }:=I3
 have size3:h3.objs.size=s2.heap.objs.size+1:=by rw[<- hh3,X1]
 have f3:∀ b∈fp,C4 X pins (upd H2 s2.heap.objs.size (.lst [])) b:=fun b hb=>by
  obtain⟨f0,fr⟩:=f2 b hb
  exact⟨by rw[p6 (g9 (fpl b hb))];exact f0,fr⟩
 have up:∀ b u,h3.get? b=some u->h1.get? b=some u:=fun b u eb=>by
  rw[hsb1.2 b (g9 (c6 eb))]
  exact c8 _ eb
 have I4:Inv (i7 X scope cl N' { s2 with heap:=h3,toks:=s2.toks } (upd H2 s2.heap.objs.size (.lst [])) fp (XeC X E pins σ h3.objs.size)) [] (M4 lk σ) (upd H2 s2.heap.objs.size (.lst [])) { s2 with heap:=h1,toks:=s2.toks+([]:List (Str × Value)).length }:=
  J0 (s3:={ s2 with heap:=h3,toks:=s2.toks }) I3' f3 hkind hcl hfr hlk hns1 up fun b hb=>by show b<h3.objs.size;rw[size3];exact u4 (fpl b hb)
 have st4:tn 0 h1:=T.keep 0 s2.heap h1 st2 fun b hb o eb=>up b o (by rw[<- hh3];exact c8 _ eb)
 have hCs:h3.objs.size=(compEnvC scope cl h3.objs.size X.env).locals:=rfl
 have stat:∀ {H':Hp},(∀ b∈fp,H' b=none)->∀ b∈fp,C4 (i7 X scope cl N' { s2 with heap:=h3,toks:=s2.toks } (upd H2 s2.heap.objs.size (.lst [])) fp (XeC X E pins σ h3.objs.size)) [] H' b:=fun {H'} hn b hb=>by
  obtain⟨f0,f1,f2',f3',f4,f5⟩:=f3 b hb
  refine⟨hn b hb,?_,fun z=>?_,.inl hb,fun x c ex=>f4 x c (hcl.get ex),fun p hp=>nomatch hp⟩
  ·show b≠h3.objs.size
   rw[size3]
   exact g9 (u4 (fpl b hb))
  ·rcases k6.mp (I3'.stkSub b z) with q | q
   ·exact f1 q
   ·exact f2' q
 have fin:∀ (s':Shared) (σ':St) (H':Hp),Inv (i7 X scope cl N' { s2 with heap:=h3,toks:=s2.toks } (upd H2 s2.heap.objs.size (.lst [])) fp (XeC X E pins σ h3.objs.size)) [] σ' H' s'->Q (.ref s2.heap.objs.size) H' ->
   compPost (model X.prog X.w) X.A X.xe none (EP X pins σ Q) (.ref s2.heap.objs.size) h3.objs.size (.ok .next) s':=fun s' σ' H' I' q'=>by
  obtain⟨m,hm,_⟩:=id I'.loc
  have I5:Inv X pins σ H' s':=I3'.call' (ch:=fp) I'.os I'.base I'.hok I'.bare fun b hb=>by
   obtain⟨f0,f1,f2',f3',f4,f5⟩:=f3 b hb
   exact⟨f3',f1,f4,f5⟩
  refine⟨m,hm,fun h' hsb=>?_⟩
  refine⟨.ref s2.heap.objs.size,H',?_,rfl,q'⟩
  have hfc:H' h3.objs.size=none:=I'.free
  have hcl1:∀ b o,h3.get? b=some o->b≠h3.objs.size:=fun b o eb=>g9 (c6 eb)
  obtain⟨h0',g0,d0,t0,o0⟩:=s'
  refine I5.turned (t':=t0) (it:=h3.objs.size) (fun b o hb eb=>(hsb.2 b hb).trans eb) hfc ?_ (.inr I3'.sz) (fun x c ex z=>?_) (fun p hp z=>?_)
  ·exact T2 I3'.lt
  ·obtain⟨v',q2⟩:=I3'.cell x c ex
   exact absurd q2.lt (by rw[z];exact n0 _)
  ·exact absurd (c6 (I3'.pin p hp).1) (by rw[z];exact n0 _)
 have loop:∀ s5:Shared,s5={ s2 with heap:=h1,toks:=s2.toks+([]:List (Str × Value)).length } ->
   codeAny (model X.prog X.w) X.A (.compLoop (.ListComp elt [⟨tg,iter,ifs,0⟩] scope pos) 0 (.ref it) (.ref s2.heap.objs.size) (compEnvC scope cl h3.objs.size X.env)) (compPost (model X.prog X.w) X.A X.xe none (EP X pins σ Q) (.ref s2.heap.objs.size) h3.objs.size) s5:=by
  rintro s5 rfl
  refine codeAny_loop rfl (fun n s'=>∃ i xs σ' H',Inv (i7 X scope cl N' { s2 with heap:=h3,toks:=s2.toks } (upd H2 s2.heap.objs.size (.lst [])) fp (XeC X E pins σ h3.objs.size)) [] σ' H' s'/\tn i s'.heap/\(∀ b∈fp,H' b=none)/\W i n xs σ' H')
   (fun n s6 hI=>?_) m0 ⟨0,[],M4 lk σ,_,I4,st4,fun b hb=>(f3 b hb).1,w0⟩
  obtain⟨i,xs,σ6,H6,I6,st6,fr6,w6⟩:=hI
  show wpAny _ X.A ((compTurn (.ListComp elt [⟨tg,iter,ifs,0⟩] scope pos) 0 (.ref it) (.ref s2.heap.objs.size) (compEnvC scope cl h3.objs.size X.env)).onRaise (fun x=>do noteFrame x (compEnvC scope cl h3.objs.size X.env);theTreesLotGoes x)) _ _ s6
  refine wpAny_noted ?_
  rw[compTurn_list]
  refine wpAny_bind (wpAny_standAt (wpAny_bind ?_))
  obtain⟨hD6,hw⟩:=turn i n xs σ6 H6 w6
  rcases hw with⟨stop,qn⟩ | ⟨go,hlen,step⟩
  ·refine thn (T.done (i7 X scope cl N' { s2 with heap:=h3,toks:=s2.toks } (upd H2 s2.heap.objs.size (.lst [])) fp (XeC X E pins σ h3.objs.size)) rfl rfl rfl hc i [] s6 σ6 H6 _ I6 (stat fr6) st6 stop) fun r s7 ⟨hr,I7⟩=>?_
   subst hr
   exact wpAny_pure (fin s7 σ6 H6 I7 qn)
  ·refine thn (T.item (i7 X scope cl N' { s2 with heap:=h3,toks:=s2.toks } (upd H2 s2.heap.objs.size (.lst [])) fp (XeC X E pins σ h3.objs.size)) rfl rfl rfl hc i [] s6 σ6 H6 _ I6 (stat fr6) st6 go) fun r s7 ⟨u,hr,h7⟩=>?_
   subst hr
   refine wpAny_bind (thn h7 fun _ s8 ⟨x,H8,I8,r8,y8,st8,fr8⟩=>?_)
   have I8':=I8.pinned (stat fr8) (T.obj _ _ st8)
   refine wpAny_bind (wpAny_mono (hg pins σ _ _ _ _ s8 σ6 H8 x u _ I8' r8 (step x H8 y8)) (fun _ s9 ⟨σ9,H9,I9,q9⟩=>?_) (fun _ _ z=>v9 eX rfl z))
   refine wpAny_bind (wpAny_mono (ht pins σ _ _ _ _ s9 σ9 H9 _ I9 q9) (fun ok s10 ⟨H10,I10,q10⟩=>?_) (fun _ _ z=>v9 eX rfl z))
   have again:∀ {σ':St} {H':Hp} {ys:List V} {s':Shared},Inv (i7 X scope cl N' { s2 with heap:=h3,toks:=s2.toks } (upd H2 s2.heap.objs.size (.lst [])) fp (XeC X E pins σ h3.objs.size)) ([]++I0 fp s8.heap) σ' H' s'->(∃ m',m'<n/\W (i+1) m' ys σ' H') ->
     ∃ m',m'<n/\∃ i xs σ' H',Inv (i7 X scope cl N' { s2 with heap:=h3,toks:=s2.toks } (upd H2 s2.heap.objs.size (.lst [])) fp (XeC X E pins σ h3.objs.size)) [] σ' H' s'/\tn i s'.heap/\(∀ b∈fp,H' b=none)/\W i m' xs σ' H':=fun {σ' H' ys s'} I' ⟨m',hm,w'⟩=>by
    refine⟨m',hm,i+1,ys,σ',H',I'.unpinned,T.keep _ _ _ st8 fun b hb o eb=>(I'.pin (b,o) (d5 _ (d5 _ (q0 hb eb)))).1,fun b hb=>?_,w'⟩
    obtain⟨o,eb,_⟩:=T.obj _ _ st8 b hb
    exact(I'.pin (b,o) (d5 _ (d5 _ (q0 hb eb)))).2.1
   cases ok with
   | false =>
    have q10':∃ m',m'<n/\W (i+1) m' xs σ9 H10:=by simpa using q10
    exact wpAny_pure ⟨rfl,again I10 q10'⟩
   | true =>
    rw[if_pos rfl]at q10
    refine wpAny_bind (wpAny_bind (wpAny_mono (he pins σ _ _ _ I3' f3 _ s10 σ9 H10 _ I10 q10) (fun y s11 ⟨v11,H11,I11,r11,hD11,q11⟩=>?_) (fun _ _ z=>v9 eX rfl z)))
    refine wpAny_bind (wpAny_mono (C2 (X:=i7 X scope cl N' { s2 with heap:=h3,toks:=s2.toks } (upd H2 s2.heap.objs.size (.lst [])) fp (XeC X E pins σ h3.objs.size)) _ s11 σ9 H11 (.ref s2.heap.objs.size) [v11] (.ref s2.heap.objs.size) [y] (fun _ H'=>∃ m',m'<n/\W (i+1) m' (xs++[v11]) σ9 H') I11 rfl (.cons r11 .nil) ⟨s2.heap.objs.size,xs,v11,rfl,rfl,hD11,hlen,q11⟩) (fun _ s12 ⟨_,H12,I12,_,q12⟩=>?_) (fun _ _ z=>v9 eX rfl z))
    exact wpAny_pure (wpAny_pure ⟨rfl,again I12 q12⟩)
 exact codeAny_compStart_list (loop _ rfl) (T.self X.A 0 _ _ _ st4 (loop _ rfl))
end
section
variable {P:Program} {w:World} {K:W.Frag} {mg:Str->Option Value} {base:Heap} {N:List Str} {qual:Str} {scope0:Scope} {f:Addr} {cd:Value} {A:Around} {outer:List Env} {s0:Shared} {H0:Hp} {E:XK} {X:Cx}
theorem X0 (eX:X=B6 (CXE P w) P w K mg base N qual scope0 f cd A outer s0 H0 E) {elt iter tg:Expr} {ifs:List Expr} {scope:Scope} {pos ipos:Pos} {cl:List (Str × Addr)} {N':List Str} {lk:List (Option Nat)} {wi:TI} {g:TG} {tt:TT} {te:TE} {use:Option (Value->Sem Unit)} {R:Value->Shared->Prop} {Q:VK} {pins:List (Addr × Obj)} {s:Shared} {σ:St} {H:Hp}
  (hc:X.calm=true) (hi:PI X tg iter wi) (hclos:closureFor scope X.env=pure cl) (hkind:scope.kind=.function)
  (hnames:∀ y∈scope.names,y.2=.local->scope.names.lookup y.1=some .local) (hcl:T1 X.env cl) (hfr:S9 scope.names cl=true) (hlk:ab7 X N' lk scope cl)
  (hg:∀ pins σ s3 H3 fp,PG (i7 X scope cl N' s3 H3 fp (XeC X E pins σ s3.heap.objs.size)) tg g) (ht:∀ pins σ s3 H3 fp,PTs (i7 X scope cl N' s3 H3 fp (XeC X E pins σ s3.heap.objs.size)) ifs tt) (he:∀ pins σ s3 H3 fp,Inv X pins σ H3 s3->(∀ b∈fp,C4 X pins H3 b)->PE (i7 X scope cl N' s3 H3 fp (XeC X E pins σ s3.heap.objs.size)) elt te)
  (hs:∀ x,foldedSetIterable iter X.env x=pure x) (I:Inv X pins σ H s) (h:X6 wi lk g tt te σ H Q)
  (hend : ∀ (C D : Addr) (s' : Shared) (H' : Hp), Inv X pins σ H' s' -> Q (.ref D) H' -> H' C = none -> C ≠ X.env.locals -> X.s₀.heap.objs.size <= C -> (∀ x c, X.env.cells.lookup x = some c -> c ≠ C) -> (∀ p ∈ X.pn ++ pins, p.1 ≠ C) -> (∃ m, s'.heap.Ns C m) ->
   compPost (model X.prog X.w) X.A X.xe use R (.ref D) C (.ok .next) s') :
  wpAny (model X.prog X.w) X.A (comprehension (.ListComp elt [⟨tg,iter,ifs,0⟩] scope pos) scope X.env ipos (newList []) false (eval iter X.env) use) R X.xe s:=by
 have hcellN:∀ y∈scope.names,y.2≠.cell:=fun y hy=>by
  unfold S9 at hfr
  rw[h9]at hfr
  have:=hfr y hy
  rw[d6]at this
  simpa using this.1
 refine wpAny_comprehension_free (use:=use) rfl hs hclos hkind hnames (thn (hi pins s σ H _ I h) fun v s1 h1=>thn h1 fun itv s2 h2=>?_)
 obtain⟨it,fp,tn,J,H2,e,I2,T,st2,f2,q⟩:=h2
 subst e
 refine wpAny_newList ?_ (o6 _)
 have hD:H2 s2.heap.objs.size=none:=I2.hok.fresh (c9 _)
 have I3:=I2.lnew (ys:=[]) (its:=[]) (t':=s2.toks) .nil (o6 _)
 obtain⟨W,⟨m0,w0⟩,turn⟩:=q s2.heap.objs.size hD
 have fpl:∀ b∈fp,b<s2.heap.objs.size:=fun b hb=>by
  obtain⟨o,ho,_⟩:=T.obj 0 s2.heap st2 b hb
  exact c6 ho
 refine wpAny_newFunctionEnv hcellN (by intro y hy;cases hy) (fun h1 hns1 hsb1=>?_) hkind
 dsimp only at hns1 hsb1 ⊢
 have e3:s2.heap.push { cls:=.type "list",dict:=none,data:=.seq ([]:List Value).toArray }=s2.heap.push { cls:=.type "list",data:=.seq ([]:List Value).toArray }:=rfl
 generalize hh3:s2.heap.push { cls:=.type "list",dict:=none,data:=.seq ([]:List Value).toArray }=h3 at *
 have I3':Inv X pins σ (upd H2 s2.heap.objs.size (.lst [])) { s2 with heap:=h3,toks:=s2.toks }:=I3
 have size3:h3.objs.size=s2.heap.objs.size+1:=by rw[<- hh3,X1]
 have f3:∀ b∈fp,C4 X pins (upd H2 s2.heap.objs.size (.lst [])) b:=fun b hb=>by
  obtain⟨f0,fr⟩:=f2 b hb
  exact⟨by rw[p6 (g9 (fpl b hb))];exact f0,fr⟩
 have up:∀ b u,h3.get? b=some u->h1.get? b=some u:=fun b u eb=>by
  rw[hsb1.2 b (g9 (c6 eb))]
  exact c8 _ eb
 have I4:Inv (i7 X scope cl N' { s2 with heap:=h3,toks:=s2.toks } (upd H2 s2.heap.objs.size (.lst [])) fp (XeC X E pins σ h3.objs.size)) [] (M4 lk σ) (upd H2 s2.heap.objs.size (.lst [])) { s2 with heap:=h1,toks:=s2.toks+([]:List (Str × Value)).length }:=
  J0 (s3:={ s2 with heap:=h3,toks:=s2.toks }) I3' f3 hkind hcl hfr hlk hns1 up fun b hb=>by show b<h3.objs.size;rw[size3];exact u4 (fpl b hb)
 have st4:tn 0 h1:=T.keep 0 s2.heap h1 st2 fun b hb o eb=>up b o (by rw[<- hh3];exact c8 _ eb)
 have hCs:h3.objs.size=(compEnvC scope cl h3.objs.size X.env).locals:=rfl
 have stat:∀ {H':Hp},(∀ b∈fp,H' b=none)->∀ b∈fp,C4 (i7 X scope cl N' { s2 with heap:=h3,toks:=s2.toks } (upd H2 s2.heap.objs.size (.lst [])) fp (XeC X E pins σ h3.objs.size)) [] H' b:=fun {H'} hn b hb=>by
  obtain⟨f0,f1,f2',f3',f4,f5⟩:=f3 b hb
  refine⟨hn b hb,?_,fun z=>?_,.inl hb,fun x c ex=>f4 x c (hcl.get ex),fun p hp=>nomatch hp⟩
  ·show b≠h3.objs.size
   rw[size3]
   exact g9 (u4 (fpl b hb))
  ·rcases k6.mp (I3'.stkSub b z) with q | q
   ·exact f1 q
   ·exact f2' q
 have fin:∀ (s':Shared) (σ':St) (H':Hp),Inv (i7 X scope cl N' { s2 with heap:=h3,toks:=s2.toks } (upd H2 s2.heap.objs.size (.lst [])) fp (XeC X E pins σ h3.objs.size)) [] σ' H' s'->Q (.ref s2.heap.objs.size) H' ->
   compPost (model X.prog X.w) X.A X.xe use R (.ref s2.heap.objs.size) h3.objs.size (.ok .next) s':=fun s' σ' H' I' q'=>by
  obtain⟨m,hm,_⟩:=id I'.loc
  have I5:Inv X pins σ H' s':=I3'.call' (ch:=fp) I'.os I'.base I'.hok I'.bare fun b hb=>by
   obtain⟨f0,f1,f2',f3',f4,f5⟩:=f3 b hb
   exact⟨f3',f1,f4,f5⟩
  exact hend h3.objs.size s2.heap.objs.size s' H' I5 q' I'.free (T2 I3'.lt) I3'.sz (fun x c ex z=>by
   obtain⟨v',q2⟩:=I3'.cell x c ex
   exact absurd q2.lt (by rw[z];exact n0 _)) (fun p hp z=>absurd (c6 (I3'.pin p hp).1) (by rw[z];exact n0 _)) ⟨m,hm⟩
 have loop:∀ s5:Shared,s5={ s2 with heap:=h1,toks:=s2.toks+([]:List (Str × Value)).length } ->
   codeAny (model X.prog X.w) X.A (.compLoop (.ListComp elt [⟨tg,iter,ifs,0⟩] scope pos) 0 (.ref it) (.ref s2.heap.objs.size) (compEnvC scope cl h3.objs.size X.env)) (compPost (model X.prog X.w) X.A X.xe use R (.ref s2.heap.objs.size) h3.objs.size) s5:=by
  rintro s5 rfl
  refine codeAny_loop rfl (fun n s'=>∃ i xs σ' H',Inv (i7 X scope cl N' { s2 with heap:=h3,toks:=s2.toks } (upd H2 s2.heap.objs.size (.lst [])) fp (XeC X E pins σ h3.objs.size)) [] σ' H' s'/\tn i s'.heap/\(∀ b∈fp,H' b=none)/\W i n xs σ' H')
   (fun n s6 hI=>?_) m0 ⟨0,[],M4 lk σ,_,I4,st4,fun b hb=>(f3 b hb).1,w0⟩
  obtain⟨i,xs,σ6,H6,I6,st6,fr6,w6⟩:=hI
  show wpAny _ X.A ((compTurn (.ListComp elt [⟨tg,iter,ifs,0⟩] scope pos) 0 (.ref it) (.ref s2.heap.objs.size) (compEnvC scope cl h3.objs.size X.env)).onRaise (fun x=>do noteFrame x (compEnvC scope cl h3.objs.size X.env);theTreesLotGoes x)) _ _ s6
  refine wpAny_noted ?_
  rw[compTurn_list]
  refine wpAny_bind (wpAny_standAt (wpAny_bind ?_))
  obtain⟨hD6,hw⟩:=turn i n xs σ6 H6 w6
  rcases hw with⟨stop,qn⟩ | ⟨go,hlen,step⟩
  ·refine thn (T.done (i7 X scope cl N' { s2 with heap:=h3,toks:=s2.toks } (upd H2 s2.heap.objs.size (.lst [])) fp (XeC X E pins σ h3.objs.size)) rfl rfl rfl hc i [] s6 σ6 H6 _ I6 (stat fr6) st6 stop) fun r s7 ⟨hr,I7⟩=>?_
   subst hr
   exact wpAny_pure (fin s7 σ6 H6 I7 qn)
  ·refine thn (T.item (i7 X scope cl N' { s2 with heap:=h3,toks:=s2.toks } (upd H2 s2.heap.objs.size (.lst [])) fp (XeC X E pins σ h3.objs.size)) rfl rfl rfl hc i [] s6 σ6 H6 _ I6 (stat fr6) st6 go) fun r s7 ⟨u,hr,h7⟩=>?_
   subst hr
   refine wpAny_bind (thn h7 fun _ s8 ⟨x,H8,I8,r8,y8,st8,fr8⟩=>?_)
   have I8':=I8.pinned (stat fr8) (T.obj _ _ st8)
   refine wpAny_bind (wpAny_mono (hg pins σ _ _ _ _ s8 σ6 H8 x u _ I8' r8 (step x H8 y8)) (fun _ s9 ⟨σ9,H9,I9,q9⟩=>?_) (fun _ _ z=>v9 (Q:=R) (acc:=.none) eX rfl z))
   refine wpAny_bind (wpAny_mono (ht pins σ _ _ _ _ s9 σ9 H9 _ I9 q9) (fun ok s10 ⟨H10,I10,q10⟩=>?_) (fun _ _ z=>v9 (Q:=R) (acc:=.none) eX rfl z))
   have again:∀ {σ':St} {H':Hp} {ys:List V} {s':Shared},Inv (i7 X scope cl N' { s2 with heap:=h3,toks:=s2.toks } (upd H2 s2.heap.objs.size (.lst [])) fp (XeC X E pins σ h3.objs.size)) ([]++I0 fp s8.heap) σ' H' s'->(∃ m',m'<n/\W (i+1) m' ys σ' H') ->
     ∃ m',m'<n/\∃ i xs σ' H',Inv (i7 X scope cl N' { s2 with heap:=h3,toks:=s2.toks } (upd H2 s2.heap.objs.size (.lst [])) fp (XeC X E pins σ h3.objs.size)) [] σ' H' s'/\tn i s'.heap/\(∀ b∈fp,H' b=none)/\W i m' xs σ' H':=fun {σ' H' ys s'} I' ⟨m',hm,w'⟩=>by
    refine⟨m',hm,i+1,ys,σ',H',I'.unpinned,T.keep _ _ _ st8 fun b hb o eb=>(I'.pin (b,o) (d5 _ (d5 _ (q0 hb eb)))).1,fun b hb=>?_,w'⟩
    obtain⟨o,eb,_⟩:=T.obj _ _ st8 b hb
    exact(I'.pin (b,o) (d5 _ (d5 _ (q0 hb eb)))).2.1
   cases ok with
   | false =>
    have q10':∃ m',m'<n/\W (i+1) m' xs σ9 H10:=by simpa using q10
    exact wpAny_pure ⟨rfl,again I10 q10'⟩
   | true =>
    rw[if_pos rfl]at q10
    refine wpAny_bind (wpAny_bind (wpAny_mono (he pins σ _ _ _ I3' f3 _ s10 σ9 H10 _ I10 q10) (fun y s11 ⟨v11,H11,I11,r11,hD11,q11⟩=>?_) (fun _ _ z=>v9 (Q:=R) (acc:=.none) eX rfl z)))
    refine wpAny_bind (wpAny_mono (C2 (X:=i7 X scope cl N' { s2 with heap:=h3,toks:=s2.toks } (upd H2 s2.heap.objs.size (.lst [])) fp (XeC X E pins σ h3.objs.size)) _ s11 σ9 H11 (.ref s2.heap.objs.size) [v11] (.ref s2.heap.objs.size) [y] (fun _ H'=>∃ m',m'<n/\W (i+1) m' (xs++[v11]) σ9 H') I11 rfl (.cons r11 .nil) ⟨s2.heap.objs.size,xs,v11,rfl,rfl,hD11,hlen,q11⟩) (fun _ s12 ⟨_,H12,I12,_,q12⟩=>?_) (fun _ _ z=>v9 (Q:=R) (acc:=.none) eX rfl z))
    exact wpAny_pure (wpAny_pure ⟨rfl,again I12 q12⟩)
 exact codeAny_compStart_list (loop _ rfl) (T.self X.A 0 _ _ _ st4 (loop _ rfl))
theorem U3 (eX:X=B6 (CXE P w) P w K mg base N qual scope0 f cd A outer s0 H0 E){i:Nat}{y:Str}{py:Pos}{elt iter tg:Expr}{ifs:List Expr}{scope:Scope}{pos spos:Pos}{cl:List (Str × Addr)}{N':List Str}{lk:List (Option Nat)}{wi:TI}{g:TG}{tt:TT}{te:TE}
  (hN:X.N.Nodup)(hy:X.N[i]?=some y)(hyl:X.env.scope.names.lookup y=some .local)
  (hsw:swapsWith (.ListComp elt [⟨tg,iter,ifs,0⟩] scope pos) (some (.Name y py)) spos.line X.env=pure true)
  (hc:X.calm=true)(hi:PI X tg iter wi)(hclos:closureFor scope X.env=pure cl)(hkind:scope.kind=.function)
  (hnames:∀ y∈scope.names,y.2=.local->scope.names.lookup y.1=some .local)(hcl:T1 X.env cl)(hfr:S9 scope.names cl=true)(hlk:ab7 X N' lk scope cl)
  (hg:∀ pins σ s3 H3 fp,PG (i7 X scope cl N' s3 H3 fp (XeC X E pins σ s3.heap.objs.size)) tg g)(ht:∀ pins σ s3 H3 fp,PTs (i7 X scope cl N' s3 H3 fp (XeC X E pins σ s3.heap.objs.size)) ifs tt)(he:∀ pins σ s3 H3 fp,Inv X pins σ H3 s3->(∀ b∈fp,C4 X pins H3 b)->PE (i7 X scope cl N' s3 H3 fp (XeC X E pins σ s3.heap.objs.size)) elt te)
  (hs:∀ x,foldedSetIterable iter X.env x=pure x:=by intro _;rfl):PS X (.Assign [.Name y py] (.ListComp elt [⟨tg,iter,ifs,0⟩] scope pos) spos) (ar7 i (X6 wi lk g tt te)):=by
 intro pins s σ H D I h
 rw[exec_Assign_Name_used _ _ _ _ hsw]
 refine wpAny_bind (wpAny_standAt (wpAny_bind ?_))
 show wpAny _ X.A (do let _ <- comprehension (.ListComp elt [⟨tg,iter,ifs,0⟩] scope pos) scope X.env _ (newList []) false (eval iter X.env) (some (assign (.Name y py) X.env))) _ _ s
 refine wpAny_bind (thn (X0 eX (use:=some (assign (.Name y py) X.env)) (R:=fun _ s'=>SP X pins D .next s') hc hi hclos hkind hnames hcl hfr hlk hg ht he hs I h
  fun C Dd s' H' I' q' hC hCL hCs hCc hCp ⟨m,hm⟩=>?_) fun _ s' hq=>wpAny_pure (wpAny_pure hq))
 show wpAny _ X.A (assign (.Name y py) X.env (.ref Dd)) _ _ s'
 refine wpAny_assign_Name (P4 (v:=.ref Dd) I' hN hy (.inl hyl) rfl (fun s2 I2 ⟨a,hsb,ha⟩=>?_) (.inr hyl))
 have hCa:C≠a:=by
  rcases ha with z | z
  ·rw[z];exact hCL
  ·exact(hCc y a z).symm
 refine⟨m,hm.sameBut hsb hCa,fun h' hs'=>?_⟩
 obtain⟨h0,g0,d0,t0,o0⟩:=s2
 exact⟨_,H',I2.turned (t':=t0) (it:=C) (fun b o hb eb=>(hs'.2 b hb).trans eb) hC hCL (.inr hCs) hCc hCp,q'⟩
end
def ar6 (K:W.Frag)(CT:Addr)(tb:(St->XK)->TS)(th:TS):TS:=fun D σ H=>∃ E:St->XK,tb E D σ H/\∀ σ' cls H',E σ' cls none H'->PySem.W.exmOne K cls (.ref CT)=some true/\th D σ' H'
theorem R5 {X:Cx}{body suite:List Stmt}{b0:Stmt}{tn:Str}{np pos hpos:Pos}{CT:Addr}{tb:(St->XK)->TS}{th:TS}
  (hg:Gl X tn)(hm:X.mg tn=some (.ref CT))(hst:X.stack=X.env::X.outer)(hfr:X.env.frame=some X.env.locals)(hbody:∀ pins E,PSs (X5 X pins E) body (tb E))(hh:∀ v,PSs (aq1 X v) (b0::suite) th)
  (hd:(tn == ("__debug__":Str))=false:=by decide) :
  PS X (.Try body [.ExceptHandler (some (.Name tn np)) none (b0::suite) hpos] [] [] pos) (ar6 X.K CT tb th):=by
 intro pins s σ H D I hw
 obtain⟨E,hb,hcatch⟩:=hw
 refine wpAny_Try_except (wpAny_mono (hbody pins E [] s σ H D I.toTry hb) (fun fl s1 q=>?_) fun e s1 hx=>?_)
 ·cases fl with
  | next =>
   obtain⟨σ',H',I',q⟩:=q
   exact wpAny_execs_nil ⟨σ',H',I'.ofTry,q⟩
  | brk=>obtain⟨σ',H',I',q⟩:=q;exact⟨σ',H',I'.ofTry,q⟩
  | cont=>obtain⟨σ',H',I',q⟩:=q;exact⟨σ',H',I'.ofTry,q⟩
  | ret u=>obtain⟨v,σ',H',I',r,q⟩:=q;exact⟨v,σ',H',I'.ofTry,r,q⟩
 ·obtain⟨σ1,H1,s0,I1,x,cls,H2,rfl,hos,hbare,u,hok,new,hxn,⟨B,a0,fl,st⟩,hE⟩:=hx
  obtain⟨hmat,hth⟩:=hcatch σ1 cls H2 hE
  have hfl:Heap.FlyingW B (X.env::X.outer) x cls a0 s1.heap:=by rw[hst]at fl;exact fl
  have frNone:∀ b∈frs X.stack,H2 b=none:=fun b hb=>by
   obtain⟨_,o,ho,_⟩:=I1.stack.mem hb
   exact u.free b o ho (I1.stkFree b hb) (by simp)
  have step:∀ h',B.StaysIn h'->s1.heap.UpToSlots h'->Un (frs X.stack) [] H1 H2 s0.heap h'/\HOk X.prog X.w H2 h':=fun h' hB hu=>by
   refine⟨u.onto (fun b o ho hh hno=>hB b o (st b o ho (.inr hh) hno)) fun b o ho hh hm'=>?_,hok.stays fun b o ho hh=>hB b o (st b o ho (.inl hh) fun hm'=>hh (frNone b hm'))⟩
   obtain⟨_,o',ho',hdd⟩:=hfl.2.2.1.mem (b:=b) (by rw[hst]at hm';exact hm')
   rw[ho]at ho'
   cases ho'
   exact hu b o ho hdd
  have inv:∀ h',B.StaysIn h'->s1.heap.UpToSlots h'->Inv X pins σ1 H2 { s1 with heap:=h' }:=fun h' hB hu=>by
   obtain⟨un,ok⟩:=step h' hB hu
   exact I1.call' (s':={ s1 with heap:=h' }) (ch:=[]) hos un ok hbare fun b hb=>by cases hb
  have hfrm:X.A.frames=some (X.env::X.outer):=by rw[<- hst];exact I1.ok.frames
  refine wpAny_looks_onW hfrm hfr hfl fun h4 held4 up4=>?_
  refine wpAny_landsW held4 fun h5 fl5 up5=>?_
  have up15:=up4.trans up5
  have I5:=inv h5 fl5.1 up15
  refine wpAny_handleBy_cons (codeAny_handlers_test ?_) (by intro q;cases q)
  refine J5 (I5.toHd (.ref x)) hg hm ?_ hd
  have LT:PySem.W.Looks (model X.prog X.w) h5 (typeOf (.ref x)) cls:=by
   obtain⟨ob,hob,hc⟩:=fl5.there
   subst hc
   exact(PySem.W.Looks.ld hob).andThen .now
  refine(PySem.W.exm_one (M:=model X.prog X.w) I5.kIn LT hmat).here ?_
  refine codeAny_handlers_suite ?_
  refine lands_againW fl5 fun h6 fl6 up6=>?_
  have up16:=up15.trans up6
  have I7:=inv h6 fl6.1 up16
  refine wpAny_mono (hh (.ref x) pins { s1 with heap:=h6 } σ1 H2 D (I7.toHd _) hth) (fun fl' s9 q=>?_) (fun _ _ z=>False.elim z)
  have hdX:=I.ok.hd
  cases fl' with
  | next =>
   obtain⟨σ',H',I',q⟩:=q
   exact⟨σ',H',I'.ofHd hdX,q⟩
  | brk =>
   obtain⟨σ',H',I',q⟩:=q
   exact⟨σ',H',I'.ofHd hdX,q⟩
  | cont =>
   obtain⟨σ',H',I',q⟩:=q
   exact⟨σ',H',I'.ofHd hdX,q⟩
  | ret u' =>
   obtain⟨v,σ',H',I',r,q⟩:=q
   exact⟨v,σ',H',I'.ofHd hdX,r,q⟩
end L2
namespace Web
open PySem L2
def top (i:Nat):Stmt:=PySem.Challenge.pw_tallyweb_k65_questions_refused.main.body.getD i (.Pass ⟨0,0,0,0⟩)
abbrev L0:Stmt:=top 14
abbrev A8:Stmt:=top 18
abbrev O4:Stmt:=top 20
abbrev D7:Stmt:=top 29
abbrev J2:Stmt:=top 30
abbrev O3:Stmt:=top 31
abbrev U1:Stmt:=top 38
abbrev L3:Stmt:=top 40
abbrev U0:Stmt:=top 46
abbrev L1:Stmt:=top 49
abbrev sPT:Stmt:=top 56
abbrev T7:Stmt:=top 58
abbrev T9:Stmt:=top 68
abbrev R4:Stmt:=top 73
abbrev sNW:Stmt:=top 74
abbrev sNI:Stmt:=top 75
abbrev D8:Stmt:=top 76
abbrev C8:Stmt:=top 78
abbrev O2:Stmt:=top 80
abbrev y6:Stmt:=top 81
abbrev D1:Stmt:=top 86
abbrev D9:Stmt:=top 89
abbrev A9:Stmt:=top 90
abbrev D6:Stmt:=top 91
abbrev A7:Stmt:=top 92
abbrev E1:Stmt:=top 93
abbrev E2:Stmt:=top 94
abbrev A6:Stmt:=top 95
abbrev C9:Stmt:=top 96
abbrev M9:Stmt:=top 98
abbrev T6:Stmt:=top 99
abbrev G8:Stmt:=top 100
abbrev D0:Stmt:=top 101
abbrev G7:Stmt:=top 102
abbrev R3:Stmt:=top 103
structure Bn (mg:Str->Option Value):Prop where
 len:mg "len"=none
 range:mg "range"=none
 enum:mg "enumerate"=none
 list:mg "list"=none
 tuple:mg "tuple"=none
 sorted:mg "sorted"=none
 set:mg "set"=none
 isin:mg "isinstance"=none
 int:mg "int"=none
 bool:mg "bool"=none
 min:mg "min"=none
 max:mg "max"=none
 sum:mg "sum"=none
 str:mg "str"=none
 ve:mg "ValueError"=none
 all:mg "all"=none
theorem ad5:5000<=sizeLine:=by decide
theorem d4 {H:Hp}{l:Addr}{o:HO}(h:H l=none):j3 H (upd H l o):=fun b u e=>by
 rw[p6 (t9 e h)]
 exact e
section
variable {P:Program} {w:World} {K:W.Frag} {mg:Str->Option Value} {base:Heap}
def ak3:Sp:=fun vs H Q _=>∃ (x:Str) (m:Int),vs=[.str x,.int m]/\x.length<=5000/\∀ H',j3 H H'->Q (.bl (okW m x.cps.toList)) H'
theorem ak5:i0 ["word","most","figures"] ["word","most"] (a6 R4):=⟨rfl,rfl,rfl,by decide +kernel,rfl,by decide +kernel,by decide +kernel⟩
theorem zero_eq (x:Str):decide ((V.str x:V)=.str "0")=decide (x.cps.toList=[48]):=by
 rw[m9,decide_eq_true_iff,decide_eq_true_iff,V.str.injEq,M7]
 rfl
theorem U8 (c:Nat):decide ((V.str ⟨#[c]⟩:V)=.str "0")=decide (c=48):=by
 rw[zero_eq,m9,decide_eq_true_iff,decide_eq_true_iff]
 show [c]=[48]↔_
 simp
theorem ao8 {f:Addr} {fd:FuncData} {tF:Tok} (F:Fun K "is_number" "is_number" R4 f fd) (B:Bn mg) (mF:mg "FIGURES"=some (.str "0123456789" tF)):d7 P w K mg base CX0 1 f fd ["word","most"] ak3:=by
 refine F.ok ak5 (fun vs H Q E h=>?_) (fun cdv A outer s H vs Q E hr h=>?_)
 ·obtain⟨x,m,rfl,_⟩:=h
  rfl
 ·obtain⟨x,m,rfl,hx,q⟩:=h
  have hsl:=ad5
  have nd1:(["sign"]:List Str).Nodup:=by decide +kernel
  refine⟨_,p4 (i6 (i:=2) ak5.nd rfl (Or.inl rfl) (U4 (E3 (v5 PySem.F.plainAttrs_str PySem.F.slot_str_startswith PySem.F.type_str_startswith K3 (pv 0) (a3 e7 b8))) (l9 C7 (pv 0) (n5 a5) p0) (pv 0)))
   (b7 (j8 (PW.pt (N0 (E4 (J3 L5 L5 a5 (o8 N7 (by rfl) B.len PySem.boot_len (a3 (pv 2) b8)) (pv 1)))
     (G9 (E4 (E3 (o8 (ab5 rfl) (by rfl) B.all boot_all (a3
      (R7 (N' := ["sign"]) (lk := [none]) rfl (ae4 (pv 2)) (by rfl) rfl (by decide +kernel) (by exact trivial) (by rfl) (by exact LkL.ok trivial)
       (fun _ _ _=>t7 (i:=0) nd1 rfl (Or.inl rfl)) (fun _ _ _=>F7) (fun _ _ _=>y7 aa7 (pv 0) (u7 (v:=.str "0123456789") (by rfl) mF ⟨tF,rfl⟩) (by rfl))) b8))))))) (c4 (i3 E7)) e8)
   (c4 (i3 (ak6 (y7 p1 (pv 0) e7 (i4 _)) (R6 (y7 L4 (E5 (pv 2) a5 (fun _ _=>rfl)) e7 (i4 _))))))),?_⟩
  have hF:=fgS x
  refine⟨fun σ H2=>∃ y:Str,σ=[some (.str x),some (.int m),some (.str y)]/\H=H2/\y.length<=x.length/\y.cps.toList=fgL x.cps.toList,?_,?_⟩
  ·refine⟨_,rfl,rfl,x,⟨#[45]⟩,rfl,rfl,_,rfl,?_⟩
   by_cases hs:Txt.startswith x ⟨#[45]⟩=true
   ·rw[if_pos hs]at hF
    rw[hs]
    exact v3 ⟨_,rfl,_,rfl,x,rfl,by omega,_,rfl,rfl,Txt.slice_le x _ _,hF⟩
   ·rw[if_neg hs]at hF
    rw[Bool.not_eq_true]at hs
    rw[hs]
    exact x8 ⟨_,rfl,_,rfl,rfl,c9 _,hF⟩
  rintro σ H2 ⟨y,rfl,rfl,hy,eY⟩
  have lY:y.length=(fgL x.cps.toList).length:=by rw[<- m8,eY]
  have fin:∀ b:Bool,okW m x.cps.toList=b->∀ H',j3 H H'->Q (.bl b) H':=fun b e H' s'=>by
   rw[<- e]
   exact q H' s'
  refine⟨_,rfl,_,_,rfl,⟨by omega,rfl⟩,_,_,rfl,rfl,_,rfl,?_⟩
  by_cases h1:(1:Int)<=(y.length:Int)
  ·rw[decide_eq_true h1]
   refine v3 ⟨_,rfl,_,_,rfl,rfl,_,rfl,?_⟩
   by_cases h2:(y.length:Int)<=m
   ·rw[decide_eq_true h2]
    refine x8 ⟨_,rfl,y,rfl,fun D hD=>V3 (x:=y) (D:=D) (fun i xs σ' H'=>(∃ v,σ'=[v])/\j3 H H'/\H' D=some (.lst xs)/\xs=((y.cps.toList.take i).map isD).map V.bl)
     ⟨⟨none,rfl⟩,d4 hD,c5,by rw[X2];rfl⟩ (by omega) (fun i xs σ' H' hi ⟨_,s2,g2,e2⟩=>⟨g2,by rw[e2,a8,a8,o4];omega⟩) ?_ ?_⟩
    ·rintro i xs c σ' H' N kN hc ⟨⟨v,rfl⟩,s2,g2,rfl⟩
     refine t5 (B8 ?_)
     refine⟨_,rfl,_,_,rfl,rfl,?_⟩
     refine⟨g2,kN _ _ _ ⟨⟨_,rfl⟩,s2.upd hD,c5,?_⟩⟩
     rw[af9,O9,hc,k9,k9]
     rfl
    ·rintro xs σ' H1 ⟨⟨v,rfl⟩,s1,g1,rfl⟩
     rw[<- m8,T3]at g1
     refine⟨D,_,rfl,g1,_,rfl,?_⟩
     have ea:((y.cps.toList.map isD).all id)=(fgL x.cps.toList).all isD:=by rw[List.all_map,eY];rfl
     rw[ea]
     cases e3:(fgL x.cps.toList).all isD with
     | false =>
      refine v3 (fin false ?_ H1 s1)
      unfold okW
      rw[e3,M0,k8]
     | true =>
      refine x8 ⟨_,rfl,rfl,_,rfl,?_⟩
      rw[zero_eq]
      have e12:okW m x.cps.toList=(decide (x.cps.toList=[48]) || !decide ((fgL x.cps.toList).head?=some 48)):=by
       unfold okW
       rw[e3,<- lY,decide_eq_true h1,decide_eq_true h2]
       rfl
      cases e4:decide (x.cps.toList=[48]) with
      | true =>
       refine v3 (fin true ?_ H1 s1)
       rw[e12,e4,Bool.true_or]
      | false =>
       have hl:0<y.cps.toList.length:=by rw[m8];omega
       obtain⟨c,l,ec⟩:∃ c l,y.cps.toList=c::l:=by
        cases e:y.cps.toList with
        | nil=>rw[e]at hl;exact absurd hl (by decide)
        | cons c l=>exact⟨c,l,rfl⟩
       refine x8 ⟨_,rfl,y,0,c,rfl,rfl,by decide,by decide,(by show (0:Int)<(y.length:Int);omega),?_,rfl,?_⟩
       ·rw[<- n6,ec];rfl
       ·rw[U8]
        refine fin _ ?_ H1 s1
        rw[e12,e4,Bool.false_or,<- eY,ec]
        show (!decide (some c=some 48))=_
        congr 1
        rw[m9,decide_eq_true_iff,decide_eq_true_iff,Option.some.injEq]
   ·rw[decide_eq_false h2]
    refine v3 (fin false ?_ H (j3.refl H))
    unfold okW
    rw[<- lY,decide_eq_false h2,M0,k8,k8]
  ·rw[decide_eq_false h1]
   refine x8 ⟨_,rfl,v3 (fin false ?_ H (j3.refl H))⟩
   unfold okW
   rw[<- lY,decide_eq_false h1,k8,k8,k8]
def ad2 (CN:Addr):Sp:=fun vs H Q E=>∃ (x:Str) (m:Int),vs=[.str x,.int m]/\x.length<=5000/\m<=100/\(okW m x.cps.toList=true->∀ n H',j3 H H'->PySem.intText? x=some n->Q (.int n) H')/\(okW m x.cps.toList=false->∀ H',j3 H H'->E (.ref CN) none H')
theorem ay6:i0 ["word","most"] ["word","most"] (a6 sNW):=⟨rfl,rfl,rfl,by decide +kernel,rfl,by decide +kernel,by decide +kernel⟩
theorem aa8 {m:Int}{x:Str}(hm:m<=100)(h:okW m x.cps.toList=true):x.length<=640:=by
 unfold okW at h
 rw[d6,d6,d6,decide_eq_true_iff,decide_eq_true_iff]at h
 obtain⟨⟨⟨h1,h2⟩,h3⟩,_⟩:=h
 rw[<- m8]
 unfold fgL at h2
 split at h2
 ·rw[o5]at h2;omega
 ·omega
theorem ak7 {f fI CN:Addr}{fd fdI:FuncData}{tF:Tok}(F:Fun K "number_within" "number_within" sNW f fd)(B:Bn mg)(FI:Fun K "is_number" "is_number" R4 fI fdI)(bI:Binds K fdI ["word","most"] [])(mI:mg "is_number"=some (.ref fI))(mF:mg "FIGURES"=some (.str "0123456789" tF))
  (mN:mg "NoText"=some (.ref CN))(cN:K6 K CN):d7 P w K mg base (CXE P w) 2 f fd ["word","most"] (ad2 CN):=by
 have GI:d7 P w K mg base CX0 1 fI fdI ["word","most"] ak3:=ao8 FI B mF
 refine F.okX ay6 (fun vs H Q E h=>?_) (fun cdv A outer s H vs Q E hr h=>?_)
 ·obtain⟨x,m,rfl,_⟩:=h
  rfl
 ·obtain⟨x,m,rfl,hx,hm,h1,h2⟩:=h
  refine⟨_,b7 (j8 (E4 (E3 (d8 GI hr rfl mI FI.kp bI .nil E8 (a3 (pv 0) (a3 (pv 1) b8))))) (c4 (v8 (by rfl) mN cN)) e8)
   (c4 (i3 (K2 O7 (by rfl) B.int (by rfl) (a3 (pv 0) b8)))),?_⟩
  refine⟨_,rfl,_,rfl,x,m,rfl,hx,fun H1 s1=>⟨_,rfl,?_⟩⟩
  cases e:okW m x.cps.toList with
  | false=>exact v3 (h2 e H1 s1)
  | true =>
   obtain⟨n,hn⟩:=aj0 hm e
   exact x8 ⟨_,rfl,x,n,rfl,hn,aa8 hm e,h1 e n H1 s1 hn⟩
def am2 (CN:Addr):Sp:=fun vs H Q E=>∃ (x:Str),vs=[.str x]/\x.length<=5000/\(okW 60 x.cps.toList=true->∀ n H',j3 H H'->PySem.intText? x=some n->Q (.int n) H')/\(okW 60 x.cps.toList=false->∀ H',j3 H H'->E (.ref CN) none H')
theorem ay7:i0 ["word"] ["word"] (a6 sNI):=⟨rfl,rfl,rfl,by decide +kernel,rfl,by decide +kernel,by decide +kernel⟩
theorem av6 {f fI fW CN:Addr}{fd fdI fdW:FuncData}{tF tM:Tok}(F:Fun K "number_in" "number_in" sNI f fd)(B:Bn mg)(FI:Fun K "is_number" "is_number" R4 fI fdI)(bI:Binds K fdI ["word","most"] [])(mI:mg "is_number"=some (.ref fI))(mF:mg "FIGURES"=some (.str "0123456789" tF))
  (FW:Fun K "number_within" "number_within" sNW fW fdW)(bW:Binds K fdW ["word","most"] [])(mW:mg "number_within"=some (.ref fW))(mM:mg "MOST_FIGURES"=some (.int 60 tM))
  (mN:mg "NoText"=some (.ref CN))(cN:K6 K CN):d7 P w K mg base (CXE P w) 3 f fd ["word"] (am2 CN):=by
 have GW:d7 P w K mg base (CXE P w) 2 fW fdW ["word","most"] (ad2 CN):=ak7 FW B FI bI mI mF mN cN
 refine F.okX ay7 (fun vs H Q E h=>?_) (fun cdv A outer s H vs Q E hr h=>?_)
 ·obtain⟨x,rfl,_⟩:=h
  rfl
 ·obtain⟨x,rfl,hx,h1,h2⟩:=h
  refine⟨_,c4 (i3 (d8 GW hr (by rfl) mW FW.kp bW .nil n8 (a3 (pv 0) (a3 (u7 (v:=.int 60) (by rfl) mM ⟨tM,rfl⟩) b8)))),?_⟩
  exact⟨_,rfl,x,60,rfl,hx,by decide,h1,h2⟩
end
theorem p60:(0:Int)<10 ^ (Int.toNat 60):=Int.pow_pos (by decide)
theorem Y7 (c:Int){n:Nat}(h:0<n):∃ j:Nat,c % (n:Int)=(j:Int)/\j<n:=by
 have h1:=J9 c (show (n:Int)≠0 by omega)
 have h2:=D5 c (show (0:Int)<(n:Int) by omega)
 exact⟨(c % (n:Int)).toNat,by omega,by omega⟩
section
variable {P:Program} {w:World} {K:W.Frag} {mg:Str->Option Value} {base:Heap}
def ad4 (K:W.Frag):Sp:=fun vs H Q _=>∃ (a:Addr) (ns:List Int) (k:Nat),vs=[.ref a,.int k]/\SqL K H a (ns.map V.int)/\∀ r:Int,Q (.int r) H
theorem am9:i0 ["script","k"] ["script","k"] (a6 M9):=⟨rfl,rfl,rfl,by decide +kernel,rfl,by decide +kernel,by decide +kernel⟩
theorem ai7 {f:Addr}{fd:FuncData}(F:Fun K "_law_cell_at" "_law_cell_at" M9 f fd)(B:Bn mg):d7 P w K mg base CX0 1 f fd ["script","k"] (ad4 K):=by
 refine F.ok am9 (fun vs H Q E h=>?_) (fun cdv A outer s H vs Q E hr h=>?_)
 ·obtain⟨a,ns,k,rfl,_⟩:=h
  rfl
 ·obtain⟨a,ns,k,rfl,hS,q⟩:=h
  refine⟨_,b7 (j8 (g7 ae9 (pv 1) (o8 m7 (by rfl) B.len PySem.boot_len (a3 (pv 0) b8)) (i4 _)) (c4 (i3 (n9 l3 (pv 0) (pv 1) (fun _ _=>rfl)))) e8)
   (c4 (i3 a5)),?_⟩
  refine⟨_,rfl,_,rfl,a,_,rfl,.inl hS,_,_,rfl,rfl,_,rfl,?_⟩
  refine p8 (fun h=>?_) (fun h=>?_)
  ·have hl:k<ns.length:=by
    have:=of_decide_eq_true h
    rw[a8]at this
    omega
   refine⟨_,rfl,_,rfl,a,_,_,_,rfl,rfl,hS,j0 (j:=k) (v:=.int ns[k]) (by simp[hl]),?_⟩
   exact q _
  ·exact q _
theorem F9:i0 ["cell","many","size","rest","stir","row","k"] ["cell","many","size"] (a6 T6):=⟨rfl,rfl,rfl,by decide +kernel,rfl,by decide +kernel,by decide +kernel⟩
theorem Y8 {ts:List Int}{z:Int}(hz:0<z)(hb:∀ t∈ts,0<=t/\t<z)(x:Int):∀ t∈ts++[x % z],0<=t/\t<z:=fun t ht=>by
 rcases j9.mp ht with h | h
 ·exact hb t h
 ·rw[i8.mp h]
  exact⟨J9 _ (by omega),D5 _ hz⟩
def ac9 (K:W.Frag):Sp:=fun vs H Q _=>∃ (c:Int) (m z:Nat),vs=[.int c,.int m,.int z]/\m<=300/\1<=z/\z<=100000000/\∀ (l:Addr) (ts:List Int) (H':Hp),ts.length=m->(∀ t∈ts,0<=t/\t<(z:Int))->j3 H H'->H l=none->H' l=some (.lst (ts.map V.int))->Q (.ref l) H'
theorem ai4 {f:Addr} {fd:FuncData} (F:Fun K "_law_row" "_law_row" T6 f fd) (B:Bn mg):d7 P w K mg base CX0 1 f fd ["cell","many","size"] (ac9 K):=by
 refine F.ok F9 (fun vs H Q E h=>?_) (fun cdv A outer s H vs Q E hr h=>?_)
 ·obtain⟨c,m,z,rfl,_⟩:=h
  rfl
 ·obtain⟨c,m,z,rfl,hm,hz1,hz2,q⟩:=h
  have hsl:=ad5
  have hz0:(0:Int)<(z:Int):=by omega
  refine⟨_,b7 (i6 (i:=0) F9.nd rfl (Or.inl rfl) (g4 o9 (pv 0) (g4 R8 a5 a5)))
   (b7 (i6 (i:=3) F9.nd rfl (Or.inl rfl) (g4 p5 (pv 0) a5))
   (b7 (i6 (i:=4) F9.nd rfl (Or.inl rfl) (pv 0))
   (b7 (i6 (i:=5) F9.nd rfl (Or.inl rfl) (B4 b8))
   (b7 (N1 PassesOwn.never rfl (P6 rfl B.range (a3 (pv 1) b8)) (t7 (i := 6) F9.nd rfl (Or.inl rfl))
    (c4 (j8 (g7 p1 (g4 o9 (pv 0) a5) a5 (i4 _))
     (b7 (u6 (v5 PySem.F.plainAttrs_list PySem.F.slot_list_append PySem.F.type_list_append C2 (pv 5) (a3 (g4 o9 (pv 3) (pv 2)) b8)))
     (c4 (i6 (i:=3) F9.nd rfl (Or.inl rfl) (g4 p5 (pv 3) (pv 2)))))
     (b7 (i6 (i:=4) F9.nd rfl (Or.inl rfl) (g4 o9 (g4 x6 (g4 o9 (pv 4) a5) (g4 W4 a5 (g4 x6 (pv 6) a5))) a5))
     (b7 (i6 (i:=4) F9.nd rfl (Or.inl rfl) (g4 o9 (g4 W4 (pv 4) (pv 4)) a5))
     (b7 (i6 (i:=4) F9.nd rfl (Or.inl rfl) (g4 o9 (g4 W4 (pv 4) a5) a5))
     (c4 (u6 (v5 PySem.F.plainAttrs_list PySem.F.slot_list_append PySem.F.type_list_append C2 (pv 5) (a3 (g4 o9 (g4 p5 (pv 4) a5) (pv 2)) b8))))))))))
   (c4 (i3 (pv 5))))))),?_⟩
  refine⟨_,rfl,_,_,rfl,rfl,⟨by decide,by decide,by decide⟩,_,_,rfl,rfl,p60,?_⟩
  refine p7 fun c1 _=>?_
  refine⟨_,rfl,_,_,rfl,rfl,⟨by decide,by decide⟩,?_⟩
  refine p7 fun r0 _=>?_
  refine⟨_,rfl,?_⟩
  refine⟨by show 0<=sizeLine;omega,fun l hl=>?_⟩
  have s0:=d4 (o:=.lst []) hl
  refine⟨_,rfl,m,rfl,by omega,by omega,Q0 (lo:=0) (n:=m) (fun i σ H1=>∃ (ts:List Int) (r st:Int) (e6:Option V),σ=[some (.int c1),some (.int m),some (.int z),some (.int r),some (.int st),some (.ref l),e6]/\j3 H H1/\H1 l=some (.lst (ts.map V.int))/\ts.length=i/\∀ t∈ts,0<=t/\t<(z:Int))
   ⟨[],r0,c1,none,rfl,s0,c5,rfl,fun t h=>by cases h⟩ ?_ ?_⟩
  ·rintro i σ H1 hi ⟨ts,r,st,e6,rfl,s1,g1,hl1,hba⟩
   have e0:((0:Int)+(i:Int))=(i:Int):=by omega
   rw[e0]
   refine t5 ?_
   refine⟨_,rfl,_,_,rfl,rfl,(by show (0:Int)<2;decide),rfl,_,rfl,?_⟩
   refine p8 (fun h=>?_) (fun h=>?_)
   ·refine⟨_,rfl,.inl ⟨rfl,_,SqL.of g1⟩,_,rfl,_,rfl,_,_,rfl,rfl,hz0,l,_,_,rfl,rfl,g1,by rw[a8];omega,?_⟩
    refine⟨_,rfl,_,rfl,_,_,rfl,rfl,⟨hz0,by omega⟩,?_⟩
    exact⟨ts++[r % (z:Int)],_,_,_,rfl,s1.upd hl,by rw[c5,k9];rfl,by rw[d9,hl1];rfl,Y8 hz0 hba _⟩
   ·refine⟨_,rfl,_,_,rfl,rfl,(by show (0:Int)<998244353;decide),_,rfl,_,_,rfl,rfl,_,_,rfl,rfl,.inl ⟨by decide,by decide⟩,_,_,rfl,rfl,_,_,rfl,rfl,(by show (0:Int)<2147483647;decide),?_⟩
    refine p7 fun k1 hk1=>?_
    have k10:0<=k1:=by rw[hk1];exact J9 _ (by decide)
    have k11:k1<2147483647:=by rw[hk1];exact D5 _ (by decide)
    clear hk1
    refine⟨_,rfl,_,rfl,_,_,rfl,rfl,.inl ⟨by omega,by omega⟩,_,_,rfl,rfl,(by show (0:Int)<2147483629;decide),?_⟩
    refine p7 fun k2 _=>?_
    refine⟨_,rfl,_,_,rfl,rfl,.inr ⟨by decide,by decide⟩,_,_,rfl,rfl,(by show (0:Int)<2147483647;decide),?_⟩
    refine p7 fun k3 _=>?_
    refine⟨_,rfl,.inl ⟨rfl,_,SqL.of g1⟩,_,rfl,_,_,rfl,rfl,⟨by decide,by decide⟩,_,rfl,_,_,rfl,rfl,hz0,l,_,_,rfl,rfl,g1,by rw[a8];omega,?_⟩
    exact⟨ts++[k3 / 7 % (z:Int)],_,_,_,rfl,s1.upd hl,by rw[c5,k9];rfl,by rw[d9,hl1];rfl,Y8 hz0 hba _⟩
  ·rintro σ H1 ⟨ts,r,st,e6,rfl,s1,g1,hl1,hba⟩
   exact⟨_,rfl,q l ts H1 hl1 hba s1 hl g1⟩
end
def O8 (n:Nat):Prop:=n=0\/24<n
def TlB (K:W.Frag)(H:Hp)(a:Addr)(n:Nat):Prop:=∃ xs:List V,SqL K H a xs/\xs.length=n/\O8 n/\n<=5000
theorem TlB.same {K:W.Frag}{H H':Hp}{a:Addr}{n:Nat}(h:TlB K H a n)(s:j3 H H'):TlB K H' a n:=by
 obtain⟨xs,h1,h2⟩:=h
 exact⟨xs,s.seq h1,h2⟩
theorem V5 {n:Nat}(h:O8 n):¬ ((1:Int)<=(n:Int)/\(n:Int)<=24):=by
 unfold O8 at h
 omega
def spR (K:W.Frag)(C:Addr)(k:Nat):Sp:=fun vs H _ E=>∃ (a:Addr) (n:Nat) (us:List V),vs=.ref a::us/\us.length=k/\TlB K H a n/\∀ H',j3 H H'->E (.ref C) none H'
theorem u0 {us:List V}(h:us.length=0):us=[]:=List.length_eq_zero_iff.mp h
theorem u1 {us:List V}(h:us.length=1):∃ u,us=[u]:=J1.mp h
theorem u2:∀ {us:List V},us.length=2->∃ u v,us=[u,v]
 | [u,v],_=>⟨u,v,rfl⟩
theorem u3:∀ {us:List V},us.length=3->∃ u v z,us=[u,v,z]
 | [u,v,z],_=>⟨u,v,z,rfl⟩
theorem N2 {X:Cx}{e:Expr}:PE X e fun _ _ _=>False:=fun _ _ _ _ _ _ h=>h.elim
def am1:Sp:=fun _ _ _ _=>False
theorem ak8 {P:Program}{w:World}{K:W.Frag}{mg:Str->Option Value}{base:Heap}{CX:CXT}{k:Nat}{f:Addr}{fd:FuncData}{ps:List Str}:d7 P w K mg base CX k f fd ps am1:=⟨fun _ _ _ _ h=>h.elim,fun _ _ _ _ _ _ _ _ _ _ _ _ _ h=>h.elim⟩
seal L2.PE L2.PA L2.PS L2.PSs L2.PT
section
variable {P:Program} {w:World} {K:W.Frag} {mg:Str->Option Value} {base:Heap}
theorem at9:i0 ["tally"] ["tally"] (a6 O4):=⟨rfl,rfl,rfl,by decide +kernel,rfl,by decide +kernel,by decide +kernel⟩
theorem ap2 {f CB:Addr}{fd:FuncData}{tk:Tok}(F:Fun K "check_tally" "check_tally" O4 f fd)(B:Bn mg)(mM:mg "MOST_PLACES"=some (.int 24 tk))(mB:mg "BadTally"=some (.ref CB))(cB:K6 K CB):d7 P w K mg base (CXE P w) 1 f fd ["tally"] (spR K CB 0):=by
 refine F.okX at9 (fun vs H Q E h=>?_) (fun cdv A outer s H vs Q E hr h=>?_)
 ·obtain⟨a,n,us,rfl,e,_⟩:=h
  rw[u0 e];rfl
 ·obtain⟨a,n,us,rfl,e,⟨xs,hS,hx,hb,hl⟩,qE⟩:=h
  cases u0 e
  refine⟨_,c4 (j8 (E4 (J3 L5 L5 a5 (o8 m7 (by rfl) B.len PySem.boot_len (a3 (pv 0) b8)) (u7 (v:=.int 24) (by rfl) mM ⟨tk,rfl⟩))) (c4 (v8 (by rfl) mB cB)) e8),?_⟩
  refine⟨_,rfl,a,xs,rfl,.inl hS,_,_,rfl,rfl,_,rfl,?_⟩
  have hn:=V5 hb
  by_cases h1:(1:Int)<=(xs.length:Int)
  ·rw[decide_eq_true h1]
   refine v3 ⟨_,_,rfl,rfl,_,rfl,?_⟩
   rw[decide_eq_false (fun z=>hn ⟨by omega,by omega⟩)]
   exact v3 (qE H (j3.refl H))
  ·rw[decide_eq_false h1]
   exact x8 ⟨_,rfl,v3 (qE H (j3.refl H))⟩
theorem ah4:i0 ["tally","most","below","numbers","r"] ["tally","most"] (a6 D7):=⟨rfl,rfl,rfl,by decide +kernel,rfl,by decide +kernel,by decide +kernel⟩
theorem af0 {f fg CB:Addr}{fd fdg:FuncData}(F:Fun K "wall_with" "wall_with" D7 f fd)(Fg:Fun K "check_tally" "check_tally" O4 fg fdg)(bg:Binds K fdg ["tally"] [])(m:mg "check_tally"=some (.ref fg))(G:d7 P w K mg base (CXE P w) 1 fg fdg ["tally"] (spR K CB 0)):d7 P w K mg base (CXE P w) 2 f fd ["tally","most"] (spR K CB 1):=by
 refine F.okX ah4 (fun vs H Q E h=>?_) (fun cdv A outer s H vs Q E hr h=>?_)
 ·obtain⟨a,n,us,rfl,e,_⟩:=h
  rw[d3,e];rfl
 ·obtain⟨a,n,us,rfl,e,hT,qE⟩:=h
  obtain⟨u,rfl⟩:=u1 e
  refine⟨_,b7 (u6 (d8 G hr (by rfl) m Fg.kp bg .nil n8 (a3 (pv 0) b8))) k7,?_⟩
  exact⟨_,rfl,a,n,_,rfl,rfl,hT,qE⟩
theorem am3:i0 ["tally"] ["tally"] (a6 J2):=⟨rfl,rfl,rfl,by decide +kernel,rfl,by decide +kernel,by decide +kernel⟩
theorem ai3 {f fg CB:Addr}{fd fdg:FuncData}(F:Fun K "wall_of" "wall_of" J2 f fd)(Fg:Fun K "wall_with" "wall_with" D7 fg fdg)(bg:Binds K fdg ["tally","most"] [])(m:mg "wall_with"=some (.ref fg))(G:d7 P w K mg base (CXE P w) 2 fg fdg ["tally","most"] (spR K CB 1)):d7 P w K mg base (CXE P w) 3 f fd ["tally"] (spR K CB 0):=by
 refine F.okX am3 (fun vs H Q E h=>?_) (fun cdv A outer s H vs Q E hr h=>?_)
 ·obtain⟨a,n,us,rfl,e,_⟩:=h
  rw[d3,e];rfl
 ·obtain⟨a,n,us,rfl,e,hT,qE⟩:=h
  cases u0 e
  refine⟨_,c4 (i3 (d8 G hr (by rfl) m Fg.kp bg .nil n8 (a3 (pv 0) (a3 a5 b8)))),?_⟩
  exact⟨_,rfl,a,n,_,rfl,rfl,hT,qE⟩
theorem as8:i0 ["tally"] ["tally"] (a6 O3):=⟨rfl,rfl,rfl,by decide +kernel,rfl,by decide +kernel,by decide +kernel⟩
theorem ao9 {f fg CB:Addr}{fd fdg:FuncData}(F:Fun K "check_has_web" "check_has_web" O3 f fd)(Fg:Fun K "wall_of" "wall_of" J2 fg fdg)(bg:Binds K fdg ["tally"] [])(m:mg "wall_of"=some (.ref fg))(G:d7 P w K mg base (CXE P w) 3 fg fdg ["tally"] (spR K CB 0)):d7 P w K mg base (CXE P w) 4 f fd ["tally"] (spR K CB 0):=by
 refine F.okX as8 (fun vs H Q E h=>?_) (fun cdv A outer s H vs Q E hr h=>?_)
 ·obtain⟨a,n,us,rfl,e,_⟩:=h
  rw[d3,e];rfl
 ·obtain⟨a,n,us,rfl,e,hT,qE⟩:=h
  cases u0 e
  refine⟨_,c4 (j8 (g7 ai1 (d8 G hr (by rfl) m Fg.kp bg .nil n8 (a3 (pv 0) b8)) an6 (by rfl)) k7 e8),?_⟩
  exact⟨_,rfl,a,n,_,rfl,rfl,hT,qE⟩
theorem ak4:i0 ["tally","wall"] ["tally"] (a6 U1):=⟨rfl,rfl,rfl,by decide +kernel,rfl,by decide +kernel,by decide +kernel⟩
theorem ap4 {f fg CB:Addr}{fd fdg:FuncData}(F:Fun K "answered" "answered" U1 f fd)(Fg:Fun K "wall_of" "wall_of" J2 fg fdg)(bg:Binds K fdg ["tally"] [])(m:mg "wall_of"=some (.ref fg))(G:d7 P w K mg base (CXE P w) 3 fg fdg ["tally"] (spR K CB 0)):d7 P w K mg base (CXE P w) 4 f fd ["tally"] (spR K CB 0):=by
 refine F.okX ak4 (fun vs H Q E h=>?_) (fun cdv A outer s H vs Q E hr h=>?_)
 ·obtain⟨a,n,us,rfl,e,_⟩:=h
  rw[d3,e];rfl
 ·obtain⟨a,n,us,rfl,e,hT,qE⟩:=h
  cases u0 e
  refine⟨_,b7 (i6 (i:=1) ak4.nd rfl (Or.inl rfl) (d8 G hr (by rfl) m Fg.kp bg .nil n8 (a3 (pv 0) b8))) k7,?_⟩
  exact⟨_,rfl,a,n,_,rfl,rfl,hT,qE⟩
theorem am5:i0 ["tally","told"] ["tally","told"] (a6 L3):=⟨rfl,rfl,rfl,by decide +kernel,rfl,by decide +kernel,by decide +kernel⟩
theorem ai9 {f fg CB:Addr}{fd fdg:FuncData}(F:Fun K "answer_shows" "answer_shows" L3 f fd)(Fg:Fun K "check_tally" "check_tally" O4 fg fdg)(bg:Binds K fdg ["tally"] [])(m:mg "check_tally"=some (.ref fg))(G:d7 P w K mg base (CXE P w) 1 fg fdg ["tally"] (spR K CB 0)):d7 P w K mg base (CXE P w) 2 f fd ["tally","told"] (spR K CB 1):=by
 refine F.okX am5 (fun vs H Q E h=>?_) (fun cdv A outer s H vs Q E hr h=>?_)
 ·obtain⟨a,n,us,rfl,e,_⟩:=h
  rw[d3,e];rfl
 ·obtain⟨a,n,us,rfl,e,hT,qE⟩:=h
  obtain⟨u,rfl⟩:=u1 e
  refine⟨_,b7 (u6 (d8 G hr (by rfl) m Fg.kp bg .nil n8 (a3 (pv 0) b8))) k7,?_⟩
  exact⟨_,rfl,a,n,_,rfl,rfl,hT,qE⟩
theorem at0:i0 ["tally"] ["tally"] (a6 U0):=⟨rfl,rfl,rfl,by decide +kernel,rfl,by decide +kernel,by decide +kernel⟩
theorem ap1 {f fg CB:Addr}{fd fdg:FuncData}(F:Fun K "check_none_below" "check_none_below" U0 f fd)(Fg:Fun K "check_tally" "check_tally" O4 fg fdg)(bg:Binds K fdg ["tally"] [])(m:mg "check_tally"=some (.ref fg))(G:d7 P w K mg base (CXE P w) 1 fg fdg ["tally"] (spR K CB 0)):d7 P w K mg base (CXE P w) 2 f fd ["tally"] (spR K CB 0):=by
 refine F.okX at0 (fun vs H Q E h=>?_) (fun cdv A outer s H vs Q E hr h=>?_)
 ·obtain⟨a,n,us,rfl,e,_⟩:=h
  rw[d3,e];rfl
 ·obtain⟨a,n,us,rfl,e,hT,qE⟩:=h
  cases u0 e
  refine⟨_,b7 (u6 (d8 G hr (by rfl) m Fg.kp bg .nil n8 (a3 (pv 0) b8))) k7,?_⟩
  exact⟨_,rfl,a,n,_,rfl,rfl,hT,qE⟩
theorem am4:i0 ["tally","rooms","much","lacking","web"] ["tally"] (a6 L1):=⟨rfl,rfl,rfl,by decide +kernel,rfl,by decide +kernel,by decide +kernel⟩
theorem ai6 {f fg CB:Addr}{fd fdg:FuncData}(F:Fun K "least_off" "least_off" L1 f fd)(Fg:Fun K "check_none_below" "check_none_below" U0 fg fdg)(bg:Binds K fdg ["tally"] [])(m:mg "check_none_below"=some (.ref fg))(G:d7 P w K mg base (CXE P w) 2 fg fdg ["tally"] (spR K CB 0)):d7 P w K mg base (CXE P w) 3 f fd ["tally"] (spR K CB 0):=by
 refine F.okX am4 (fun vs H Q E h=>?_) (fun cdv A outer s H vs Q E hr h=>?_)
 ·obtain⟨a,n,us,rfl,e,_⟩:=h
  rw[d3,e];rfl
 ·obtain⟨a,n,us,rfl,e,hT,qE⟩:=h
  cases u0 e
  refine⟨_,b7 (u6 (d8 G hr (by rfl) m Fg.kp bg .nil n8 (a3 (pv 0) b8))) k7,?_⟩
  exact⟨_,rfl,a,n,_,rfl,rfl,hT,qE⟩
theorem ay3:i0 ["tally","one","other","wall"] ["tally","one","other"] (a6 sPT):=⟨rfl,rfl,rfl,by decide +kernel,rfl,by decide +kernel,by decide +kernel⟩
theorem av4 {f fg CB:Addr}{fd fdg:FuncData}(F:Fun K "pair_told" "pair_told" sPT f fd)(Fg:Fun K "check_has_web" "check_has_web" O3 fg fdg)(bg:Binds K fdg ["tally"] [])(m:mg "check_has_web"=some (.ref fg))(G:d7 P w K mg base (CXE P w) 4 fg fdg ["tally"] (spR K CB 0)):d7 P w K mg base (CXE P w) 5 f fd ["tally","one","other"] (spR K CB 2):=by
 refine F.okX ay3 (fun vs H Q E h=>?_) (fun cdv A outer s H vs Q E hr h=>?_)
 ·obtain⟨a,n,us,rfl,e,_⟩:=h
  rw[d3,e];rfl
 ·obtain⟨a,n,us,rfl,e,hT,qE⟩:=h
  obtain⟨u,v,rfl⟩:=u2 e
  refine⟨_,b7 (u6 (d8 G hr (by rfl) m Fg.kp bg .nil n8 (a3 (pv 0) b8))) k7,?_⟩
  exact⟨_,rfl,a,n,_,rfl,rfl,hT,qE⟩
theorem as7:i0 ["tally","one","other","told","more"] ["tally","one","other","told"] (a6 T7):=⟨rfl,rfl,rfl,by decide +kernel,rfl,by decide +kernel,by decide +kernel⟩
theorem ao5 {f fg CB:Addr}{fd fdg:FuncData}(F:Fun K "pair_shows" "pair_shows" T7 f fd)(Fg:Fun K "check_has_web" "check_has_web" O3 fg fdg)(bg:Binds K fdg ["tally"] [])(m:mg "check_has_web"=some (.ref fg))(G:d7 P w K mg base (CXE P w) 4 fg fdg ["tally"] (spR K CB 0)):d7 P w K mg base (CXE P w) 5 f fd ["tally","one","other","told"] (spR K CB 3):=by
 refine F.okX as7 (fun vs H Q E h=>?_) (fun cdv A outer s H vs Q E hr h=>?_)
 ·obtain⟨a,n,us,rfl,e,_⟩:=h
  rw[d3,e];rfl
 ·obtain⟨a,n,us,rfl,e,hT,qE⟩:=h
  obtain⟨u,v,z,rfl⟩:=u3 e
  refine⟨_,b7 (u6 (d8 G hr (by rfl) m Fg.kp bg .nil n8 (a3 (pv 0) b8))) k7,?_⟩
  exact⟨_,rfl,a,n,_,rfl,rfl,hT,qE⟩
theorem as9:i0 ["tally","fewest","web"] ["tally"] (a6 T9):=⟨rfl,rfl,rfl,by decide +kernel,rfl,by decide +kernel,by decide +kernel⟩
theorem ap0 {f fg CB:Addr}{fd fdg:FuncData}(F:Fun K "fewest_pieces" "fewest_pieces" T9 f fd)(Fg:Fun K "check_has_web" "check_has_web" O3 fg fdg)(bg:Binds K fdg ["tally"] [])(m:mg "check_has_web"=some (.ref fg))(G:d7 P w K mg base (CXE P w) 4 fg fdg ["tally"] (spR K CB 0)):d7 P w K mg base (CXE P w) 5 f fd ["tally"] (spR K CB 0):=by
 refine F.okX as9 (fun vs H Q E h=>?_) (fun cdv A outer s H vs Q E hr h=>?_)
 ·obtain⟨a,n,us,rfl,e,_⟩:=h
  rw[d3,e];rfl
 ·obtain⟨a,n,us,rfl,e,hT,qE⟩:=h
  cases u0 e
  refine⟨_,b7 (u6 (d8 G hr (by rfl) m Fg.kp bg .nil n8 (a3 (pv 0) b8))) k7,?_⟩
  exact⟨_,rfl,a,n,_,rfl,rfl,hT,qE⟩
end
end Web
namespace Web
open PySem L2
seal L2.PE L2.PA L2.PS L2.PSs L2.PT
section
variable {P:Program} {w:World} {K:W.Frag} {mg:Str->Option Value} {base:Heap}
def ad3 (CX:Addr):Sp:=fun vs H _ E=>∃ (n:Nat) (v:V),vs=[.int n,v]/\O8 n/\∀ H',j3 H H'->E (.ref CX) none H'
theorem am8:i0 ["places","ties","ascending"] ["places","ties"] (a6 L0):=⟨rfl,rfl,rfl,by decide +kernel,rfl,by decide +kernel,by decide +kernel⟩
theorem ao6 {f CX:Addr}{fd:FuncData}{tk:Tok}(F:Fun K "made" "made" L0 f fd)(B:Bn mg)(mM:mg "MOST_PLACES"=some (.int 24 tk))(mX:mg "BadWeb"=some (.ref CX))(cX:K6 K CX):d7 P w K mg base (CXE P w) 1 f fd ["places","ties"] (ad3 CX):=by
 refine F.okX am8 (fun vs H Q E h=>?_) (fun cdv A outer s H vs Q E hr h=>?_)
 ·obtain⟨n,v,rfl,_⟩:=h
  rfl
 ·obtain⟨n,v,rfl,hb,qE⟩:=h
  refine⟨_,b7 (j8 (E4 (J3 L5 L5 a5 (pv 0) (u7 (v:=.int 24) (by rfl) mM ⟨tk,rfl⟩))) (c4 (v8 (by rfl) mX cX)) e8) k7,?_⟩
  refine⟨_,rfl,_,_,rfl,rfl,_,rfl,?_⟩
  have hn:=V5 hb
  by_cases h1:(1:Int)<=(n:Int)
  ·rw[decide_eq_true h1]
   refine v3 ⟨_,_,rfl,rfl,_,rfl,?_⟩
   rw[decide_eq_false (fun z=>hn ⟨by omega,by omega⟩)]
   exact v3 (qE H (j3.refl H))
  ·rw[decide_eq_false h1]
   exact x8 ⟨_,rfl,v3 (qE H (j3.refl H))⟩
def ac8 (K:W.Frag):Sp:=fun vs H Q _=>∃ (p t:Addr) (n:Nat),vs=[.ref p]/\H p=some (.tup [.int n,.ref t])/\O8 n/\∀ H',j3 H H'->Q (.bl false) H'
theorem am7:i0 ["web"] ["web"] (a6 A8):=⟨rfl,rfl,rfl,by decide +kernel,rfl,by decide +kernel,by decide +kernel⟩
theorem ao3 {f fV CX:Addr}{fd fdV:FuncData}(F:Fun K "is_told" "is_told" A8 f fd)(FV:Fun K "made" "made" L0 fV fdV)(bV:Binds K fdV ["places","ties"] [])(mV:mg "made"=some (.ref fV))(GV:d7 P w K mg base (CXE P w) 1 fV fdV ["places","ties"] (ad3 CX))(mX:mg "BadWeb"=some (.ref CX))(xX:PySem.W.exmOne K (.ref CX) (.ref CX)=some true):d7 P w K mg base CX0 2 f fd ["web"] (ac8 K):=by
 refine F.ok am7 (fun vs H Q E h=>?_) (fun cdv A outer s H vs Q E hr h=>?_)
 ·obtain⟨p,t,n,rfl,_⟩:=h
  rfl
 ·obtain⟨p,t,n,rfl,h1,hb,q⟩:=h
  refine⟨_,c4 (R5 (by rfl) mX rfl rfl (fun _ _=>c4 (i3 (y7 p1 (E6 GV hr (by rfl) mV FV.kp bV J4 (a3 (B1 K rfl (pv 0) a5 (fun _ _=>rfl)) (a3 (B1 K rfl (pv 0) a5 (fun _ _=>rfl)) b8))) (pv 0) (i4 _)))) (fun _=>c4 (i3 E7))),?_⟩
  have a0:atI ([.int n,.ref t]:List V) 0=some (.int n):=j0 (j:=0) rfl
  have a1:atI ([.int n,.ref t]:List V) 1=some (.ref t):=j0 (j:=1) rfl
  refine⟨fun σ' cls _ H'=>j3 H H'/\cls=.ref CX,?_,?_⟩
  ·exact⟨_,rfl,p,_,_,_,rfl,rfl,SqT.of h1,a0,_,rfl,p,_,_,_,rfl,rfl,SqT.of h1,a1,n,_,rfl,hb,fun H' s'=>⟨s',rfl⟩⟩
  ·rintro σ' cls H' ⟨s',rfl⟩
   exact⟨xX,q H' s'⟩
def ac7 (CN:Addr):Sp:=fun vs H Q E=>∃ (x:Str),vs=[.str x]/\x.length<=5000/\(∀ (t:Addr) (i j:Int) (H':Hp),j3 H H'->H' t=some (.tup [.int i,.int j])->Q (.ref t) H')/\∀ H',j3 H H'->E (.ref CN) none H'
theorem ad6:i0 ["word","parts","tie"] ["word"] (a6 D8):=⟨rfl,rfl,rfl,by decide +kernel,rfl,by decide +kernel,by decide +kernel⟩
theorem ao2 {f fW CN:Addr}{fd fdW:FuncData}{tE:Tok}(F:Fun K "tie_in" "tie_in" D8 f fd)(FW:Fun K "number_within" "number_within" sNW fW fdW)(bW:Binds K fdW ["word","most"] [])(mW:mg "number_within"=some (.ref fW))(GW:d7 P w K mg base (CXE P w) 2 fW fdW ["word","most"] (ad2 CN))(mE:mg "MOST_FIGURES_OF_END"=some (.int 2 tE))
  (mN:mg "NoText"=some (.ref CN))(cN:K6 K CN):d7 P w K mg base (CXE P w) 3 f fd ["word"] (ac7 CN):=by
 refine F.okX ad6 (fun vs H Q E h=>?_) (fun cdv A outer s H vs Q E hr h=>?_)
 ·obtain⟨x,rfl,_⟩:=h
  rfl
 ·obtain⟨x,rfl,hx,q,qE⟩:=h
  refine⟨_,b7 (i6 (i:=1) ad6.nd rfl (Or.inl rfl) (v5 PySem.F.plainAttrs_str PySem.F.slot_str_partition PySem.F.type_str_partition Y6 (pv 0) (a3 e7 b8)))
   (b7 (i6 (i:=2) ad6.nd rfl (Or.inl rfl) (A2 (a3 (d8 GW hr (by rfl) mW FW.kp bW .nil n8 (a3 (n9 E9 (pv 1) a5 (fun _ _=>rfl)) (a3 (u7 (v:=.int 2) (by rfl) mE ⟨tE,rfl⟩) b8))) (a3 (d8 GW hr (by rfl) mW FW.kp bW .nil n8 (a3 (n9 E9 (pv 1) a5 (fun _ _=>rfl)) (a3 (u7 (v:=.int 2) (by rfl) mE ⟨tE,rfl⟩) b8))) b8))))
   (b7 (j8 (g7 au5 (n9 E9 (pv 2) a5 (fun _ _=>rfl)) (n9 E9 (pv 2) a5 (fun _ _=>rfl)) (i4 _)) (c4 (v8 (by rfl) mN cN)) e8)
   (c4 (i3 (pv 2))))),?_⟩
  have hp:=U6 x ("-":Str)
  refine⟨_,rfl,rfl,x,_,rfl,rfl,by decide +kernel,by omega,fun l fl=>?_⟩
  have s1:=d4 (o:=.tup [.str (Txt.partition x "-").1,.str (Txt.partition x "-").2.1,.str (Txt.partition x "-").2.2]) fl
  have g1:(upd H l (.tup [.str (Txt.partition x "-").1,.str (Txt.partition x "-").2.1,.str (Txt.partition x "-").2.2])) l=some (.tup [.str (Txt.partition x "-").1,.str (Txt.partition x "-").2.1,.str (Txt.partition x "-").2.2]):=c5
  generalize upd H l (.tup [.str (Txt.partition x "-").1,.str (Txt.partition x "-").2.1,.str (Txt.partition x "-").2.2])=H1 at s1 g1
  refine⟨_,rfl,l,_,_,_,rfl,rfl,SqT.of g1,j0 (j:=0) rfl,_,_,rfl,by omega,by decide,fun _ i H2 s2 _=>?_,fun _ H2 s2=>qE H2 (s1.trans s2)⟩
  refine⟨_,rfl,l,_,_,_,rfl,rfl,SqT.of (s2 _ _ g1),j0 (j:=2) rfl,_,_,rfl,by omega,by decide,fun _ j H3 s3 _=>?_,fun _ H3 s3=>qE H3 ((s1.trans s2).trans s3)⟩
  refine⟨(by show 2<=sizeLine;decide),fun t ft=>?_⟩
  have s4:=d4 (o:=.tup [.int i,.int j]) ft
  have s5:=((s1.trans s2).trans s3).trans s4
  refine⟨_,rfl,t,_,_,_,rfl,rfl,SqT.of c5,j0 (j:=0) rfl,_,rfl,t,_,_,_,rfl,rfl,SqT.of c5,j0 (j:=1) rfl,_,_,rfl,rfl,_,rfl,?_⟩
  exact p8 (fun _=>qE _ s5) (fun _=>⟨_,rfl,q t i j _ s5 c5⟩)
end
end Web
namespace Web
open PySem L2
theorem A0:((" ":Str).length == 0)=false:=by decide +kernel
theorem C6 (x y:Str):∃ v r,Txt.split x y=v::r:=by
 have:=(split_len x y).1
 cases e:Txt.split x y with
 | nil=>rw[e]at this;exact absurd this (by decide)
 | cons v r=>exact⟨v,r,rfl⟩
theorem F0 {x y v:Str}{r:List Str}(e:Txt.split x y=v::r)(hx:x.length<=5000):v.length<=5000/\(∀ u∈r,u.length<=5000)/\r.length<=5001:=by
 have h:∀ u∈v::r,u.length<=5000:=fun u hu=>j5 (B9 (x:=x) (y:=y) (by rw[e];exact hu)).1 hx
 have h2:=(split_len x y).2
 rw[e,d3]at h2
 exact⟨h v i5,fun u hu=>h u (c2 _ hu),by omega⟩
theorem K0 {ws:List Str}{i:Nat}{x:V}(h:(ws.map V.str)[i]?=some x):∃ u∈ws,ws[i]?=some u/\x=.str u:=by
 rw[j4]at h
 cases e:ws[i]? with
 | none=>rw[e]at h;cases h
 | some u=>rw[e]at h;cases h;exact⟨u,B2 e,rfl,rfl⟩
theorem ag2 (v:Str)(r:List Str):K5 ((v::r).map V.str) (some 1) none=r.map V.str:=by
 have:=Q1 ((v::r).map V.str) 1
 exact this
seal L2.PE L2.PA L2.PS L2.PSs L2.PT
section
variable {P:Program} {w:World} {K:W.Frag} {mg:Str->Option Value} {base:Heap}
def X7 (CN:Addr):Sp:=fun vs H _ E=>∃ (x:Str) (n:Nat),vs=[.str x,.int n]/\x.length<=5000/\O8 n/\∀ H',j3 H H'->E (.ref CN) none H'
theorem am6:i0 ["row","places","words","web"] ["row","places"] (a6 C8):=⟨rfl,rfl,rfl,by decide +kernel,rfl,by decide +kernel,by decide +kernel⟩
theorem ao1 {f fT fI CN:Addr} {fd fdT fdI:FuncData} (F:Fun K "web_in" "web_in" C8 f fd) (B:Bn mg) (FT:Fun K "tie_in" "tie_in" D8 fT fdT) (bT:Binds K fdT ["word"] []) (mT:mg "tie_in"=some (.ref fT)) (GT:d7 P w K mg base (CXE P w) 3 fT fdT ["word"] (ac7 CN))
  (FI:Fun K "is_told" "is_told" A8 fI fdI) (bI:Binds K fdI ["web"] []) (mI:mg "is_told"=some (.ref fI)) (GI:d7 P w K mg base CX0 3 fI fdI ["web"] (ac8 K)) (mN:mg "NoText"=some (.ref CN)) (cN:K6 K CN):d7 P w K mg base (CXE P w) 4 f fd ["row","places"] (X7 CN):=by
 refine F.okX am6 (fun vs H Q E h=>?_) (fun cdv A outer s H vs Q E hr h=>?_)
 ·obtain⟨x,n,rfl,_⟩:=h
  rfl
 ·obtain⟨x,n,rfl,hx,hb,qE⟩:=h
  have hsl:sizeLine=16777216:=sizeLine_eq
  have nd1:(["word"]:List Str).Nodup:=by decide +kernel
  refine⟨_,b7 (i6 (i:=2) am6.nd rfl (Or.inl rfl) (v5 PySem.F.plainAttrs_str PySem.F.slot_str_split PySem.F.type_str_split C1 (pv 0) (a3 e7 b8)))
   (b7 (j8 (g7 L4 (n9 l3 (pv 2) a5 (fun _ _=>rfl)) e7 (i4 _)) (c4 (v8 (by rfl) mN cN)) e8)
   (b7 (i6 (i:=3) am6.nd rfl (Or.inl rfl) (A2 (a3 (pv 1) (a3 (K2 O5 (by rfl) B.tuple (by rfl) (a3
     (U5 (E := E) rfl (N' := ["word"]) (lk := [none]) rfl (B0 (l9 v7 (pv 2) (n5 a5) p0)) (by rfl) rfl (by decide +kernel) (by exact trivial) (by rfl) (by exact LkL.ok trivial)
      (fun _ _ _ _ _=>t7 (i:=0) nd1 rfl (Or.inl rfl)) (fun _ _ _ _ _=>F7) (fun _ _ _ _ _ I3 f3=>d8 GT hr (by rfl) mT FT.kp bT .nil (Y3 I3 f3) (a3 (pv 0) b8))) b8)) b8))))
   (b7 (j8 (E4 (E3 (d8 GI hr (by rfl) mI FI.kp bI .nil E8 (a3 (pv 3) b8)))) (c4 (v8 (by rfl) mN cN)) e8)
   k7))),?_⟩
  obtain⟨v,r,ew⟩:=C6 x " "
  obtain⟨hv,hr',hrl⟩:=F0 ew hx
  refine⟨_,rfl,rfl,x,_,rfl,rfl,A0,by omega,by rw[ew,d3];omega,fun l fl=>?_⟩
  rw[ew]
  have s1:=d4 (o:=.lst ((v::r).map V.str)) fl
  have g1:(upd H l (.lst ((v::r).map V.str))) l=some (.lst ((v::r).map V.str)):=c5
  generalize upd H l (.lst ((v::r).map V.str))=H1 at s1 g1
  refine⟨_,rfl,l,_,_,_,rfl,rfl,SqL.of g1,j0 (j:=0) rfl,rfl,_,rfl,p8 (fun _=>qE _ s1) (fun _=>?_)⟩
  refine⟨_,rfl,_,rfl,_,rfl,l,_,rfl,SqL.of g1,fun l2 f2=>?_⟩
  rw[ag2]
  have s2:=d4 (o:=.lst (r.map V.str)) f2
  have g2:(upd H1 l2 (.lst (r.map V.str))) l2=some (.lst (r.map V.str)):=c5
  generalize upd H1 l2 (.lst (r.map V.str))=H2 at s2 g2
  refine⟨l2,rfl,⟨_,SqL.of g2⟩,fun D hD=>C3 (K:=K) (a:=l2) (D:=D) (ys:=r.map V.str) (fun i xs σ' H'=>(∃ v,σ'=[v])/\j3 H2 H'/\H' D=some (.lst xs)/\xs.length=i) ⟨⟨none,rfl⟩,d4 hD,c5,rfl⟩ (by rw[a8];omega)
   (fun i xs σ' H' hi ⟨_,s3,g3,e3⟩=>⟨SqL.of (s3 _ _ g2),g3,by omega⟩) ?_ ?_⟩
  ·rintro i xs y σ' H' N kN hy ⟨⟨_,rfl⟩,s3,g3,e3⟩
   obtain⟨u,hu,_,rfl⟩:=K0 hy
   refine t5 (B8 ?_)
   refine⟨_,rfl,u,rfl,hr' u hu,fun t i' j' H4 s4 _=>?_,fun H4 s4=>qE H4 (((s1.trans s2).trans s3).trans s4)⟩
   exact⟨s4 _ _ g3,kN _ _ _ ⟨⟨_,rfl⟩,(s3.trans s4).upd hD,c5,by rw[d9,e3];rfl⟩⟩
  ·rintro xs σ' H3 ⟨⟨_,rfl⟩,s3,g3,_⟩
   refine⟨D,xs,rfl,.inl ⟨SqL.of g3,fun t ft=>⟨by show 2<=sizeLine;omega,fun p fp=>?_⟩⟩⟩
   have s4:=d4 (o:=.tup xs) ft
   have s5:=d4 (o:=.tup [.int n,.ref t]) fp
   have s6:=(((s1.trans s2).trans s3).trans s4).trans s5
   refine⟨_,rfl,p,t,n,rfl,c5,hb,fun H6 s7=>⟨_,rfl,v3 (qE H6 (s6.trans s7))⟩⟩
def aa3 (CN:Addr):Sp:=fun vs H Q E=>∃ (x y:Str) (m:Nat),vs=[.str x,.str y,.int m]/\x.length<=5000/\m<=100/\(∀ (l:Addr) (ns:List Int) (H':Hp),j3 H H'->H' l=some (.lst (ns.map V.int))->ns.length=m->Q (.ref l) H')/\∀ H',j3 H H'->E (.ref CN) none H'
theorem at7:i0 ["row","first","many","words"] ["row","first","many"] (a6 O2):=⟨rfl,rfl,rfl,by decide +kernel,rfl,by decide +kernel,by decide +kernel⟩
theorem av7 {f fI CN:Addr}{fd fdI:FuncData}(F:Fun K "numbers_behind" "numbers_behind" O2 f fd)(B:Bn mg)(FI:Fun K "number_in" "number_in" sNI fI fdI)(bI:Binds K fdI ["word"] [])(mI:mg "number_in"=some (.ref fI))(GI:d7 P w K mg base (CXE P w) 3 fI fdI ["word"] (am2 CN))(mN:mg "NoText"=some (.ref CN))(cN:K6 K CN):d7 P w K mg base (CXE P w) 4 f fd ["row","first","many"] (aa3 CN):=by
 refine F.okX at7 (fun vs H Q E h=>?_) (fun cdv A outer s H vs Q E hr h=>?_)
 ·obtain⟨x,y,m,rfl,_⟩:=h
  rfl
 ·obtain⟨x,y,m,rfl,hx,hm,q,qE⟩:=h
  have hsl:sizeLine=16777216:=sizeLine_eq
  have nd1:(["word"]:List Str).Nodup:=by decide +kernel
  refine⟨_,b7 (i6 (i:=3) at7.nd rfl (Or.inl rfl) (v5 PySem.F.plainAttrs_str PySem.F.slot_str_split PySem.F.type_str_split C1 (pv 0) (a3 e7 b8)))
   (b7 (j8 (PW.pt (N0 (g7 L4 (n9 l3 (pv 3) a5 (fun _ _=>rfl)) (pv 1) (i4 _)) (G9 (g7 L4 (o8 m7 (by rfl) B.len PySem.boot_len (a3 (pv 3) b8)) (g4 x6 (pv 2) a5) (i4 _))))) (c4 (v8 (by rfl) mN cN)) e8)
   (c4 (i3 (U5 (E:=E) rfl (N':=["word"]) (lk:=[none]) rfl (B0 (l9 v7 (pv 3) (n5 a5) p0)) (by rfl) rfl (by decide +kernel) (by exact trivial) (by rfl) (by exact LkL.ok trivial)
      (fun _ _ _ _ _=>t7 (i:=0) nd1 rfl (Or.inl rfl)) (fun _ _ _ _ _=>F7) (fun _ _ _ _ _ I3 f3=>d8 GI hr (by rfl) mI FI.kp bI .nil (Y3 I3 f3) (a3 (pv 0) b8)))))),?_⟩
  obtain⟨v,r,ew⟩:=C6 x " "
  obtain⟨hv,hr',hrl⟩:=F0 ew hx
  refine⟨_,rfl,rfl,x,_,rfl,rfl,A0,by omega,by rw[ew,d3];omega,fun l fl=>?_⟩
  rw[ew]
  have s1:=d4 (o:=.lst ((v::r).map V.str)) fl
  have g1:(upd H l (.lst ((v::r).map V.str))) l=some (.lst ((v::r).map V.str)):=c5
  generalize upd H l (.lst ((v::r).map V.str))=H1 at s1 g1
  refine⟨_,rfl,l,_,_,_,rfl,rfl,SqL.of g1,j0 (j:=0) rfl,_,rfl,rfl,_,rfl,p8 (fun _=>v3 (qE _ s1)) (fun _=>?_)⟩
  refine⟨_,rfl,l,_,rfl,.inl (SqL.of g1),_,rfl,_,_,rfl,rfl,rfl,_,rfl,?_⟩
  by_cases hc:r.length≠m
  ·have hd:decide ((V.int (((v::r).map V.str).length:Nat):V)=.int ((m:Int)+1))=false:=by
    rw[decide_eq_false_iff_not,a8,d3]
    intro z
    cases z
    omega
   rw[hd]
   exact v3 (qE _ s1)
  ·have hc:=Decidable.of_not_not hc
   have hd:decide ((V.int (((v::r).map V.str).length:Nat):V)=.int ((m:Int)+1))=true:=by
    rw[decide_eq_true_iff,a8,d3,hc]
    rfl
   rw[hd]
   refine x8 ?_
   refine⟨_,rfl,_,rfl,l,_,rfl,SqL.of g1,fun l2 f2=>?_⟩
   rw[ag2]
   have s2:=d4 (o:=.lst (r.map V.str)) f2
   have g2:(upd H1 l2 (.lst (r.map V.str))) l2=some (.lst (r.map V.str)):=c5
   generalize upd H1 l2 (.lst (r.map V.str))=H2 at s2 g2
   refine⟨l2,rfl,⟨_,SqL.of g2⟩,fun D hD=>C3 (K:=K) (a:=l2) (D:=D) (ys:=r.map V.str) (fun i xs σ' H'=>(∃ v,σ'=[v])/\j3 H2 H'/\H' D=some (.lst xs)/\∃ ns:List Int,xs=ns.map V.int/\ns.length=i) ⟨⟨none,rfl⟩,d4 hD,c5,[],rfl,rfl⟩ (by rw[a8];omega)
    (fun i xs σ' H' hi ⟨_,s3,g3,ns,e3,e4⟩=>⟨SqL.of (s3 _ _ g2),g3,by rw[e3,a8];omega⟩) ?_ ?_⟩
   ·rintro i xs y σ' H' N kN hy ⟨⟨_,rfl⟩,s3,g3,ns,rfl,e4⟩
    obtain⟨u,hu,_,rfl⟩:=K0 hy
    refine t5 (B8 ?_)
    refine⟨_,rfl,u,rfl,hr' u hu,fun _ z H4 s4 _=>?_,fun _ H4 s4=>qE H4 (((s1.trans s2).trans s3).trans s4)⟩
    exact⟨s4 _ _ g3,kN _ _ _ ⟨⟨_,rfl⟩,(s3.trans s4).upd hD,c5,ns++[z],by rw[k9];rfl,by rw[d9,e4];rfl⟩⟩
   ·rintro xs σ' H3 ⟨⟨_,rfl⟩,s3,g3,ns,rfl,e4⟩
    rw[a8]at e4
    exact q D ns H3 ((s1.trans s2).trans s3) g3 (by omega)
def ah3 (CN:Addr):Sp:=fun vs H Q E=>∃ (x:Str),vs=[.str x]/\x.length<=5000/\(∀ (v:V) (H':Hp),j3 H H'->Q v H')/\∀ H',j3 H H'->E (.ref CN) none H'
theorem ay5:i0 ["row"] ["row"] (a6 y6):=⟨rfl,rfl,rfl,by decide +kernel,rfl,by decide +kernel,by decide +kernel⟩
theorem au8 {f fB CN:Addr}{fd fdB:FuncData}(F:Fun K "wall_in" "wall_in" y6 f fd)(FB:Fun K "numbers_behind" "numbers_behind" O2 fB fdB)(bB:Binds K fdB ["row","first","many"] [])(mB:mg "numbers_behind"=some (.ref fB))(GB:d7 P w K mg base (CXE P w) 4 fB fdB ["row","first","many"] (aa3 CN)):d7 P w K mg base (CXE P w) 5 f fd ["row"] (ah3 CN):=by
 refine F.okX ay5 (fun vs H Q E h=>?_) (fun cdv A outer s H vs Q E hr h=>?_)
 ·obtain⟨x,rfl,_⟩:=h
  rfl
 ·obtain⟨x,rfl,hx,q,qE⟩:=h
  have hsl:sizeLine=16777216:=sizeLine_eq
  refine⟨_,b7 (j8 (g7 p1 (pv 0) e7 (i4 _)) (c4 (i3 (A2 (a3 e7 b8)))) e8)
   (b7 (j8 (E3 (v5 PySem.F.plainAttrs_str PySem.F.slot_str_startswith PySem.F.type_str_startswith K3 (pv 0) (a3 e7 b8))) (c4 (i3 (A2 (a3 e7 (a3 (n9 l3 (d8 GB hr (by rfl) mB FB.kp bB .nil n8 (a3 (pv 0) (a3 e7 (a3 a5 b8)))) a5 (fun _ _=>rfl)) b8))))) e8)
   (c4 (i3 (A2 (a3 e7 (a3 (n9 l3 (d8 GB hr (by rfl) mB FB.kp bB .nil n8 (a3 (pv 0) (a3 e7 (a3 a5 b8)))) a5 (fun _ _=>rfl)) b8)))))),?_⟩
  have fin:∀ (y:Str) (z:V),aa3 CN ([.str x,.str y,.int 1]++[]) H (fun v H1=>∃ p xs i u,v=.ref p/\V.int 0=.int i/\SqL K H1 p xs/\atI xs i=some u/\(2<=sizeLine/\∀ l,H1 l=none->Q (.ref l) (upd H1 l (.tup [z,u])))) E:=fun y z=>by
   refine⟨x,y,1,rfl,hx,by decide,fun l ns H1 s1 g1 e=>?_,qE⟩
   obtain⟨n,rfl⟩:=J1.mp e
   exact⟨l,_,_,_,rfl,rfl,SqL.of g1,j0 (j:=0) rfl,by omega,fun t ft=>q _ _ (s1.trans (d4 ft))⟩
  refine⟨_,rfl,rfl,_,rfl,p8 (fun _=>?_) (fun _=>?_)⟩
  ·exact⟨by show 1<=sizeLine;omega,fun t ft=>q _ _ (d4 ft)⟩
  refine⟨_,rfl,rfl,x,_,rfl,rfl,_,rfl,p8 (fun _=>?_) (fun _=>?_)⟩
  ·exact⟨_,rfl,fin _ _⟩
  ·exact⟨_,rfl,fin _ _⟩
end
end Web
namespace Web
open PySem L2
theorem B5 {X:Cx}(K:W.Frag)(hK:X.K=K):OpR X (compareOp .NotIn) (rIn K true):=by subst hK;exact S0
structure aj7 (CN CB:Addr) (H:Hp) (Q:VK) (E:XK):Prop where
 f:∀ H',j3 H H'->Q (.bl false) H'
 n:∀ H',j3 H H'->E (.ref CN) none H'
 b:∀ H',j3 H H'->E (.ref CB) none H'
section
variable {P:Program} {w:World} {K:W.Frag} {mg:Str->Option Value} {base:Heap}
def Q8 (K:W.Frag)(CN CB:Addr):Sp:=fun vs H Q E=>∃ (ta wb:Addr) (n:Nat) (x:Str),vs=[.ref ta,.str x,.ref wb]/\TlB K H ta n/\x.length<=5000/\H wb=some (.lst [])/\aj7 CN CB H Q E
theorem ay4:i0 ["tally","first","webs"] ["tally","first","webs"] (a6 D6):=⟨rfl,rfl,rfl,by decide +kernel,rfl,by decide +kernel,by decide +kernel⟩
theorem au7 {f fS fI fW CN CB:Addr} {fd fdS fdI fdW:FuncData} (F:Fun K "web_stands" "web_stands" D6 f fd) (B:Bn mg) (FS:Fun K "answer_shows" "answer_shows" L3 fS fdS) (bS:Binds K fdS ["tally","told"] []) (mS:mg "answer_shows"=some (.ref fS)) (GS:d7 P w K mg base (CXE P w) 5 fS fdS ["tally","told"] (spR K CB 1))
  (FI:Fun K "web_in" "web_in" C8 fI fdI) (bI:Binds K fdI ["row","places"] []) (mI:mg "web_in"=some (.ref fI)) (GI:d7 P w K mg base (CXE P w) 5 fI fdI ["row","places"] (X7 CN))
  (FW:Fun K "wall_in" "wall_in" y6 fW fdW) (bW:Binds K fdW ["row"] []) (mW:mg "wall_in"=some (.ref fW)) (GW:d7 P w K mg base (CXE P w) 5 fW fdW ["row"] (ah3 CN)):d7 P w K mg base (CXE P w) 6 f fd ["tally","first","webs"] (Q8 K CN CB):=by
 refine F.okX ay4 (fun vs H Q E h=>?_) (fun cdv A outer s H vs Q E hr h=>?_)
 ·obtain⟨ta,wb,n,x,rfl,_⟩:=h
  rfl
 ·obtain⟨ta,wb,n,x,rfl,hT,hx,hw,o⟩:=h
  obtain⟨xs,hS,hn,hb,hl⟩:=id hT
  refine⟨_,b7 (j8 (U2 (pv 2) (fun _=>rfl)) k7 e8)
   (b7 (j8 (E3 (v5 PySem.F.plainAttrs_str PySem.F.slot_str_startswith PySem.F.type_str_startswith K3 (pv 1) (a3 e7 b8)))
    (c4 (i3 (d8 GS hr (by rfl) mS FS.kp bS .nil n8 (a3 (pv 0) (a3 (A2 (a3 e7 (a3 (d8 GI hr (by rfl) mI FI.kp bI .nil n8 (a3 (pv 1) (a3 (o8 m7 (by rfl) B.len PySem.boot_len (a3 (pv 0) b8)) b8))) b8))) b8))))) e8)
   (c4 (i3 (d8 GS hr (by rfl) mS FS.kp bS .nil n8 (a3 (pv 0) (a3 (A2 (a3 e7 (a3 (d8 GW hr (by rfl) mW FW.kp bW .nil n8 (a3 (pv 1) b8)) b8))) b8)))))),?_⟩
  refine⟨_,rfl,_,.inl ⟨_,SqL.of hw,rfl⟩,x8 ?_⟩
  refine⟨_,rfl,rfl,x,_,rfl,rfl,_,rfl,p8 (fun _=>?_) (fun _=>?_)⟩
  ·exact⟨_,rfl,_,rfl,_,rfl,ta,xs,rfl,.inl hS,x,n,by rw[hn];rfl,hx,hb,o.n⟩
  ·refine⟨_,rfl,_,rfl,x,rfl,hx,fun v H1 s1=>⟨by show 2<=sizeLine;decide,fun t ft=>?_⟩,o.n⟩
   have s2:=s1.trans (d4 (o:=.tup [.str "wall",v]) ft)
   exact⟨ta,n,_,rfl,rfl,hT.same s2,fun H' s'=>o.b H' (s2.trans s')⟩
def am0 (K:W.Frag)(CN CB:Addr):Sp:=fun vs H Q E=>∃ (ta pr wb:Addr) (n:Nat) (i j:Int) (x:Str),vs=[.ref ta,.ref pr,.str x,.ref wb]/\TlB K H ta n/\H pr=some (.lst [.int i,.int j])/\x.length<=5000/\H wb=some (.lst [])/\aj7 CN CB H Q E
theorem at4:i0 ["tally","pair","first","webs","parts"] ["tally","pair","first","webs"] (a6 A7):=⟨rfl,rfl,rfl,by decide +kernel,rfl,by decide +kernel,by decide +kernel⟩
theorem av2 {f fS fW CN CB:Addr}{fd fdS fdW:FuncData}(F:Fun K "pair_stands" "pair_stands" A7 f fd)(B:Bn mg)(FS:Fun K "pair_shows" "pair_shows" T7 fS fdS)(bS:Binds K fdS ["tally","one","other","told"] [])(mS:mg "pair_shows"=some (.ref fS))(GS:d7 P w K mg base (CXE P w) 5 fS fdS ["tally","one","other","told"] (spR K CB 3))
  (FW:Fun K "wall_in" "wall_in" y6 fW fdW)(bW:Binds K fdW ["row"] [])(mW:mg "wall_in"=some (.ref fW))(GW:d7 P w K mg base (CXE P w) 5 fW fdW ["row"] (ah3 CN)):d7 P w K mg base (CXE P w) 6 f fd ["tally","pair","first","webs"] (am0 K CN CB):=by
 refine F.okX at4 (fun vs H Q E h=>?_) (fun cdv A outer s H vs Q E hr h=>?_)
 ·obtain⟨ta,pr,wb,n,i,j,x,rfl,_⟩:=h
  rfl
 ·obtain⟨ta,pr,wb,n,i,j,x,rfl,hT,hp,hx,hw,o⟩:=h
  refine⟨_,b7 (j8 (g7 p1 (pv 2) e7 (i4 _)) (c4 (i3 (ae7 (y7 p1 (o8 m7 (by rfl) B.len PySem.boot_len (a3 (pv 3) b8)) a5 (i4 _)) (R6 N2)))) e8)
   (b7 (i6 (i:=4) at4.nd rfl (Or.inl rfl) (v5 PySem.F.plainAttrs_str PySem.F.slot_str_partition PySem.F.type_str_partition Y6 (pv 2) (a3 e7 b8)))
   (b7 (j8 (PW.pt (N0 (U2 (pv 3) (fun _=>rfl)) (G9 (g7 (B5 K rfl) (n9 E9 (pv 4) a5 (fun _ _=>rfl)) (A2 (a3 e7 (a3 e7 b8))) (by rfl))))) (c4 (i3 E7)) e8)
   (c4 (i3 (d8 GS hr (by rfl) mS FS.kp bS .nil n8 (a3 (pv 0) (a3 (n9 l3 (pv 1) a5 (fun _ _=>rfl)) (a3 (n9 l3 (pv 1) a5 (fun _ _=>rfl)) (a3 (A2 (a3 (n9 E9 (pv 4) a5 (fun _ _=>rfl)) (a3 (d8 GW hr (by rfl) mW FW.kp bW .nil n8 (a3 (n9 E9 (pv 4) a5 (fun _ _=>rfl)) b8)) b8))) b8))))))))),?_⟩
  refine⟨_,rfl,rfl,_,rfl,p8 (fun _=>?_) (fun _=>?_)⟩
  ·refine⟨_,rfl,wb,_,rfl,.inl (SqL.of hw),rfl,_,rfl,?_⟩
   exact x8 (o.f H (j3.refl H))
  have hq:=U6 x (" ":Str)
  refine⟨_,rfl,rfl,x,_,rfl,rfl,A0,by omega,fun l fl=>?_⟩
  have s1:=d4 (o:=.tup [.str (Txt.partition x " ").1,.str (Txt.partition x " ").2.1,.str (Txt.partition x " ").2.2]) fl
  have g1:(upd H l (.tup [.str (Txt.partition x " ").1,.str (Txt.partition x " ").2.1,.str (Txt.partition x " ").2.2])) l=some (.tup [.str (Txt.partition x " ").1,.str (Txt.partition x " ").2.1,.str (Txt.partition x " ").2.2]):=c5
  generalize upd H l (.tup [.str (Txt.partition x " ").1,.str (Txt.partition x " ").2.1,.str (Txt.partition x " ").2.2])=H1 at s1 g1
  refine⟨_,rfl,_,.inl ⟨_,SqL.of (s1 _ _ hw),rfl⟩,x8 ?_⟩
  refine⟨_,rfl,l,_,_,_,rfl,rfl,SqT.of g1,j0 (j:=0) rfl,by show 2<=sizeLine;decide,fun l2 f2=>?_⟩
  have s2:=d4 (o:=.tup [.str "all",.str "none"]) f2
  have s12:=s1.trans s2
  refine⟨l2,_,rfl,.inr (SqT.of c5),rfl,rfl,_,rfl,p8 (fun _=>o.f _ s12) (fun _=>?_)⟩
  refine⟨_,rfl,_,rfl,pr,_,_,_,rfl,rfl,SqL.of (s12 _ _ hp),j0 (j:=0) rfl,_,rfl,pr,_,_,_,rfl,rfl,SqL.of (s12 _ _ hp),j0 (j:=1) rfl,_,rfl,l,_,_,_,rfl,rfl,SqT.of (s2 _ _ g1),j0 (j:=0) rfl,_,rfl,l,_,_,_,rfl,rfl,SqT.of (s2 _ _ g1),j0 (j:=2) rfl,_,rfl,by omega,fun v H3 s3=>⟨by show 2<=sizeLine;decide,fun t ft=>?_⟩,fun H3 s3=>o.n H3 (s12.trans s3)⟩
  have s4:=(s12.trans s3).trans (d4 (o:=.tup [.str (Txt.partition x " ").1,v]) ft)
  exact⟨ta,n,_,rfl,rfl,hT.same s4,fun H' s'=>o.b H' (s4.trans s')⟩
theorem at5:i0 ["tally","first","webs","many"] ["tally","first","webs"] (a6 E1):=⟨rfl,rfl,rfl,by decide +kernel,rfl,by decide +kernel,by decide +kernel⟩
theorem av3 {f fB CN CB:Addr}{fd fdB:FuncData}(F:Fun K "pieces_stands" "pieces_stands" E1 f fd)(B:Bn mg)(FB:Fun K "numbers_behind" "numbers_behind" O2 fB fdB)(bB:Binds K fdB ["row","first","many"] [])(mB:mg "numbers_behind"=some (.ref fB))(GB:d7 P w K mg base (CXE P w) 5 fB fdB ["row","first","many"] (aa3 CN)):d7 P w K mg base (CXE P w) 6 f fd ["tally","first","webs"] (Q8 K CN CB):=by
 refine F.okX at5 (fun vs H Q E h=>?_) (fun cdv A outer s H vs Q E hr h=>?_)
 ·obtain⟨ta,wb,n,x,rfl,_⟩:=h
  rfl
 ·obtain⟨ta,wb,n,x,rfl,hT,hx,hw,o⟩:=h
  refine⟨_,b7 (i6 (i:=3) at5.nd rfl (Or.inl rfl) (n9 l3 (d8 GB hr (by rfl) mB FB.kp bB .nil n8 (a3 (pv 1) (a3 e7 (a3 a5 b8)))) a5 (fun _ _=>rfl)))
   (b7 (j8 (PW.pt (N0 (g7 L4 (o8 m7 (by rfl) B.len PySem.boot_len (a3 (pv 2) b8)) a5 (i4 _)) (G9 (E4 (E3 N2))))) (c4 (i3 E7)) e8) k7),?_⟩
  refine⟨_,rfl,x,_,1,rfl,hx,by decide,fun l ns H1 s1 g1 e=>?_,o.n⟩
  obtain⟨z,rfl⟩:=J1.mp e
  refine⟨l,_,_,_,rfl,rfl,SqL.of g1,j0 (j:=0) rfl,?_⟩
  exact⟨_,rfl,wb,_,rfl,.inl (SqL.of (s1 _ _ hw)),rfl,_,rfl,v3 (v3 (o.f _ s1))⟩
theorem at6:i0 ["tally","first","webs","numbers"] ["tally","first","webs"] (a6 E2):=⟨rfl,rfl,rfl,by decide +kernel,rfl,by decide +kernel,by decide +kernel⟩
theorem av5 {f fB CN CB:Addr}{fd fdB:FuncData}(F:Fun K "off_stands" "off_stands" E2 f fd)(B:Bn mg)(FB:Fun K "numbers_behind" "numbers_behind" O2 fB fdB)(bB:Binds K fdB ["row","first","many"] [])(mB:mg "numbers_behind"=some (.ref fB))(GB:d7 P w K mg base (CXE P w) 5 fB fdB ["row","first","many"] (aa3 CN)):d7 P w K mg base (CXE P w) 6 f fd ["tally","first","webs"] (Q8 K CN CB):=by
 refine F.okX at6 (fun vs H Q E h=>?_) (fun cdv A outer s H vs Q E hr h=>?_)
 ·obtain⟨ta,wb,n,x,rfl,_⟩:=h
  rfl
 ·obtain⟨ta,wb,n,x,rfl,hT,hx,hw,o⟩:=h
  refine⟨_,b7 (i6 (i:=3) at6.nd rfl (Or.inl rfl) (d8 GB hr (by rfl) mB FB.kp bB .nil n8 (a3 (pv 1) (a3 e7 (a3 a5 b8)))))
   (c4 (i3 (ae7 (y7 p1 (o8 m7 (by rfl) B.len PySem.boot_len (a3 (pv 2) b8)) a5 (i4 _)) (R6 N2)))),?_⟩
  refine⟨_,rfl,x,_,2,rfl,hx,by decide,fun l ns H1 s1 g1 e=>?_,o.n⟩
  exact⟨_,rfl,wb,_,rfl,.inl (SqL.of (s1 _ _ hw)),rfl,_,rfl,x8 (o.f _ s1)⟩
end
abbrev kinds:List Str:=["web","pair","pieces","off"]
theorem O6 {X:Cx}(K:W.Frag)(hK:X.K=K):J6 X (.builtin "len") (fun xs H Q=>∃ p ys,xs=[.ref p]/\(SqL K H p ys\/SqT K H p ys)/\Q (.int ys.length) H):=by subst hK;exact m7
def KdT (K:W.Frag)(kA:Addr):Prop:=∀ H:Hp,SqT K H kA (kinds.map V.str)
theorem A5 {a b:Str}{c:Bool}(h:decide ((V.str a:V)=.str b)=c):(c=true↔a=b):=by
 rw[<- h,decide_eq_true_iff,V.str.injEq]
seal L2.PE L2.PA L2.PS L2.PSs L2.PT
section
variable {P:Program} {w:World} {K:W.Frag} {mg:Str->Option Value} {base:Heap}
def al9 (K:W.Frag)(CN CB:Addr):Sp:=fun vs H Q E=>∃ (ta pr ro:Addr) (n:Nat) (kd:Str) (ws:List Str),vs=[.str kd,.ref pr,.ref ta,.ref ro]/\TlB K H ta n/\(kd="pair"->∃ i j,H pr=some (.lst [.int i,.int j]))/\H ro=some (.lst (ws.map V.str))/\ws≠[]/\ws.length<=5002/\(∀ x∈ws,x.length<=5000)/\aj7 CN CB H Q E
theorem at3:i0 ["kind","pair","tally","rows","webs"] ["kind","pair","tally","rows"] (a6 A6):=⟨rfl,rfl,rfl,by decide +kernel,rfl,by decide +kernel,by decide +kernel⟩
set_option maxHeartbeats 1000000 in
theorem au9 {f fI f1 f2 f3 f4 CN CB:Addr}{fd fdI fd1 fd2 fd3 fd4:FuncData}(F:Fun K "stands" "stands" A6 f fd)(B:Bn mg)(FI:Fun K "web_in" "web_in" C8 fI fdI)(bI:Binds K fdI ["row","places"] [])(mI:mg "web_in"=some (.ref fI))(GI:d7 P w K mg base (CXE P w) 6 fI fdI ["row","places"] (X7 CN))
  (F1:Fun K "web_stands" "web_stands" D6 f1 fd1)(b1:Binds K fd1 ["tally","first","webs"] [])(m1:mg "web_stands"=some (.ref f1))(G1:d7 P w K mg base (CXE P w) 6 f1 fd1 ["tally","first","webs"] (Q8 K CN CB))
  (F2:Fun K "pair_stands" "pair_stands" A7 f2 fd2)(b2:Binds K fd2 ["tally","pair","first","webs"] [])(m2:mg "pair_stands"=some (.ref f2))(G2:d7 P w K mg base (CXE P w) 6 f2 fd2 ["tally","pair","first","webs"] (am0 K CN CB))
  (F3:Fun K "pieces_stands" "pieces_stands" E1 f3 fd3)(b3:Binds K fd3 ["tally","first","webs"] [])(m3:mg "pieces_stands"=some (.ref f3))(G3:d7 P w K mg base (CXE P w) 6 f3 fd3 ["tally","first","webs"] (Q8 K CN CB))
  (F4:Fun K "off_stands" "off_stands" E2 f4 fd4)(b4:Binds K fd4 ["tally","first","webs"] [])(m4:mg "off_stands"=some (.ref f4))(G4:d7 P w K mg base (CXE P w) 6 f4 fd4 ["tally","first","webs"] (Q8 K CN CB)):d7 P w K mg base (CXE P w) 7 f fd ["kind","pair","tally","rows"] (al9 K CN CB):=by
 refine F.okX at3 (fun vs H Q E h=>?_) (fun cdv A outer s H vs Q E hr h=>?_)
 ·obtain⟨ta,pr,ro,n,kd,ws,rfl,_⟩:=h
  rfl
 ·obtain⟨ta,pr,ro,n,kd,ws,rfl,hT,hp,hw,hne,hwl,hwx,o⟩:=h
  have hsl:sizeLine=16777216:=sizeLine_eq
  have nd2:(["row","tally"]:List Str).Nodup:=by decide +kernel
  refine⟨_,b7 (U3 (E:=E) rfl (i:=4) (N':=["row","tally"]) (lk:=[none,some 2]) at3.nd rfl rfl (by rfl) rfl (B0 (l9 v7 (pv 3) (n5 a5) p0)) (by rfl) rfl (by decide +kernel) (by exact⟨rfl,trivial⟩) (by rfl) (by exact LkL.ok ⟨⟨rfl,Or.inl rfl,rfl,Or.inl rfl⟩,trivial⟩)
    (fun _ _ _ _ _=>t7 (i:=0) nd2 rfl (Or.inl rfl)) (fun _ _ _ _ _=>F7) (fun _ _ _ _ _ I3 f3=>d8 GI hr (by rfl) mI FI.kp bI .nil (Y3 I3 f3) (a3 (pv 0) (a3 (o8 (O6 K rfl) (by rfl) B.len PySem.boot_len (a3 (pv 1) b8)) b8))))
   (b7 (j8 (g7 p1 (pv 0) e7 (i4 _)) (c4 (i3 (d8 G1 hr (by rfl) m1 F1.kp b1 .nil n8 (a3 (pv 2) (a3 (n9 l3 (pv 3) a5 (fun _ _=>rfl)) (a3 (pv 4) b8)))))) e8)
   (b7 (j8 (g7 p1 (pv 0) e7 (i4 _)) (c4 (i3 (d8 G2 hr (by rfl) m2 F2.kp b2 .nil n8 (a3 (pv 2) (a3 (pv 1) (a3 (n9 l3 (pv 3) a5 (fun _ _=>rfl)) (a3 (pv 4) b8))))))) e8)
   (b7 (j8 (g7 p1 (pv 0) e7 (i4 _)) (c4 (i3 (d8 G3 hr (by rfl) m3 F3.kp b3 .nil n8 (a3 (pv 2) (a3 (n9 l3 (pv 3) a5 (fun _ _=>rfl)) (a3 (pv 4) b8)))))) e8)
   (c4 (i3 (d8 G4 hr (by rfl) m4 F4.kp b4 .nil n8 (a3 (pv 2) (a3 (n9 l3 (pv 3) a5 (fun _ _=>rfl)) (a3 (pv 4) b8))))))))),?_⟩
  obtain⟨v,r,rfl⟩:∃ v r,ws=v::r:=by
   cases ws with
   | nil=>exact absurd rfl hne
   | cons v r=>exact⟨v,r,rfl⟩
  obtain⟨xs,hS,hn,hb,hl⟩:=id hT
  rw[d3]at hwl
  refine⟨_,rfl,_,rfl,ro,_,rfl,SqL.of hw,fun l2 f2=>?_⟩
  rw[ag2]
  have s2:=d4 (o:=.lst (r.map V.str)) f2
  have g2:(upd H l2 (.lst (r.map V.str))) l2=some (.lst (r.map V.str)):=c5
  generalize upd H l2 (.lst (r.map V.str))=H2 at s2 g2
  refine⟨l2,rfl,⟨_,SqL.of g2⟩,fun D hD=>C3 (K:=K) (a:=l2) (D:=D) (ys:=r.map V.str) (fun i xs σ' H'=>(∃ v,σ'=[v,some (.ref ta)])/\j3 H2 H'/\H' D=some (.lst xs)/\xs=[]/\i=0) ⟨⟨none,rfl⟩,d4 hD,c5,rfl,rfl⟩ (by rw[a8];omega)
   (fun i xs σ' H' hi ⟨_,s3,g3,e3,_⟩=>⟨SqL.of (s3 _ _ g2),g3,by rw[e3];exact o6 _⟩) ?_ ?_⟩
  ·rintro i xs' y σ' H' N kN hy ⟨⟨_,rfl⟩,s3,g3,e3,_⟩
   obtain⟨u,hu,_,rfl⟩:=K0 hy
   refine t5 (B8 ?_)
   exact⟨_,rfl,_,rfl,ta,xs,rfl,.inl ((s2.trans s3).seq hS),u,n,by rw[hn];rfl,hwx u (c2 _ hu),hb,fun H4 s4=>o.n H4 ((s2.trans s3).trans s4)⟩
  ·rintro xs' σ' H3 ⟨⟨_,rfl⟩,s3,g3,rfl,_⟩
   have s23:=s2.trans s3
   have o3:aj7 CN CB H3 Q E:=⟨fun H' s'=>o.f H' (s23.trans s'),fun H' s'=>o.n H' (s23.trans s'),fun H' s'=>o.b H' (s23.trans s')⟩
   have hv:=hwx v i5
   have a0:atI ((v::r).map V.str) 0=some (.str v):=j0 (j:=0) rfl
   refine⟨_,rfl,rfl,_,rfl,p8 (fun _=>?_) (fun _=>?_)⟩
   ·exact⟨_,rfl,_,rfl,ro,_,_,_,rfl,rfl,SqL.of (s23 _ _ hw),a0,_,rfl,ta,D,n,v,rfl,hT.same s23,hv,g3,o3⟩
   refine⟨_,rfl,rfl,_,rfl,p8 (fun hk=>?_) (fun _=>?_)⟩
   ·obtain⟨i,j,hp⟩:=hp ((A5 rfl).mp hk)
    exact⟨_,rfl,_,rfl,_,rfl,ro,_,_,_,rfl,rfl,SqL.of (s23 _ _ hw),a0,_,rfl,ta,pr,D,n,i,j,v,rfl,hT.same s23,s23 _ _ hp,hv,g3,o3⟩
   refine⟨_,rfl,rfl,_,rfl,p8 (fun _=>?_) (fun _=>?_)⟩
   ·exact⟨_,rfl,_,rfl,ro,_,_,_,rfl,rfl,SqL.of (s23 _ _ hw),a0,_,rfl,ta,D,n,v,rfl,hT.same s23,hv,g3,o3⟩
   ·exact⟨_,rfl,_,rfl,ro,_,_,_,rfl,rfl,SqL.of (s23 _ _ hw),a0,_,rfl,ta,D,n,v,rfl,hT.same s23,hv,g3,o3⟩
end
end Web
namespace Web
open PySem L2
theorem inK {v:Str}{ks:List Str}:inV (.str v) (ks.map V.str)=true↔v∈ks:=by
 unfold inV
 rw[List.any_map,List.any_eq_true]
 constructor
 ·rintro⟨y,hy,e⟩
  have:(y == v)=true:=e
  rw[<- eq_of_beq this]
  exact hy
 ·intro h
  exact⟨v,h,by show (v == v)=true;exact beq_self_eq_true v⟩
def V6 (x:Str):Prop:=∀ v r,Txt.split x " "=v::r->v∈kinds->(∀ u∈r,okW 50 u.cps.toList=true)->(v="pair"/\(r.length<=2\/26<r.length))\/(v≠"pair"/\O8 r.length)
seal L2.PE L2.PA L2.PS L2.PSs L2.PT
section
variable {P:Program} {w:World} {K:W.Frag} {mg:Str->Option Value} {base:Heap}
def X9 (K:W.Frag)(CN:Addr):Sp:=fun vs H Q E=>∃ (x:Str),vs=[.str x]/\x.length<=4000/\V6 x/\(∀ (t p q:Addr) (n:Nat) (kd:Str) (H':Hp),j3 H H'->H' t=some (.tup [.str kd,.ref p,.ref q])->(kd="pair"->∃ i j,H' p=some (.lst [.int i,.int j]))->TlB K H' q n->Q (.ref t) H')/\∀ H',j3 H H'->E (.ref CN) none H'
theorem Y0:i0 ["question","words","numbers","ahead"] ["question"] (a6 D1):=⟨rfl,rfl,rfl,by decide +kernel,rfl,by decide +kernel,by decide +kernel⟩
set_option maxHeartbeats 1000000 in
theorem ap3 {f fW CN kA:Addr} {fd fdW:FuncData} {tA:Tok} (F:Fun K "asked" "asked" D1 f fd) (B:Bn mg) (FW:Fun K "number_within" "number_within" sNW fW fdW) (bW:Binds K fdW ["word","most"] []) (mW:mg "number_within"=some (.ref fW)) (GW:d7 P w K mg base (CXE P w) 2 fW fdW ["word","most"] (ad2 CN))
  (mA:mg "MOST_FIGURES_ASKED"=some (.int 50 tA)) (mK:mg "KINDS"=some (.ref kA)) (hK:KdT K kA) (mN:mg "NoText"=some (.ref CN)) (cN:K6 K CN):d7 P w K mg base (CXE P w) 3 f fd ["question"] (X9 K CN):=by
 refine F.okX Y0 (fun vs H Q E h=>?_) (fun cdv A outer s H vs Q E hr h=>?_)
 ·obtain⟨x,rfl,_⟩:=h
  rfl
 ·obtain⟨x,rfl,hx,hq,q,qE⟩:=h
  have hsl:sizeLine=16777216:=sizeLine_eq
  have nd1:(["word"]:List Str).Nodup:=by decide +kernel
  refine⟨_,b7 (i6 (i:=1) Y0.nd rfl (Or.inl rfl) (v5 PySem.F.plainAttrs_str PySem.F.slot_str_split PySem.F.type_str_split C1 (pv 0) (a3 e7 b8)))
   (b7 (U3 (E := E) rfl (i := 2) (N' := ["word"]) (lk := [none]) Y0.nd rfl rfl (by rfl) rfl (B0 (l9 v7 (pv 1) (n5 a5) p0)) (by rfl) rfl (by decide +kernel) (by exact trivial) (by rfl) (by exact LkL.ok trivial)
    (fun _ _ _ _ _=>t7 (i:=0) nd1 rfl (Or.inl rfl)) (fun _ _ _ _ _=>F7) (fun _ _ _ _ _ I3 f3=>d8 GW hr (by rfl) mW FW.kp bW .nil (Y3 I3 f3) (a3 (pv 0) (a3 (u7 (v:=.int 50) (by rfl) mA ⟨tA,rfl⟩) b8))))
   (p4 (i6 (i:=3) Y0.nd rfl (Or.inl rfl) (U4 (g7 p1 (n9 l3 (pv 1) a5 (fun _ _=>rfl)) e7 (i4 _)) a5 a5))
   (b7 (j8 (PW.pt (N0 (g7 (B5 K rfl) (n9 l3 (pv 1) a5 (fun _ _=>rfl)) (u7 (v:=.ref kA) (by rfl) mK rfl) (by rfl)) (G9 (g7 ae9 (o8 m7 (by rfl) B.len PySem.boot_len (a3 (pv 2) b8)) (pv 3) (i4 _))))) (c4 (v8 (by rfl) mN cN)) e8)
   (c4 (i3 (A2 (a3 (n9 l3 (pv 1) a5 (fun _ _=>rfl)) (a3 (l9 v7 (pv 2) p0 (n5 (pv 3))) (a3 (l9 v7 (pv 2) (n5 (pv 3)) p0) b8))))))))),?_⟩
  obtain⟨v,r,ew⟩:=C6 x " "
  obtain⟨hv,hr',hrl⟩:=F0 ew (by omega)
  have hrl':r.length<=4001:=by
   have h2:=(split_len x " ").2
   rw[ew,d3]at h2
   omega
  have hq:=hq v r ew
  refine⟨_,rfl,rfl,x,_,rfl,rfl,A0,by omega,by rw[ew,d3];omega,fun l fl=>?_⟩
  rw[ew]
  have s1:=d4 (o:=.lst ((v::r).map V.str)) fl
  have g1:(upd H l (.lst ((v::r).map V.str))) l=some (.lst ((v::r).map V.str)):=c5
  generalize upd H l (.lst ((v::r).map V.str))=H1 at s1 g1
  have a0:atI ((v::r).map V.str) 0=some (.str v):=j0 (j:=0) rfl
  refine⟨_,rfl,_,rfl,l,_,rfl,SqL.of g1,fun l2 f2=>?_⟩
  rw[ag2]
  have s2:=d4 (o:=.lst (r.map V.str)) f2
  have g2:(upd H1 l2 (.lst (r.map V.str))) l2=some (.lst (r.map V.str)):=c5
  generalize upd H1 l2 (.lst (r.map V.str))=H2 at s2 g2
  refine⟨l2,rfl,⟨_,SqL.of g2⟩,fun D hD=>C3 (K:=K) (a:=l2) (D:=D) (ys:=r.map V.str) (fun i xs σ' H'=>(∃ v,σ'=[v])/\j3 H2 H'/\H' D=some (.lst xs)/\(∃ ns:List Int,xs=ns.map V.int/\ns.length=i)/\∀ u∈r.take i,okW 50 u.cps.toList=true) ⟨⟨none,rfl⟩,d4 hD,c5,⟨[],rfl,rfl⟩,fun u hu=>by rw[X2]at hu;cases hu⟩ (by rw[a8];omega)
   (fun i xs σ' H' hi ⟨_,s3,g3,⟨ns,e3,e4⟩,_⟩=>⟨SqL.of (s3 _ _ g2),g3,by rw[e3,a8];omega⟩) ?_ ?_⟩
  ·rintro i xs y σ' H' N kN hy ⟨⟨_,rfl⟩,s3,g3,⟨ns,rfl,e4⟩,hok⟩
   obtain⟨u,hu,eu,rfl⟩:=K0 hy
   refine t5 (B8 ?_)
   refine⟨_,rfl,u,50,rfl,hr' u hu,by decide,fun ok z H4 s4 _=>?_,fun _ H4 s4=>qE H4 (((s1.trans s2).trans s3).trans s4)⟩
   refine⟨s4 _ _ g3,kN _ _ _ ⟨⟨_,rfl⟩,(s3.trans s4).upd hD,c5,⟨ns++[z],by rw[k9];rfl,by rw[d9,e4];rfl⟩,fun u' hu'=>?_⟩⟩
   rw[O9,eu]at hu'
   rcases j9.mp hu' with z' | z'
   ·exact hok u' z'
   ·rw[i8.mp z'];exact ok
  ·rintro xs σ' H3 ⟨⟨_,rfl⟩,s3,g3,⟨ns,rfl,e4⟩,hok⟩
   rw[a8,T3]at hok
   rw[a8]at e4
   have s13:=(s1.trans s2).trans s3
   have g1':=(s2.trans s3) _ _ g1
   have fin:∀ ah:Nat,(ah=2↔v="pair")->(ah=2\/ah=0)->v∈kinds->ah<=ns.length->∀ (p q':Addr),H3 p=none->(upd H3 p (.lst ((ns.map V.int).take ah))) q'=none->∀ t,(upd (upd H3 p (.lst ((ns.map V.int).take ah))) q' (.lst ((ns.map V.int).drop ah))) t=none->Q (.ref t) (upd (upd (upd H3 p (.lst ((ns.map V.int).take ah))) q' (.lst ((ns.map V.int).drop ah))) t (.tup [.str v,.ref p,.ref q'])):=by
    intro ah h2 h20 hk hle p q' fp fq t ft
    have sp:=d4 (o:=.lst ((ns.map V.int).take ah)) fp
    have sq:=d4 (o:=.lst ((ns.map V.int).drop ah)) fq
    have st:=d4 (o:=.tup [.str v,.ref p,.ref q']) ft
    have hb:=hq hk hok
    refine q t p q' (ns.length - ah) v _ (s13.trans (sp.trans (sq.trans st))) c5 (fun e=>?_) ⟨(ns.map V.int).drop ah,SqL.of (st _ _ c5),by rw[o5,a8],?_,by omega⟩
    ·have e2:=h2.mpr e
     subst e2
     match ns,hle with
     | a::b::ms,_=>exact⟨a,b,st _ _ (sq _ _ c5)⟩
    ·unfold O8
     rcases hb with⟨e,hh⟩ | ⟨e,hh⟩
     ·have:=h2.mpr e
      omega
     ·have h0:ah=0:=by
       rcases h20 with z | z
       ·exact absurd (h2.mp z) e
       ·exact z
      unfold O8 at hh
      omega
   refine⟨fun σ H2=>∃ ah:Nat,σ=[some (.str x),some (.ref l),some (.ref D),some (.int ah)]/\H2=H3/\(ah=2↔v="pair")/\(ah=2\/ah=0),?_,?_⟩
   ·refine⟨_,rfl,l,_,_,_,rfl,rfl,SqL.of g1',a0,rfl,_,rfl,p8 (fun hc=>?_) (fun hc=>?_)⟩
    ·exact⟨2,rfl,rfl,⟨fun _=>(A5 rfl).mp hc,fun _=>rfl⟩,.inl rfl⟩
    ·exact⟨0,rfl,rfl,⟨fun z=>absurd z (by decide),fun e=>absurd ((A5 rfl).mpr e) hc⟩,.inr rfl⟩
   rintro σ H2 ⟨ah,rfl,rfl,h1,h2⟩
   refine⟨_,rfl,l,_,_,_,rfl,rfl,SqL.of g1',a0,kA,_,rfl,.inr (hK _),rfl,rfl,_,rfl,p8 (fun _=>v3 (qE _ s13)) (fun hk=>?_)⟩
   have hk':v∈kinds:=by
    refine inK.mp ?_
    have:(!inV (.str v) (kinds.map V.str))≠true:=hk
    cases e:inV (.str v) (kinds.map V.str) with
    | true=>rfl
    | false=>rw[e]at this;exact absurd rfl this
   refine⟨_,rfl,D,_,rfl,.inl (SqL.of g3),_,rfl,_,_,rfl,rfl,_,rfl,p8 (fun _=>qE _ s13) (fun hl=>?_)⟩
   have hle:ah<=ns.length:=by
    have:¬ ((((ns.map V.int).length:Nat):Int)<(ah:Int)):=fun z=>hl (decide_eq_true z)
    rw[a8]at this
    omega
   refine⟨_,rfl,l,_,_,_,rfl,rfl,SqL.of g1',a0,_,rfl,_,rfl,_,rfl,D,_,rfl,SqL.of g3,fun p fp=>?_⟩
   rw[S6]
   refine⟨_,rfl,_,rfl,_,rfl,D,_,rfl,SqL.of (d4 fp _ _ g3),fun q' fq=>?_⟩
   rw[Q1]
   exact⟨by show 3<=sizeLine;omega,fun t ft=>fin ah h1 h2 hk' hle p q' fp fq t ft⟩
end
end Web
namespace Web
open PySem L2
theorem af4 {X:Cx}(K:W.Frag)(hK:X.K=K):MtR X "str.join" (rJoin K):=by subst hK;exact S1
theorem ap5:(("\n":Str).length == 0)=false:=by decide +kernel
seal L2.PE L2.PA L2.PS L2.PSs L2.PT
section
variable {P:Program} {w:World} {K:W.Frag} {mg:Str->Option Value} {base:Heap}
def ad0 (K:W.Frag)(CB:Addr):Sp:=fun vs H _ E=>∃ (ta pr:Addr) (n:Nat) (kd:Str),vs=[.str kd,.ref pr,.ref ta]/\TlB K H ta n/\(kd="pair"->∃ i j,H pr=some (.lst [.int i,.int j]))/\∀ H',j3 H H'->E (.ref CB) none H'
theorem ad7:i0 ["kind","pair","tally","told"] ["kind","pair","tally"] (a6 D9):=⟨rfl,rfl,rfl,by decide +kernel,rfl,by decide +kernel,by decide +kernel⟩
theorem ao4 {f f1 f2 f3 f4 f5 f6 CB:Addr}{fd fd1 fd2 fd3 fd4 fd5 fd6:FuncData}{s5 s6:Stmt}(F:Fun K "rows_for" "rows_for" D9 f fd)
  (F1:Fun K "answered" "answered" U1 f1 fd1)(b1:Binds K fd1 ["tally"] [])(m1:mg "answered"=some (.ref f1))(G1:d7 P w K mg base (CXE P w) 5 f1 fd1 ["tally"] (spR K CB 0))
  (F2:Fun K "pair_told" "pair_told" sPT f2 fd2)(b2:Binds K fd2 ["tally","one","other"] [])(m2:mg "pair_told"=some (.ref f2))(G2:d7 P w K mg base (CXE P w) 5 f2 fd2 ["tally","one","other"] (spR K CB 2))
  (F3:Fun K "fewest_pieces" "fewest_pieces" T9 f3 fd3)(b3:Binds K fd3 ["tally"] [])(m3:mg "fewest_pieces"=some (.ref f3))(G3:d7 P w K mg base (CXE P w) 5 f3 fd3 ["tally"] (spR K CB 0))
  (F4:Fun K "least_off" "least_off" L1 f4 fd4)(b4:Binds K fd4 ["tally"] [])(m4:mg "least_off"=some (.ref f4))(G4:d7 P w K mg base (CXE P w) 5 f4 fd4 ["tally"] (spR K CB 0))
  (F5:Fun K "web_row" "web_row" s5 f5 fd5)(b5:Binds K fd5 ["told"] [])(m5:mg "web_row"=some (.ref f5))(F6:Fun K "pair_rows" "pair_rows" s6 f6 fd6)(b6:Binds K fd6 ["told"] [])(m6:mg "pair_rows"=some (.ref f6)):d7 P w K mg base (CXE P w) 6 f fd ["kind","pair","tally"] (ad0 K CB):=by
 have G5:d7 P w K mg base (CXE P w) 5 f5 fd5 ["told"] am1:=ak8
 have G6:d7 P w K mg base (CXE P w) 5 f6 fd6 ["told"] am1:=ak8
 refine F.okX ad7 (fun vs H Q E h=>?_) (fun cdv A outer s H vs Q E hr h=>?_)
 ·obtain⟨ta,pr,n,kd,rfl,_⟩:=h
  rfl
 ·obtain⟨ta,pr,n,kd,rfl,hT,hp,qE⟩:=h
  refine⟨_,b7 (j8 (g7 p1 (pv 0) e7 (i4 _)) (c4 (i3 (B4 (a3 (d8 G5 hr (by rfl) m5 F5.kp b5 .nil n8 (a3 (d8 G1 hr (by rfl) m1 F1.kp b1 .nil n8 (a3 (pv 2) b8)) b8)) b8)))) e8)
   (b7 (j8 (g7 p1 (pv 0) e7 (i4 _)) (c4 (i3 (d8 G6 hr (by rfl) m6 F6.kp b6 .nil n8 (a3 (d8 G2 hr (by rfl) m2 F2.kp b2 .nil n8 (a3 (pv 2) (a3 (n9 l3 (pv 1) a5 (fun _ _=>rfl)) (a3 (n9 l3 (pv 1) a5 (fun _ _=>rfl)) b8)))) b8)))) e8)
   (b7 (j8 (g7 p1 (pv 0) e7 (i4 _)) (b7 (i6 (i:=3) ad7.nd rfl (Or.inl rfl) (d8 G3 hr (by rfl) m3 F3.kp b3 .nil n8 (a3 (pv 2) b8))) k7) e8)
   (b7 (i6 (i:=3) ad7.nd rfl (Or.inl rfl) (d8 G4 hr (by rfl) m4 F4.kp b4 .nil n8 (a3 (pv 2) b8))) k7))),?_⟩
  refine⟨_,rfl,rfl,_,rfl,p8 (fun _=>?_) (fun _=>?_)⟩
  ·exact⟨_,rfl,ta,n,_,rfl,rfl,hT,qE⟩
  refine⟨_,rfl,rfl,_,rfl,p8 (fun hk=>?_) (fun _=>?_)⟩
  ·obtain⟨i,j,hp⟩:=hp ((A5 rfl).mp hk)
   exact⟨_,rfl,_,rfl,pr,_,_,_,rfl,rfl,SqL.of hp,j0 (j:=0) rfl,_,rfl,pr,_,_,_,rfl,rfl,SqL.of hp,j0 (j:=1) rfl,ta,n,_,rfl,rfl,hT,qE⟩
  refine⟨_,rfl,rfl,_,rfl,p8 (fun _=>?_) (fun _=>?_)⟩
  ·exact⟨_,rfl,ta,n,_,rfl,rfl,hT,qE⟩
  ·exact⟨_,rfl,ta,n,_,rfl,rfl,hT,qE⟩
def Q9:Sp:=fun vs H Q _=>∃ (x:Str),vs=[.str x]/\x.length<=4000/\V6 x/\∀ H',j3 H H'->Q (.str "refused") H'
theorem ad8:i0 ["question","parts"] ["question"] (a6 A9):=⟨rfl,rfl,rfl,by decide +kernel,rfl,by decide +kernel,by decide +kernel⟩
theorem ai8 {f fA fR CN CB CT:Addr}{fd fdA fdR:FuncData}{tR:Tok}(F:Fun K "answer" "answer" A9 f fd)
  (FA:Fun K "asked" "asked" D1 fA fdA)(bA:Binds K fdA ["question"] [])(mA:mg "asked"=some (.ref fA))(GA:d7 P w K mg base (CXE P w) 6 fA fdA ["question"] (X9 K CN))
  (FR:Fun K "rows_for" "rows_for" D9 fR fdR)(bR:Binds K fdR ["kind","pair","tally"] [])(mR:mg "rows_for"=some (.ref fR))(GR:d7 P w K mg base (CXE P w) 6 fR fdR ["kind","pair","tally"] (ad0 K CB))
  (mF:mg "REFUSED"=some (.str "refused" tR))(mT:mg "TallyError"=some (.ref CT))(xN:PySem.W.exmOne K (.ref CN) (.ref CT)=some true)(xB:PySem.W.exmOne K (.ref CB) (.ref CT)=some true):d7 P w K mg base CX0 7 f fd ["question"] Q9:=by
 refine F.ok ad8 (fun vs H Q E h=>?_) (fun cdv A outer s H vs Q E hr h=>?_)
 ·obtain⟨x,rfl,_⟩:=h
  rfl
 ·obtain⟨x,rfl,hx,hq,q⟩:=h
  refine⟨_,c4 (R5 (by rfl) mT rfl rfl (fun _ _=>b7 (i6 (i:=1) ad8.nd rfl (Or.inl rfl) (E6 GA hr (by rfl) mA FA.kp bA J4 (a3 (pv 0) b8)))
    (c4 (i3 (ae6 (te:=tC .non) K rfl (v5 PySem.F.plainAttrs_str PySem.F.slot_str_join PySem.F.type_str_join (af4 K rfl) e7 (a3 (E6 GR hr (by rfl) mR FR.kp bR J4 (a3 (B1 K rfl (pv 1) a5 (fun _ _=>rfl)) (a3 (B1 K rfl (pv 1) a5 (fun _ _=>rfl)) (a3 (B1 K rfl (pv 1) a5 (fun _ _=>rfl)) b8)))) b8))))))
   (fun _=>c4 (i3 (u7 (v:=.str "refused") (by rfl) mF ⟨tR,rfl⟩)))),?_⟩
  refine⟨fun σ' cls _ H'=>j3 H H'/\(cls=.ref CN\/cls=.ref CB),?_,?_⟩
  ·refine⟨_,rfl,x,rfl,hx,hq,fun t p q' n kd H1 s1 gt hp hT=>?_,fun H1 s1=>⟨s1,.inl rfl⟩⟩
   refine⟨rfl,_,rfl,t,_,_,_,rfl,rfl,SqT.of gt,j0 (j:=0) rfl,_,rfl,t,_,_,_,rfl,rfl,SqT.of gt,j0 (j:=1) rfl,_,rfl,t,_,_,_,rfl,rfl,SqT.of gt,j0 (j:=2) rfl,?_⟩
   exact⟨q',p,n,kd,rfl,hT,hp,fun H2 s2=>⟨s1.trans s2,.inr rfl⟩⟩
  ·rintro σ' cls H' ⟨s',rfl | rfl⟩
   ·exact⟨xN,q H' s'⟩
   ·exact⟨xB,q H' s'⟩
def as6:Sp:=fun vs H Q _=>∃ (x y:Str),vs=[.str x,.str y]/\x.length<=4000/\y.length<=4000/\V6 x/\(y="refused"->∀ H',j3 H H'->Q (.bl true) H')/\(y≠"refused"->∀ H',j3 H H'->Q (.bl false) H')
theorem at8:i0 ["question","told","parts"] ["question","told"] (a6 C9):=⟨rfl,rfl,rfl,by decide +kernel,rfl,by decide +kernel,by decide +kernel⟩
theorem av8 {f fW fA fS CN CB CT:Addr} {fd fdW fdA fdS:FuncData} {tR:Tok} (F:Fun K "judged" "judged" C9 f fd)
  (FW:Fun K "answer" "answer" A9 fW fdW) (bW:Binds K fdW ["question"] []) (mW:mg "answer"=some (.ref fW)) (GW:d7 P w K mg base CX0 7 fW fdW ["question"] Q9)
  (FA:Fun K "asked" "asked" D1 fA fdA) (bA:Binds K fdA ["question"] []) (mA:mg "asked"=some (.ref fA)) (GA:d7 P w K mg base (CXE P w) 7 fA fdA ["question"] (X9 K CN))
  (FS:Fun K "stands" "stands" A6 fS fdS) (bS:Binds K fdS ["kind","pair","tally","rows"] []) (mS:mg "stands"=some (.ref fS)) (GS:d7 P w K mg base (CXE P w) 7 fS fdS ["kind","pair","tally","rows"] (al9 K CN CB))
  (mF:mg "REFUSED"=some (.str "refused" tR)) (mT:mg "TallyError"=some (.ref CT)) (xN:PySem.W.exmOne K (.ref CN) (.ref CT)=some true) (xB:PySem.W.exmOne K (.ref CB) (.ref CT)=some true):d7 P w K mg base CX0 8 f fd ["question","told"] as6:=by
 refine F.ok at8 (fun vs H Q E h=>?_) (fun cdv A outer s H vs Q E hr h=>?_)
 ·obtain⟨x,y,rfl,_⟩:=h
  rfl
 ·obtain⟨x,y,rfl,hx,hy,hq,q1,q2⟩:=h
  have hsl:sizeLine=16777216:=sizeLine_eq
  refine⟨_,b7 (j8 (g7 p1 (pv 1) (u7 (v:=.str "refused") (by rfl) mF ⟨tR,rfl⟩) (i4 _)) (c4 (i3 (y7 p1 (d8 GW hr (by rfl) mW FW.kp bW .nil E8 (a3 (pv 0) b8)) (u7 (v:=.str "refused") (by rfl) mF ⟨tR,rfl⟩) (i4 _)))) e8)
   (c4 (R5 (by rfl) mT rfl rfl (fun _ _ => b7 (i6 (i := 2) at8.nd rfl (Or.inl rfl) (E6 GA hr (by rfl) mA FA.kp bA J4 (a3 (pv 0) b8)))
    (c4 (i3 (E6 GS hr (by rfl) mS FS.kp bS J4 (a3 (B1 K rfl (pv 2) a5 (fun _ _=>rfl)) (a3 (B1 K rfl (pv 2) a5 (fun _ _=>rfl)) (a3 (B1 K rfl (pv 2) a5 (fun _ _=>rfl)) (a3 (ae6 (te:=tC .non) K rfl (v5 PySem.F.plainAttrs_str PySem.F.slot_str_split PySem.F.type_str_split C1 (pv 1) (a3 e7 b8))) b8))))))))
   (fun _=>c4 (i3 E7)))),?_⟩
  refine⟨_,rfl,rfl,_,rfl,p8 (fun hc=>?_) (fun hc=>?_)⟩
  ·refine⟨_,rfl,x,rfl,hx,hq,fun H1 s1=>⟨rfl,?_⟩⟩
   rw[decide_eq_true (show (V.str "refused":V)=.str "refused" from rfl)]
   exact q1 ((A5 rfl).mp hc) H1 s1
  have hn:y≠"refused":=fun e=>hc ((A5 rfl).mpr e)
  have q:=q2 hn
  refine⟨fun σ' cls _ H'=>j3 H H'/\(cls=.ref CN\/cls=.ref CB),?_,?_⟩
  ·refine⟨_,rfl,x,rfl,hx,hq,fun t p q' n kd H1 s1 gt hp hT=>?_,fun H1 s1=>⟨s1,.inl rfl⟩⟩
   have h2:=split_len y "\n"
   refine⟨_,rfl,t,_,_,_,rfl,rfl,SqT.of gt,j0 (j:=0) rfl,_,rfl,t,_,_,_,rfl,rfl,SqT.of gt,j0 (j:=1) rfl,_,rfl,t,_,_,_,rfl,rfl,SqT.of gt,j0 (j:=2) rfl,_,rfl,rfl,y,_,rfl,rfl,ap5,by omega,by omega,fun l fl=>?_⟩
   have s2:=d4 (o:=.lst ((Txt.split y "\n").map V.str)) fl
   refine⟨q',p,l,n,kd,Txt.split y "\n",rfl,hT.same s2,fun e=>?_,c5,fun z=>?_,by omega,fun u hu=>j5 (B9 hu).1 (by omega),fun H3 s3=>q H3 ((s1.trans s2).trans s3),fun H3 s3=>⟨(s1.trans s2).trans s3,.inl rfl⟩,fun H3 s3=>⟨(s1.trans s2).trans s3,.inr rfl⟩⟩
   ·obtain⟨i,j,h⟩:=hp e
    exact⟨i,j,s2 _ _ h⟩
   ·rw[z]at h2;exact absurd h2.1 (by decide)
  ·rintro σ' cls H' ⟨s',rfl | rfl⟩
   ·exact⟨xN,q H' s'⟩
   ·exact⟨xB,q H' s'⟩
end
end Web
namespace Web
open PySem L2
theorem af7 {s:Str}(h:s∈kinds):s.length<=6/\t6 s:=by
 have:=h9.mp (show kinds.all (fun s=>decide (s.length<=6) && s.cps.toList.all (fun c=>decide (c<128)))=true by decide +kernel) s h
 rw[d6,decide_eq_true_iff,h9]at this
 exact⟨this.1,fun c hc=>of_decide_eq_true (this.2 c hc)⟩
theorem ae3 {xs:List Str}{z:Int}(h:0<=z/\z<xs.length):∃ s∈xs,atI (xs.map V.str) z=some (.str s):=by
 obtain⟨j,rfl⟩:=ac1 h.1
 have hj:j<xs.length:=by have:=h.2;omega
 exact⟨xs[j],A4 hj,j0 (j:=j) (by rw[j4,j6 hj];rfl)⟩
theorem md (z k:Int)(hk:0<k):0<=z % k/\z % k<k:=⟨J9 z (by omega),D5 z hk⟩
theorem az4 {z:Int}(h:0<=z/\z<5):z.natAbs.log2<1920/\(Str.ofString (toString z)).length<=1/\t6 (Str.ofString (toString z)):=by
 refine⟨?_,PyProof.Rows.toString_length_le h.1 (by decide) (by show z<10 ^ 1;omega),aj5 h.1⟩
 by_cases h0:z.natAbs=0
 ·rw[h0];decide
 ·exact(Nat.log2_lt h0).mpr (g8 (m:=8) (by omega) (by decide +kernel))
theorem aj3 {ns:List Int}{i:Nat}{x:V}(h:(ns.map V.int)[i]?=some x):∃ z:Int,ns[i]?=some z/\x=V.int z:=by
 rw[j4]at h
 cases e:ns[i]? with
 | none=>rw[e]at h;cases h
 | some z=>rw[e]at h;cases h;exact⟨z,rfl,rfl⟩
theorem Q6:t6 (" ":Str):=fun c hc=>of_decide_eq_true (h9.mp (show ((" ":Str).cps.toList.all fun c=>decide (c<128))=true by decide +kernel) c hc)
theorem F8:(" ":Str).length=1:=by decide +kernel
seal L2.PE L2.PA L2.PS L2.PSs L2.PT
section
variable {P:Program} {w:World} {K:W.Frag} {mg:Str->Option Value} {base:Heap}
def as5:Sp:=fun vs H Q _=>∃ c:Int,vs=[.int c]/\∀ (x:Str) (H':Hp),j3 H H'->x.length<=50->t6 x->Q (.str x) H'
theorem ah5:i0 ["cell","word","numbers"] ["cell"] (a6 G8):=⟨rfl,rfl,rfl,by decide +kernel,rfl,by decide +kernel,by decide +kernel⟩
theorem av1 {f fR:Addr} {fd fdR:FuncData} (F:Fun K "_law_question" "_law_question" G8 f fd) (B:Bn mg) (FR:Fun K "_law_row" "_law_row" T6 fR fdR) (bR:Binds K fdR ["cell","many","size"] []) (mR:mg "_law_row"=some (.ref fR)):d7 P w K mg base CX0 2 f fd ["cell"] as5:=by
 have GR:d7 P w K mg base CX0 1 fR fdR ["cell","many","size"] (ac9 K):=ai4 FR B
 refine F.ok ah5 (fun vs H Q E h=>?_) (fun cdv A outer s H vs Q E hr h=>?_)
 ·obtain⟨c,rfl,_⟩:=h
  rfl
 ·obtain⟨c,rfl,q⟩:=h
  have hsl:sizeLine=16777216:=sizeLine_eq
  have nd1:(["number"]:List Str).Nodup:=by decide +kernel
  refine⟨_,b7 (i6 (i:=0) ah5.nd rfl (Or.inl rfl) (g4 o9 (pv 0) (g4 R8 a5 a5)))
   (b7 (i6 (i:=1) ah5.nd rfl (Or.inl rfl) (n9 l3 (B4 (M5 kinds)) (g4 o9 (pv 0) a5) (fun _ _=>rfl)))
   (b7 (i6 (i:=2) ah5.nd rfl (Or.inl rfl) (d8 GR hr (by rfl) mR FR.kp bR .nil E8 (a3 (g4 p5 (pv 0) a5) (a3 (g4 x6 a5 (g4 o9 (g4 p5 (pv 0) a5) a5)) (a3 a5 b8)))))
   (c4 (i3 (v5 PySem.F.plainAttrs_str PySem.F.slot_str_join PySem.F.type_str_join S1 e7 (a3 (g4 W5 (B4 (a3 (pv 1) b8))
    (R7 (N' := ["number"]) (lk := [none]) rfl (B0 (pv 2)) (by rfl) rfl (by decide +kernel) (by exact trivial) (by rfl) (by exact LkL.ok trivial)
     (fun _ _ _=>t7 (i:=0) nd1 rfl (Or.inl rfl)) (fun _ _ _=>F7) (fun _ _ _=>K2 S7 (by rfl) B.str (by rfl) (a3 (pv 0) b8)))) b8)))))),?_⟩
  refine⟨_,rfl,_,_,rfl,rfl,⟨by decide,by decide,by decide⟩,_,_,rfl,rfl,p60,?_⟩
  refine p7 fun c _=>?_
  obtain⟨t,ht,hat⟩:=ae3 (xs:=kinds) (md c 4 (by decide))
  obtain⟨t1,t2⟩:=af7 ht
  refine⟨(by show 4<=sizeLine;decide),fun l0 f0=>⟨_,rfl,_,_,rfl,rfl,(by show (0:Int)<_;decide),l0,_,_,_,rfl,rfl,SqL.of c5,hat,?_⟩⟩
  have s0:=d4 (o:=.lst (kinds.map V.str)) f0
  generalize upd H l0 (.lst (kinds.map V.str))=H0 at s0
  obtain⟨j,ej,hj⟩:∃ j:Nat,1+c / 4 % 6=(j:Int)/\j<=6:=⟨(1+c / 4 % 6).toNat,by omega,by omega⟩
  refine⟨_,rfl,_,_,rfl,rfl,⟨by decide,by decide⟩,_,rfl,_,_,rfl,rfl,⟨by decide,by decide⟩,_,_,rfl,rfl,(by show (0:Int)<_;decide),_,_,rfl,rfl,?_⟩
  refine⟨_,j,5,by rw[<- ej];rfl,by omega,by decide,by decide,fun l1 ts H1 hl hb s1 _ g1=>?_⟩
  have s01:=s0.trans s1
  refine⟨rfl,_,rfl,(by show 1<=sizeLine;decide),fun l2 f2=>?_⟩
  have s2:=d4 (o:=.lst [.str t]) f2
  have g2:(upd H1 l2 (.lst [.str t])) l2=some (.lst [.str t]):=c5
  have g12:=s2 _ _ g1
  generalize upd H1 l2 (.lst [.str t])=H2 at s2 g2 g12
  refine⟨_,rfl,l1,rfl,⟨_,SqL.of g12⟩,fun D hD=>C3 (K:=K) (a:=l1) (D:=D) (ys:=ts.map V.int) (fun i xs σ' H'=>(∃ v,σ'=[v])/\j3 H2 H'/\H' D=some (.lst xs)/\∃ ws:List Str,xs=ws.map V.str/\ws.length=i/\∀ u∈ws,u.length<=1/\t6 u) ⟨⟨none,rfl⟩,d4 hD,c5,[],rfl,rfl,fun u hu=>by cases hu⟩ (by rw[a8];omega)
   (fun i xs σ' H' hi ⟨_,s3,g3,ws,e3,e4,_⟩=>⟨SqL.of (s3 _ _ g12),g3,by rw[e3,a8];omega⟩) ?_ ?_⟩
  ·rintro i xs y σ' H' N kN hy ⟨⟨_,rfl⟩,s3,g3,ws,rfl,e4,hw⟩
   obtain⟨z,ez,rfl⟩:=aj3 hy
   obtain⟨n1,n2,n3⟩:=az4 (hb z (B2 ez))
   refine t5 (B8 ?_)
   refine⟨_,rfl,_,rfl,n1,g3,kN _ _ _ ⟨⟨_,rfl⟩,s3.upd hD,c5,ws++[Str.ofString (toString z)],by rw[k9];rfl,by rw[d9,e4];rfl,fun u hu=>?_⟩⟩
   rcases j9.mp hu with h | h
   ·exact hw u h
   ·rw[i8.mp h];exact⟨n2,n3⟩
  ·rintro xs σ' H3 ⟨⟨_,rfl⟩,s3,g3,ws,rfl,e4,hw⟩
   rw[a8]at e4
   refine⟨l2,D,_,_,rfl,rfl,s3 _ _ g2,g3,by rw[a8];show 1+ws.length<=sizeLine;omega,fun l4 f4=>?_⟩
   have s4:=d4 (o:=.lst ([.str t]++ws.map V.str)) f4
   have hall:∀ u∈t::ws,u.length<=6/\t6 u:=fun u hu=>by
    rcases k6.mp hu with e | e
    ·rw[e];exact⟨t1,t2⟩
    ·exact⟨by have:=(hw u e).1;omega,(hw u e).2⟩
   have hj':=Y9 (y:=" ") (xs:=t::ws) (m:=6) (n:=7) (fun u hu=>(hall u hu).1) (by rw[d3];omega) (by rw[F8];decide)
   rw[F8]at hj'
   refine⟨" ",l4,t::ws,rfl,rfl,SqL.of (by rw[c5];rfl),hj'.1,?_⟩
   exact q _ _ (((s01.trans s2).trans s3).trans s4) (by have:=hj'.2;omega) (V0 Q6 fun u hu=>(hall u hu).2)
def ad1:Sp:=fun vs H Q _=>∃ (x:Str),vs=[.str x]/\x.length<=4000/\t6 x/\∀ (b:Bool) (H':Hp),j3 H H'->(b=true->V6 x)->Q (.bl b) H'
theorem G0:i0 ["text","words","word","figures","many"] ["text"] (a6 D0):=⟨rfl,rfl,rfl,by decide +kernel,rfl,by decide +kernel,by decide +kernel⟩
theorem af5 (x:Str):decide ((V.str (Txt.slice x none (some 1)):V)=.str "-")=decide (x.cps.toList.head?=some 45):=by
 rw[m9,decide_eq_true_iff,decide_eq_true_iff,V.str.injEq,M7,aa4]
 show _=[45]↔_
 cases x.cps.toList with
 | nil=>simp
 | cons a l=>simp
set_option maxHeartbeats 1000000 in
theorem ai5 {f:Addr} {fd:FuncData} (F:Fun K "_law_is_none" "_law_is_none" D0 f fd) (B:Bn mg):d7 P w K mg base CX0 1 f fd ["text"] ad1:=by
 refine F.ok G0 (fun vs H Q E h=>?_) (fun cdv A outer s H vs Q E hr h=>?_)
 ·obtain⟨x,rfl,_⟩:=h
  rfl
 ·obtain⟨x,rfl,hx,hA,q⟩:=h
  have hsl:sizeLine=16777216:=sizeLine_eq
  have hun:=hr.units
  have nd1:(["sign"]:List Str).Nodup:=by decide +kernel
  refine⟨_,b7 (i6 (i:=1) G0.nd rfl (Or.inl rfl) (v5 PySem.F.plainAttrs_str PySem.F.slot_str_split PySem.F.type_str_split C1 (pv 0) (a3 e7 b8)))
   (b7 (j8 (g7 (B5 K rfl) (n9 l3 (pv 1) a5 (fun _ _=>rfl)) (A2 (M5 kinds)) (by rfl)) (c4 (i3 E7)) e8)
   (b7 (N1 PassesOwn.never rfl (B0 (l9 v7 (pv 1) (n5 a5) p0)) (t7 (i := 2) G0.nd rfl (Or.inl rfl))
    (b7 (i6 (i:=3) G0.nd rfl (Or.inl rfl) (pv 2))
    (p4 (j8 (g7 p1 (l9 C7 (pv 2) p0 (n5 a5)) e7 (i4 _)) (c4 (i6 (i:=3) G0.nd rfl (Or.inl rfl) (l9 C7 (pv 2) (n5 a5) p0))) e8)
    (b7 (j8 (PW.pt (N0 (E4 (J3 L5 L5 a5 (o8 N7 (by rfl) B.len PySem.boot_len (a3 (pv 3) b8)) a5))
     (G9 (g7 ao0 (R7 (N':=["sign"]) (lk:=[none]) rfl (ae4 (pv 3)) (by rfl) rfl (by decide +kernel) (by exact trivial) (by rfl) (by exact LkL.ok trivial)
       (fun _ _ _=>t7 (i:=0) nd1 rfl (Or.inl rfl)) (fun _ _ _=>ai0 (g7 R9 (pv 0) e7 (by rfl))) (fun _ _ _=>pv 0)) (B4 b8) (i4 _))))) (c4 (i3 E7)) e8)
    (c4 (j8 (PW.pt (ae1 (g7 p1 (E5 (pv 3) a5 (fun _ _=>rfl)) e7 (i4 _)) (Y2 (g7 L4 (pv 2) e7 (i4 _))))) (c4 (i3 E7)) e8))))))
   (b7 (i6 (i:=4) G0.nd rfl (Or.inl rfl) (g4 ae8 (o8 m7 (by rfl) B.len PySem.boot_len (a3 (pv 1) b8)) a5))
   (p4 (j8 (g7 p1 (n9 l3 (pv 1) a5 (fun _ _=>rfl)) e7 (i4 _)) (c4 (i6 (i:=4) G0.nd rfl (Or.inl rfl) (g4 ae8 (pv 4) a5))) e8)
   (c4 (i3 (ak6 (y7 ae9 (pv 4) a5 (i4 _)) (R6 (y7 au4 (pv 4) a5 (i4 _)))))))))),?_⟩
  obtain⟨v,r,ew⟩:=C6 x " "
  obtain⟨hv,hr',hrl⟩:=F0 ew (by omega)
  have hrA:∀ u∈r,t6 u:=fun u hu=>(B9 (x:=x) (y:=" ") (by rw[ew];exact c2 _ hu)).2 hA
  refine⟨_,rfl,rfl,x,_,rfl,rfl,A0,by omega,by rw[ew,d3];omega,fun l fl=>?_⟩
  rw[ew]
  have s1:=d4 (o:=.lst ((v::r).map V.str)) fl
  have g1:(upd H l (.lst ((v::r).map V.str))) l=some (.lst ((v::r).map V.str)):=c5
  generalize upd H l (.lst ((v::r).map V.str))=H1 at s1 g1
  have a0:atI ((v::r).map V.str) 0=some (.str v):=j0 (j:=0) rfl
  refine⟨_,rfl,l,_,_,_,rfl,rfl,SqL.of g1,a0,(by show 4<=sizeLine;decide),fun lk fk=>?_⟩
  have sk:=d4 (o:=.tup (kinds.map V.str)) fk
  have s1k:=s1.trans sk
  have g1k:=sk _ _ g1
  refine⟨lk,_,rfl,.inr (SqT.of c5),rfl,rfl,_,rfl,p8 (fun hk=>?_) (fun hk=>?_)⟩
  ·refine q true _ s1k fun _ v' r' e' hk'=>?_
   rw[ew]at e'
   cases e'
   have:=inK.mpr hk'
   have h2:(!inV (.str v) (kinds.map V.str))=true:=hk
   rw[this]at h2
   cases h2
  generalize upd H1 lk (.tup (kinds.map V.str))=H2 at s1k g1k
  clear hk s1 g1 sk fk
  refine⟨_,rfl,_,rfl,l,_,rfl,SqL.of g1k,fun l2 f2=>?_⟩
  rw[ag2]
  have s2:=s1k.trans (d4 (o:=.lst (r.map V.str)) f2)
  have g2:(upd H2 l2 (.lst (r.map V.str))) l2=some (.lst (r.map V.str)):=c5
  have g12:=d4 (o:=.lst (r.map V.str)) f2 _ _ g1k
  generalize upd H2 l2 (.lst (r.map V.str))=HB at s2 g2 g12
  refine⟨l2,rfl,⟨_,SqL.of g2⟩,N6 (K:=K) (a:=l2) (xs:=r.map V.str) (fun _ σ H2=>∃ e2 e3 e4,σ=[some (.str x),some (.ref l),e2,e3,e4]/\j3 HB H2) ⟨_,_,_,rfl,j3.refl HB⟩ (fun i σ H2 _ ⟨_,_,_,_,s⟩=>SqL.of (s _ _ g2)) ?_ ?_⟩
  ·rintro i y σ Ha hy ⟨e2,e3,e4,rfl,sa⟩
   obtain⟨u,hu,_,rfl⟩:=K0 hy
   have hul:=hr' u hu
   have huA:=hrA u hu
   have sHa:=s2.trans sa
   have bad:okW 50 u.cps.toList=false->V6 x:=fun e v' r' e' _ hall=>by
    rw[ew]at e'
    cases e'
    rw[hall u hu]at e
    cases e
   refine⟨_,rfl,?_⟩
   have nxt:∀ (e3:Option V) (H':Hp),j3 Ha H'->∃ e2' e3' e4',[some (V.str x),some (.ref l),some (.str u),e3,e4]=[some (.str x),some (.ref l),e2',e3',e4']/\j3 HB H':=fun e3 H' s'=>⟨_,_,_,rfl,sa.trans s'⟩
   have fin:okW 50 u.cps.toList=false->∀ H',j3 Ha H'->Q (.bl true) H':=fun e H' s'=>q true H' (sHa.trans s') fun _=>bad e
   refine⟨fun σ H2=>∃ y:Str,σ=[some (.str x),some (.ref l),some (.str u),some (.str y),e4]/\Ha=H2/\y.length<=u.length/\y.cps.toList=fgL u.cps.toList,?_,?_⟩
   ·refine⟨_,rfl,_,rfl,u,rfl,(by omega),rfl,_,rfl,?_⟩
    rw[af5]
    unfold fgL
    by_cases hh:u.cps.toList.head?=some 45
    ·rw[decide_eq_true hh,if_pos hh]
     exact v3 ⟨_,rfl,_,rfl,u,rfl,(by omega),_,rfl,rfl,Txt.slice_le u _ _,K9 u⟩
    ·rw[decide_eq_false hh,if_neg hh]
     exact x8 ⟨_,rfl,rfl,c9 _,rfl⟩
   rintro σ H2 ⟨y,rfl,rfl,hy',eY⟩
   have lY:y.length=(fgL u.cps.toList).length:=by rw[<- m8,eY]
   have aY:∀ c∈y.cps.toList,c<128:=fun c hc=>by
    rw[eY]at hc
    unfold fgL at hc
    split at hc
    ·exact huA c (K8 hc)
    ·exact huA c hc
   refine⟨_,rfl,_,_,rfl,⟨by omega,rfl⟩,_,_,rfl,rfl,_,rfl,?_⟩
   by_cases h1:(1:Int)<=(y.length:Int)
   ·rw[decide_eq_true h1]
    refine v3 ⟨_,_,rfl,rfl,_,rfl,?_⟩
    by_cases h2:(y.length:Int)<=50
    ·rw[decide_eq_true h2]
     refine x8 ⟨_,rfl,y,rfl,fun D hD=>V3 (x:=y) (D:=D) (fun i xs σ' H'=>(∃ v,σ'=[v])/\j3 Ha H'/\H' D=some (.lst xs)/\xs=((y.cps.toList.take i).filter fun c=>!isD c).map fun c=>V.str ⟨#[c]⟩)
      ⟨⟨none,rfl⟩,d4 hD,c5,by rw[X2];rfl⟩ (by omega) (fun i xs σ' H' hi ⟨_,s2,g2,e2⟩=>⟨g2,by rw[e2,a8];exact j5 (List.length_filter_le ..) (by rw[o4];omega)⟩) ?_ ?_⟩
     ·rintro i xs c σ' H' N kN hc ⟨⟨v,rfl⟩,s2,g2,rfl⟩
      refine⟨_,rfl,_,_,rfl,rfl,_,rfl,?_⟩
      have e5:(y.cps.toList.take (i+1))=y.cps.toList.take i++[c]:=by rw[O9,hc];rfl
      have e6:(!(!(Builtin.Str.occurrences ("0123456789":Str) ⟨#[c]⟩ 0 ("0123456789":Str).length 1).isEmpty))=!isD c:=by rw[af9]
      rw[e6]
      cases e:isD c with
      | true =>
       refine x8 (kN _ _ _ ⟨⟨_,rfl⟩,s2,g2,?_⟩)
       rw[e5,al2,List.filter_cons_of_neg (by rw[e];decide),List.filter_nil,List.append_nil]
      | false =>
       refine v3 ⟨_,rfl,g2,kN _ _ _ ⟨⟨_,rfl⟩,s2.upd hD,c5,?_⟩⟩
       rw[e5,al2,List.filter_cons_of_pos (by rw[e];rfl),List.filter_nil,k9]
       rfl
     ·rintro xs σ' H1 ⟨⟨v,rfl⟩,s1,g1,rfl⟩
      rw[<- m8,T3]at g1
      refine⟨by show 0<=sizeLine;omega,fun l4 f4=>?_⟩
      have s4:=d4 (o:=.lst []) f4
      refine⟨_,.list [],dtS (SqL.of (s4 _ _ g1)),Dt.mkL (SqL.of c5) .mkN,az5 (fun c hc=>aY c ((V7.mp hc).1)),by simp[PyData.canLay0,PyData.canLayAll0],?_,_,rfl,?_⟩
      ·exact ar3 hun (j5 (Nat.min_le_left _ _) (j5 (aA0 _) (by decide)))
      have s14:=s1.trans s4
      show if (!PyData.eqv _ _)=true then _ else _
      rw[az9]
      by_cases e3:(fgL u.cps.toList).all isD=true
      ·have ef:(y.cps.toList.filter fun c=>!isD c)=[]:=by
        rw[ac2,eY]
        intro c hc
        rw[h9.mp e3 c hc]
        decide
       rw[ef]
       refine x8 ?_
       have e12:okW 50 u.cps.toList=(decide (u.cps.toList=[48]) || !decide ((fgL u.cps.toList).head?=some 48)):=by
        unfold okW
        rw[e3,<- lY,decide_eq_true h1,decide_eq_true h2]
        rfl
       have hl:0<y.cps.toList.length:=by rw[m8];omega
       obtain⟨c,l',ec⟩:∃ c l,y.cps.toList=c::l:=by
        cases e:y.cps.toList with
        | nil=>rw[e]at hl;exact absurd hl (by decide)
        | cons c l=>exact⟨c,l,rfl⟩
       refine⟨_,rfl,y,0,c,rfl,rfl,by decide,by decide,(by show (0:Int)<(y.length:Int);omega),(by rw[<- n6,ec];rfl),rfl,_,rfl,?_⟩
       rw[U8]
       have eh:decide ((fgL u.cps.toList).head?=some 48)=decide (c=48):=by
        rw[<- eY,ec,m9,decide_eq_true_iff,decide_eq_true_iff]
        exact Option.some.injEq ..  |>.to_iff
       rw[eh]at e12
       by_cases h48:c=48
       ·rw[decide_eq_true h48]at e12 ⊢
        refine v3 ⟨_,rfl,rfl,_,rfl,?_⟩
        rw[zero_eq]
        cases e4':decide (u.cps.toList=[48]) with
        | true=>exact x8 (nxt _ _ s14)
        | false =>
         rw[e4']at e12
         exact v3 (fin e12 _ s14)
       ·rw[decide_eq_false h48]
        exact x8 (x8 (nxt _ _ s14))
      ·have ef:(y.cps.toList.filter fun c=>!isD c).isEmpty=false:=by
        rw[List.isEmpty_eq_false_iff]
        intro z
        refine e3 (h9.mpr fun c hc=>?_)
        rw[ac2,eY]at z
        have:=z c hc
        revert this
        cases isD c<;>simp
       rw[ef]
       refine v3 (fin ?_ _ s14)
       unfold okW
       rw[Bool.eq_false_iff.mpr e3,M0,k8]
    ·rw[decide_eq_false h2]
     refine v3 (fin ?_ Ha (j3.refl Ha))
     unfold okW
     rw[<- lY,decide_eq_false h2,M0,k8,k8]
   ·rw[decide_eq_false h1]
    refine x8 ⟨_,rfl,v3 (fin ?_ Ha (j3.refl Ha))⟩
    unfold okW
    rw[<- lY,decide_eq_false h1,k8,k8,k8]
  ·rintro σ H3 ⟨e2,e3,e4,rfl,sa⟩
   have sHa:=s2.trans sa
   refine⟨_,rfl,l,_,rfl,.inl (SqL.of (sa _ _ g12)),_,_,rfl,rfl,?_⟩
   refine⟨fun σ H2=>∃ (m:Int) (e2 e3:Option V),σ=[some (.str x),some (.ref l),e2,e3,some (.int m)]/\H2=H3/\((v="pair"/\m=(r.length:Int) - 2)\/(v≠"pair"/\m=r.length)),?_,?_⟩
   ·refine⟨_,rfl,l,_,_,_,rfl,rfl,SqL.of (sa _ _ g12),a0,rfl,_,rfl,p8 (fun hc=>?_) (fun hc=>?_)⟩
    ·refine⟨_,rfl,_,_,rfl,rfl,?_⟩
     refine⟨_,_,_,rfl,rfl,.inl ⟨(A5 rfl).mp hc,?_⟩⟩
     rw[a8,d3];omega
    ·refine⟨_,_,_,rfl,rfl,.inr ⟨fun e=>hc ((A5 rfl).mpr e),?_⟩⟩
     rw[a8,d3];omega
   rintro σ H2 ⟨m,e2,e3,rfl,rfl,hm⟩
   have fin:∀ b:Bool,(b=true->m<1\/24<m)->Q (.bl b) H2:=fun b hb=>q b _ sHa fun e v' r' e' _ _=>by
    rw[ew]at e'
    cases e'
    have:=hb e
    unfold O8
    rcases hm with⟨e1,e2⟩ | ⟨e1,e2⟩
    ·exact .inl ⟨e1,by omega⟩
    ·exact .inr ⟨e1,by omega⟩
   refine⟨_,rfl,_,_,rfl,rfl,_,rfl,p8 (fun hc=>?_) (fun hc=>?_)⟩
   ·exact fin true fun _=>.inl (of_decide_eq_true hc)
   ·exact⟨_,rfl,_,_,rfl,rfl,fin _ fun e=>.inr (of_decide_eq_true e)⟩
end
end Web
namespace L2
open PySem PySem.Spec PyProof.Rows PySem.Builtin PySem.Builtin.Str
theorem up1 {c:Nat}(h:c<128):(Unicode.upperOf c).length=1/\∀ d∈Unicode.upperOf c,d<128:=by
 have:=h9.mp (show (Z8 128).all (fun c=>decide ((Unicode.upperOf c).length=1) && (Unicode.upperOf c).all (fun d=>decide (d<128)))=true by decide +kernel) c (L8.mpr h)
 rw[d6,decide_eq_true_iff,h9]at this
 exact⟨this.1,fun d hd=>of_decide_eq_true (this.2 d hd)⟩
theorem Z9 (x:Str):(Txt.upper x).cps.toList=x.cps.toList.flatMap Unicode.upperOf:=by
 show (placed x fun _ c=>Unicode.upperOf c).toList=_
 unfold placed
 rw[Array.toList_flatten,Array.toList_mapIdx]
 rw[show (List.mapIdx (fun i c=>(Unicode.upperOf c).toArray) x.cps.toList)=x.cps.toList.map fun c=>(Unicode.upperOf c).toArray from List.ext_getElem? fun i=>by rw[List.getElem?_mapIdx,j4]]
 rw[List.map_map]
 rfl
theorem ac3 {x:Str}(h:t6 x):(Txt.upper x).length<=x.length/\t6 (Txt.upper x):=by
 have e:=Z9 x
 have key:∀ L:List Nat,(∀ c∈L,c<128)->(L.flatMap Unicode.upperOf).length=L.length/\∀ d∈L.flatMap Unicode.upperOf,d<128:=by
  intro L
  induction L with
  | nil=>intro _;exact⟨rfl,fun d hd=>by cases hd⟩
  | cons c L ih =>
   intro hL
   obtain⟨i1,i2⟩:=ih fun d hd=>hL d (c2 _ hd)
   obtain⟨u1,u2⟩:=up1 (hL c i5)
   rw[List.flatMap_cons,d9,d3,u1,i1]
   refine⟨by omega,fun d hd=>?_⟩
   rcases j9.mp hd with z | z
   ·exact u2 d z
   ·exact i2 d z
 obtain⟨k1,k2⟩:=key _ h
 refine⟨by rw[<- m8,e,k1,m8];exact c9 _,fun c hc=>k2 c (by rw[<- e];exact hc)⟩
end L2
namespace Web
open PySem L2
theorem p40:(0:Int)<10 ^ (Int.toNat 40):=Int.pow_pos (by decide)
def K1 (s:Str):Bool:=decide (s.length<=9) && s.cps.toList.all (fun c=>decide (c<128))
theorem C0 {xs:List Str}(h:xs.all K1=true){s:Str}(hs:s∈xs):s.length<=9/\t6 s:=by
 have:=h9.mp h s hs
 unfold K1 at this
 rw[d6,decide_eq_true_iff,h9]at this
 exact⟨this.1,fun c hc=>of_decide_eq_true (this.2 c hc)⟩
abbrev ws7:List Str:=["\n"," ","\nweb 0"," +1"," 01"]
abbrev al3:List Str:=[""," ","web","refused","0","tally 1 1","web  0 0"," web 0 0"]
theorem sh7:ws7.all K1=true:=by decide +kernel
theorem ay2:al3.all K1=true:=by decide +kernel
theorem sh1:(["-","9","0"]:List Str).all K1=true:=by decide +kernel
theorem aw2:("-":Str).length=1:=by decide +kernel
theorem aw1:("9":Str).length=1:=by decide +kernel
theorem len0:("0":Str).length=1:=by decide +kernel
abbrev sS:Str:=" -0123456789webpair\n_+.W"
theorem ad9:sS.length=24:=by decide +kernel
theorem an0:(sS.cps.toList.all fun c=>decide (c<128))=true:=by decide +kernel
theorem P0 {a b:Int}(h:decide ((V.int a:V)=.int b)=true):a=b:=by
 have:=of_decide_eq_true h
 cases this
 rfl
theorem P8:∀ (ws:List Str) (a:Nat),(ws.map V.str).eraseIdx a=(ws.eraseIdx a).map V.str
 | [],_=>rfl
 | u::ws,0=>rfl
 | u::ws,a+1=>by rw[B7,ab8,ab8,P8 ws a,B7]
theorem ar4 {n:Nat}(h:n<=1000):Builtin.Str.tooLong n=false:=by
 unfold Builtin.Str.tooLong
 rw[decide_eq_false_iff_not,sizeLine_eq]
 omega
theorem ah6 (n:Nat)(x:Str):(f9 n [V.str x]).flatten=(f9 n x).map V.str:=by
 induction n with
 | zero=>rfl
 | succ n ih=>rw[n4,z0,ih];rfl
def Wk (ws:List Str):Prop:=ws.length<=60/\∀ u∈ws,u.length<=60/\t6 u
def Js (H:Hp)(x:Str)(c:Int)(a b:Nat)(sg:Str)(wy:Int)(w0:List Str)(k:Int)(σ:St)(H2:Hp):Prop:=
 ∃ (l:Addr) (ws:List Str),σ=[some (.str x),some (.int c),some (.ref l),some (.int (a:Int)),some (.int (b:Int)),some (.str sg),some (.int wy)]/\j3 H H2/\H l=none/\H2 l=some (.lst (ws.map V.str))/\Wk ws/\(k<=wy->ws=w0)
theorem Js.le {H:Hp}{x:Str}{c:Int}{a b:Nat}{sg:Str}{wy:Int}{w0:List Str}{k j:Int}{σ:St}{H2:Hp}(h:Js H x c a b sg wy w0 k σ H2)(hk:k<=j):Js H x c a b sg wy w0 j σ H2:=by
 obtain⟨l,ws,h1,h2,h3,h4,h5,h6⟩:=h
 exact⟨l,ws,h1,h2,h3,h4,h5,fun z=>h6 (by omega)⟩
seal L2.PE L2.PA L2.PS L2.PSs L2.PT
section
variable {P:Program} {w:World} {K:W.Frag} {mg:Str->Option Value} {base:Heap}
def as4:Sp:=fun vs H Q _=>∃ (x:Str) (c:Int),vs=[.str x,.int c]/\x.length<=50/\t6 x/\∀ (y:Str) (H':Hp),j3 H H'->y.length<=4000->t6 y->Q (.str y) H'
theorem R1:i0 ["text","cell","words","at","spot","sign","way"] ["text","cell"] (a6 G7):=⟨rfl,rfl,rfl,by decide +kernel,rfl,by decide +kernel,by decide +kernel⟩
set_option maxHeartbeats 2000000 in
theorem av0 {f:Addr}{fd:FuncData}(F:Fun K "_law_spoiled" "_law_spoiled" G7 f fd)(B:Bn mg):d7 P w K mg base CX0 1 f fd ["text","cell"] as4:=by
 refine F.ok R1 (fun vs H Q E h=>?_) (fun cdv A outer s H vs Q E hr h=>?_)
 ·obtain⟨x,c,rfl,_⟩:=h
  rfl
 ·obtain⟨x,c,rfl,hx,hA,q⟩:=h
  have hsl:sizeLine=16777216:=sizeLine_eq
  refine⟨_,b7 (i6 (i:=1) R1.nd rfl (Or.inl rfl) (g4 o9 (pv 1) (g4 R8 a5 a5)))
   (b7 (i6 (i:=2) R1.nd rfl (Or.inl rfl) (v5 PySem.F.plainAttrs_str PySem.F.slot_str_split PySem.F.type_str_split C1 (pv 0) (a3 e7 b8)))
   (b7 (i6 (i:=3) R1.nd rfl (Or.inl rfl) (g4 o9 (g4 p5 (pv 1) a5) (o8 m7 (by rfl) B.len PySem.boot_len (a3 (pv 2) b8))))
   (b7 (i6 (i:=4) R1.nd rfl (Or.inl rfl) (g4 o9 (g4 p5 (pv 1) a5) (g4 x6 (o8 N7 (by rfl) B.len PySem.boot_len (a3 (pv 0) b8)) a5)))
   (b7 (i6 (i:=5) R1.nd rfl (Or.inl rfl) (E5 e7 (g4 o9 (g4 p5 (pv 1) a5) a5) (fun _ _=>rfl)))
   (p4 (i6 (i:=6) R1.nd rfl (Or.inl rfl) (g4 o9 (pv 1) a5))
   (p4 (j8 (g7 p1 (pv 6) a5 (i4 _)) (c4 (i3 (g4 t8 (l9 C7 (pv 0) p0 (n5 (pv 4))) (l9 C7 (pv 0) (n5 (g4 x6 (pv 4) a5)) p0)))) e8)
   (p4 (j8 (g7 p1 (pv 6) a5 (i4 _)) (c4 (i3 (g4 t8 (g4 t8 (l9 C7 (pv 0) p0 (n5 (pv 4))) (pv 5)) (l9 C7 (pv 0) (n5 (pv 4)) p0)))) e8)
   (p4 (j8 (g7 p1 (pv 6) a5 (i4 _)) (c4 (i3 (g4 t8 (g4 t8 (l9 C7 (pv 0) p0 (n5 (pv 4))) (pv 5)) (l9 C7 (pv 0) (n5 (g4 x6 (pv 4) a5)) p0)))) e8)
   (p4 (j8 (g7 p1 (pv 6) a5 (i4 _)) (c4 (u6 (v5 PySem.F.plainAttrs_list PySem.F.slot_list_insert PySem.F.type_list_insert ab1 (pv 2) (a3 (pv 3) (a3 (n9 l3 (pv 2) (pv 3) (fun _ _=>rfl)) b8))))) e8)
   (p4 (j8 (g7 p1 (pv 6) a5 (i4 _)) (c4 (u6 (v5 PySem.F.plainAttrs_list PySem.F.slot_list_pop PySem.F.type_list_pop af3 (pv 2) (a3 (pv 3) b8)))) e8)
   (p4 (j8 (g7 p1 (pv 6) a5 (i4 _)) (c4 (ae2 (an7 PySem.F.plainAttrs_str PySem.F.slot_str_upper PySem.F.type_str_upper af2 (n9 l3 (pv 2) a5 (fun _ _=>rfl))) (ae5 (pv 2) a5 set_list))) e8)
   (p4 (j8 (g7 p1 (pv 6) a5 (i4 _)) (c4 (i3 (g4 t8 (pv 0) (n9 l3 (B4 (M5 ws7)) (g4 o9 (g4 p5 (pv 1) a5) a5) (fun _ _=>rfl))))) e8)
   (p4 (j8 (g7 p1 (pv 6) a5 (i4 _)) (c4 (ae2 (g4 t8 (g4 Y4 e7 (g4 o9 (g4 p5 (pv 1) a5) a5)) (g4 Y4 e7 (g4 x6 a5 (g4 o9 (g4 p5 (pv 1) a5) a5)))) (ae5 (pv 2) (pv 3) set_list))) e8)
   (p4 (j8 (g7 p1 (pv 6) a5 (i4 _)) (c4 (i6 (i:=2) R1.nd rfl (Or.inl rfl) (l9 v7 (pv 2) p0 (n5 (g4 x6 a5 (g4 o9 (g4 p5 (pv 1) a5) a5)))))) e8)
   (p4 (j8 (g7 p1 (pv 6) a5 (i4 _)) (c4 (i6 (i:=2) R1.nd rfl (Or.inl rfl) (g4 W5 (l9 v7 (pv 2) p0 (n5 a5)) (g4 an9 (B4 (a3 e7 b8)) (g4 x6 a5 (g4 o9 (g4 p5 (pv 1) a5) a5)))))) e8)
   (p4 (j8 (g7 p1 (pv 6) a5 (i4 _)) (c4 (i3 (n9 l3 (B4 (M5 al3)) (g4 o9 (g4 p5 (pv 1) a5) a5) (fun _ _=>rfl)))) e8)
   (c4 (i3 (v5 PySem.F.plainAttrs_str PySem.F.slot_str_join PySem.F.type_str_join S1 e7 (a3 (pv 2) b8)))))))))))))))))))),?_⟩
  refine⟨_,rfl,_,_,rfl,rfl,⟨by decide,by decide,by decide⟩,_,_,rfl,rfl,p40,?_⟩
  refine p7 fun c _=>?_
  have h2:=split_len x " "
  have hW:Wk (Txt.split x " "):=⟨by omega,fun u hu=>⟨j5 (B9 hu).1 (by omega),(B9 hu).2 hA⟩⟩
  refine⟨_,rfl,rfl,x,_,rfl,rfl,A0,by omega,by omega,fun l fl=>?_⟩
  generalize Txt.split x " "=w0 at h2 hW
  have s1:=d4 (o:=.lst (w0.map V.str)) fl
  have g1:(upd H l (.lst (w0.map V.str))) l=some (.lst (w0.map V.str)):=c5
  generalize upd H l (.lst (w0.map V.str))=H1 at s1 g1
  refine t5 ?_
  obtain⟨a,ea,ha⟩:∃ a:Nat,c / 12 % (w0.length:Int)=(a:Int)/\a<w0.length:=Y7 (c / 12) h2.1
  refine⟨_,rfl,_,_,rfl,rfl,⟨by decide,by decide⟩,_,rfl,l,_,rfl,.inl (SqL.of g1),_,_,rfl,rfl,(by rw[a8];show (0:Int)<(w0.length:Int);omega),?_⟩
  refine p7 fun av hav=>?_
  rw[a8]at hav
  have hav:av=(a:Int):=hav.trans ea
  subst hav
  obtain⟨b,eb,hb⟩:∃ b:Nat,c / 12 % ((x.length+1:Nat):Int)=(b:Int)/\b<x.length+1:=Y7 (c / 12) (by omega)
  refine⟨_,rfl,_,_,rfl,rfl,⟨by decide,by decide⟩,_,rfl,_,_,rfl,⟨by omega,rfl⟩,_,_,rfl,rfl,_,_,rfl,rfl,(by show (0:Int)<(x.length:Int)+1;omega),?_⟩
  refine p7 fun bv hbv=>?_
  have hbv:bv=(b:Int):=hbv.trans eb
  subst hbv
  obtain⟨h0,h1⟩:=md (c / 99) 24 (by decide)
  have hlt:(c / 99 % 24).toNat<sS.cps.toList.length:=by rw[m8,ad9];omega
  have hc:sS.cps[(c / 99 % 24).toNat]?=some sS.cps.toList[(c / 99 % 24).toNat]:=by rw[<- n6,j6 hlt]
  have hcA:t6 ⟨#[sS.cps.toList[(c / 99 % 24).toNat]]⟩:=fun d hd=>by
   have:d∈[sS.cps.toList[(c / 99 % 24).toNat]]:=hd
   rw[i8.mp this]
   exact of_decide_eq_true (h9.mp an0 _ (A4 hlt))
  have e1:(⟨#[sS.cps.toList[(c / 99 % 24).toNat]]⟩:Str).length=1:=rfl
  refine⟨_,rfl,_,_,rfl,rfl,⟨by decide,by decide⟩,_,_,rfl,rfl,(by show (0:Int)<_;decide),sS,_,_,rfl,rfl,h0,(by omega),(by rw[ad9];omega),hc,?_⟩
  generalize (⟨#[sS.cps.toList[(c / 99 % 24).toNat]]⟩:Str)=sg at hcA e1
  refine t5 ?_
  refine⟨fun σ H2=>∃ wy:Int,Js H x c a b sg wy w0 0 σ H2,?_,?_⟩
  ·exact⟨_,rfl,_,_,rfl,rfl,(by show (0:Int)<_;decide),_,l,w0,rfl,s1,fl,g1,hW,fun _=>rfl⟩
  rintro σ H2 ⟨wy,hJ⟩
  clear s1 g1 fl hlt hc
  have l1:∀ lo hi,(Txt.slice x lo hi).length<=x.length:=fun lo hi=>Txt.slice_le x _ _
  have m1:=l1 none (some (b:Int))
  have m2:=l1 (some ((b:Int)+1)) none
  have m3:=l1 (some (b:Int)) none
  refine⟨Js H x c a b sg wy w0 2,?_,?_⟩
  ·obtain⟨l,ws,rfl,s2,fl,g2,hw,e0⟩:=id hJ
   refine⟨_,rfl,rfl,_,rfl,p8 (fun hc=>?_) (fun _=>hJ.le (by decide))⟩
   exact⟨_,rfl,_,rfl,_,rfl,x,rfl,(by omega),_,rfl,_,rfl,_,_,rfl,rfl,_,rfl,x,rfl,(by omega),_,_,rfl,rfl,(by omega),q _ _ s2 (by rw[len_app];omega) (y9 (A1 hA _ _) (A1 hA _ _))⟩
  clear hJ
  rintro σ H2 hJ
  refine⟨Js H x c a b sg wy w0 3,?_,?_⟩
  ·obtain⟨l,ws,rfl,s2,fl,g2,hw,e0⟩:=id hJ
   refine⟨_,rfl,rfl,_,rfl,p8 (fun hc=>?_) (fun _=>hJ.le (by decide))⟩
   exact⟨_,rfl,_,rfl,_,rfl,x,rfl,(by omega),_,rfl,_,_,rfl,rfl,(by omega),_,rfl,_,rfl,_,rfl,x,rfl,(by omega),_,_,rfl,rfl,(by rw[len_app];omega),q _ _ s2 (by rw[len_app,len_app];omega) (y9 (y9 (A1 hA _ _) hcA) (A1 hA _ _))⟩
  clear hJ
  rintro σ H2 hJ
  refine⟨Js H x c a b sg wy w0 4,?_,?_⟩
  ·obtain⟨l,ws,rfl,s2,fl,g2,hw,e0⟩:=id hJ
   refine⟨_,rfl,rfl,_,rfl,p8 (fun hc=>?_) (fun _=>hJ.le (by decide))⟩
   exact⟨_,rfl,_,rfl,_,rfl,x,rfl,(by omega),_,rfl,_,_,rfl,rfl,(by omega),_,rfl,_,rfl,_,_,rfl,rfl,_,rfl,x,rfl,(by omega),_,_,rfl,rfl,(by rw[len_app];omega),q _ _ s2 (by rw[len_app,len_app];omega) (y9 (y9 (A1 hA _ _) hcA) (A1 hA _ _))⟩
  clear hJ
  rintro σ H2 hJ
  refine⟨Js H x c a b sg wy w0 5,?_,?_⟩
  ·obtain⟨l,ws,rfl,s2,fl,g2,hw,e0⟩:=id hJ
   refine⟨_,rfl,rfl,_,rfl,p8 (fun hc=>?_) (fun _=>hJ.le (by decide))⟩
   have hy:=P0 hc
   have e0:=e0 (by omega)
   subst e0
   have hat:atI (ws.map V.str) (a:Int)=some (.str ws[a]):=j0 (j:=a) (by rw[j4,j6 ha];rfl)
   refine⟨_,rfl,.inl ⟨rfl,_,SqL.of g2⟩,_,rfl,_,rfl,_,rfl,l,_,_,_,rfl,rfl,SqL.of g2,hat,l,_,_,a,rfl,rfl,g2,by rw[a8];omega,by rw[a8];omega,?_⟩
   refine⟨l,ws.take a++[ws[a]]++ws.drop a,rfl,s2.upd fl,fl,by rw[c5,k9,k9,O0,List.map_drop];rfl,⟨by rw[d9,d9,o4,o5];show _+1+_<=60;omega,fun u hu=>?_⟩,fun z=>absurd z (by omega)⟩
   rcases j9.mp hu with z | z
   ·rcases j9.mp z with z | z
    ·exact hw.2 u (B3 z)
    ·rw[i8.mp z];exact hw.2 _ (A4 ha)
   ·exact hw.2 u (K8 z)
  clear hJ
  rintro σ H2 hJ
  refine⟨Js H x c a b sg wy w0 6,?_,?_⟩
  ·obtain⟨l,ws,rfl,s2,fl,g2,hw,e0⟩:=id hJ
   refine⟨_,rfl,rfl,_,rfl,p8 (fun hc=>?_) (fun _=>hJ.le (by decide))⟩
   have hy:=P0 hc
   have e0:=e0 (by omega)
   subst e0
   refine⟨_,rfl,.inl ⟨rfl,_,SqL.of g2⟩,_,rfl,l,_,_,a,_,rfl,rfl,g2,by omega,by omega,by rw[a8];exact(S3 (S4 ha)).1,by rw[j4,j6 ha];rfl,?_⟩
   refine⟨l,ws.eraseIdx a,rfl,s2.upd fl,fl,by rw[c5,P8],⟨j5 (List.length_eraseIdx_le ..) hw.1,fun u hu=>hw.2 u (List.mem_of_mem_eraseIdx hu)⟩,fun z=>absurd z (by omega)⟩
  clear hJ
  rintro σ H2 hJ
  refine⟨Js H x c a b sg wy w0 7,?_,?_⟩
  ·obtain⟨l,ws,rfl,s2,fl,g2,hw,e0⟩:=id hJ
   refine⟨_,rfl,rfl,_,rfl,p8 (fun hc=>?_) (fun _=>hJ.le (by decide))⟩
   have hy:=P0 hc
   have e0:=e0 (by omega)
   subst e0
   have h00:0<ws.length:=h2.1
   have hat:atI (ws.map V.str) 0=some (.str ws[0]):=j0 (j:=0) (by rw[j4,j6 h00];rfl)
   obtain⟨w1,w2⟩:=hw.2 _ (A4 h00)
   obtain⟨v1,v2⟩:=ac3 w2
   refine⟨_,rfl,l,_,_,_,rfl,rfl,SqL.of g2,hat,rfl,ws[0],rfl,rfl,ar4 (by omega),_,rfl,l,_,_,0,rfl,rfl,g2,S4 (by rw[a8];exact h00),?_⟩
   refine⟨l,ws.set 0 (Txt.upper ws[0]),rfl,s2.upd fl,fl,by rw[c5,List.map_set],⟨by rw[V9];exact hw.1,fun u hu=>?_⟩,fun z=>absurd z (by omega)⟩
   rcases X3 hu with z | z
   ·exact hw.2 u z
   ·rw[z];exact⟨by omega,v2⟩
  clear hJ
  rintro σ H2 hJ
  refine⟨Js H x c a b sg wy w0 8,?_,?_⟩
  ·obtain⟨l,ws,rfl,s2,fl,g2,hw,e0⟩:=id hJ
   refine⟨_,rfl,rfl,_,rfl,p8 (fun hc=>?_) (fun _=>hJ.le (by decide))⟩
   obtain⟨t,ht,hat⟩:=ae3 (xs:=ws7) (md (c / 12) 5 (by decide))
   obtain⟨t1,t2⟩:=C0 sh7 ht
   refine⟨_,rfl,(by show 5<=sizeLine;decide),fun l5 f5=>⟨_,rfl,_,_,rfl,rfl,⟨by decide,by decide⟩,_,_,rfl,rfl,(by show (0:Int)<_;decide),l5,_,_,_,rfl,rfl,SqL.of c5,hat,_,_,rfl,rfl,(by omega),?_⟩⟩
   exact q _ _ (s2.trans (d4 f5)) (by rw[len_app];omega) (y9 hA t2)
  clear hJ
  rintro σ H2 hJ
  refine⟨Js H x c a b sg wy w0 9,?_,?_⟩
  ·obtain⟨l,ws,rfl,s2,fl,g2,hw,e0⟩:=id hJ
   refine⟨_,rfl,rfl,_,rfl,p8 (fun hc=>?_) (fun _=>hJ.le (by decide))⟩
   have hy:=P0 hc
   have e0:=e0 (by omega)
   subst e0
   obtain⟨h0,h1⟩:=md (c / 12) 2 (by decide)
   obtain⟨h3,h4⟩:=md (c / 99) 5 (by decide)
   have n1:=Y5 ("-":Str) (c / 12 % 2) h0
   have n2:=Y5 ("9":Str) (48+c / 99 % 5) (by omega)
   rw[aw2]at n1
   rw[aw1]at n2
   refine⟨_,rfl,_,_,rfl,rfl,⟨by decide,by decide⟩,_,_,rfl,rfl,(by show (0:Int)<_;decide),_,_,rfl,rfl,(by rw[aw2];decide),h0,(by omega),?_⟩
   refine⟨_,rfl,_,_,rfl,rfl,⟨by decide,by decide⟩,_,_,rfl,rfl,(by show (0:Int)<_;decide),_,_,rfl,rfl,_,_,rfl,rfl,(by rw[aw1];decide),(by omega),(by omega),?_⟩
   refine⟨_,_,rfl,rfl,(by omega),_,rfl,_,rfl,l,_,_,a,rfl,rfl,g2,S4 (by rw[a8];exact ha),?_⟩
   refine⟨l,ws.set a (Txt.mul "-" (c / 12 % 2)++Txt.mul "9" (48+c / 99 % 5)),rfl,s2.upd fl,fl,by rw[c5,List.map_set],⟨by rw[V9];exact hw.1,fun u hu=>?_⟩,fun z=>absurd z (by omega)⟩
   rcases X3 hu with z | z
   ·exact hw.2 u z
   ·rw[z]
    exact⟨by rw[len_app];omega,y9 (Z5 (C0 sh1 (by simp)).2 _) (Z5 (C0 sh1 (by simp)).2 _)⟩
  clear hJ
  rintro σ H2 hJ
  refine⟨Js H x c a b sg wy w0 10,?_,?_⟩
  ·obtain⟨l,ws,rfl,s2,fl,g2,hw,e0⟩:=id hJ
   refine⟨_,rfl,rfl,_,rfl,p8 (fun hc=>?_) (fun _=>hJ.le (by decide))⟩
   have hy:=P0 hc
   obtain⟨j,ej,hj⟩:∃ j:Nat,1+c / 12 % 3=(j:Int)/\j<=3:=⟨(1+c / 12 % 3).toNat,by omega,by omega⟩
   refine⟨_,rfl,_,rfl,_,_,rfl,rfl,⟨by decide,by decide⟩,_,_,rfl,rfl,(by show (0:Int)<_;decide),_,_,rfl,rfl,_,rfl,l,_,rfl,SqL.of g2,fun l5 f5=>?_⟩
   refine⟨l5,ws.take j,rfl,s2.trans (d4 f5),s2.free f5,by rw[c5,ej,S6,O0],⟨by rw[o4];have:=hw.1;omega,fun u hu=>hw.2 u (B3 hu)⟩,fun z=>absurd z (by omega)⟩
  clear hJ
  rintro σ H2 hJ
  refine⟨Js H x c a b sg wy w0 11,?_,?_⟩
  ·obtain⟨l,ws,rfl,s2,fl,g2,hw,e0⟩:=id hJ
   refine⟨_,rfl,rfl,_,rfl,p8 (fun hc=>?_) (fun _=>hJ.le (by decide))⟩
   have hy:=P0 hc
   obtain⟨j,ej,hj⟩:∃ j:Nat,22+c / 12 % 7=(j:Int)/\j<=28:=⟨(22+c / 12 % 7).toNat,by omega,by omega⟩
   refine⟨_,rfl,_,rfl,l,_,rfl,SqL.of g2,fun l5 f5=>⟨(by show 1<=sizeLine;decide),fun l6 f6=>⟨_,rfl,_,_,rfl,rfl,⟨by decide,by decide⟩,_,_,rfl,rfl,(by show (0:Int)<_;decide),_,_,rfl,rfl,l6,_,_,rfl,rfl,c5,(by omega),(by omega),(by show 1*_<=sizeLine;omega),fun l7 f7=>?_⟩⟩⟩
   have s5:=d4 (o:=.lst (K5 (ws.map V.str) none (some 1))) f5
   have s6:=d4 (o:=.lst [.str "0"]) f6
   have s7:=d4 (o:=.lst (f9 (22+c / 12 % 7).toNat [V.str "0"]).flatten) f7
   have ec:K5 (ws.map V.str) none (some 1)=(ws.take 1).map V.str:=(S6 (ws.map V.str) 1).trans (O0 ..).symm
   have er:(f9 (22+c / 12 % 7).toNat [V.str "0"]).flatten=(f9 j ("0":Str)).map V.str:=by rw[ej,Q7];exact ah6 j "0"
   have hl1:(ws.take 1).length<=1:=by rw[o4];omega
   refine⟨l5,l7,_,_,rfl,rfl,s7 _ _ (s6 _ _ c5),c5,(by rw[ec,er,a8,a8,J8];omega),fun l8 f8=>?_⟩
   have s8:=s2.trans (s5.trans (s6.trans s7))
   refine⟨l8,ws.take 1++f9 j ("0":Str),rfl,s8.trans (d4 f8),s8.free f8,by rw[c5,ec,er,k9],⟨by rw[d9,J8];omega,fun u hu=>?_⟩,fun z=>absurd z (by omega)⟩
   rcases j9.mp hu with z | z
   ·exact hw.2 u (B3 z)
   ·rw[(List.mem_replicate.mp z).2]
    exact⟨by rw[len0];decide,(C0 sh1 (by simp)).2⟩
  clear hJ
  rintro σ H2 hJ
  refine⟨Js H x c a b sg wy w0 12,?_,?_⟩
  ·obtain⟨l,ws,rfl,s2,fl,g2,hw,e0⟩:=id hJ
   refine⟨_,rfl,rfl,_,rfl,p8 (fun hc=>?_) (fun _=>hJ.le (by decide))⟩
   obtain⟨t,ht,hat⟩:=ae3 (xs:=al3) (md (c / 12) 8 (by decide))
   obtain⟨t1,t2⟩:=C0 ay2 ht
   refine⟨(by show 8<=sizeLine;decide),fun l5 f5=>⟨_,rfl,_,_,rfl,rfl,⟨by decide,by decide⟩,_,_,rfl,rfl,(by show (0:Int)<_;decide),l5,_,_,_,rfl,rfl,SqL.of c5,hat,?_⟩⟩
   exact q _ _ (s2.trans (d4 f5)) (by omega) t2
  clear hJ
  rintro σ H2 hJ
  obtain⟨l,ws,rfl,s2,fl,g2,hw,e0⟩:=hJ
  have hj:=Y9 (y:=" ") (xs:=ws) (m:=60) (n:=60) (fun u hu=>(hw.2 u hu).1) hw.1 (by rw[F8];decide)
  rw[F8]at hj
  exact⟨rfl,_,rfl," ",l,ws,rfl,rfl,SqL.of g2,hj.1,q _ _ s2 (by have:=hj.2;omega) (V0 Q6 fun u hu=>(hw.2 u hu).2)⟩
end
end Web
namespace L2
open PySem PySem.Spec PyProof.Rows
section
variable {X:Cx}
end
end L2
namespace Web
open PySem L2
abbrev T5:Stmt:=top 87
abbrev M8:Stmt:=top 88
abbrev wsT:List Str:=["web","odd","","refused ","Refused","refused\n","wall 1"]
theorem shT:wsT.all K1=true:=by decide +kernel
theorem aq0 {K:W.Frag}{kA:Addr}{kod:Option Addr}{kn:Nat}{ksl:Array (Option Value)}{t1 t2 t3 t4:Tok}(h:K.lookup kA=some ⟨.type "tuple",kod,.seq #[.str "web" t1,.str "pair" t2,.str "pieces" t3,.str "off" t4] kn,ksl⟩):KdT K kA:=fun _ =>
 .inr ⟨_,_,_,h,rfl,rfl,by show 4<=sizeLine;decide,.cons ⟨_,rfl⟩ (.cons ⟨_,rfl⟩ (.cons ⟨_,rfl⟩ (.cons ⟨_,rfl⟩ .nil)))⟩
seal L2.PE L2.PA L2.PS L2.PSs L2.PT
section
variable {P:Program} {w:World} {K:W.Frag} {mg:Str->Option Value} {base:Heap}
def X8 (K:W.Frag):Sp:=fun vs H Q _=>∃ (a:Addr) (ns:List Int),vs=[.ref a]/\SqL K H a (ns.map V.int)/\ns.length<=63/\∀ H',Q (.bl true) H'
theorem P5:i0 ["script","cell","k","text","told"] ["script"] (a6 R3):=⟨rfl,rfl,rfl,by decide +kernel,rfl,by decide +kernel,by decide +kernel⟩
set_option maxHeartbeats 4000000 in
theorem ao7 {f fV fι fT fω fW fH fX fα fN fJ fP fκ fφ fI fν fη fτ fψ fβ fγ fA fδ fε fR fζ fθ fμ fξ fρ fσ fG fC fO fQ fD fS CT CX CB CN kA:Addr} {fd fdV fdι fdT fdω fdW fdH fdX fdα fdN fdJ fdP fdκ fdφ fdI fdν fdη fdτ fdψ fdβ fdγ fdA fdδ fdε fdR fdζ fdθ fdμ fdξ fdρ fdσ fdG fdC fdO fdQ fdD fdS:FuncData} {tk tF tM tE tA tR:Tok} (F:Fun K "law" "law" R3 f fd) (B:Bn mg)
  (mo:mg "MOST_PLACES"=some (.int 24 tk)) (mF:mg "FIGURES"=some (.str "0123456789" tF)) (mM:mg "MOST_FIGURES"=some (.int 60 tM)) (mE:mg "MOST_FIGURES_OF_END"=some (.int 2 tE)) (mA':mg "MOST_FIGURES_ASKED"=some (.int 50 tA)) (mRf:mg "REFUSED"=some (.str "refused" tR)) (mK:mg "KINDS"=some (.ref kA))
  (FV:Fun K "made" "made" L0 fV fdV) (bV:Binds K fdV ["places","ties"] []) (mV:mg "made"=some (.ref fV))
  (Fι:Fun K "is_told" "is_told" A8 fι fdι) (bι:Binds K fdι ["web"] []) (mι:mg "is_told"=some (.ref fι))
  (FT:Fun K "check_tally" "check_tally" O4 fT fdT) (bT:Binds K fdT ["tally"] []) (mT:mg "check_tally"=some (.ref fT))
  (Fω:Fun K "wall_with" "wall_with" D7 fω fdω) (bω:Binds K fdω ["tally","most"] []) (mω:mg "wall_with"=some (.ref fω))
  (FW:Fun K "wall_of" "wall_of" J2 fW fdW) (bW:Binds K fdW ["tally"] []) (mW:mg "wall_of"=some (.ref fW))
  (FH:Fun K "check_has_web" "check_has_web" O3 fH fdH) (bH:Binds K fdH ["tally"] []) (mH:mg "check_has_web"=some (.ref fH))
  (FX:Fun K "answered" "answered" U1 fX fdX) (bX:Binds K fdX ["tally"] []) (mX:mg "answered"=some (.ref fX))
  (Fα:Fun K "answer_shows" "answer_shows" L3 fα fdα) (bα:Binds K fdα ["tally","told"] []) (mα:mg "answer_shows"=some (.ref fα))
  (FN:Fun K "check_none_below" "check_none_below" U0 fN fdN) (bN:Binds K fdN ["tally"] []) (mN:mg "check_none_below"=some (.ref fN))
  (FJ:Fun K "least_off" "least_off" L1 fJ fdJ) (bJ:Binds K fdJ ["tally"] []) (mJ:mg "least_off"=some (.ref fJ))
  (FP:Fun K "pair_told" "pair_told" sPT fP fdP) (bP:Binds K fdP ["tally","one","other"] []) (mP:mg "pair_told"=some (.ref fP))
  (Fκ:Fun K "pair_shows" "pair_shows" T7 fκ fdκ) (bκ:Binds K fdκ ["tally","one","other","told"] []) (mκ:mg "pair_shows"=some (.ref fκ))
  (Fφ:Fun K "fewest_pieces" "fewest_pieces" T9 fφ fdφ) (bφ:Binds K fdφ ["tally"] []) (mφ:mg "fewest_pieces"=some (.ref fφ))
  (FI:Fun K "is_number" "is_number" R4 fI fdI) (bI:Binds K fdI ["word","most"] []) (mI:mg "is_number"=some (.ref fI))
  (Fν:Fun K "number_within" "number_within" sNW fν fdν) (bν:Binds K fdν ["word","most"] []) (mν:mg "number_within"=some (.ref fν))
  (Fη:Fun K "number_in" "number_in" sNI fη fdη) (bη:Binds K fdη ["word"] []) (mη:mg "number_in"=some (.ref fη))
  (Fτ:Fun K "tie_in" "tie_in" D8 fτ fdτ) (bτ:Binds K fdτ ["word"] []) (mτ:mg "tie_in"=some (.ref fτ))
  (Fψ:Fun K "web_in" "web_in" C8 fψ fdψ) (bψ:Binds K fdψ ["row","places"] []) (mψ:mg "web_in"=some (.ref fψ))
  (Fβ:Fun K "numbers_behind" "numbers_behind" O2 fβ fdβ) (bβ:Binds K fdβ ["row","first","many"] []) (mβ:mg "numbers_behind"=some (.ref fβ))
  (Fγ:Fun K "wall_in" "wall_in" y6 fγ fdγ) (bγ:Binds K fdγ ["row"] []) (mγ:mg "wall_in"=some (.ref fγ))
  (FA:Fun K "asked" "asked" D1 fA fdA) (bA:Binds K fdA ["question"] []) (mA:mg "asked"=some (.ref fA))
  (Fδ:Fun K "web_row" "web_row" T5 fδ fdδ) (bδ:Binds K fdδ ["told"] []) (mδ:mg "web_row"=some (.ref fδ))
  (Fε:Fun K "pair_rows" "pair_rows" M8 fε fdε) (bε:Binds K fdε ["told"] []) (mε:mg "pair_rows"=some (.ref fε))
  (FR:Fun K "rows_for" "rows_for" D9 fR fdR) (bR:Binds K fdR ["kind","pair","tally"] []) (mR:mg "rows_for"=some (.ref fR))
  (Fζ:Fun K "answer" "answer" A9 fζ fdζ) (bζ:Binds K fdζ ["question"] []) (mζ:mg "answer"=some (.ref fζ))
  (Fθ:Fun K "web_stands" "web_stands" D6 fθ fdθ) (bθ:Binds K fdθ ["tally","first","webs"] []) (mθ:mg "web_stands"=some (.ref fθ))
  (Fμ:Fun K "pair_stands" "pair_stands" A7 fμ fdμ) (bμ:Binds K fdμ ["tally","pair","first","webs"] []) (mμ:mg "pair_stands"=some (.ref fμ))
  (Fξ:Fun K "pieces_stands" "pieces_stands" E1 fξ fdξ) (bξ:Binds K fdξ ["tally","first","webs"] []) (mξ:mg "pieces_stands"=some (.ref fξ))
  (Fρ:Fun K "off_stands" "off_stands" E2 fρ fdρ) (bρ:Binds K fdρ ["tally","first","webs"] []) (mρ:mg "off_stands"=some (.ref fρ))
  (Fσ:Fun K "stands" "stands" A6 fσ fdσ) (bσ:Binds K fdσ ["kind","pair","tally","rows"] []) (mσ:mg "stands"=some (.ref fσ))
  (FG:Fun K "judged" "judged" C9 fG fdG) (bG:Binds K fdG ["question","told"] []) (mG:mg "judged"=some (.ref fG))
  (FC:Fun K "_law_cell_at" "_law_cell_at" M9 fC fdC) (bC:Binds K fdC ["script","k"] []) (mC:mg "_law_cell_at"=some (.ref fC))
  (FO:Fun K "_law_row" "_law_row" T6 fO fdO) (bO:Binds K fdO ["cell","many","size"] []) (mO:mg "_law_row"=some (.ref fO))
  (FQ:Fun K "_law_question" "_law_question" G8 fQ fdQ) (bQ:Binds K fdQ ["cell"] []) (mQ:mg "_law_question"=some (.ref fQ))
  (FD:Fun K "_law_is_none" "_law_is_none" D0 fD fdD) (bD:Binds K fdD ["text"] []) (mD:mg "_law_is_none"=some (.ref fD))
  (FS:Fun K "_law_spoiled" "_law_spoiled" G7 fS fdS) (bS:Binds K fdS ["text","cell"] []) (mS:mg "_law_spoiled"=some (.ref fS))
  (hK:KdT K kA) (mCT:mg "TallyError"=some (.ref CT)) (mCX:mg "BadWeb"=some (.ref CX)) (cCX:K6 K CX) (xCX:PySem.W.exmOne K (.ref CX) (.ref CX)=some true) (mCB:mg "BadTally"=some (.ref CB)) (cCB:K6 K CB) (xB:PySem.W.exmOne K (.ref CB) (.ref CT)=some true) (mCN:mg "NoText"=some (.ref CN)) (cCN:K6 K CN) (xN:PySem.W.exmOne K (.ref CN) (.ref CT)=some true):d7 P w K mg base CX0 9 f fd ["script"] (X8 K):=by
 have GT:d7 P w K mg base (CXE P w) 1 fT fdT ["tally"] (spR K CB 0):=ap2 FT B mo mCB cCB
 have Gω:d7 P w K mg base (CXE P w) 2 fω fdω ["tally","most"] (spR K CB 1):=af0 Fω FT bT mT GT
 have GW:d7 P w K mg base (CXE P w) 3 fW fdW ["tally"] (spR K CB 0):=ai3 FW Fω bω mω Gω
 have GH:d7 P w K mg base (CXE P w) 4 fH fdH ["tally"] (spR K CB 0):=ao9 FH FW bW mW GW
 have GX:d7 P w K mg base (CXE P w) 4 fX fdX ["tally"] (spR K CB 0):=ap4 FX FW bW mW GW
 have Gα:d7 P w K mg base (CXE P w) 2 fα fdα ["tally","told"] (spR K CB 1):=ai9 Fα FT bT mT GT
 have GN:d7 P w K mg base (CXE P w) 2 fN fdN ["tally"] (spR K CB 0):=ap1 FN FT bT mT GT
 have GJ:d7 P w K mg base (CXE P w) 3 fJ fdJ ["tally"] (spR K CB 0):=ai6 FJ FN bN mN GN
 have GP:d7 P w K mg base (CXE P w) 5 fP fdP ["tally","one","other"] (spR K CB 2):=av4 FP FH bH mH GH
 have Gκ:d7 P w K mg base (CXE P w) 5 fκ fdκ ["tally","one","other","told"] (spR K CB 3):=ao5 Fκ FH bH mH GH
 have Gφ:d7 P w K mg base (CXE P w) 5 fφ fdφ ["tally"] (spR K CB 0):=ap0 Fφ FH bH mH GH
 have GV:d7 P w K mg base (CXE P w) 1 fV fdV ["places","ties"] (ad3 CX):=ao6 FV B mo mCX cCX
 have Gι:d7 P w K mg base CX0 2 fι fdι ["web"] (ac8 K):=ao3 Fι FV bV mV GV mCX xCX
 have Gν:d7 P w K mg base (CXE P w) 2 fν fdν ["word","most"] (ad2 CN):=ak7 Fν B FI bI mI mF mCN cCN
 have Gη:d7 P w K mg base (CXE P w) 3 fη fdη ["word"] (am2 CN):=av6 Fη B FI bI mI mF Fν bν mν mM mCN cCN
 have Gτ:d7 P w K mg base (CXE P w) 3 fτ fdτ ["word"] (ac7 CN):=ao2 Fτ Fν bν mν Gν mE mCN cCN
 have Gψ:d7 P w K mg base (CXE P w) 4 fψ fdψ ["row","places"] (X7 CN):=ao1 Fψ B Fτ bτ mτ Gτ Fι bι mι (Gι.mono (by decide)) mCN cCN
 have Gβ:d7 P w K mg base (CXE P w) 4 fβ fdβ ["row","first","many"] (aa3 CN):=av7 Fβ B Fη bη mη Gη mCN cCN
 have Gγ:d7 P w K mg base (CXE P w) 5 fγ fdγ ["row"] (ah3 CN):=au8 Fγ Fβ bβ mβ Gβ
 have Gθ:d7 P w K mg base (CXE P w) 6 fθ fdθ ["tally","first","webs"] (Q8 K CN CB):=au7 Fθ B Fα bα mα (Gα.mono (by decide)) Fψ bψ mψ (Gψ.mono (by decide)) Fγ bγ mγ Gγ
 have Gμ:d7 P w K mg base (CXE P w) 6 fμ fdμ ["tally","pair","first","webs"] (am0 K CN CB):=av2 Fμ B Fκ bκ mκ Gκ Fγ bγ mγ Gγ
 have Gξ:d7 P w K mg base (CXE P w) 6 fξ fdξ ["tally","first","webs"] (Q8 K CN CB):=av3 Fξ B Fβ bβ mβ (Gβ.mono (by decide))
 have Gρ:d7 P w K mg base (CXE P w) 6 fρ fdρ ["tally","first","webs"] (Q8 K CN CB):=av5 Fρ B Fβ bβ mβ (Gβ.mono (by decide))
 have Gσ:d7 P w K mg base (CXE P w) 7 fσ fdσ ["kind","pair","tally","rows"] (al9 K CN CB):=au9 Fσ B Fψ bψ mψ (Gψ.mono (by decide)) Fθ bθ mθ Gθ Fμ bμ mμ Gμ Fξ bξ mξ Gξ Fρ bρ mρ Gρ
 have GA:d7 P w K mg base (CXE P w) 3 fA fdA ["question"] (X9 K CN):=ap3 FA B Fν bν mν Gν mA' mK hK mCN cCN
 have GR:d7 P w K mg base (CXE P w) 6 fR fdR ["kind","pair","tally"] (ad0 K CB):=ao4 FR FX bX mX (GX.mono (by decide)) FP bP mP GP Fφ bφ mφ Gφ FJ bJ mJ (GJ.mono (by decide)) Fδ bδ mδ Fε bε mε
 have Gζ:d7 P w K mg base CX0 7 fζ fdζ ["question"] Q9:=ai8 Fζ FA bA mA (GA.mono (by decide)) FR bR mR GR mRf mCT xN xB
 have GG:d7 P w K mg base CX0 8 fG fdG ["question","told"] as6:=av8 FG Fζ bζ mζ Gζ FA bA mA (GA.mono (by decide)) Fσ bσ mσ Gσ mRf mCT xN xB
 have GC:d7 P w K mg base CX0 8 fC fdC ["script","k"] (ad4 K):=(ai7 FC B).mono (by decide)
 have GQ:d7 P w K mg base CX0 8 fQ fdQ ["cell"] as5:=(av1 FQ B FO bO mO).mono (by decide)
 have GD:d7 P w K mg base CX0 8 fD fdD ["text"] ad1:=(ai5 FD B).mono (by decide)
 have GS:d7 P w K mg base CX0 8 fS fdS ["text","cell"] as4:=(av0 FS B).mono (by decide)
 clear GT Gω GW GH GX Gα GN GJ GP Gκ Gφ GV Gι Gν Gη Gτ Gψ Gβ Gγ Gθ Gμ Gξ Gρ Gσ GA GR
 have Gζ:d7 P w K mg base CX0 8 fζ fdζ ["question"] Q9:=Gζ.mono (by decide)
 refine F.ok P5 (fun vs H Q E h=>?_) (fun cdv A outer s H vs Q E hr h=>?_)
 ·obtain⟨a,ns,rfl,_⟩:=h
  rfl
 ·obtain⟨sc,ns,rfl,hS,hlen,q⟩:=h
  have hsl:sizeLine=16777216:=sizeLine_eq
  refine⟨_,b7 (N1 PassesOwn.never rfl (B0 (g4 W5 (B4 (a3 (d8 GC hr (by rfl) mC FC.kp bC .nil E8 (a3 (pv 0) (a3 a5 b8))) b8)) (l9 v7 (pv 0) (n5 a5) (n5 a5)))) (t7 (i:=1) P5.nd rfl (Or.inl rfl))
    (b7 (i6 (i:=1) P5.nd rfl (Or.inl rfl) (g4 o9 (pv 1) (g4 R8 a5 a5)))
    (c4 (N1 PassesOwn.never rfl (P6 rfl B.range (a3 a5 b8)) (t7 (i := 2) P5.nd rfl (Or.inl rfl))
     (b7 (i6 (i:=3) P5.nd rfl (Or.inl rfl) (d8 GS hr (by rfl) mS FS.kp bS .nil E8 (a3 (d8 GQ hr (by rfl) mQ FQ.kp bQ .nil E8 (a3 (g4 p5 (pv 1) a5) b8)) (a3 (g4 x6 (g4 p5 (pv 1) (g4 x6 (pv 2) a5)) (pv 2)) b8))))
     (c4 (j8 (E3 (d8 GD hr (by rfl) mD FD.kp bD .nil E8 (a3 (pv 3) b8)))
      (b7 (j8 (PW.pt (N0 (g7 L4 (d8 Gζ hr (by rfl) mζ Fζ.kp bζ .nil E8 (a3 (pv 3) b8)) e7 (i4 _)) (G9 (g7 P7 (d8 GG hr (by rfl) mG FG.kp bG .nil E8 (a3 (pv 3) (a3 e7 b8))) E7 (i4 _))))) k7 e8)
      (c4 (N1 PassesOwn.never rfl (B0 (B4 (a3 e7 (a3 e7 (a3 e7 (a3 e7 (a3 e7 (a3 e7 (a3 e7 (a3 (pv 3) b8)))))))))) (t7 (i := 4) P5.nd rfl (Or.inl rfl))
       (c4 (j8 (PW.pt (ae1 (g7 L4 (pv 4) e7 (i4 _)) (Y2 (g7 P7 (d8 GG hr (by rfl) mG FG.kp bG .nil E8 (a3 (pv 3) (a3 (pv 4) b8))) E7 (i4 _))))) k7 e8)))))
      e8)))))))
   (c4 (i3 E7)),?_⟩
  refine⟨_,rfl,sc,ns,0,rfl,hS,fun c0=>?_⟩
  refine⟨(by show 1<=sizeLine;decide),fun l0 f0=>?_⟩
  have sl0:=d4 (o:=.lst [.int c0]) f0
  obtain⟨ms,hms,hml⟩:=ab4 ns (some 1) (some 21)
  refine⟨_,rfl,_,rfl,_,rfl,sc,ns.map V.int,rfl,sl0.seq hS,fun l1 f1=>?_⟩
  rw[hms]
  have sl1:=d4 (o:=.lst (ms.map V.int)) f1
  refine⟨l0,l1,_,_,rfl,rfl,sl1 _ _ c5,c5,by rw[a8];show 1+ms.length<=sizeLine;omega,fun lc fc=>⟨lc,rfl,⟨_,SqL.of c5⟩,?_⟩⟩
  have glc:(upd (upd (upd H l0 (.lst [.int c0])) l1 (.lst (ms.map V.int))) lc (.lst ([.int c0]++ms.map V.int))) lc=some (.lst (([c0]++ms:List Int).map V.int)):=by rw[c5,k9];rfl
  generalize upd (upd (upd H l0 (.lst [.int c0])) l1 (.lst (ms.map V.int))) lc (.lst ([.int c0]++ms.map V.int))=HB at glc
  refine N6 (K:=K) (a:=lc) (xs:=([c0]++ms:List Int).map V.int) (fun _ σ H2=>∃ e1 e2 e3 e4,σ=[some (.ref sc),e1,e2,e3,e4]/\j3 HB H2) ⟨_,_,_,_,rfl,j3.refl HB⟩ (fun i σ H2 _ ⟨_,_,_,_,_,s⟩=>SqL.of (s _ _ glc)) ?_ ?_
  ·rintro i x σ Ha hx ⟨e1,e2,e3,e4,rfl,sa⟩
   obtain⟨z,rfl⟩:=int_at hx
   refine⟨_,rfl,_,_,rfl,rfl,⟨by decide,by decide,by decide⟩,_,_,rfl,rfl,p60,?_⟩
   refine p7 fun c _=>?_
   refine⟨4,rfl,by omega,by omega,Q0 (lo:=0) (n:=4) (fun _ σ H2=>∃ e2 e3 e4,σ=[some (.ref sc),some (.int c),e2,e3,e4]/\j3 HB H2) ⟨_,_,_,rfl,sa⟩ ?_ ?_⟩
   ·rintro k σ Hb hk ⟨e2,e3,e4,rfl,sb⟩
    have e0:((0:Int)+(k:Int))=(k:Int):=by omega
    rw[e0]
    refine t5 ?_
    refine⟨_,rfl,_,_,rfl,rfl,⟨by decide,by decide⟩,_,rfl,fun x H1 s1 hxl hxA=>?_⟩
    refine⟨_,rfl,_,rfl,_,_,rfl,rfl,_,_,rfl,rfl,⟨by show (0:Int)<(k:Int)+1;omega,by show (k:Int)+1<_;omega⟩,_,rfl,_,_,rfl,rfl,x,_,rfl,hxl,hxA,fun y H2 s2 hyl hyA=>?_⟩
    have s12:=(sb.trans s1).trans s2
    refine⟨_,rfl,y,rfl,hyl,hyA,fun b H3 s3 hN=>⟨_,rfl,p8 (fun hb=>?_) (fun _=>⟨_,_,_,rfl,s12.trans s3⟩)⟩⟩
    have hN:=hN hb
    have s13:=s12.trans s3
    clear s12 s3 s2 s1 sb hb
    refine⟨_,rfl,y,rfl,hyl,hN,fun H4 s4=>⟨rfl,_,rfl,aw3 rfl ?_⟩⟩
    refine⟨_,rfl,y,_,rfl,hyl,by decide +kernel,hN,fun _ H5 s5=>⟨_,_,rfl,rfl,_,rfl,x8 ?_⟩,fun hz=>absurd rfl hz⟩
    have s15:=(s13.trans s4).trans s5
    clear s13 s4 s5
    refine⟨_,rfl,(by show 8<=sizeLine;decide),fun l2 f2=>⟨l2,rfl,⟨_,SqL.of c5⟩,?_⟩⟩
    have sL:=s15.trans (d4 (o:=.lst ((wsT++[y]).map V.str)) f2)
    have gL:(upd H5 l2 (.lst ((wsT++[y]).map V.str))) l2=some (.lst ((wsT++[y]).map V.str)):=c5
    refine N6 (K:=K) (a:=l2) (xs:=(wsT++[y]).map V.str) (fun _ σ H2=>∃ e4,σ=[some (.ref sc),some (.int c),some (.int (k:Int)),some (.str y),e4]/\j3 (upd H5 l2 (.lst ((wsT++[y]).map V.str))) H2) ⟨_,rfl,j3.refl _⟩ (fun i σ H2 _ ⟨_,_,s⟩=>SqL.of (s _ _ gL)) ?_ ?_
    ·rintro i x σ H6 hx ⟨e4,rfl,s6⟩
     obtain⟨u,hu,_,rfl⟩:=K0 hx
     have hul:u.length<=4000:=by
      rcases j9.mp hu with z | z
      ·have:=(C0 shT z).1;omega
      ·rw[i8.mp z];exact hyl
     refine⟨_,rfl,rfl,_,rfl,p8 (fun hc=>?_) (fun hc=>x8 ⟨_,rfl,s6⟩)⟩
     have hne:u≠"refused":=fun e=>by
      rw[e]at hc
      exact absurd hc (by decide +kernel)
     exact⟨_,rfl,_,rfl,y,u,rfl,hyl,hul,hN,fun e=>absurd e hne,fun _ H7 s7=>⟨_,_,rfl,rfl,_,rfl,x8 ⟨_,rfl,s6.trans s7⟩⟩⟩
    ·rintro σ H6 ⟨e4,rfl,s6⟩
     exact⟨_,_,_,rfl,sL.trans s6⟩
   ·rintro σ H2 ⟨e2,e3,e4,rfl,sb⟩
    exact⟨_,_,_,_,rfl,sb⟩
  ·rintro σ H1 ⟨_,_,_,_,rfl,_⟩
   exact q _
end
end Web
namespace Web
open PySem L2
theorem ls1 {p:List Value->Prop}(h:∀ x0,p [x0]):∀ us,us.length=1->p us
 | [x0],_=>h x0
theorem ls2 {p:List Value->Prop}(h:∀ x0 x1,p [x0,x1]):∀ us,us.length=2->p us
 | [x0,x1],_=>h x0 x1
theorem ls3 {p:List Value->Prop}(h:∀ x0 x1 x2,p [x0,x1,x2]):∀ us,us.length=3->p us
 | [x0,x1,x2],_=>h x0 x1 x2
theorem ls4 {p:List Value->Prop}(h:∀ x0 x1 x2 x3,p [x0,x1,x2,x3]):∀ us,us.length=4->p us
 | [x0,x1,x2,x3],_=>h x0 x1 x2 x3
set_option maxHeartbeats 0 in
theorem all_mk {l:PySem.W.OpenLaw}{w:World}{K:W.Frag}{h:Heap}{mg:Str->Option Value}{fa fV fι fT fω fW fH fX fα fN fJ fP fκ fφ fI fν fη fτ fψ fβ fγ fA fδ fε fR fζ fθ fμ fξ fρ fσ fG fC fO fQ fD fS fZ CTallyError CBadWeb CBadTally CNoText:Addr}{tk:Tok}{tF tM:Tok}{tE tA tR:Tok}{kdA:Addr}{kod:Option Addr}{kn:Nat}{ksl:Array (Option Value)}{kt1 kt2 kt3 kt4:Tok}(X:K.In h)(G:h.Ns mainGlobals mg)(hfa:mg "law"=some (.ref fa))
  {odV anV odι anι odT anT odω anω odW anW odH anH odX anX odα anα odN anN odJ anJ odP anP odκ anκ odφ anφ odI anI odν anν odη anη odτ anτ odψ anψ odβ anβ odγ anγ odA anA odδ anδ odε anε odR anR odζ anζ odθ anθ odμ anμ odξ anξ odρ anρ odσ anσ odG anG odC anC odO anO odQ anQ odD anD odS anS odZ anZ:Option Addr}{slV slι slT slω slW slH slX slα slN slJ slP slκ slφ slI slν slη slτ slψ slβ slγ slA slδ slε slR slζ slθ slμ slξ slρ slσ slG slC slO slQ slD slS slZ:Array (Option Value)}
  {ocV kVV dcV pmV cdV ctV ocι kVι dcι pmι cdι ctι ocT kVT dcT pmT cdT ctT ocω kVω dcω pmω cdω ctω ocW kVW dcW pmW cdW ctW ocH kVH dcH pmH cdH ctH ocX kVX dcX pmX cdX ctX ocα kVα dcα pmα cdα ctα ocN kVN dcN pmN cdN ctN ocJ kVJ dcJ pmJ cdJ ctJ ocP kVP dcP pmP cdP ctP ocκ kVκ dcκ pmκ cdκ ctκ ocφ kVφ dcφ pmφ cdφ ctφ ocI kVI dcI pmI cdI ctI ocν kVν dcν pmν cdν ctν ocη kVη dcη pmη cdη ctη ocτ kVτ dcτ pmτ cdτ ctτ ocψ kVψ dcψ pmψ cdψ ctψ ocβ kVβ dcβ pmβ cdβ ctβ ocγ kVγ dcγ pmγ cdγ ctγ ocA kVA dcA pmA cdA ctA ocδ kVδ dcδ pmδ cdδ ctδ ocε kVε dcε pmε cdε ctε ocR kVR dcR pmR cdR ctR ocζ kVζ dcζ pmζ cdζ ctζ ocθ kVθ dcθ pmθ cdθ ctθ ocμ kVμ dcμ pmμ cdμ ctμ ocξ kVξ dcξ pmξ cdξ ctξ ocρ kVρ dcρ pmρ cdρ ctρ ocσ kVσ dcσ pmσ cdσ ctσ ocG kVG dcG pmG cdG ctG ocC kVC dcC pmC cdC ctC ocO kVO dcO pmO cdO ctO ocQ kVQ dcQ pmQ cdQ ctQ ocD kVD dcD pmD cdD ctD ocS kVS dcS pmS cdS ctS ocZ kVZ dcZ pmZ cdZ ctZ:Value}
  (aV:a4 K mainGlobals "made"=some (some (.ref fV)))(lV:K.lookup fV=some ⟨ocV,odV,.func (c3 "made" "made" (h8 L0) (e9 L0) (a6 L0) .none kVV dcV pmV anV cdV ctV),slV⟩)(cV:b9 K cdV "made"=true)(kV:a9 K (.ref fV)=true)
  (aι:a4 K mainGlobals "is_told"=some (some (.ref fι)))(lι:K.lookup fι=some ⟨ocι,odι,.func (c3 "is_told" "is_told" (h8 A8) (e9 A8) (a6 A8) .none kVι dcι pmι anι cdι ctι),slι⟩)(cι:b9 K cdι "is_told"=true)(kι:a9 K (.ref fι)=true)
  (aT:a4 K mainGlobals "check_tally"=some (some (.ref fT)))(lT:K.lookup fT=some ⟨ocT,odT,.func (c3 "check_tally" "check_tally" (h8 O4) (e9 O4) (a6 O4) .none kVT dcT pmT anT cdT ctT),slT⟩)(cT:b9 K cdT "check_tally"=true)(kT:a9 K (.ref fT)=true)
  (aω:a4 K mainGlobals "wall_with"=some (some (.ref fω)))(lω:K.lookup fω=some ⟨ocω,odω,.func (c3 "wall_with" "wall_with" (h8 D7) (e9 D7) (a6 D7) .none kVω dcω pmω anω cdω ctω),slω⟩)(cω:b9 K cdω "wall_with"=true)(kω:a9 K (.ref fω)=true)
  (aW:a4 K mainGlobals "wall_of"=some (some (.ref fW)))(lW:K.lookup fW=some ⟨ocW,odW,.func (c3 "wall_of" "wall_of" (h8 J2) (e9 J2) (a6 J2) .none kVW dcW pmW anW cdW ctW),slW⟩)(cW:b9 K cdW "wall_of"=true)(kW:a9 K (.ref fW)=true)
  (aH:a4 K mainGlobals "check_has_web"=some (some (.ref fH)))(lH:K.lookup fH=some ⟨ocH,odH,.func (c3 "check_has_web" "check_has_web" (h8 O3) (e9 O3) (a6 O3) .none kVH dcH pmH anH cdH ctH),slH⟩)(cH:b9 K cdH "check_has_web"=true)(kH:a9 K (.ref fH)=true)
  (aX:a4 K mainGlobals "answered"=some (some (.ref fX)))(lX:K.lookup fX=some ⟨ocX,odX,.func (c3 "answered" "answered" (h8 U1) (e9 U1) (a6 U1) .none kVX dcX pmX anX cdX ctX),slX⟩)(cX:b9 K cdX "answered"=true)(kX:a9 K (.ref fX)=true)
  (aα:a4 K mainGlobals "answer_shows"=some (some (.ref fα)))(lα:K.lookup fα=some ⟨ocα,odα,.func (c3 "answer_shows" "answer_shows" (h8 L3) (e9 L3) (a6 L3) .none kVα dcα pmα anα cdα ctα),slα⟩)(cα:b9 K cdα "answer_shows"=true)(kα:a9 K (.ref fα)=true)
  (aN:a4 K mainGlobals "check_none_below"=some (some (.ref fN)))(lN:K.lookup fN=some ⟨ocN,odN,.func (c3 "check_none_below" "check_none_below" (h8 U0) (e9 U0) (a6 U0) .none kVN dcN pmN anN cdN ctN),slN⟩)(cN:b9 K cdN "check_none_below"=true)(kN:a9 K (.ref fN)=true)
  (aJ:a4 K mainGlobals "least_off"=some (some (.ref fJ)))(lJ:K.lookup fJ=some ⟨ocJ,odJ,.func (c3 "least_off" "least_off" (h8 L1) (e9 L1) (a6 L1) .none kVJ dcJ pmJ anJ cdJ ctJ),slJ⟩)(cJ:b9 K cdJ "least_off"=true)(kJ:a9 K (.ref fJ)=true)
  (aP:a4 K mainGlobals "pair_told"=some (some (.ref fP)))(lP:K.lookup fP=some ⟨ocP,odP,.func (c3 "pair_told" "pair_told" (h8 sPT) (e9 sPT) (a6 sPT) .none kVP dcP pmP anP cdP ctP),slP⟩)(cP:b9 K cdP "pair_told"=true)(kP:a9 K (.ref fP)=true)
  (aκ:a4 K mainGlobals "pair_shows"=some (some (.ref fκ)))(lκ:K.lookup fκ=some ⟨ocκ,odκ,.func (c3 "pair_shows" "pair_shows" (h8 T7) (e9 T7) (a6 T7) .none kVκ dcκ pmκ anκ cdκ ctκ),slκ⟩)(cκ:b9 K cdκ "pair_shows"=true)(kκ:a9 K (.ref fκ)=true)
  (aφ:a4 K mainGlobals "fewest_pieces"=some (some (.ref fφ)))(lφ:K.lookup fφ=some ⟨ocφ,odφ,.func (c3 "fewest_pieces" "fewest_pieces" (h8 T9) (e9 T9) (a6 T9) .none kVφ dcφ pmφ anφ cdφ ctφ),slφ⟩)(cφ:b9 K cdφ "fewest_pieces"=true)(kφ:a9 K (.ref fφ)=true)
  (aI:a4 K mainGlobals "is_number"=some (some (.ref fI)))(lI:K.lookup fI=some ⟨ocI,odI,.func (c3 "is_number" "is_number" (h8 R4) (e9 R4) (a6 R4) .none kVI dcI pmI anI cdI ctI),slI⟩)(cI:b9 K cdI "is_number"=true)(kI:a9 K (.ref fI)=true)
  (aν:a4 K mainGlobals "number_within"=some (some (.ref fν)))(lν:K.lookup fν=some ⟨ocν,odν,.func (c3 "number_within" "number_within" (h8 sNW) (e9 sNW) (a6 sNW) .none kVν dcν pmν anν cdν ctν),slν⟩)(cν:b9 K cdν "number_within"=true)(kν:a9 K (.ref fν)=true)
  (aη:a4 K mainGlobals "number_in"=some (some (.ref fη)))(lη:K.lookup fη=some ⟨ocη,odη,.func (c3 "number_in" "number_in" (h8 sNI) (e9 sNI) (a6 sNI) .none kVη dcη pmη anη cdη ctη),slη⟩)(cη:b9 K cdη "number_in"=true)(kη:a9 K (.ref fη)=true)
  (aτ:a4 K mainGlobals "tie_in"=some (some (.ref fτ)))(lτ:K.lookup fτ=some ⟨ocτ,odτ,.func (c3 "tie_in" "tie_in" (h8 D8) (e9 D8) (a6 D8) .none kVτ dcτ pmτ anτ cdτ ctτ),slτ⟩)(cτ:b9 K cdτ "tie_in"=true)(kτ:a9 K (.ref fτ)=true)
  (aψ:a4 K mainGlobals "web_in"=some (some (.ref fψ)))(lψ:K.lookup fψ=some ⟨ocψ,odψ,.func (c3 "web_in" "web_in" (h8 C8) (e9 C8) (a6 C8) .none kVψ dcψ pmψ anψ cdψ ctψ),slψ⟩)(cψ:b9 K cdψ "web_in"=true)(kψ:a9 K (.ref fψ)=true)
  (aβ:a4 K mainGlobals "numbers_behind"=some (some (.ref fβ)))(lβ:K.lookup fβ=some ⟨ocβ,odβ,.func (c3 "numbers_behind" "numbers_behind" (h8 O2) (e9 O2) (a6 O2) .none kVβ dcβ pmβ anβ cdβ ctβ),slβ⟩)(cβ:b9 K cdβ "numbers_behind"=true)(kβ:a9 K (.ref fβ)=true)
  (aγ:a4 K mainGlobals "wall_in"=some (some (.ref fγ)))(lγ:K.lookup fγ=some ⟨ocγ,odγ,.func (c3 "wall_in" "wall_in" (h8 y6) (e9 y6) (a6 y6) .none kVγ dcγ pmγ anγ cdγ ctγ),slγ⟩)(cγ:b9 K cdγ "wall_in"=true)(kγ:a9 K (.ref fγ)=true)
  (aA:a4 K mainGlobals "asked"=some (some (.ref fA)))(lA:K.lookup fA=some ⟨ocA,odA,.func (c3 "asked" "asked" (h8 D1) (e9 D1) (a6 D1) .none kVA dcA pmA anA cdA ctA),slA⟩)(cA:b9 K cdA "asked"=true)(kA:a9 K (.ref fA)=true)
  (aδ:a4 K mainGlobals "web_row"=some (some (.ref fδ)))(lδ:K.lookup fδ=some ⟨ocδ,odδ,.func (c3 "web_row" "web_row" (h8 T5) (e9 T5) (a6 T5) .none kVδ dcδ pmδ anδ cdδ ctδ),slδ⟩)(cδ:b9 K cdδ "web_row"=true)(kδ:a9 K (.ref fδ)=true)
  (aε:a4 K mainGlobals "pair_rows"=some (some (.ref fε)))(lε:K.lookup fε=some ⟨ocε,odε,.func (c3 "pair_rows" "pair_rows" (h8 M8) (e9 M8) (a6 M8) .none kVε dcε pmε anε cdε ctε),slε⟩)(cε:b9 K cdε "pair_rows"=true)(kε:a9 K (.ref fε)=true)
  (aR:a4 K mainGlobals "rows_for"=some (some (.ref fR)))(lR:K.lookup fR=some ⟨ocR,odR,.func (c3 "rows_for" "rows_for" (h8 D9) (e9 D9) (a6 D9) .none kVR dcR pmR anR cdR ctR),slR⟩)(cR:b9 K cdR "rows_for"=true)(kR:a9 K (.ref fR)=true)
  (aζ:a4 K mainGlobals "answer"=some (some (.ref fζ)))(lζ:K.lookup fζ=some ⟨ocζ,odζ,.func (c3 "answer" "answer" (h8 A9) (e9 A9) (a6 A9) .none kVζ dcζ pmζ anζ cdζ ctζ),slζ⟩)(cζ:b9 K cdζ "answer"=true)(kζ:a9 K (.ref fζ)=true)
  (aθ:a4 K mainGlobals "web_stands"=some (some (.ref fθ)))(lθ:K.lookup fθ=some ⟨ocθ,odθ,.func (c3 "web_stands" "web_stands" (h8 D6) (e9 D6) (a6 D6) .none kVθ dcθ pmθ anθ cdθ ctθ),slθ⟩)(cθ:b9 K cdθ "web_stands"=true)(kθ:a9 K (.ref fθ)=true)
  (aμ:a4 K mainGlobals "pair_stands"=some (some (.ref fμ)))(lμ:K.lookup fμ=some ⟨ocμ,odμ,.func (c3 "pair_stands" "pair_stands" (h8 A7) (e9 A7) (a6 A7) .none kVμ dcμ pmμ anμ cdμ ctμ),slμ⟩)(cμ:b9 K cdμ "pair_stands"=true)(kμ:a9 K (.ref fμ)=true)
  (aξ:a4 K mainGlobals "pieces_stands"=some (some (.ref fξ)))(lξ:K.lookup fξ=some ⟨ocξ,odξ,.func (c3 "pieces_stands" "pieces_stands" (h8 E1) (e9 E1) (a6 E1) .none kVξ dcξ pmξ anξ cdξ ctξ),slξ⟩)(cξ:b9 K cdξ "pieces_stands"=true)(kξ:a9 K (.ref fξ)=true)
  (aρ:a4 K mainGlobals "off_stands"=some (some (.ref fρ)))(lρ:K.lookup fρ=some ⟨ocρ,odρ,.func (c3 "off_stands" "off_stands" (h8 E2) (e9 E2) (a6 E2) .none kVρ dcρ pmρ anρ cdρ ctρ),slρ⟩)(cρ:b9 K cdρ "off_stands"=true)(kρ:a9 K (.ref fρ)=true)
  (aσ:a4 K mainGlobals "stands"=some (some (.ref fσ)))(lσ:K.lookup fσ=some ⟨ocσ,odσ,.func (c3 "stands" "stands" (h8 A6) (e9 A6) (a6 A6) .none kVσ dcσ pmσ anσ cdσ ctσ),slσ⟩)(cσ:b9 K cdσ "stands"=true)(kσ:a9 K (.ref fσ)=true)
  (aG:a4 K mainGlobals "judged"=some (some (.ref fG)))(lG:K.lookup fG=some ⟨ocG,odG,.func (c3 "judged" "judged" (h8 C9) (e9 C9) (a6 C9) .none kVG dcG pmG anG cdG ctG),slG⟩)(cG:b9 K cdG "judged"=true)(kG:a9 K (.ref fG)=true)
  (aC:a4 K mainGlobals "_law_cell_at"=some (some (.ref fC)))(lC:K.lookup fC=some ⟨ocC,odC,.func (c3 "_law_cell_at" "_law_cell_at" (h8 M9) (e9 M9) (a6 M9) .none kVC dcC pmC anC cdC ctC),slC⟩)(cC:b9 K cdC "_law_cell_at"=true)(kC:a9 K (.ref fC)=true)
  (aO:a4 K mainGlobals "_law_row"=some (some (.ref fO)))(lO:K.lookup fO=some ⟨ocO,odO,.func (c3 "_law_row" "_law_row" (h8 T6) (e9 T6) (a6 T6) .none kVO dcO pmO anO cdO ctO),slO⟩)(cO:b9 K cdO "_law_row"=true)(kO:a9 K (.ref fO)=true)
  (aQ:a4 K mainGlobals "_law_question"=some (some (.ref fQ)))(lQ:K.lookup fQ=some ⟨ocQ,odQ,.func (c3 "_law_question" "_law_question" (h8 G8) (e9 G8) (a6 G8) .none kVQ dcQ pmQ anQ cdQ ctQ),slQ⟩)(cQ:b9 K cdQ "_law_question"=true)(kQ:a9 K (.ref fQ)=true)
  (aD:a4 K mainGlobals "_law_is_none"=some (some (.ref fD)))(lD:K.lookup fD=some ⟨ocD,odD,.func (c3 "_law_is_none" "_law_is_none" (h8 D0) (e9 D0) (a6 D0) .none kVD dcD pmD anD cdD ctD),slD⟩)(cD:b9 K cdD "_law_is_none"=true)(kD:a9 K (.ref fD)=true)
  (aS:a4 K mainGlobals "_law_spoiled"=some (some (.ref fS)))(lS:K.lookup fS=some ⟨ocS,odS,.func (c3 "_law_spoiled" "_law_spoiled" (h8 G7) (e9 G7) (a6 G7) .none kVS dcS pmS anS cdS ctS),slS⟩)(cS:b9 K cdS "_law_spoiled"=true)(kS:a9 K (.ref fS)=true)
  (aZ:a4 K mainGlobals "law"=some (some (.ref fZ)))(lZ:K.lookup fZ=some ⟨ocZ,odZ,.func (c3 "law" "law" (h8 R3) (e9 R3) (a6 R3) .none kVZ dcZ pmZ anZ cdZ ctZ),slZ⟩)(cZ:b9 K cdZ "law"=true)(kZ:a9 K (.ref fZ)=true)
  (mo:a4 K mainGlobals "MOST_PLACES"=some (some (.int 24 tk)))
  (fg:a4 K mainGlobals "FIGURES"=some (some (.str "0123456789" tF)))
  (mf:a4 K mainGlobals "MOST_FIGURES"=some (some (.int 60 tM)))
  (me:a4 K mainGlobals "MOST_FIGURES_OF_END"=some (some (.int 2 tE)))
  (ma:a4 K mainGlobals "MOST_FIGURES_ASKED"=some (some (.int 50 tA)))
  (rf:a4 K mainGlobals "REFUSED"=some (some (.str "refused" tR)))
  (kd:a4 K mainGlobals "KINDS"=some (some (.ref kdA)))(kl:K.lookup kdA=some ⟨.type "tuple",kod,.seq #[.str "web" kt1,.str "pair" kt2,.str "pieces" kt3,.str "off" kt4] kn,ksl⟩)
  (aTallyError:a4 K mainGlobals "TallyError"=some (some (.ref CTallyError)))
  (aBadWeb:a4 K mainGlobals "BadWeb"=some (some (.ref CBadWeb)))
  (aBadTally:a4 K mainGlobals "BadTally"=some (some (.ref CBadTally)))
  (aNoText:a4 K mainGlobals "NoText"=some (some (.ref CNoText)))
  (qBadWeb:PySem.W.excIn K CBadWeb [.type "ValueError",.type "Exception",.type "BaseException",.type "object"] "ValueError.__new__"=true)
  (xmBadWeb:PySem.W.exmOne K (.ref CBadWeb) (.ref CBadWeb)=some true)
  (qBadTally:PySem.W.excIn K CBadTally [.type "ValueError",.type "Exception",.type "BaseException",.type "object"] "ValueError.__new__"=true)
  (xmBadTally:PySem.W.exmOne K (.ref CBadTally) (.ref CBadTally)=some true)
  (qNoText:PySem.W.excIn K CNoText [.type "ValueError",.type "Exception",.type "BaseException",.type "object"] "ValueError.__new__"=true)
  (xmNoText:PySem.W.exmOne K (.ref CNoText) (.ref CNoText)=some true)
  (xtBadTally:PySem.W.exmOne K (.ref CBadTally) (.ref CTallyError)=some true)
  (xtNoText:PySem.W.exmOne K (.ref CNoText) (.ref CTallyError)=some true)
  (z1:a4 K mainGlobals "len"=some none)
  (z2:a4 K mainGlobals "range"=some none)
  (z3:a4 K mainGlobals "enumerate"=some none)
  (z4:a4 K mainGlobals "list"=some none)
  (z5:a4 K mainGlobals "tuple"=some none)
  (z6:a4 K mainGlobals "sorted"=some none)
  (z7:a4 K mainGlobals "set"=some none)
  (z8:a4 K mainGlobals "isinstance"=some none)
  (z9:a4 K mainGlobals "int"=some none)
  (z10:a4 K mainGlobals "bool"=some none)
  (z11:a4 K mainGlobals "min"=some none)
  (z12:a4 K mainGlobals "max"=some none)
  (z13:a4 K mainGlobals "sum"=some none)
  (z14:a4 K mainGlobals "str"=some none)
  (z15:a4 K mainGlobals "ValueError"=some none)
  (z16:a4 K mainGlobals "all"=some none) :
  ∃ fd:FuncData,(∀ (s:Shared) (v:Value),BindsTo s fd ⟨[v],[]⟩ [("script",v)])/\∀ base:Heap,K.In base->base.Ns mainGlobals mg->d7 l.prog w K mg base CX0 9 fa fd ["script"] (X8 K):=by
 have e:=hfa.symm.trans (a7 X G aZ)
 cases e
 have B:Bn mg:=⟨g6 X G z1,g6 X G z2,g6 X G z3,g6 X G z4,g6 X G z5,g6 X G z6,g6 X G z7,g6 X G z8,g6 X G z9,g6 X G z10,g6 X G z11,g6 X G z12,g6 X G z13,g6 X G z14,g6 X G z15,g6 X G z16⟩
 have FV:=j2 (st:=L0) lV cV kV
 have bV:=FV.binds (ps:=["places","ties"]) fun _ _ _ _ _ _=>ls2 fun _ _=>rfl
 have Fι:=j2 (st:=A8) lι cι kι
 have bι:=Fι.binds (ps:=["web"]) fun _ _ _ _ _ _=>ls1 fun _=>rfl
 have FT:=j2 (st:=O4) lT cT kT
 have bT:=FT.binds (ps:=["tally"]) fun _ _ _ _ _ _=>ls1 fun _=>rfl
 have Fω:=j2 (st:=D7) lω cω kω
 have bω:=Fω.binds (ps:=["tally","most"]) fun _ _ _ _ _ _=>ls2 fun _ _=>rfl
 have FW:=j2 (st:=J2) lW cW kW
 have bW:=FW.binds (ps:=["tally"]) fun _ _ _ _ _ _=>ls1 fun _=>rfl
 have FH:=j2 (st:=O3) lH cH kH
 have bH:=FH.binds (ps:=["tally"]) fun _ _ _ _ _ _=>ls1 fun _=>rfl
 have FX:=j2 (st:=U1) lX cX kX
 have bX:=FX.binds (ps:=["tally"]) fun _ _ _ _ _ _=>ls1 fun _=>rfl
 have Fα:=j2 (st:=L3) lα cα kα
 have bα:=Fα.binds (ps:=["tally","told"]) fun _ _ _ _ _ _=>ls2 fun _ _=>rfl
 have FN:=j2 (st:=U0) lN cN kN
 have bN:=FN.binds (ps:=["tally"]) fun _ _ _ _ _ _=>ls1 fun _=>rfl
 have FJ:=j2 (st:=L1) lJ cJ kJ
 have bJ:=FJ.binds (ps:=["tally"]) fun _ _ _ _ _ _=>ls1 fun _=>rfl
 have FP:=j2 (st:=sPT) lP cP kP
 have bP:=FP.binds (ps:=["tally","one","other"]) fun _ _ _ _ _ _=>ls3 fun _ _ _=>rfl
 have Fκ:=j2 (st:=T7) lκ cκ kκ
 have bκ:=Fκ.binds (ps:=["tally","one","other","told"]) fun _ _ _ _ _ _=>ls4 fun _ _ _ _=>rfl
 have Fφ:=j2 (st:=T9) lφ cφ kφ
 have bφ:=Fφ.binds (ps:=["tally"]) fun _ _ _ _ _ _=>ls1 fun _=>rfl
 have FI:=j2 (st:=R4) lI cI kI
 have bI:=FI.binds (ps:=["word","most"]) fun _ _ _ _ _ _=>ls2 fun _ _=>rfl
 have Fν:=j2 (st:=sNW) lν cν kν
 have bν:=Fν.binds (ps:=["word","most"]) fun _ _ _ _ _ _=>ls2 fun _ _=>rfl
 have Fη:=j2 (st:=sNI) lη cη kη
 have bη:=Fη.binds (ps:=["word"]) fun _ _ _ _ _ _=>ls1 fun _=>rfl
 have Fτ:=j2 (st:=D8) lτ cτ kτ
 have bτ:=Fτ.binds (ps:=["word"]) fun _ _ _ _ _ _=>ls1 fun _=>rfl
 have Fψ:=j2 (st:=C8) lψ cψ kψ
 have bψ:=Fψ.binds (ps:=["row","places"]) fun _ _ _ _ _ _=>ls2 fun _ _=>rfl
 have Fβ:=j2 (st:=O2) lβ cβ kβ
 have bβ:=Fβ.binds (ps:=["row","first","many"]) fun _ _ _ _ _ _=>ls3 fun _ _ _=>rfl
 have Fγ:=j2 (st:=y6) lγ cγ kγ
 have bγ:=Fγ.binds (ps:=["row"]) fun _ _ _ _ _ _=>ls1 fun _=>rfl
 have FA:=j2 (st:=D1) lA cA kA
 have bA:=FA.binds (ps:=["question"]) fun _ _ _ _ _ _=>ls1 fun _=>rfl
 have Fδ:=j2 (st:=T5) lδ cδ kδ
 have bδ:=Fδ.binds (ps:=["told"]) fun _ _ _ _ _ _=>ls1 fun _=>rfl
 have Fε:=j2 (st:=M8) lε cε kε
 have bε:=Fε.binds (ps:=["told"]) fun _ _ _ _ _ _=>ls1 fun _=>rfl
 have FR:=j2 (st:=D9) lR cR kR
 have bR:=FR.binds (ps:=["kind","pair","tally"]) fun _ _ _ _ _ _=>ls3 fun _ _ _=>rfl
 have Fζ:=j2 (st:=A9) lζ cζ kζ
 have bζ:=Fζ.binds (ps:=["question"]) fun _ _ _ _ _ _=>ls1 fun _=>rfl
 have Fθ:=j2 (st:=D6) lθ cθ kθ
 have bθ:=Fθ.binds (ps:=["tally","first","webs"]) fun _ _ _ _ _ _=>ls3 fun _ _ _=>rfl
 have Fμ:=j2 (st:=A7) lμ cμ kμ
 have bμ:=Fμ.binds (ps:=["tally","pair","first","webs"]) fun _ _ _ _ _ _=>ls4 fun _ _ _ _=>rfl
 have Fξ:=j2 (st:=E1) lξ cξ kξ
 have bξ:=Fξ.binds (ps:=["tally","first","webs"]) fun _ _ _ _ _ _=>ls3 fun _ _ _=>rfl
 have Fρ:=j2 (st:=E2) lρ cρ kρ
 have bρ:=Fρ.binds (ps:=["tally","first","webs"]) fun _ _ _ _ _ _=>ls3 fun _ _ _=>rfl
 have Fσ:=j2 (st:=A6) lσ cσ kσ
 have bσ:=Fσ.binds (ps:=["kind","pair","tally","rows"]) fun _ _ _ _ _ _=>ls4 fun _ _ _ _=>rfl
 have FG:=j2 (st:=C9) lG cG kG
 have bG:=FG.binds (ps:=["question","told"]) fun _ _ _ _ _ _=>ls2 fun _ _=>rfl
 have FC:=j2 (st:=M9) lC cC kC
 have bC:=FC.binds (ps:=["script","k"]) fun _ _ _ _ _ _=>ls2 fun _ _=>rfl
 have FO:=j2 (st:=T6) lO cO kO
 have bO:=FO.binds (ps:=["cell","many","size"]) fun _ _ _ _ _ _=>ls3 fun _ _ _=>rfl
 have FQ:=j2 (st:=G8) lQ cQ kQ
 have bQ:=FQ.binds (ps:=["cell"]) fun _ _ _ _ _ _=>ls1 fun _=>rfl
 have FD:=j2 (st:=D0) lD cD kD
 have bD:=FD.binds (ps:=["text"]) fun _ _ _ _ _ _=>ls1 fun _=>rfl
 have FS:=j2 (st:=G7) lS cS kS
 have bS:=FS.binds (ps:=["text","cell"]) fun _ _ _ _ _ _=>ls2 fun _ _=>rfl
 have FZ:=j2 (st:=R3) lZ cZ kZ
 exact⟨c3 "law" "law" (h8 R3) (e9 R3) (a6 R3) .none kVZ dcZ pmZ anZ cdZ ctZ,fun s v=>.of_eq rfl,fun base _ _=>ao7 FZ B (a7 X G mo) (a7 X G fg) (a7 X G mf) (a7 X G me) (a7 X G ma) (a7 X G rf) (a7 X G kd) FV bV (a7 X G aV) Fι bι (a7 X G aι) FT bT (a7 X G aT) Fω bω (a7 X G aω) FW bW (a7 X G aW) FH bH (a7 X G aH) FX bX (a7 X G aX) Fα bα (a7 X G aα) FN bN (a7 X G aN) FJ bJ (a7 X G aJ) FP bP (a7 X G aP) Fκ bκ (a7 X G aκ) Fφ bφ (a7 X G aφ) FI bI (a7 X G aI) Fν bν (a7 X G aν) Fη bη (a7 X G aη) Fτ bτ (a7 X G aτ) Fψ bψ (a7 X G aψ) Fβ bβ (a7 X G aβ) Fγ bγ (a7 X G aγ) FA bA (a7 X G aA) Fδ bδ (a7 X G aδ) Fε bε (a7 X G aε) FR bR (a7 X G aR) Fζ bζ (a7 X G aζ) Fθ bθ (a7 X G aθ) Fμ bμ (a7 X G aμ) Fξ bξ (a7 X G aξ) Fρ bρ (a7 X G aρ) Fσ bσ (a7 X G aσ) FG bG (a7 X G aG) FC bC (a7 X G aC) FO bO (a7 X G aO) FQ bQ (a7 X G aQ) FD bD (a7 X G aD) FS bS (a7 X G aS) (aq0 kl) (a7 X G aTallyError) (a7 X G aBadWeb) ⟨qBadWeb⟩ xmBadWeb (a7 X G aBadTally) ⟨qBadTally⟩ xtBadTally (a7 X G aNoText) ⟨qNoText⟩ xtNoText⟩
theorem walk {l:PySem.W.OpenLaw} {q:Program} {loose:List Str} {XP:(Str->Option Value)->Heap->Prop} {YP:World->Heap->Prop} {d:DefRec} {K:Params->PySem.W.Frag} (hn:l.most=some 63) (hdf:d.params.defaults=[])
  (hY:∀ (w:World) (h:Heap),YP w h->(K w.params).In h)
  (F : ∀ (w : World) (mg : Str -> Option Value) (fa : Addr) (h : Heap), (K w.params).In h -> h.Ns mainGlobals mg -> mg d.name = some (.ref fa) ->
   ∃ fd:FuncData,(∀ (s:Shared) (u:Value),BindsTo s fd ⟨[u],[]⟩ [("script",u)])/\∀ base:Heap,(K w.params).In base->base.Ns mainGlobals mg->d7 l.prog w (K w.params) mg base CX0 9 fa fd ["script"] (X8 (K w.params))) :
  PySem.W.WalkO q loose XP YP l.row.toRowW d [] (fun f vs=>PySem.call f vs):=
 L2.walk_of (n:=63) (k:=9) (x:="script") (CX:=fun _=>CX0) (sp:=fun w=>X8 (K w.params)) hn (by decide) hdf ⟨rfl,by decide,by decide⟩ hY F (fun _ _ a ns hl _ hS=>⟨a,ns,rfl,hS,hl,fun _=>rfl⟩) fun _ _ _ _ _ z=>z
end Web
set_option Elab.async false
namespace PySem.W.Fast
def tw451679118083069811:=0
def tw6576504657308810435:=0
def tw7295741882082999342:=0
def tw1329682415372607448:=0
def tw4921741830772031019:=0
def tw13102350299419858069:=0
def tw10428584487349615012:=0
def tw17904992154800659612:=0
def tw8298434123840671887:=0
def tw4248571844009218142:=0
def tw2704906197534336494:=0
def tw7445809808323286649:=0
def tw6063899309570113267:=0
def tw16118952716810402856:=0
def tw3962035329013312345:=0
def tw7565953759315715695:=0
def tw4582941246544380020:=0
def tw9701699429572482906:=0
def tw853779433930448327:=0
def tw17998637520779297734:=0
def tw15601320914409823997:=0
def tw5870124766837100701:=0
def tw4589836611921301468:=0
def tw5286590595603272640:=0
def tw430656450624008577:=0
def tw3466583156685912155:=0
def tw9634518142213674679:=0
def tw15040151731526808798:=0
def tw7172337396740761471:=0
def tw7927660220184269009:=0
def tw2914895692931548754:=0
def tw15413303523018364102:=0
def tw8842692954345948356:=0
def tw13098664601350433500:=0
def tw16623704036736611421:=0
def tw16235280049554616656:=0
def tw18011539982975740471:=0
def tw12799876721343048275:=0
def tw14819066471916406341:=0
def tw7516010064265446492:=0
def tw4857057007200486443:=0
def tw13971056878694085143:=0
def tw11908113926097285808:=0
def tw13564873813971291565:=0
def tw13584074287750202238:=0
def tw12520313766174875833:=0
def tw3460254402834873170:=0
def tw5188954062896275139:=0
def tw3589514790567310029:=0
def tw13625436217891654571:=0
def tw14836539621367652397:=0
def tw16894186139985235478:=0
def tw2300889343663831013:=0
def tw7001548343089953985:=0
def tw18444499903182656722:=0
def tw16896123234454725153:=0
def tw3260583071961963578:=0
def tw8684377986302371020:=0
def tw4144419444418823514:=0
def tw13920957796739883544:=0
def tw5686568256068108936:=0
def tw4199779126579516078:=0
def tw3748873275552473619:=0
def tw9105207621453385052:=0
def tw16909582131827267764:=0
def tw1554843441996994127:=0
def tw1066801364896395094:=0
def tw9217645000760509952:=0
def tw14788453966286699247:=0
def tw17296071330747712512:=0
def tw13343776263897188694:=0
def tw2146826192501314886:=0
def tw3384614298704185109:=0
def tw589129270251067266:=0
def tw11122439311532244365:=0
def tw12585927430765759036:=0
def tw10307390491827318216:=0
def tw4690134826043851624:=0
def tw3874704885302082825:=0
def tw3663267378309546589:=0
def tw11044458032391647981:=0
def tw4582356985705060610:=0
def tw9631969936982509303:=0
def tw7339926147208144337:=0
def tw4037446560273963712:=0
def tw585258472172696138:=0
def tw6012110004791809032:=0
def tw7117351031397183131:=0
def tw7791518102641064092:=0
def tw570601873525039033:=0
def tw1479958146806667974:=0
def tw13618510475118650954:=0
def tw8559664452040086745:=0
def tw18276678131773508931:=0
def tw3356116590983925099:=0
def tw10612303096405438980:=0
def tw3761694793171368831:=0
def tw15583554168504394596:=0
def tw6735912449619727765:=0
def tw6370660774818963489:=0
def tw6911185352127455448:=0
def tw2418386603709180617:=0
def tw10506138494096035960:=0
def tw7381538368403560762:=0
def tw11132921929975587617:=0
def tw7492905177651561460:=0
def tw9973484801195101715:=0
def tw3963837692013349903:=0
def tw16771607845168727656:=0
def tw14511024013709932733:=0
def tw16538590509848822676:=0
def tw17135935662634503589:=0
def tw4170079294999635908:=0
def tw14193456662105162896:=0
def tw14708547334956162266:=0
def tw7852194359645276784:=0
def tw5236794688046717369:=0
def tw5120822017840243711:=0
def tw14266974750249276191:=0
def tw9251031737476630199:=0
def tw3296264854792688590:=0
def tw4560497485113395201:=0
def tw9486301687290139756:=0
def tw17678040654638067925:=0
def tw13042351531087866925:=0
def tw13397881121232360305:=0
def tw9495015273436090152:=0
def tw1875902869045937512:=0
def tw3254544427233101758:=0
def tw11053791992521564305:=0
def tw16032611553199420956:=0
def tw103786767573119349:=0
def tw12169513478512742555:=0
def tw7134537606848761894:=0
def tw6020606463237435127:=0
def tw2591816786258758735:=0
def tw5607468374457815663:=0
def tw7751133364018835855:=0
def tw7303809677939657523:=0
def tw16298488972825169829:=0
def tw1693249145308233723:=0
def tw7247477367316420990:=0
def tw2872211110221352662:=0
def tw7351203456937237828:=0
def tw16542915739612652395:=0
def tw4535821523435877643:=0
def tw17963562245309394634:=0
def tw10305229339499764918:=0
def tw7535631326316598858:=0
def tw16671226943226372472:=0
def tw17866872362579768443:=0
def tw17884340354802704989:=0
def tw6050226257952158921:=0
def tw2473732021055200509:=0
def tw17666670828006041225:=0
def tw11012417129099999305:=0
def tw1474812974474367329:=0
def tw5292098480183289436:=0
def tw14291434259707926358:=0
def tw4481587860416117334:=0
def tw15293114691892031263:=0
def tw15648587716163470304:=0
def tw17358353291618673063:=0
def tw1490121133001498940:=0
def tw13120854742701459016:=0
def tw2379305560973565850:=0
def tw15806442113936786546:=0
def tw7484201222893800069:=0
def tw18062836682035212902:=0
def tw4073430376078208218:=0
def tw13879850854978739331:=0
def tw2697439140369236853:=0
def tw7842057487120064635:=0
def tw13952373698326914361:=0
def tw6971878536771948664:=0
def tw14207219838328031340:=0
def tw14287234609994452957:=0
def tw245352041999392168:=0
def tw274097774864775548:=0
def tw2608345113383459991:=0
def tw10028741178642182360:=0
def tw17844001320077733613:=0
def tw10238368752144793558:=0
def tw13005565898875643980:=0
def tw14242010964313993878:=0
def tw4653052498885413842:=0
def tw4295136181693103489:=0
def tw15981272409099212138:=0
def tw3178112253138606812:=0
def tw11089916463143276912:=0
def tw16045198684317585860:=0
def tw10771815125489474726:=0
def tw425359952224804954:=0
def tw7994631552067283023:=0
def tw7689746276501104665:=0
def tw11086592086199821224:=0
def tw4056047842011094909:=0
def tw9288593149745668189:=0
def tw10162756218940782360:=0
def tw15796131566333292803:=0
def tw3486737941253284909:=0
def tw5304214091864524223:=0
def tw287219965844656512:=0
def tw15943078891209184759:=0
def tw2186073716499863941:=0
def tw583652907460885706:=0
def tw8429723890796988438:=0
def tw10563523877267138998:=0
def tw14748942689617780365:=0
def tw8742907292659922240:=0
def tw18326349663190258087:=0
def tw6140517760061086923:=0
def tw6765874935830494280:=0
def tw18431237891203813481:=0
def tw14889187381656574774:=0
def tw16514266764252936779:=0
def tw14141036179436402472:=0
def tw8748423725690157712:=0
def tw18301336285155531502:=0
def tw4759141095873423637:=0
def tw10714700402095485936:=0
def tw3478212350581742473:=0
def tw14734251845507043217:=0
def tw4815297009200243816:=0
def tw1292454342392960637:=0
def tw12685556515088157830:=0
def tw14085320319151131336:=0
def tw13019807060423883179:=0
def tw17777447817784765885:=0
def tw13471056192613059583:=0
def tw9970187552298319678:=0
def tw201654047212471986:=0
def tw11422978952129612987:=0
def tw12516009647757838144:=0
def tw10248825185860717174:=0
def tw93467778975989637:=0
def tw10598877112421344897:=0
def tw2655699778872041366:=0
def tw15855595701065643470:=0
def tw17036333761220116925:=0
def tw6934606973604681396:=0
def tw7136487103158838070:=0
def tw13669777114706537265:=0
def tw11796264793437799993:=0
def tw10750149496090941139:=0
def tw6752512954519739223:=0
def tw12698255824263228551:=0
def tw6848836228385903098:=0
def tw17622639669218016620:=0
def tw6510322181490451902:=0
def tw12178497495107310192:=0
def tw16533580994133054211:=0
def tw14590944635452126381:=0
def tw8489677673545061554:=0
def tw117881320174730193:=0
def tw2678642449458594125:=0
def tw9012400471655238991:=0
def tw3104177335815868360:=0
def tw15225011714161828877:=0
def tw11932473742933750904:=0
def tw4808692077053609344:=0
def tw13050446005361515664:=0
def tw7126989985062434353:=0
def tw532098405199703450:=0
def tw4736086007668498726:=0
def tw15263336435294419737:=0
def tw14904386435263894751:=0
def tw3939871489345345539:=0
def tw2697731896507885603:=0
def tw6097192701436683689:=0
def tw16293871285675782954:=0
def tw4615179280964006201:=0
def tw9867349447995289278:=0
def tw13349917019947931336:=0
def tw5455690895850525790:=0
def tw3763654566666943702:=0
def tw592666747098980038:=0
def tw8418114029237091568:=0
def tw1876573760300135639:=0
def tw4972599565047597416:=0
def tw17262512943794436425:=0
def tw18086648599884650262:=0
def tw13347392501868977555:=0
def tw4992488693559987165:=0
def tw3503341615471995034:=0
def tw7773951530562720120:=0
def tw14840028925778513506:=0
def tw14352808841522430918:=0
def tw8746095933222933048:=0
def tw13115040152593701737:=0
def tw1406566653580497668:=0
def tw11758795911919733789:=0
def tw585399521839044878:=0
def tw10303359993784524521:=0
def tw16988276952201874125:=0
def tw9626741496756767546:=0
def tw6090138525358415590:=0
def tw16992621528363458123:=0
def tw2228308740659194608:=0
def tw4755798557806870071:=0
def tw3890479179476396671:=0
def tw4530674846436901697:=0
def tw16098013491481349768:=0
def tw12359249709627481628:=0
def tw18385107269486429768:=0
def tw6262731371762440803:=0
def tw812909830900549853:=0
def tw16049219376209869415:=0
def tw10261118385909488715:=0
def tw12354367121001301333:=0
def tw6666116116387179697:=0
def tw18382180974512744796:=0
def tw4704421059839592675:=0
def tw13954496813584071787:=0
def tw10476823035859659263:=0
def tw3141098808055996362:=0
def tw5328528200938851675:=0
def tw13401928141621536352:=0
def tw6970417184295480792:=0
def tw5440741571614560290:=0
def tw9641859352347326330:=0
def tw15770117958567486505:=0
def tw15712504768359177256:=0
def tw15795262806387669157:=0
def tw13791083872189313069:=0
def tw2834688204447357083:=0
def tw10013874462203432710:=0
def tw17886908295102599354:=0
def tw14487924088203132357:=0
def tw13136396641392138715:=0
def tw9240870627225481077:=0
def tw9037767924497327644:=0
def tw9594938692993697563:=0
def tw9792854803396481456:=0
def tw6620870913811949728:=0
def tw910518825965111103:=0
def tw13921098225930651394:=0
def tw11452125404214947502:=0
def tw9715381080474333551:=0
def tw8860826988725085431:=0
def tw4567328029171555946:=0
def tw12908067228828221749:=0
def tw14222954740371669108:=0
def tw4653662256415825376:=0
def tw6079242153200452909:=0
def tw16527365236750695290:=0
def tw2647230668764233559:=0
def tw17629290428946677817:=0
def tw12853630419339914653:=0
def tw7319176868755352931:=0
def tw14087087453802936919:=0
def tw4972951095297919554:=0
def tw13697785019244772228:=0
def tw12333024979011756449:=0
def tw9827913172670791855:=0
def tw2310589622329859891:=0
def tw9501388298159028944:=0
def tw12657344514503650510:=0
def tw15042686355746437815:=0
def tw14678397956793942378:=0
def tw16183482882370779389:=0
def tw7513135698911566250:=0
def tw17376226619195210035:=0
end PySem.W.Fast
open PySem PySem.W PyProof.Rows
set_option maxRecDepth 100000 in
set_option maxHeartbeats 0 in
theorem PySem.Challenge.cw_tallyweb_k65_questions_refused_holds : PySem.Challenge.rw_tallyweb_k65_questions_refused.Holds := by
 w_on; o_law; k_head; (case hw => w_witness2)
 k_fill
 refine Web.walk (l := PySem.Challenge.rw_tallyweb_k65_questions_refused) rfl rfl (fun w h Y => PySem.W.km_in_of Y) ?F
 case F =>
  intro w mg fa h KX G hmg
  refine' Web.all_mk KX G hmg ?aV ?lV ?cV ?kV ?aι ?lι ?cι ?kι ?aT ?lT ?cT ?kT ?aω ?lω ?cω ?kω ?aW ?lW ?cW ?kW ?aH ?lH ?cH ?kH ?aX ?lX ?cX ?kX ?aα ?lα ?cα ?kα ?aN ?lN ?cN ?kN ?aJ ?lJ ?cJ ?kJ ?aP ?lP ?cP ?kP ?aκ ?lκ ?cκ ?kκ ?aφ ?lφ ?cφ ?kφ ?aI ?lI ?cI ?kI ?aν ?lν ?cν ?kν ?aη ?lη ?cη ?kη ?aτ ?lτ ?cτ ?kτ ?aψ ?lψ ?cψ ?kψ ?aβ ?lβ ?cβ ?kβ ?aγ ?lγ ?cγ ?kγ ?aA ?lA ?cA ?kA ?aδ ?lδ ?cδ ?kδ ?aε ?lε ?cε ?kε ?aR ?lR ?cR ?kR ?aζ ?lζ ?cζ ?kζ ?aθ ?lθ ?cθ ?kθ ?aμ ?lμ ?cμ ?kμ ?aξ ?lξ ?cξ ?kξ ?aρ ?lρ ?cρ ?kρ ?aσ ?lσ ?cσ ?kσ ?aG ?lG ?cG ?kG ?aC ?lC ?cC ?kC ?aO ?lO ?cO ?kO ?aQ ?lQ ?cQ ?kQ ?aD ?lD ?cD ?kD ?aS ?lS ?cS ?kS ?aZ ?lZ ?cZ ?kZ ?mo ?fg ?mf ?me ?ma ?rf ?kd ?kl ?aTallyError ?aBadWeb ?aBadTally ?aNoText ?qBadWeb ?xmBadWeb ?qBadTally ?xmBadTally ?qNoText ?xmNoText ?xtBadTally ?xtNoText ?z1 ?z2 ?z3 ?z4 ?z5 ?z6 ?z7 ?z8 ?z9 ?z10 ?z11 ?z12 ?z13 ?z14 ?z15 ?z16
  (case aV => k_is); (case lV => k_is); (case cV => k_is); (case kV => k_is)
  (case aι => k_is); (case lι => k_is); (case cι => k_is); (case kι => k_is)
  (case aT => k_is); (case lT => k_is); (case cT => k_is); (case kT => k_is)
  (case aω => k_is); (case lω => k_is); (case cω => k_is); (case kω => k_is)
  (case aW => k_is); (case lW => k_is); (case cW => k_is); (case kW => k_is)
  (case aH => k_is); (case lH => k_is); (case cH => k_is); (case kH => k_is)
  (case aX => k_is); (case lX => k_is); (case cX => k_is); (case kX => k_is)
  (case aα => k_is); (case lα => k_is); (case cα => k_is); (case kα => k_is)
  (case aN => k_is); (case lN => k_is); (case cN => k_is); (case kN => k_is)
  (case aJ => k_is); (case lJ => k_is); (case cJ => k_is); (case kJ => k_is)
  (case aP => k_is); (case lP => k_is); (case cP => k_is); (case kP => k_is)
  (case aκ => k_is); (case lκ => k_is); (case cκ => k_is); (case kκ => k_is)
  (case aφ => k_is); (case lφ => k_is); (case cφ => k_is); (case kφ => k_is)
  (case aI => k_is); (case lI => k_is); (case cI => k_is); (case kI => k_is)
  (case aν => k_is); (case lν => k_is); (case cν => k_is); (case kν => k_is)
  (case aη => k_is); (case lη => k_is); (case cη => k_is); (case kη => k_is)
  (case aτ => k_is); (case lτ => k_is); (case cτ => k_is); (case kτ => k_is)
  (case aψ => k_is); (case lψ => k_is); (case cψ => k_is); (case kψ => k_is)
  (case aβ => k_is); (case lβ => k_is); (case cβ => k_is); (case kβ => k_is)
  (case aγ => k_is); (case lγ => k_is); (case cγ => k_is); (case kγ => k_is)
  (case aA => k_is); (case lA => k_is); (case cA => k_is); (case kA => k_is)
  (case aδ => k_is); (case lδ => k_is); (case cδ => k_is); (case kδ => k_is)
  (case aε => k_is); (case lε => k_is); (case cε => k_is); (case kε => k_is)
  (case aR => k_is); (case lR => k_is); (case cR => k_is); (case kR => k_is)
  (case aζ => k_is); (case lζ => k_is); (case cζ => k_is); (case kζ => k_is)
  (case aθ => k_is); (case lθ => k_is); (case cθ => k_is); (case kθ => k_is)
  (case aμ => k_is); (case lμ => k_is); (case cμ => k_is); (case kμ => k_is)
  (case aξ => k_is); (case lξ => k_is); (case cξ => k_is); (case kξ => k_is)
  (case aρ => k_is); (case lρ => k_is); (case cρ => k_is); (case kρ => k_is)
  (case aσ => k_is); (case lσ => k_is); (case cσ => k_is); (case kσ => k_is)
  (case aG => k_is); (case lG => k_is); (case cG => k_is); (case kG => k_is)
  (case aC => k_is); (case lC => k_is); (case cC => k_is); (case kC => k_is)
  (case aO => k_is); (case lO => k_is); (case cO => k_is); (case kO => k_is)
  (case aQ => k_is); (case lQ => k_is); (case cQ => k_is); (case kQ => k_is)
  (case aD => k_is); (case lD => k_is); (case cD => k_is); (case kD => k_is)
  (case aS => k_is); (case lS => k_is); (case cS => k_is); (case kS => k_is)
  (case aZ => k_is); (case lZ => k_is); (case cZ => k_is); (case kZ => k_is)
  (case mo => k_is); (case fg => k_is); (case mf => k_is); (case me => k_is)
  (case ma => k_is); (case rf => k_is); (case kd => k_is); (case kl => k_is)
  (case aTallyError => k_is); (case aBadWeb => k_is); (case aBadTally => k_is); (case aNoText => k_is)
  (case qBadWeb => k_exc); (case xmBadWeb => kts_exm); (case qBadTally => k_exc); (case xmBadTally => kts_exm)
  (case qNoText => k_exc); (case xmNoText => kts_exm); (case xtBadTally => kts_exm); (case xtNoText => kts_exm)
  (case z1 => k_is); (case z2 => k_is); (case z3 => k_is); (case z4 => k_is)
  (case z5 => k_is); (case z6 => k_is); (case z7 => k_is); (case z8 => k_is)
  (case z9 => k_is); (case z10 => k_is); (case z11 => k_is); (case z12 => k_is)
  (case z13 => k_is); (case z14 => k_is); (case z15 => k_is); (case z16 => k_is)
#print axioms PySem.Challenge.cw_tallyweb_k65_questions_refused_holds

