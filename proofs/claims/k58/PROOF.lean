import PyProof.Rows.All
import Wide.All
import OpenK.AllK
import Wide.FinOn
import Lean
import PyProof.EqAt
import PyProof.EqKinds
import PyProof.TupleCall
import PyProof.Rows.SortRunsK
import PyProof.Rows.SortShellK
import KE.KSortTup
import PyProof.TupleKey
import PySem.SetOps
import PyProof.Rows.SetFrom
import PyProof.EnumFor
import PyProof.EnumStmt
import PyProof.EnumMake
import PyProof.P3Eq
import PyProof.NeData
import PyProof.P3In
import PyProof.Rows.SumAny
import KE.KLam
import KE.KSortKey
import PyProof.ListRange
import KE.KTryMore
import PyProof.NsDelKeeps
import PyProof.RulesAs
import PyProof.ExcBaseAll.ValueError
import PyProof.ExcArgsOwn
import KE.KIsAll
import PyProof.Rows.SortRev
import PyProof.TupleOfSeq
import PyProof.Draws
import KE.KTupSum
import Wide.Txt2
import PyProof.ListOps
import PyProof.AutoSeq1
import KE.RegKIsAll
import KE.RegKTryMore
import PySem.Challenge.RW_tallyweb_k58_whole_other_webs_counted
set_option autoImplicit false
set_option linter.all false
set_option Elab.async false
set_option maxRecDepth 100000
namespace L2
open PySem PySem.Spec PyProof.Rows
abbrev Key:=Sum Int Str
def keyIs:Key->Value->Bool
 | .inl k,v=>Value.isInt k v
 | .inr x,v=>Value.isStrOf x v
def keyH (w:World):Key->Int
 | .inl k=>hashInt k
 | .inr x=>hashStr w x
theorem keyIs_shape:∀ {k:Key} {v:Value},keyIs k v=true->(∃ i t,k=Sum.inl i/\v=Value.int i t)\/(∃ x t,k=Sum.inr x/\v=Value.str x t)
 | .inl i,v,h=>by
  obtain⟨t,e⟩:=Value.isInt_shape (k:=i) (v:=v) h
  exact .inl ⟨i,t,rfl,e⟩
 | .inr x,v,h=>by
  obtain⟨t,e⟩:=Value.isStrOf_shape (x:=x) (v:=v) h
  exact .inr ⟨x,t,rfl,e⟩
theorem keyIs_int (i:Int)(t:Tok):keyIs (.inl i) (.int i t)=true:=by simp[keyIs,Value.isInt]
theorem keyIs_str (x:Str)(t:Tok):keyIs (.inr x) (.str x t)=true:=by simp[keyIs,Value.isStrOf]
theorem key_ll (a b:Int):decide ((Sum.inl a:Key)=Sum.inl b)=(a == b):=by
 by_cases e:a=b
 ·subst e;simp
 ·have h:¬ (Sum.inl a:Key)=Sum.inl b:=fun q=>e (Sum.inl.inj q)
  rw[decide_eq_false h]
  exact(beq_eq_false_iff_ne.mpr e).symm
theorem key_rr (a b:Str):decide ((Sum.inr a:Key)=Sum.inr b)=decide (a=b):=by
 by_cases e:a=b
 ·subst e;simp
 ·have h:¬ (Sum.inr a:Key)=Sum.inr b:=fun q=>e (Sum.inr.inj q)
  rw[decide_eq_false h,decide_eq_false e]
theorem key_lr (a:Int)(b:Str):decide ((Sum.inl a:Key)=Sum.inr b)=false:=decide_eq_false (fun q=>nomatch q)
theorem key_rl (a:Str)(b:Int):decide ((Sum.inr a:Key)=Sum.inl b)=false:=decide_eq_false (fun q=>nomatch q)
def mixKind (prog:Program) (w:World):PySem.KeyKind prog w Key where
  is:=keyIs
  hash:=keyH w
  inj:=fun v a b ha hb=>by
    rcases keyIs_shape ha with⟨i,t,rfl,rfl⟩ | ⟨x,t,rfl,rfl⟩
    · rcases keyIs_shape hb with⟨j,u,rfl,e⟩ | ⟨y,u,rfl,e⟩
      · injection e with e1 _;rw[e1]
      · exact nomatch e
    · rcases keyIs_shape hb with⟨j,u,rfl,e⟩ | ⟨y,u,rfl,e⟩
      · exact nomatch e
      · injection e with e1 _;rw[e1]
  byValue := fun k v h => by
    rcases keyIs_shape h with⟨i,t,rfl,rfl⟩ | ⟨x,t,rfl,rfl⟩<;>rfl
  pyHash:=fun hv h=>by
    rcases keyIs_shape hv with⟨i,t,rfl,rfl⟩ | ⟨x,t,rfl,rfl⟩
    · exact wpAny_pyHash_int h
    · exact wpAny_pyHash_str h
  eqBool:=fun hu hv h=>by
    rcases keyIs_shape hu with⟨i,t,rfl,rfl⟩ | ⟨x,t,rfl,rfl⟩
    · rcases keyIs_shape hv with⟨j,u,rfl,rfl⟩ | ⟨y,u,rfl,rfl⟩
      · rw[key_ll]at h;exact wpAny_eqBool_int h
      · rw[key_lr]at h;exact SeqAt.EqAt.int_str i t y u _ _ _ _ h
    · rcases keyIs_shape hv with⟨j,u,rfl,rfl⟩ | ⟨y,u,rfl,rfl⟩
      · rw[key_rl]at h;exact SeqAt.EqAt.str_int x t j u _ _ _ _ h
      · rw[key_rr]at h;exact wpAny_eqBool_str h
  «strs»:=fun k x t v h=>by
    rcases keyIs_shape h with⟨i,u,rfl,e⟩ | ⟨y,u,rfl,e⟩
    · exact nomatch e
    · injection e with e1 _
      subst e1
      cases v<;>rfl
theorem mixKind_int (prog:Program)(w:World)(i:Int)(t:Tok):(mixKind prog w).is (.inl i) (.int i t)=true:=keyIs_int i t
theorem mixKind_str (prog:Program)(w:World)(x:Str)(t:Tok):(mixKind prog w).is (.inr x) (.str x t)=true:=keyIs_str x t
inductive V where
 | non | bl (b:Bool) | int (i:Int) | str (x:Str) | byt (b:Array UInt8) | flt (b:UInt64) | ref (a:Addr) | ty (n:String)
 deriving DecidableEq
def RelV:V->Value->Prop
 | .non,u=>u=Value.none
 | .bl b,u=>u=Value.bool b
 | .int i,u=>∃ t,u=Value.int i t
 | .str x,u=>∃ t,u=Value.str x t
 | .byt b,u=>∃ t,u=Value.bytes b t
 | .flt b,u=>∃ t,u=Value.float b t
 | .ref a,u=>u=Value.ref a
 | .ty n,u=>u=Value.type n
abbrev Vals:List V->List Value->Prop:=Paired RelV
theorem Vals.length {xs:List V}{us:List Value}(r:Vals xs us):xs.length=us.length:=Paired.length r
theorem Vals.get:∀ {xs:List V} {us:List Value} {i:Nat} {x:V},Vals xs us->xs[i]?=some x->∃ u,us[i]?=some u/\RelV x u
 | _,_,_,_,.nil,e=>by simp at e
 | _,_,0,_,.cons r _,e=>by simp at e;subst e;exact⟨_,rfl,r⟩
 | _,_,i+1,x,.cons _ t,e=>by
  obtain⟨u,h1,h2⟩:=Vals.get (i:=i) (x:=x) t (by simpa using e)
  exact⟨u,by simpa using h1,h2⟩
theorem Vals.set {x:V}{u:Value}(r:RelV x u):∀ {xs:List V} {us:List Value} (i:Nat),Vals xs us->Vals (xs.set i x) (us.set i u)
 | _,_,_,.nil=>.nil
 | _,_,0,.cons _ t=>.cons r t
 | _,_,i+1,.cons q t=>.cons q (Vals.set r i t)
theorem Vals.append:∀ {xs ys:List V} {us ws:List Value},Vals xs us->Vals ys ws->Vals (xs++ys) (us++ws)
 | _,_,_,_,.nil,s=>s
 | _,_,_,_,.cons r t,s=>.cons r (Vals.append t s)
theorem Vals.take:∀ {xs:List V} {us:List Value} (n:Nat),Vals xs us->Vals (xs.take n) (us.take n)
 | _,_,0,_=>.nil
 | _,_,_+1,.nil=>.nil
 | _,_,n+1,.cons r t=>.cons r (Vals.take n t)
theorem Vals.drop:∀ {xs:List V} {us:List Value} (n:Nat),Vals xs us->Vals (xs.drop n) (us.drop n)
 | _,_,0,r=>r
 | _,_,_+1,.nil=>.nil
 | _,_,n+1,.cons _ t=>Vals.drop n t
def RelO:Option V->Option Value->Prop
 | some v,some u=>RelV v u
 | none,none=>True
 | _,_=>False
def KV {κ:Type}:List (κ × V)->List (κ × Value)->Prop:=Paired fun(p:κ × V) (q:κ × Value)=>p.1=q.1/\RelV p.2 q.2
def kV:Key->V
 | .inl i=>.int i
 | .inr x=>.str x
inductive HO where
  | lst (xs:List V)
  | tup (xs:List V)
  | dK (kvs:List (Key × V)) | dT (kvs:List (List Key × V))
  | set (S:Int->Bool) (n:Nat)
  | ins (C dx:Addr) (fs:List (Str × V))
  | own (x:Addr)
  | xd (fs:List (Str × V))
  | met (f x:Addr)
  | rng (lo hi:Int)
  | frz (o:Obj) (u:HO)
  | tbl (ps:Array Value)
  | ext (φ:Heap->Prop)
abbrev Hp:=Addr->Option HO
def upd (H:Hp)(a:Addr)(o:HO):Hp:=fun b=>if b=a then some o else H b
theorem upd_same {H:Hp}{a:Addr}{o:HO}:upd H a o a=some o:=by unfold upd;rw[if_pos rfl]
theorem upd_ne {H:Hp}{a b:Addr}{o:HO}(h:b≠a):upd H a o b=H b:=by unfold upd;rw[if_neg h]
theorem upd_upd {H:Hp}{a:Addr}{o u:HO}:upd (upd H a o) a u=upd H a u:=by
 funext b;unfold upd;split<;>rfl
theorem ne_of {H:Hp}{a b:Addr}{o u:HO}(h:H a=some o)(h':H b=some u)(d:o≠u):a≠b:=by
 intro e;subst e;rw[h]at h';exact d (Option.some.inj h')
theorem ne_of_none {H:Hp}{a b:Addr}{o:HO}(h:H a=some o)(h':H b=none):a≠b:=by
 intro e;subst e;rw[h]at h';cases h'
section
variable (P:Program) (w:World)
def ObjOk (H:Hp)(h:Heap)(a:Addr):HO->Prop
 | .lst xs=>xs.length<=sizeLine/\∃ (its:List Value) (n:Nat),Vals xs its/\h.get? a=some { cls:=.type "list",data:=.seq its.toArray n }
 | .tup xs=>xs.length<=sizeLine/\∃ its:List Value,Vals xs its/\IsTup h a its.toArray
 | .dK kvs=>kvs.length<=sizeLine/\(a == sysModules)=false/\∃ vs,KV kvs vs/\h.DictOf (mixKind P w) a vs
 | .dT kvs=>kvs.length<=sizeLine/\(a == sysModules)=false/\∃ xs:List (List Key × Addr × Value),
   Paired (fun(p:List Key × V) (q:List Key × Addr × Value)=>p.1=q.1/\H q.2.1=some (.tup (p.1.map kV))/\RelV p.2 q.2.2) kvs xs /\
   ∃ o es ep,h.get? a=some o/\o.ExactDict/\o.data=.dict es ep/\es.toList=xs.map (entryOfKey (tupleKind (mixKind P w)))/\(xs.map (·.1)).Nodup
 | .set S n=>h.SetOf (intKind P w) a S n
 | .ins C dx fs=>H dx=some (.own a)/\fs.length<=1000/\dx≠a/\h.get? a=some (PySem.W.instObj C dx) /\
   ∃ mA,h.Ns1 dx mA/\(∀ f,RelO (fs.lookup f) (mA f))/\PySem.Within mA (fs.map (·.1))
 | .own _=>∃ o,h.get? a=some o
 | .xd fs=>∃ mA,h.Ns1 a mA/\∀ f,RelO (fs.lookup f) (mA f)
 | .rng lo hi=>∃ t u v,h.get? a=some { cls:=.type "range",data:=.fields #[.int lo t,.int hi u,.int 1 v] }
 | .frz o u=>h.get? a=some o/\ObjOk H h a u
 | .tbl ps=>h.get? a=some { cls:=.none,data:=.fields ps }
 | .met f x=>h.get? a=some (PySem.W.methodObj (.ref f) (.ref x))
 | .ext φ=>φ h/\(∃ o,h.get? a=some o)/\∀ h1 h2:Heap,φ h1->(∀ o,h1.get? a=some o->h2.get? a=some o)->φ h2
def HOk (H:Hp)(h:Heap):Prop:=∀ a o,H a=some o->ObjOk P w H h a o
end
section
variable {P:Program} {w:World} {H H':Hp} {h h':Heap} {a:Addr} {o:HO}
theorem ObjOk.lt (x:ObjOk P w H h a o):a<h.objs.size:=by
 cases o with
 | lst xs=>obtain⟨_,_,_,_,e⟩:=x;exact Heap.lt_size e
 | tup xs=>obtain⟨_,_,_,p⟩:=x;exact p.lt
 | dK kvs=>obtain⟨_,_,_,_,o,_,_,e,_⟩:=x;exact Heap.lt_size e
 | dT kvs=>obtain⟨_,_,_,_,o,_,_,e,_⟩:=x;exact Heap.lt_size e
 | set S n=>obtain⟨o,_,_,_,e,_⟩:=x;exact Heap.lt_size e
 | ins C dx fs=>obtain⟨_,_,_,e,_⟩:=x;exact Heap.lt_size e
 | own y=>obtain⟨_,e⟩:=x;exact Heap.lt_size e
 | xd fs=>obtain⟨_,⟨_,_,_,e,_⟩,_⟩:=x;exact Heap.lt_size e
 | rng lo hi=>obtain⟨_,_,_,e⟩:=x;exact Heap.lt_size e
 | frz ob u=>obtain⟨e,_⟩:=x;exact Heap.lt_size e
 | tbl ps=>exact Heap.lt_size (show h.get? a=some _ from x)
 | met f y=>exact Heap.lt_size (show h.get? a=some _ from x)
 | ext φ=>obtain⟨_,⟨_,e⟩,_⟩:=x;exact Heap.lt_size e
theorem Paired.mapP {α β:Type}{F G:α->β->Prop}:∀ {l₁:List α} {l₂:List β},Paired F l₁ l₂->(∀ a b,F a b->G a b)->Paired G l₁ l₂
 | _,_,.nil,_=>.nil
 | _,_,.cons r t,f=>.cons (f _ _ r) (Paired.mapP t f)
theorem ObjOk.stay (x:ObjOk P w H h a o)(k:∀ b u,(b=a\/H b=some (.own a))->h.get? b=some u->h'.get? b=some u)
  (ho:∀ b,H b=some (.own a)->H' b=some (.own a))(ht:∀ b xs,H b=some (.tup xs)->H' b=some (.tup xs)):ObjOk P w H' h' a o:=by
 induction o with
 | lst xs=>obtain⟨z,its,n,r,e⟩:=x;exact⟨z,its,n,r,k _ _ (.inl rfl) e⟩
 | tup xs=>obtain⟨z,its,r,ob,e,c⟩:=x;exact⟨z,its,r,ob,k _ _ (.inl rfl) e,c⟩
 | dK kvs=>obtain⟨z,y,vs,r,ob,es,ep,e,c⟩:=x;exact⟨z,y,vs,r,ob,es,ep,k _ _ (.inl rfl) e,c⟩
 | dT kvs =>
  obtain⟨z,y,xs,r,ob,es,ep,e,c⟩:=x
  exact⟨z,y,xs,Paired.mapP r fun p q z=>⟨z.1,ht _ _ z.2.1,z.2.2⟩,ob,es,ep,k _ _ (.inl rfl) e,c⟩
 | set S n=>obtain⟨ob,es,ep,t,e,c⟩:=x;exact⟨ob,es,ep,t,k _ _ (.inl rfl) e,c⟩
 | ins C dx fs =>
  obtain⟨d,z,ne,e,mA,⟨od,es,ep,e2,c⟩,r⟩:=x
  exact⟨ho _ d,z,ne,k _ _ (.inl rfl) e,mA,⟨od,es,ep,k _ _ (.inr d) e2,c⟩,r⟩
 | own y=>obtain⟨ob,e⟩:=x;exact⟨ob,k _ _ (.inl rfl) e⟩
 | xd fs=>obtain⟨mA,⟨od,es,ep,e,c⟩,r⟩:=x;exact⟨mA,⟨od,es,ep,k _ _ (.inl rfl) e,c⟩,r⟩
 | rng lo hi=>obtain⟨t,u,v,e⟩:=x;exact⟨t,u,v,k _ _ (.inl rfl) e⟩
 | frz ob u ih=>obtain⟨e,q⟩:=x;exact⟨k _ _ (.inl rfl) e,ih q⟩
 | tbl ps =>
  have e:h.get? a=some { cls:=.none,data:=.fields ps }:=x
  show h'.get? a=some { cls:=.none,data:=.fields ps }
  exact k a _ (.inl rfl) e
 | met f y =>
  have e:h.get? a=some (PySem.W.methodObj (.ref f) (.ref y)):=x
  show h'.get? a=some (PySem.W.methodObj (.ref f) (.ref y))
  exact k a _ (.inl rfl) e
 | ext φ=>obtain⟨p,⟨o,e⟩,st⟩:=x;exact⟨st _ _ p fun o q=>k _ _ (.inl rfl) q,⟨o,k _ _ (.inl rfl) e⟩,st⟩
theorem HOk.lt (x:HOk P w H h)(e:H a=some o):a<h.objs.size:=(x a o e).lt
theorem HOk.fresh (x:HOk P w H h)(e:h.objs.size<=a):H a=none:=by
 cases q:H a with
 | none=>rfl
 | some u=>exact absurd (Nat.lt_of_lt_of_le (x.lt q) e) (Nat.lt_irrefl _)
theorem HOk.kept (x:HOk P w H h)(k:∀ b u,h.get? b=some u->h'.get? b=some u):HOk P w H h':=fun a o e =>
 (x a o e).stay (fun b u _ q=>k b u q) (fun _ q=>q) fun _ _ q=>q
theorem HOk.laid (x:HOk P w H h)(k:∀ b u,h.get? b=some u->h'.get? b=some u)(hp:h.objs.size<=a)(new:ObjOk P w (upd H a o) h' a o):HOk P w (upd H a o) h':=fun b u e=>by
 have hn:=x.fresh hp
 by_cases hb:b=a
 ·subst hb;rw[upd_same]at e;cases e;exact new
 ·rw[upd_ne hb]at e
  exact(x b u e).stay (fun c v _ q=>k c v q) (fun c q=>by rw[upd_ne (ne_of_none q hn)];exact q) fun c xs q=>by rw[upd_ne (ne_of_none q hn)];exact q
end
def Rd (H:Hp)(a:Addr)(u:HO):Prop:=H a=some u\/∃ o,H a=some (.frz o u)
theorem Rd.ok {P:Program}{w:World}{H:Hp}{h:Heap}{a:Addr}{u:HO}(r:Rd H a u)(x:HOk P w H h):ObjOk P w H h a u:=by
 rcases r with r | ⟨o,r⟩
 ·exact x a u r
 ·obtain⟨_,q⟩:=x a _ r
  exact q
def Mut:Option HO->Prop
 | some (.lst _)=>True
 | some (.dK _)=>True
 | some (.dT _)=>True
 | some (.set _ _)=>True
 | some (.ins _ _ _)=>True
 | some (.ext _)=>True
 | _=>False
section
variable {P:Program} {w:World} {H:Hp} {h h':Heap} {x e:Addr} {o':HO}
theorem HOk.write (ok:HOk P w H h)(mu:Mut (H x))(he:e=x\/H e=some (.own x))(k:∀ b u,b≠e->h.get? b=some u->h'.get? b=some u)(heo:∃ u,h'.get? e=some u)
  (new:ObjOk P w (upd H x o') h' x o'):HOk P w (upd H x o') h':=fun b u q=>by
 have nown:∀ c y,H c=some (.own y)->c≠x:=fun c y r z=>by subst z;rw[r]at mu;exact mu
 have ntup:∀ c xs,H c=some (.tup xs)->c≠x:=fun c xs r z=>by subst z;rw[r]at mu;exact mu
 by_cases hb:b=x
 ·subst hb;rw[upd_same]at q;cases q;exact new
 ·rw[upd_ne hb]at q
  by_cases hbe:b=e
  ·have q':H b=some (.own x):=by
    rcases he with z | z
    ·exact absurd (hbe.trans z) hb
    ·rw[hbe];exact z
   rw[q]at q';cases q'
   obtain⟨v,hv⟩:=heo
   exact⟨v,by rw[hbe];exact hv⟩
  ·refine(ok b u q).stay (fun c v hc r=>k c v ?_ r) (fun c r=>by rw[upd_ne (nown c b r)];exact r) fun c xs r=>by rw[upd_ne (ntup c xs r)];exact r
   rcases hc with rfl | hc
   ·exact hbe
   ·rintro rfl
    rcases he with z | z
    ·exact nown c b hc z
    ·rw[hc]at z;cases z;exact hb rfl
end
structure Un (fs ex:List Addr) (H H':Hp) (h h':Heap):Prop where
 keep:∀ b o,h.get? b=some o->H b=none->b∉fs->b∉ex->h'.get? b=some o
 slot:∀ b o,h.get? b=some o->H b=none->b∈fs->b∉ex->∃ sl,h'.get? b=some { o with slots:=sl }
 free:∀ b o,h.get? b=some o->H b=none->b∉ex->H' b=none
 there:∀ b o,h.get? b=some o->b∉ex->∃ o',h'.get? b=some o'
 tups:∀ b xs,H b=some (.tup xs)->H' b=some (.tup xs)
 frzs:∀ b o u,H b=some (.frz o u)->H' b=some (.frz o u)
 tbls:∀ b ps,H b=some (.tbl ps)->∃ more,H' b=some (.tbl (ps++more))
section
variable {fs fs' ex ex':List Addr} {H H1 H2:Hp} {h h1 h2 h':Heap} {a x e:Addr} {o:HO}
theorem Un.any (u:Un fs ex H H1 h h1){b:Addr}{ob:Obj}(q:h.get? b=some ob)(n:H b=none)(hx:b∉ex):∃ sl,h1.get? b=some { ob with slots:=sl }:=by
 by_cases hb:b∈fs
 ·exact u.slot b ob q n hb hx
 ·exact⟨ob.slots,u.keep b ob q n hb hx⟩
theorem Un.kept (k:∀ b u,h.get? b=some u->h'.get? b=some u):Un fs ex H H h h':=
 ⟨fun b ob q _ _ _=>k b ob q,fun b ob q _ _ _=>⟨ob.slots,k b ob q⟩,fun _ _ _ n _=>n,fun b ob q _=>⟨ob,k b ob q⟩,fun _ _ q=>q,fun _ _ _ q=>q,fun _ ps q=>⟨#[],by rw[q];simp⟩⟩
theorem Un.refl:Un fs ex H H h h:=Un.kept fun _ _ q=>q
theorem Un.laid (k:∀ b u,h.get? b=some u->h'.get? b=some u)(hp:h.objs.size<=a)(hn:H a=none):Un fs ex H (upd H a o) h h' where
 keep:=fun b u q _ _ _=>k b u q
 slot:=fun b u q _ _ _=>⟨u.slots,k b u q⟩
 free:=fun b u q n _=>by rw[upd_ne (Nat.ne_of_lt (Nat.lt_of_lt_of_le (Heap.lt_size q) hp))];exact n
 there:=fun b u q _=>⟨u,k b u q⟩
 tups:=fun b xs q=>by rw[upd_ne (ne_of_none q hn)];exact q
 frzs:=fun b u xs q=>by rw[upd_ne (ne_of_none q hn)];exact q
 tbls:=fun b ps q=>⟨#[],by rw[upd_ne (ne_of_none q hn),q];simp⟩
theorem Un.write (mu:Mut (H x))(he:e=x\/H e=some (.own x))(k:∀ b u,b≠e->h.get? b=some u->h'.get? b=some u)(heo:∃ u,h'.get? e=some u):Un fs ex H (upd H x o) h h':=by
 have hx:∀ b,H b=none->b≠x:=fun b n z=>by subst z;rw[n]at mu;exact mu
 have hb:∀ b,H b=none->b≠e:=fun b n z=>by
  subst z
  rcases he with r | r
  ·exact hx b n r
  ·rw[n]at r;cases r
 have hm:∀ b u,H b=some u->¬ Mut (some u)->b≠x:=fun b u q nm z=>by subst z;rw[q]at mu;exact nm mu
 refine⟨fun b u q n _ _=>k b u (hb b n) q,fun b u q n _ _=>⟨u.slots,k b u (hb b n) q⟩,fun b u q n _=>by rw[upd_ne (hx b n)];exact n,fun b u q _=>?_,
  fun b xs q=>by rw[upd_ne (hm b _ q fun z=>z)];exact q,fun b u xs q=>by rw[upd_ne (hm b _ q fun z=>z)];exact q,fun b ps q=>⟨#[],by rw[upd_ne (hm b _ q fun z=>z),q];simp⟩⟩
 by_cases hbe:b=e
 ·subst hbe;exact heo
 ·exact⟨u,k b u hbe q⟩
end
def trk (h:Heap)(H:Hp):List Addr:=(List.range h.objs.size).filter fun a=>(H a).isSome
def hidT (h:Heap)(H:Hp):Heap:=PySem.W.hideAll h (trk h H)
theorem hidT_size (h:Heap)(H:Hp):(hidT h H).objs.size=h.objs.size:=PySem.W.hideAll_size _ _
theorem hidT_get {h:Heap}{H:Hp}{b:Addr}{o:Obj}(e:h.get? b=some o)(n:H b=none):(hidT h H).get? b=some o:=
 PySem.W.hideAll_get _ e fun hm=>by
  have q:(H b).isSome=true:=(List.mem_filter.mp hm).2
  rw[n]at q;simp at q
theorem of_hidT {h:Heap}{H:Hp}{b:Addr}{o:Obj}(e:(hidT h H).get? b=some o):h.get? b=some o/\H b=none:=by
 have e':h.get? b=some o:=PySem.W.of_hideAll (trk h H) e
 refine⟨e',?_⟩
 cases q:H b with
 | none=>rfl
 | some x =>
  have hm:b∈trk h H:=List.mem_filter.mpr ⟨List.mem_range.mpr (Heap.lt_size e'),by simp[q]⟩
  have z:(hidT h H).get? b=none:=PySem.W.hideAll_none (trk h H) hm
  rw[z]at e;cases e
def allNews (g h:Heap)(L:Addr):List (Addr × Obj):=(List.range h.objs.size).filterMap fun a=>if a=L\/(g.get? a).isSome=true then none else (h.get? a).map fun o=>(a,o)
def rest (g h:Heap)(L d:Addr):List (Addr × Obj):=(allNews g h L).filter fun p=>decide (p.1≠d)
structure Mod (K:W.Frag) (mg:Str->Option Value) (base:Heap):Prop where
 kin:K.In base
 glob:base.Ns mainGlobals mg
 blt:∃ mb,base.Ns builtinsNs mb/\∀ x:Str,x≠"__name__"->mb x=bootBuiltins x
 nolimit:base.NoLimit
structure Cx where
 prog:Program
 w:World
 K:W.Frag
 mg:Str->Option Value
 base:Heap
 A:Around
 N:List Str
 s₀:Shared
 H₀:Hp
 env:Env
 outer:List Env
 stack:List Env
 ex:List Addr
 fn:Str->Bool
 calm:Bool
 pn:List (Addr × Obj)
 xe:Value->Shared->Prop
def frs (l:List Env):List Addr:=l.filterMap (·.frame)
abbrev Cx.fs (X:Cx):List Addr:=frs X.outer
def Vis (sc:Scope)(x:Str):Prop:=sc.names.lookup x=some .local\/sc.names.lookup x=some .cell\/sc.names.lookup x=some .free
def Loc (sc:Scope)(x:Str):Prop:=sc.names.lookup x=some .local\/sc.names.lookup x=some .cell
def Look (env:Env)(h:Heap)(m:Str->Option Value)(x:Str)(u:Value):Prop:=
 (env.kindOf x=some .local/\m x=some u)\/((env.kindOf x=some .cell\/env.kindOf x=some .free)/\∃ c,env.cells.lookup x=some c/\h.IsCell c (some u))
structure Cx.Ok (X:Cx):Prop where
 mod:Mod X.K X.mg X.base
 kind:X.env.scope.kind=.function
 glob:X.env.globals=mainGlobals
 blt:X.env.builtins=builtinsNs
 above:X.s₀.heap.objs.size<=X.env.locals
 inj:∀ x y c,X.env.cells.lookup x=some c->X.env.cells.lookup y=some c->x=y
 has:∀ x,(X.env.kindOf x=some .cell\/X.env.kindOf x=some .free)->∃ c,X.env.cells.lookup x=some c
 cab:∀ x c,X.fn x=true->X.env.cells.lookup x=some c->X.s₀.heap.objs.size<=c
 hd:X.calm=true->X.A.handled=none
 frames:X.A.frames=some X.stack
 stk:X.stack=X.outer\/(X.stack=X.env::X.outer/\X.env.frame=some X.env.locals)
 exf:∀ b∈X.ex,b≠X.env.locals/\∀ x c,X.env.cells.lookup x=some c->c≠b
 bs:∀ b o,X.base.get? b=some o->X.s₀.heap.get? b=some o/\X.H₀ b=none
 bsz:X.base.objs.size<=X.s₀.heap.objs.size
 noex:∀ b o,X.base.get? b=some o->b∉X.ex
 exfs:∀ b∈X.ex,b∉X.fs
 funs:X.s₀.heap.FunFrames X.base X.outer
 frf:∀ b∈X.fs,X.H₀ b=none
structure Inv (X:Cx) (pins:List (Addr × Obj)) (σ:List (Option V)) (H:Hp) (s:Shared):Prop where
 ok:X.Ok
 os:s.os=X.s₀.os
 bare:AllBare s.gens
 base:Un X.fs X.ex X.H₀ H X.s₀.heap s.heap
 loc:∃ m,s.heap.Ns X.env.locals m/\∀ (i:Nat) (x:Str) (v:V),X.N[i]?=some x->σ[i]?=some (some v)->Vis X.env.scope x->∃ u,RelV v u/\Look X.env s.heap m x u
 cell:∀ x c,X.env.cells.lookup x=some c->∃ v,s.heap.IsCell c v
 free:H X.env.locals=none
 freeC:∀ x c,X.env.cells.lookup x=some c->H c=none
 pin:∀ p∈X.pn++pins,s.heap.get? p.1=some p.2/\H p.1=none/\p.1≠X.env.locals/\p.1∉X.fs/\∀ v,p.2.data≠.cell v
 hok:HOk X.prog X.w H s.heap
 len:σ.length=X.N.length
section
variable {X:Cx} {pins:List (Addr × Obj)} {σ:List (Option V)} {H H':Hp} {s:Shared} {h':Heap}
theorem Cx.Ok.nofr (ok:X.Ok){b:Addr}{o:Obj}(e:X.base.get? b=some o):b∉X.fs:=fun hb=>by
 have:=(ok.funs.mem hb).1
 rw[e]at this;cases this
theorem Inv.bs (I:Inv X pins σ H s):∀ b o,X.base.get? b=some o->s.heap.get? b=some o/\H b=none:=fun b o e =>
 ⟨I.base.keep b o (I.ok.bs b o e).1 (I.ok.bs b o e).2 (I.ok.nofr e) (I.ok.noex b o e),I.base.free b o (I.ok.bs b o e).1 (I.ok.bs b o e).2 (I.ok.noex b o e)⟩
theorem Inv.bk (I:Inv X pins σ H s):∀ b o,X.base.get? b=some o->s.heap.get? b=some o:=fun b o e=>(I.bs b o e).1
theorem Inv.mod (I:Inv X pins σ H s):Mod X.K X.mg X.base:=I.ok.mod
theorem Inv.kIn (I:Inv X pins σ H s):X.K.In s.heap:=I.ok.mod.kin.keeps I.bk
theorem Inv.nolimit (I:Inv X pins σ H s):s.heap.NoLimit:=I.ok.mod.nolimit.keeps I.bk
theorem Inv.lt (I:Inv X pins σ H s):X.env.locals<s.heap.objs.size:=let ⟨_,hn,_⟩:=I.loc;hn.lt
theorem Inv.sz (I:Inv X pins σ H s):X.s₀.heap.objs.size<=s.heap.objs.size:=Nat.le_trans I.ok.above (Nat.le_of_lt I.lt)
theorem Inv.nofs (I:Inv X pins σ H s){a:Addr}(h:s.heap.objs.size<=a):a∉X.fs:=fun hb=>by
 obtain⟨_,o,ho,_⟩:=I.ok.funs.mem hb
 exact absurd (Nat.lt_of_lt_of_le (Heap.lt_size ho) (Nat.le_trans I.sz h)) (Nat.lt_irrefl _)
theorem Inv.cne (I:Inv X pins σ H s):∀ x c,X.env.cells.lookup x=some c->c≠X.env.locals:=fun x c e z=>by
 obtain⟨v,o,ho,hd⟩:=I.cell x c e
 obtain⟨m,⟨o',es,ep,ho',hd',_⟩,_⟩:=I.loc
 rw[z,ho']at ho;cases ho;rw[hd']at hd;cases hd
theorem Inv.funs (I:Inv X pins σ H s):s.heap.FunFrames X.base X.outer:=by
 have all:∀ (l:List Env),(∀ b∈frs l,b∈X.fs)->X.s₀.heap.FunFrames X.base l->s.heap.FunFrames X.base l:=by
  intro l
  induction l with
  | nil=>intro _ _;trivial
  | cons env r ih =>
   intro hs hl
   obtain⟨hk,⟨L,o,hf,hn,ho,hd⟩,hr⟩:=hl
   have hL:L∈X.fs:=hs L (by unfold frs;rw[List.filterMap_cons,hf];exact List.mem_cons_self)
   obtain⟨sl,e⟩:=I.base.slot L o ho (I.ok.frf L hL) hL fun z=>I.ok.exfs L z hL
   exact⟨hk,⟨L,_,hf,hn,e,hd⟩,ih (fun b hb=>hs b (by unfold frs;rw[List.filterMap_cons,hf];exact List.mem_cons_of_mem _ hb)) hr⟩
 exact all X.outer (fun _ hb=>hb) I.ok.funs
theorem Inv.stack (I:Inv X pins σ H s):s.heap.FunFrames X.base X.stack:=by
 rcases I.ok.stk with e | ⟨e,hf⟩
 ·rw[e];exact I.funs
 ·rw[e]
  obtain⟨m,hn,_⟩:=I.loc
  refine .cons (by rw[I.ok.kind];decide) hf hn ?_ I.funs
  exact Heap.get?_none_of_le (Nat.le_trans I.ok.bsz I.ok.above)
theorem Inv.stkSub (I:Inv X pins σ H s):∀ b∈frs X.stack,b∈X.env.locals::X.fs:=fun b hb=>by
 rcases I.ok.stk with e | ⟨e,hf⟩
 ·rw[e]at hb;exact List.mem_cons_of_mem _ hb
 ·rw[e]at hb
  unfold frs at hb
  rw[List.filterMap_cons,hf]at hb
  exact hb
theorem Inv.stkFree (I:Inv X pins σ H s):∀ b∈frs X.stack,H b=none:=fun b hb=>by
 rcases List.mem_cons.mp (I.stkSub b hb) with e | hb
 ·rw[e];exact I.free
 ·obtain⟨_,o,ho,_⟩:=I.ok.funs.mem hb
  exact I.base.free b o ho (I.ok.frf b hb) fun z=>I.ok.exfs b z hb
theorem Inv.step {g':Array GenState}{t':Nat}{d':Drawn}{ch:List Addr}(I:Inv X pins σ H s)
  (hch:∀ b∈ch,(b∈X.ex\/X.s₀.heap.objs.size<=b)/\b≠X.env.locals/\(∀ x c,X.env.cells.lookup x=some c->c≠b)/\∀ p∈X.pn++pins,p.1≠b)
  (keep:∀ b o,b≠X.env.locals->b∉X.fs->b∉ch->s.heap.get? b=some o->H b=none->h'.get? b=some o)
  (slot:∀ b o,b≠X.env.locals->b∈X.fs->b∉ch->s.heap.get? b=some o->H b=none->∃ sl,h'.get? b=some { o with slots:=sl })(free:∀ b o,b∉ch->s.heap.get? b=some o->H b=none->H' b=none)
  (there:∀ b o,b∉ch->s.heap.get? b=some o->∃ o',h'.get? b=some o')
  (tups:∀ b xs,H b=some (.tup xs)->H' b=some (.tup xs))(frzs:∀ b o u,H b=some (.frz o u)->H' b=some (.frz o u))(tbls:∀ b ps,H b=some (.tbl ps)->∃ more,H' b=some (.tbl (ps++more)))
  (ns:∀ m,s.heap.Ns X.env.locals m->h'.Ns X.env.locals m)(hok:HOk X.prog X.w H' h')(hg:AllBare g') :
  Inv X pins σ H' { s with heap:=h',gens:=g',drawn:=d',toks:=t' }:=by
 have neL:∀ b o,X.s₀.heap.get? b=some o->b≠X.env.locals:=fun b o e=>Nat.ne_of_lt (Nat.lt_of_lt_of_le (Heap.lt_size e) I.ok.above)
 have neC:∀ b o,X.s₀.heap.get? b=some o->b∉X.ex->b∉ch:=fun b o e hx hb=>by
  rcases(hch b hb).1 with z | z
  ·exact hx z
  ·exact absurd (Nat.lt_of_lt_of_le (Heap.lt_size e) z) (Nat.lt_irrefl _)
 have cellK:∀ x c,X.env.cells.lookup x=some c->∀ v,s.heap.IsCell c v->h'.IsCell c v:=fun x c e v ⟨o,ho,hd⟩=>by
  have nch:c∉ch:=fun z=>(hch c z).2.2.1 x c e rfl
  by_cases hc:c∈X.fs
  ·obtain⟨sl,q⟩:=slot c o (I.cne x c e) hc nch ho (I.freeC x c e)
   exact⟨_,q,hd⟩
  ·exact⟨o,keep c o (I.cne x c e) hc nch ho (I.freeC x c e),hd⟩
 refine⟨I.ok,I.os,hg,⟨fun b o e n hb hx=>?_,fun b o e n hb hx=>?_,fun b o e n hx=>?_,fun b o e hx=>?_,fun b xs e=>tups b xs (I.base.tups b xs e),fun b o xs e=>frzs b o xs (I.base.frzs b o xs e),fun b ps e=>?_⟩,?_,fun x c e=>?_,?_,fun x c e=>?_,fun p hp=>?_,hok,I.len⟩
 ·exact keep b o (neL b o e) hb (neC b o e hx) (I.base.keep b o e n hb hx) (I.base.free b o e n hx)
 ·obtain⟨sl,e1⟩:=I.base.slot b o e n hb hx
  obtain⟨sl',e2⟩:=slot b _ (neL b o e) hb (neC b o e hx) e1 (I.base.free b o e n hx)
  exact⟨sl',e2⟩
 ·obtain⟨o',e1⟩:=I.base.there b o e hx
  exact free b o' (neC b o e hx) e1 (I.base.free b o e n hx)
 ·obtain⟨o',e1⟩:=I.base.there b o e hx
  exact there b o' (neC b o e hx) e1
 ·obtain⟨m1,e1⟩:=I.base.tbls b ps e
  obtain⟨m2,e2⟩:=tbls b _ e1
  exact⟨m1++m2,by rw[e2,Array.append_assoc]⟩
 ·obtain⟨m,hn,hl⟩:=I.loc
  refine⟨m,ns m hn,fun i x v e1 e2 e3=>?_⟩
  obtain⟨u,r,l⟩:=hl i x v e1 e2 e3
  refine⟨u,r,?_⟩
  rcases l with l | ⟨k,c,e,z⟩
  ·exact .inl l
  ·exact .inr ⟨k,c,e,cellK x c e _ z⟩
 ·obtain⟨v,z⟩:=I.cell x c e
  exact⟨v,cellK x c e v z⟩
 ·obtain⟨m,⟨o,_,_,ho,_⟩,_⟩:=I.loc
  exact free _ o (fun z=>(hch _ z).2.1 rfl) ho I.free
 ·obtain⟨v,o,ho,hd⟩:=I.cell x c e
  exact free c o (fun z=>(hch c z).2.2.1 x c e rfl) ho (I.freeC x c e)
 ·obtain⟨e,n,ne,nf,d⟩:=I.pin p hp
  have nch:p.1∉ch:=fun z=>(hch p.1 z).2.2.2 p hp rfl
  exact⟨keep p.1 p.2 ne nf nch e n,free p.1 p.2 nch e n,ne,nf,d⟩
theorem Inv.un {t':Nat}(I:Inv X pins σ H s)(u:Un X.fs [] H H' s.heap h')(hok:HOk X.prog X.w H' h'):Inv X pins σ H' { s with heap:=h',toks:=t' }:=by
 obtain⟨m,⟨o,es,ep,ho,r⟩,_⟩:=id I.loc
 obtain⟨sl,hL⟩:=u.any ho I.free (by simp)
 exact I.step (g':=s.gens) (d':=s.drawn) (ch:=[]) (fun _ z=>nomatch z) (fun b o _ hb _ e n=>u.keep b o e n hb (by simp)) (fun b o _ hb _ e n=>u.slot b o e n hb (by simp)) (fun b o _ e n=>u.free b o e n (by simp)) (fun b o _ e=>u.there b o e (by simp)) u.tups u.frzs u.tbls (fun m' hm=>by
  obtain⟨o',es',ep',ho',r'⟩:=hm
  rw[ho]at ho';cases ho'
  exact⟨_,es',ep',hL,r'⟩) hok I.bare
theorem Inv.call {g':Array GenState}{t':Nat}{d':Drawn}{ch:List Addr}(I:Inv X pins σ H s)(u:Un (frs X.stack) ch H H' s.heap h')(hok:HOk X.prog X.w H' h')(hg:AllBare g')
  (hch:∀ b∈ch,(b∈X.ex\/X.s₀.heap.objs.size<=b)/\b≠X.env.locals/\(∀ x c,X.env.cells.lookup x=some c->c≠b)/\∀ p∈X.pn++pins,p.1≠b) :
  Inv X pins σ H' { s with heap:=h',gens:=g',drawn:=d',toks:=t' }:=by
 obtain⟨m,⟨o,es,ep,ho,r⟩,_⟩:=id I.loc
 obtain⟨sl,hL⟩:=u.any ho I.free fun z=>(hch _ z).2.1 rfl
 exact I.step (ch:=ch) hch (fun b o hL hb hc e n=>u.keep b o e n (fun z=>(List.mem_cons.mp (I.stkSub b z)).elim hL hb) hc) (fun b o _ _ hc e n=>u.any e n hc) (fun b o hc e n=>u.free b o e n hc) (fun b o hc e=>u.there b o e hc) u.tups u.frzs u.tbls (fun m' hm=>by
  obtain⟨o',es',ep',ho',r'⟩:=hm
  rw[ho]at ho';cases ho'
  exact⟨_,es',ep',hL,r'⟩) hok hg
theorem Inv.turned {t':Nat}{it:Addr}(I:Inv X pins σ H s)(k:∀ b o,b≠it->s.heap.get? b=some o->h'.get? b=some o)(hn:H it=none)(hL:it≠X.env.locals)
  (h1:it∈X.ex\/X.s₀.heap.objs.size<=it)(h2:∀ x c,X.env.cells.lookup x=some c->c≠it)(h3:∀ p∈X.pn++pins,p.1≠it):Inv X pins σ H { s with heap:=h',toks:=t' }:=by
 have nit:∀ b u,H b=some u->b≠it:=fun b u e z=>by rw[z,hn]at e;cases e
 refine I.step (g':=s.gens) (d':=s.drawn) (ch:=[it]) (fun b hb=>?_) (fun b o _ _ hc e _=>k b o (fun z=>hc (by simp[z])) e) (fun b o _ _ hc e _=>⟨o.slots,k b o (fun z=>hc (by simp[z])) e⟩) (fun _ _ _ _ n=>n)
  (fun b o hc e=>⟨o,k b o (fun z=>hc (by simp[z])) e⟩) (fun _ _ e=>e) (fun _ _ _ e=>e) (fun b ps e=>⟨#[],by rw[e];simp⟩) (fun m hm=>?_) (fun b u e=>?_) I.bare
 ·have e:b=it:=by simpa using hb
  subst e
  exact⟨h1,hL,h2,h3⟩
 ·obtain⟨o,es,ep,ho,r⟩:=hm
  exact⟨o,es,ep,k _ o (Ne.symm hL) ho,r⟩
 ·refine(I.hok b u e).stay (fun c v hc q=>k c v ?_ q) (fun _ q=>q) fun _ _ q=>q
  rcases hc with z | z
  ·rw[z];exact nit b u e
  ·exact nit c _ z
theorem Inv.tok (I:Inv X pins σ H s)(t:Nat):Inv X pins σ H { s with toks:=t }:=I.un (h':=s.heap) (t':=t) Un.refl I.hok
theorem Inv.kept {t':Nat}(I:Inv X pins σ H s)(k:∀ b u,s.heap.get? b=some u->h'.get? b=some u):Inv X pins σ H { s with heap:=h',toks:=t' }:=I.un (Un.kept k) (I.hok.kept k)
theorem Inv.laid {a:Addr}{o:HO}{t':Nat}(I:Inv X pins σ H s)(k:∀ b u,s.heap.get? b=some u->h'.get? b=some u)(hp:s.heap.objs.size<=a)(new:ObjOk X.prog X.w (upd H a o) h' a o) :
  Inv X pins σ (upd H a o) { s with heap:=h',toks:=t' }:=I.un (Un.laid k hp (I.hok.fresh hp)) (I.hok.laid k hp new)
theorem Inv.write {x e:Addr}{o:HO}{t':Nat}(I:Inv X pins σ H s)(mu:Mut (H x))(he:e=x\/H e=some (.own x))(k:∀ b u,b≠e->s.heap.get? b=some u->h'.get? b=some u)(heo:∃ u,h'.get? e=some u)
  (new:ObjOk X.prog X.w (upd H x o) h' x o):Inv X pins σ (upd H x o) { s with heap:=h',toks:=t' }:=I.un (Un.write mu he k heo) (I.hok.write mu he k heo new)
theorem Inv.pins_of {pins':List (Addr × Obj)}(I:Inv X pins σ H s)(h:∀ p∈pins',s.heap.get? p.1=some p.2/\H p.1=none/\p.1≠X.env.locals/\p.1∉X.fs/\∀ v,p.2.data≠.cell v):Inv X pins' σ H s:=
 ⟨I.ok,I.os,I.bare,I.base,I.loc,I.cell,I.free,I.freeC,fun p hp=>(List.mem_append.mp hp).elim (fun z=>I.pin p (List.mem_append_left _ z)) (h p),I.hok,I.len⟩
theorem nodup_ix {N:List Str}(hN:N.Nodup){i j:Nat}{x:Str}(a:N[i]?=some x)(b:N[j]?=some x):i=j:=by
 obtain⟨h1,e1⟩:=List.getElem?_eq_some_iff.mp a
 obtain⟨h2,e2⟩:=List.getElem?_eq_some_iff.mp b
 exact(List.getElem_inj hN).mp (e1.trans e2.symm)
theorem store_ok2 {M:Model}{A:Around}{E:Value->Shared->Prop}{i:Nat}{x:Str}{v:V}{u:Value}{Q:Unit->Shared->Prop}(I:Inv X pins σ H s)(hN:X.N.Nodup)(hi:X.N[i]?=some x)(hx:Loc X.env.scope x)(r:RelV v u)
  (h:∀ s',Inv X pins (σ.set i (some v)) H s'->(∃ a,Heap.SameBut a s.heap s'.heap/\(a=X.env.locals\/X.env.cells.lookup x=some a))->Q () s')(hf:X.fn x=true\/X.env.scope.names.lookup x=some .local:=by first | exact .inl rfl | exact .inr rfl | assumption):wpAny M A (storeName X.env x u) Q E s:=by
 obtain⟨m,hn,hl⟩:=id I.loc
 have hcls:(X.env.scope.kind == .class || (X.env.scope.kind == .module && X.env.locals != X.env.globals))=false:=by rw[I.ok.kind];rfl
 have hiσ:i<σ.length:=by rw[I.len];exact(List.getElem?_eq_some_iff.mp hi).1
 have cne:=I.cne
 have tracked:∀ {a:Addr} {h':Heap},(∃ o,s.heap.get? a=some o/\H a=none)->Heap.SameBut a s.heap h'->HOk X.prog X.w H h':=fun {a h'} ha hs b ob e=>by
  obtain⟨_,_,hfree⟩:=ha
  refine(I.hok b ob e).stay (fun c w' hc q=>(hs.2 c ?_).trans q) (fun _ q=>q) fun _ _ q=>q
  rintro rfl
  rcases hc with rfl | hc
  ·rw[hfree]at e;cases e
  ·rw[hfree]at hc;cases hc
 rcases hx with hk | hk
 ·refine wpAny_storeName_local hk hn (fun h' hn' hs=>?_) hcls
  obtain⟨oL,_,_,hoL,_⟩:=id hn
  refine h _ ⟨I.ok,I.os,I.bare,⟨fun b o e n hb hx=>?_,fun b o e n hb hx=>?_,I.base.free,fun b o e hx=>?_,I.base.tups,I.base.frzs,I.base.tbls⟩,⟨_,hn',fun j y v' e1 e2 e3=>?_⟩,fun y c e=>?_,I.free,I.freeC,fun p hp=>?_,tracked ⟨oL,hoL,I.free⟩ hs,by simpa using I.len⟩ ⟨_,hs,.inl rfl⟩
  ·exact(hs.2 b (Nat.ne_of_lt (Nat.lt_of_lt_of_le (Heap.lt_size e) I.ok.above))).trans (I.base.keep b o e n hb hx)
  ·obtain⟨sl,e1⟩:=I.base.slot b o e n hb hx
   exact⟨sl,(hs.2 b (Nat.ne_of_lt (Nat.lt_of_lt_of_le (Heap.lt_size e) I.ok.above))).trans e1⟩
  ·obtain⟨o',e1⟩:=I.base.there b o e hx
   exact⟨o',(hs.2 b (Nat.ne_of_lt (Nat.lt_of_lt_of_le (Heap.lt_size e) I.ok.above))).trans e1⟩
  ·by_cases hj:j=i
   ·subst hj
    rw[hi]at e1;cases e1
    rw[List.getElem?_set_self hiσ]at e2
    cases e2
    exact⟨u,r,.inl ⟨hk,by simp⟩⟩
   ·rw[List.getElem?_set_ne (Ne.symm hj)]at e2
    obtain⟨u',r',q⟩:=hl j y v' e1 e2 e3
    refine⟨u',r',?_⟩
    rcases q with⟨k,e⟩ | ⟨k,c,e,z⟩
    ·refine .inl ⟨k,?_⟩
     have:y≠x:=fun e=>hj (nodup_ix hN e1 (e ▸ hi))
     simp[this,e]
    ·exact .inr ⟨k,c,e,z.sameBut hs (cne y c e)⟩
  ·obtain⟨w',z⟩:=I.cell y c e
   exact⟨w',z.sameBut hs (cne y c e)⟩
  ·obtain⟨e,n,ne,nf,d⟩:=I.pin p hp
   exact⟨(hs.2 p.1 ne).trans e,n,ne,nf,d⟩
 ·have hfn:X.fn x=true:=by
   rcases hf with z | z
   ·exact z
   ·rw[z]at hk;cases hk
  obtain⟨c,hc⟩:=I.ok.has x (.inl hk)
  obtain⟨w',z⟩:=I.cell x c hc
  refine wpAny_storeName_cell I.ok.kind hk hc z (fun h' hc' hs=>?_)
  obtain⟨oc,hoc,hocd⟩:=id z
  refine h { s with heap:=h' } ⟨I.ok,I.os,I.bare,⟨fun b o e n hb hx=>?_,fun b o e n hb hx=>?_,I.base.free,fun b o e hx=>?_,I.base.tups,I.base.frzs,I.base.tbls⟩,⟨m,hn.sameBut hs (Ne.symm (cne x c hc)),fun j y v' e1 e2 e3=>?_⟩,fun y c' e=>?_,I.free,I.freeC,fun p hp=>?_,tracked ⟨oc,hoc,I.freeC x c hc⟩ hs,by simpa using I.len⟩ ⟨c,hs,.inr hc⟩
  ·exact(hs.2 b (Nat.ne_of_lt (Nat.lt_of_lt_of_le (Heap.lt_size e) (I.ok.cab x c hfn hc)))).trans (I.base.keep b o e n hb hx)
  ·obtain⟨sl,e1⟩:=I.base.slot b o e n hb hx
   exact⟨sl,(hs.2 b (Nat.ne_of_lt (Nat.lt_of_lt_of_le (Heap.lt_size e) (I.ok.cab x c hfn hc)))).trans e1⟩
  ·obtain⟨o',e1⟩:=I.base.there b o e hx
   exact⟨o',(hs.2 b (Nat.ne_of_lt (Nat.lt_of_lt_of_le (Heap.lt_size e) (I.ok.cab x c hfn hc)))).trans e1⟩
  ·by_cases hj:j=i
   ·subst hj
    rw[hi]at e1;cases e1
    rw[List.getElem?_set_self hiσ]at e2
    cases e2
    exact⟨u,r,.inr ⟨.inl hk,c,hc,hc'⟩⟩
   ·rw[List.getElem?_set_ne (Ne.symm hj)]at e2
    obtain⟨u',r',q⟩:=hl j y v' e1 e2 e3
    refine⟨u',r',?_⟩
    rcases q with q | ⟨k,c',e,z'⟩
    ·exact .inl q
    ·refine .inr ⟨k,c',e,z'.sameBut hs ?_⟩
     rintro rfl
     exact hj (nodup_ix hN e1 (I.ok.inj _ _ _ e hc ▸ hi))
  ·by_cases hcc:c'=c
   ·subst hcc;exact⟨_,hc'⟩
   ·obtain⟨w2,z2⟩:=I.cell y c' e
    exact⟨w2,z2.sameBut hs hcc⟩
  ·obtain⟨e,n,ne,nf,d⟩:=I.pin p hp
   refine⟨(hs.2 p.1 ?_).trans e,n,ne,nf,d⟩
   intro q
   rw[q,hoc]at e
   have q':oc=p.2:=Option.some.inj e
   exact d w' (by rw[<- q'];exact hocd)
theorem store_ok {M:Model}{A:Around}{E:Value->Shared->Prop}{i:Nat}{x:Str}{v:V}{u:Value}{Q:Unit->Shared->Prop}(I:Inv X pins σ H s)(hN:X.N.Nodup)(hi:X.N[i]?=some x)(hx:Loc X.env.scope x)(r:RelV v u)
  (h:∀ s',Inv X pins (σ.set i (some v)) H s'->Q () s')(hf:X.fn x=true\/X.env.scope.names.lookup x=some .local:=by first | exact .inl rfl | exact .inr rfl | assumption):wpAny M A (storeName X.env x u) Q E s:=
 store_ok2 I hN hi hx r (fun s' I' _=>h s' I') hf
theorem Inv.call' {s':Shared}{ch:List Addr}(I:Inv X pins σ H s)(ho:s'.os=s.os)(u:Un (frs X.stack) ch H H' s.heap s'.heap)(hok:HOk X.prog X.w H' s'.heap)(hg:AllBare s'.gens)
  (hch:∀ b∈ch,(b∈X.ex\/X.s₀.heap.objs.size<=b)/\b≠X.env.locals/\(∀ x c,X.env.cells.lookup x=some c->c≠b)/\∀ p∈X.pn++pins,p.1≠b):Inv X pins σ H' s':=by
 obtain⟨h',g',d',t',o'⟩:=s'
 have e:o'=s.os:=ho
 subst e
 exact I.call (g':=g') (t':=t') (d':=d') u hok hg hch
end
abbrev XK:=Value->Option Addr->Hp->Prop
abbrev St:=List (Option V)
abbrev VK:=V->Hp->Prop
abbrev TE:=St->Hp->VK->Prop
abbrev TT:=St->Hp->(Bool->Hp->Prop)->Prop
abbrev TA:=St->Hp->(List V->Hp->Prop)->Prop
structure Ends where
 nx:St->Hp->Prop
 rt:VK
 bk:St->Hp->Prop:=fun _ _=>False
 ct:St->Hp->Prop:=fun _ _=>False
abbrev TS:=Ends->St->Hp->Prop
def EP (X:Cx)(pins:List (Addr × Obj))(σ:St)(Q:VK)(u:Value)(s':Shared):Prop:=∃ v H',Inv X pins σ H' s'/\RelV v u/\Q v H'
def TP (X:Cx)(pins:List (Addr × Obj))(σ:St)(Q:Bool->Hp->Prop)(b:Bool)(s':Shared):Prop:=∃ H',Inv X pins σ H' s'/\Q b H'
def AP (X:Cx)(pins:List (Addr × Obj))(σ:St)(Q:List V->Hp->Prop)(us:List Value)(s':Shared):Prop:=∃ vs H',Inv X pins σ H' s'/\Vals vs us/\Q vs H'
def SP (X:Cx)(pins:List (Addr × Obj))(D:Ends)(f:Flow)(s':Shared):Prop:=
 match f with
 | .next=>∃ σ' H',Inv X pins σ' H' s'/\D.nx σ' H'
 | .brk=>∃ σ' H',Inv X pins σ' H' s'/\D.bk σ' H'
 | .cont=>∃ σ' H',Inv X pins σ' H' s'/\D.ct σ' H'
 | .ret u=>∃ v σ' H',Inv X pins σ' H' s'/\RelV v u/\D.rt v H'
def PE (X:Cx)(e:Expr)(t:TE):Prop:=
 ∀ (pins:List (Addr × Obj)) (s:Shared) (σ:St) (H:Hp) (Q:VK),Inv X pins σ H s->t σ H Q->wpAny (model X.prog X.w) X.A (eval e X.env) (EP X pins σ Q) X.xe s
def PT (X:Cx)(e:Expr)(t:TT):Prop:=
 ∀ (pins:List (Addr × Obj)) (s:Shared) (σ:St) (H:Hp) (Q:Bool->Hp->Prop),Inv X pins σ H s->t σ H Q->wpAny (model X.prog X.w) X.A (isTrue e X.env (eval e X.env)) (TP X pins σ Q) X.xe s
def PW (X:Cx)(e:Expr)(t:TT):Prop:=
 ∀ (whole:Sem Value) (pins:List (Addr × Obj)) (s:Shared) (σ:St) (H:Hp) (Q:Bool->Hp->Prop),Inv X pins σ H s->t σ H Q->wpAny (model X.prog X.w) X.A (isTrue e X.env whole) (TP X pins σ Q) X.xe s
theorem PW.pt {X:Cx}{e:Expr}{t:TT}(h:PW X e t):PT X e t:=h _
def PA (X:Cx)(es:List Expr)(t:TA):Prop:=
 ∀ (pos:Pos) (pins:List (Addr × Obj)) (s:Shared) (σ:St) (H:Hp) (Q:List V->Hp->Prop),Inv X pins σ H s->t σ H Q->wpAny (model X.prog X.w) X.A (spliced (backTo pos (starEach es X.env))) (AP X pins σ Q) X.xe s
def PS (X:Cx)(st:Stmt)(t:TS):Prop:=
 ∀ (pins:List (Addr × Obj)) (s:Shared) (σ:St) (H:Hp) (D:Ends),Inv X pins σ H s->t D σ H->wpAny (model X.prog X.w) X.A (exec st X.env) (SP X pins D) X.xe s
def PSs (X:Cx)(st:List Stmt)(t:TS):Prop:=
 ∀ (pins:List (Addr × Obj)) (s:Shared) (σ:St) (H:Hp) (D:Ends),Inv X pins σ H s->t D σ H->wpAny (model X.prog X.w) X.A (execs st X.env) (SP X pins D) X.xe s
theorem thn {α:Type}{t:Sem α}{Q Q':α->Shared->Prop}{M:Model}{A:Around}{E:Value->Shared->Prop}{s:Shared}(h:wpAny M A t Q E s)(hQ:∀ a s,Q a s->Q' a s):wpAny M A t Q' E s:=wpAny_mono h hQ fun _ _ x=>x
section
variable {X:Cx}
theorem bin {a b:Expr}{ta tb:TE}(ha:PE X a ta)(hb:PE X b tb){pins:List (Addr × Obj)}{s:Shared}{σ:St}{H:Hp}{R:V->V->Hp->Prop}(I:Inv X pins σ H s)(h:ta σ H fun x H1=>tb σ H1 fun y H2=>R x y H2)
  {α:Type}{Q:α->Shared->Prop}{f:Value->Value->Sem α}
  (hf:∀ v u s2 x y H2,Inv X pins σ H2 s2->RelV x v->RelV y u->R x y H2->wpAny (model X.prog X.w) X.A (f v u) Q X.xe s2) :
  wpAny (model X.prog X.w) X.A (eval a X.env) (fun v s₁=>wpAny (model X.prog X.w) X.A (eval b X.env) (fun u s₂=>wpAny (model X.prog X.w) X.A (f v u) Q X.xe s₂) X.xe s₁) X.xe s:=by
 refine thn (ha pins s σ H _ I h) fun v s1 ⟨x,H1,I1,r1,q1⟩=>?_
 refine thn (hb pins s1 σ H1 _ I1 q1) fun u s2 ⟨y,H2,I2,r2,q2⟩=>?_
 exact hf v u s2 x y H2 I2 r1 r2 q2
def tVar (i:Nat):TE:=fun σ H Q=>∃ v,σ[i]?=some (some v)/\Q v H
def tC (v:V):TE:=fun _ H Q=>Q v H
theorem pe_var {i:Nat}{x:Str}{pos:Pos}(hN:X.N[i]?=some x)(hv:Vis X.env.scope x)(hd:(x == ("__debug__":Str))=false:=by decide)(hcd:(x == ("__classdict__":Str))=false:=by decide):PE X (.Name x pos) (tVar i):=by
 intro pins s σ H Q I h
 obtain⟨v,e,h⟩:=h
 obtain⟨m,hn,hl⟩:=I.loc
 obtain⟨u,r,l⟩:=hl i x v hN e hv
 have fin:EP X pins σ Q u s:=⟨v,H,I,r,h⟩
 rcases l with⟨hk,hm⟩ | ⟨hk,c,hc,hcell⟩
 ·exact wpAny_Name (wpAny_loadName_local I.ok.kind hk hn hm fin) hd
 ·rcases hk with hk | hk
  ·exact wpAny_Name (wpAny_loadName_cell I.ok.kind hk hc hcell fin) hd
  ·exact wpAny_Name (wpAny_loadName_free I.ok.kind hk hc hcell fin hcd) hd
theorem pe_int {i j pos}:PE X (.Constant (.int i) j pos) (tC (.int i)):=fun _ _ _ H _ I h=>wpAny_Constant_int ⟨.int i,H,I.tok _,⟨_,rfl⟩,h⟩
theorem pe_bl {b j pos}:PE X (.Constant (.bool b) j pos) (tC (.bl b)):=fun _ _ _ H _ I h=>Constant_bool ⟨.bl b,H,I,rfl,h⟩
theorem pe_non {j pos}:PE X (.Constant .none j pos) (tC .non):=fun _ _ _ H _ I h=>Constant_none ⟨.non,H,I,rfl,h⟩
theorem pe_str {x j pos}:PE X (.Constant (.str x) j pos) (tC (.str x)):=fun _ _ _ H _ I h=>Calls.Constant_str ⟨.str x,H,I.tok _,⟨_,rfl⟩,h⟩
def Gl (X:Cx)(x:Str):Prop:=X.env.kindOf x=some .globalImplicit
theorem ld_glob {E:Value->Shared->Prop}{pins:List (Addr × Obj)}{s:Shared}{σ:St}{H:Hp}{x:Str}{u:Value}{pos:Pos}{Q:Value->Shared->Prop}(I:Inv X pins σ H s)(hg:Gl X x)(hm:X.mg x=some u)(h:Q u s)
  (hd:(x == ("__debug__":Str))=false:=by decide):wpAny (model X.prog X.w) X.A (eval (.Name x pos) X.env) Q E s :=
 Calls.Name_function_global I.ok.kind hg (Calls.loadGlobal_global (by rw[I.ok.glob];exact I.mod.glob.keeps I.bk) hm h) hd
theorem ld_blt {E:Value->Shared->Prop}{pins:List (Addr × Obj)}{s:Shared}{σ:St}{H:Hp}{x:Str}{u:Value}{pos:Pos}{Q:Value->Shared->Prop}(I:Inv X pins σ H s)(hg:Gl X x)(hm:X.mg x=none)(hv:bootBuiltins x=some u)(h:Q u s)
  (hn:x≠"__name__":=by decide)(hd:(x == ("__debug__":Str))=false:=by decide):wpAny (model X.prog X.w) X.A (eval (.Name x pos) X.env) Q E s:=by
 obtain⟨mb,h1,h2⟩:=I.mod.blt
 exact Calls.Name_function_global I.ok.kind hg (Calls.loadGlobal_builtin (by rw[I.ok.glob];exact I.mod.glob.keeps I.bk) hm (by rw[I.ok.blt];exact h1.keeps I.bk) ((h2 x hn).trans hv) h) hd
theorem pe_glob {x:Str}{v:V}{u:Value}{pos:Pos}(hg:Gl X x)(hm:X.mg x=some u)(r:RelV v u)(hd:(x == ("__debug__":Str))=false:=by decide):PE X (.Name x pos) (tC v) :=
 fun _ _ _ H _ I h=>ld_glob I hg hm ⟨v,H,I,r,h⟩ hd
variable {a b:Expr} {ta tb:TE} {pos:Pos}
def PC (X:Cx)(op:CmpOp)(a b:Expr)(t:TE):Prop:=
 ∀ (pins:List (Addr × Obj)) (s:Shared) (σ:St) (H:Hp) (Q:VK),Inv X pins σ H s->t σ H Q ->
  wpAny (model X.prog X.w) X.A (eval a X.env) (fun v s₁=>wpAny (model X.prog X.w) X.A (eval b X.env) (fun u s₂=>wpAny (model X.prog X.w) X.A (compareOp op v u) (EP X pins σ Q) X.xe s₂) X.xe s₁) X.xe s
def tB (t:TE):TT:=fun σ H Q=>t σ H fun x H1=>∃ c,x=.bl c/\Q c H1
theorem pt_cmp {op:CmpOp}{t:TE}(h:PC X op a b t)(h1:behindInMarks op b=false:=by first | exact nobehind _ (by decide) (by decide) | rfl):PT X (.Compare a [op] [b] pos) (tB t):=by
 intro pins s σ H Q I hw
 refine wpAny_isTrue_Compare1 (thn (h pins s σ H _ I hw) fun v s1 h1=>thn h1 fun u s2 h2=>thn h2 fun c s3 ⟨x,H1,I1,r1,q1⟩=>?_) h1
 obtain⟨d,rfl,q⟩:=q1
 cases r1
 exact wpAny_truthy_bool ⟨H1,I1,q⟩
theorem pt_val {e:Expr}{t:TE}(h:PE X e t)(he:∀ whole,isTrue e X.env whole=(do let v <- whole;standAt e.pos;holding [v] (truthy v)):=by intro _;rfl):PT X e (tB t):=by
 intro pins s σ H Q I hw
 refine isTrue_plain (thn (h pins s σ H _ I hw) fun v s1 ⟨x,H1,I1,r1,q1⟩=>?_) (he _)
 obtain⟨d,rfl,q⟩:=q1
 cases r1
 exact wpAny_truthy_bool ⟨H1,I1,q⟩
variable {tA tB':TT} {rest:List Expr}
def tAnd (t u:TT):TT:=fun σ H Q=>t σ H fun c H1=>if c=true then u σ H1 Q else Q false H1
def tOr (t u:TT):TT:=fun σ H Q=>t σ H fun c H1=>if c=true then Q true H1 else u σ H1 Q
def tNot (t:TT):TT:=fun σ H Q=>t σ H fun c H1=>Q (!c) H1
theorem pw_and1 (ha:PT X a tA):PW X (.BoolOp .And [a] pos) tA:=by
 intro wh pins s σ H Q I h
 refine isTrue_and (thn (ha pins s σ H Q I h) fun c s1 e=>?_)
 cases c with
 | true=>exact isTrue_and_nil e
 | false=>exact e
theorem pw_or1 (ha:PT X a tA):PW X (.BoolOp .Or [a] pos) tA:=by
 intro wh pins s σ H Q I h
 refine isTrue_or (thn (ha pins s σ H Q I h) fun c s1 e=>?_)
 cases c with
 | false=>exact isTrue_or_nil e
 | true=>exact e
theorem pw_and (ha:PT X a tA)(hb:PW X (.BoolOp .And (b::rest) pos) tB'):PW X (.BoolOp .And (a::b::rest) pos) (tAnd tA tB'):=by
 intro wh pins s σ H Q I h
 refine isTrue_and (thn (ha pins s σ H _ I h) fun c s1 ⟨H1,I1,q1⟩=>?_)
 cases c with
 | true=>exact hb wh pins s1 σ H1 Q I1 q1
 | false=>exact⟨H1,I1,q1⟩
theorem pw_or (ha:PT X a tA)(hb:PW X (.BoolOp .Or (b::rest) pos) tB'):PW X (.BoolOp .Or (a::b::rest) pos) (tOr tA tB'):=by
 intro wh pins s σ H Q I h
 refine isTrue_or (thn (ha pins s σ H _ I h) fun c s1 ⟨H1,I1,q1⟩=>?_)
 cases c with
 | true=>exact⟨H1,I1,q1⟩
 | false=>exact hb wh pins s1 σ H1 Q I1 q1
theorem pt_not (ha:PT X a tA):PT X (.UnaryOp .Not a pos) (tNot tA):=by
 intro pins s σ H Q I h
 exact isTrue_not (ha pins s σ H (fun c H1=>Q (!c) H1) I h)
def tAndV (ta tb:TE):TE:=fun σ H Q=>ta σ H fun x H1=>∃ c,x=.bl c/\if c=true then tb σ H1 Q else Q (.bl false) H1
theorem pe_one {op}{t:TE}(h:PE X a t):PE X (.BoolOp op [a] pos) t:=fun pins s σ H Q I hw=>BoolOp_one (h pins s σ H Q I hw)
theorem pe_and (ha:PE X a ta)(hb:PE X (.BoolOp .And (b::rest) pos) tb):PE X (.BoolOp .And (a::b::rest) pos) (tAndV ta tb):=by
 intro pins s σ H Q I h
 refine BoolOp_and (thn (ha pins s σ H _ I h) fun v s1 ⟨x,H1,I1,r1,q1⟩=>?_)
 obtain⟨c,rfl,q1⟩:=q1
 cases r1
 refine wpAny_truthy_bool ?_
 cases c with
 | true=>exact hb pins s1 σ H1 Q I1 q1
 | false=>exact⟨.bl false,H1,I1,rfl,q1⟩
def tIf (t:TT)(ta tb:TE):TE:=fun σ H Q=>t σ H fun c H1=>if c=true then ta σ H1 Q else tb σ H1 Q
theorem pe_ifExp {c:Expr}(hc:PT X c tA)(ha:PE X a ta)(hb:PE X b tb):PE X (.IfExp c a b pos) (tIf tA ta tb):=by
 intro pins s σ H Q I h
 refine wpAny_IfExp (thn (hc pins s σ H _ I h) fun d s1 ⟨H1,I1,q1⟩=>?_)
 cases d with
 | true=>exact ha pins s1 σ H1 Q I1 q1
 | false=>exact hb pins s1 σ H1 Q I1 q1
end
def SqL (K:W.Frag)(H:Hp)(a:Addr)(xs:List V):Prop:=
 Rd H a (.lst xs) \/
  ∃ (o:Obj) (its:Array Value) (n:Nat),K.lookup a=some o/\o.cls=.type "list"/\o.dict=none/\o.data=.seq its n/\its.size<=sizeLine/\Vals xs its.toList
def SqT (K:W.Frag)(H:Hp)(a:Addr)(xs:List V):Prop:=
 Rd H a (.tup xs) \/
  ∃ (o:Obj) (its:Array Value) (n:Nat),K.lookup a=some o/\o.cls=.type "tuple"/\o.data=.seq its n/\its.size<=sizeLine/\Vals xs its.toList
def absV:Value->Option V
 | .none=>some .non
 | .bool b=>some (.bl b)
 | .int i _=>some (.int i)
 | .str x _=>some (.str x)
 | .bytes b _=>some (.byt b)
 | .float b _=>some (.flt b)
 | .ref a=>some (.ref a)
 | .type n=>some (.ty n)
 | _=>none
theorem RelV.abs {x:V}{u:Value}(r:RelV x u):absV u=some x:=by
 cases x with
 | non=>cases r;rfl
 | bl _=>cases r;rfl
 | int _=>obtain⟨t,rfl⟩:=r;rfl
 | str _=>obtain⟨t,rfl⟩:=r;rfl
 | byt _=>obtain⟨t,rfl⟩:=r;rfl
 | flt _=>obtain⟨t,rfl⟩:=r;rfl
 | ref _=>cases r;rfl
 | ty _=>cases r;rfl
theorem RelV.inj {x y:V}{u:Value}(r:RelV x u)(q:RelV y u):x=y:=Option.some.inj (r.abs.symm.trans q.abs)
theorem Vals.inj:∀ {xs ys:List V} {us:List Value},Vals xs us->Vals ys us->xs=ys
 | _,_,_,.nil,.nil=>rfl
 | _,_,_,.cons r t,.cons r' t'=>by rw[r.inj r',Vals.inj t t']
section
variable {X:Cx} {pins:List (Addr × Obj)} {σ:St} {H:Hp} {s:Shared} {a:Addr} {xs ys:List V}
theorem SqL.of {K:W.Frag}(h:H a=some (.lst xs)):SqL K H a xs:=.inl (.inl h)
theorem SqT.of {K:W.Frag}(h:H a=some (.tup xs)):SqT K H a xs:=.inl (.inl h)
theorem Inv.list (I:Inv X pins σ H s)(h:SqL X.K H a xs):∃ its:List Value,Vals xs its/\PlainL s.heap a its.toArray/\xs.length<=sizeLine:=by
 rcases h with h | ⟨o,its,n,hk,hc,hd,hs,hz,r⟩
 ·obtain⟨z,its,n,r,e⟩:=h.ok I.hok
  exact⟨its,r,⟨_,n,e,rfl,rfl,rfl⟩,z⟩
 ·refine⟨its.toList,r,⟨o,n,I.kIn a o hk,hc,hd,by simpa using hs⟩,?_⟩
  have e:=r.length
  simp only[Array.length_toList]at e
  omega
theorem Inv.tuple (I:Inv X pins σ H s)(h:SqT X.K H a xs):∃ its:List Value,Vals xs its/\IsTup s.heap a its.toArray/\xs.length<=sizeLine:=by
 rcases h with h | ⟨o,its,n,hk,hc,hs,hz,r⟩
 ·obtain⟨z,its,r,p⟩:=h.ok I.hok
  exact⟨its,r,p,z⟩
 ·refine⟨its.toList,r,⟨o,I.kIn a o hk,hc,n,by simpa using hs⟩,?_⟩
  have e:=r.length
  simp only[Array.length_toList]at e
  omega
theorem Inv.list_inj (I:Inv X pins σ H s)(h:SqL X.K H a xs)(h':SqL X.K H a ys):xs=ys:=by
 obtain⟨its,r,⟨o,n,e,_,_,d⟩,_⟩:=I.list h
 obtain⟨its',r',⟨o',n',e',_,_,d'⟩,_⟩:=I.list h'
 rw[e]at e';cases e'
 rw[d]at d'
 injection d' with d1 _
 have:its=its':=by simpa using congrArg Array.toList d1
 subst this
 exact r.inj r'
theorem Inv.tuple_inj (I:Inv X pins σ H s)(h:SqT X.K H a xs)(h':SqT X.K H a ys):xs=ys:=by
 obtain⟨its,r,⟨o,e,_,n,d⟩,_⟩:=I.tuple h
 obtain⟨its',r',⟨o',e',_,n',d'⟩,_⟩:=I.tuple h'
 rw[e]at e';cases e'
 rw[d]at d'
 injection d' with d1 _
 have:its=its':=by simpa using congrArg Array.toList d1
 subst this
 exact r.inj r'
end
abbrev Cx.wish (X:Cx)(E:Value->Shared->Prop):Cx:={ X with xe:=E }
abbrev Cx.nox (X:Cx):Cx:=X.wish fun _ _=>False
theorem Cx.Ok.wish {X:Cx}(ok:X.Ok)(E:Value->Shared->Prop):(X.wish E).Ok:=
 ⟨ok.mod,ok.kind,ok.glob,ok.blt,ok.above,ok.inj,ok.has,ok.cab,ok.hd,ok.frames,ok.stk,ok.exf,ok.bs,ok.bsz,ok.noex,ok.exfs,ok.funs,ok.frf⟩
theorem Cx.Ok.unwish {X:Cx}{E:Value->Shared->Prop}(ok:(X.wish E).Ok):X.Ok:=
 ⟨ok.mod,ok.kind,ok.glob,ok.blt,ok.above,ok.inj,ok.has,ok.cab,ok.hd,ok.frames,ok.stk,ok.exf,ok.bs,ok.bsz,ok.noex,ok.exfs,ok.funs,ok.frf⟩
section
variable {X:Cx} {pins:List (Addr × Obj)} {σ:St} {H:Hp} {s:Shared} {E:Value->Shared->Prop}
theorem Inv.wish (I:Inv X pins σ H s)(E:Value->Shared->Prop):Inv (X.wish E) pins σ H s:=⟨I.ok.wish E,I.os,I.bare,I.base,I.loc,I.cell,I.free,I.freeC,I.pin,I.hok,I.len⟩
theorem Inv.unwish (I:Inv (X.wish E) pins σ H s):Inv X pins σ H s:=⟨I.ok.unwish,I.os,I.bare,I.base,I.loc,I.cell,I.free,I.freeC,I.pin,I.hok,I.len⟩
theorem SP.unwish {D:Ends}{f:Flow}{s':Shared}(h:SP (X.wish E) pins D f s'):SP X pins D f s':=by
 cases f with
 | next=>obtain⟨σ',H',I,q⟩:=h;exact⟨σ',H',I.unwish,q⟩
 | brk=>obtain⟨σ',H',I,q⟩:=h;exact⟨σ',H',I.unwish,q⟩
 | cont=>obtain⟨σ',H',I,q⟩:=h;exact⟨σ',H',I.unwish,q⟩
 | ret u=>obtain⟨v,σ',H',I,r,q⟩:=h;exact⟨v,σ',H',I.unwish,r,q⟩
theorem PSs.nox {st:List Stmt}{t:TS}(h:PSs X.nox st t):PSs X st t:=fun pins s σ H D I hw =>
 wpAny_mono (h pins s σ H D (I.wish _) hw) (fun _ _ q=>q.unwish) fun _ _ z=>False.elim z
end
section
variable {X:Cx} {st:Stmt} {rest:List Stmt} {t u:TS} {e:Expr} {te:TE} {pos:Pos}
def tNext:TS:=fun D σ H=>D.nx σ H
def tSeq (t u:TS):TS:=fun D σ H=>t { D with nx:=u D } σ H
theorem pss_nil:PSs X [] tNext:=fun _ _ σ H _ I h=>wpAny_execs_nil ⟨σ,H,I,h⟩
theorem pss_cons (h1:PS X st t)(h2:PSs X rest u):PSs X (st::rest) (tSeq t u):=by
 intro pins s σ H D I h
 refine wpAny_execs_cons (thn (h1 pins s σ H { D with nx:=u D } I h) fun f s1 q=>?_)
 cases f with
 | next =>
  obtain⟨σ',H',I',q⟩:=q
  exact h2 pins s1 σ' H' D I' q
 | ret v=>exact q
 | brk=>exact q
 | cont=>exact q
theorem pss_one (h1:PS X st t):PSs X [st] t:=by
 intro pins s σ H D I h
 refine wpAny_execs_cons (thn (h1 pins s σ H D I h) fun f s1 q=>?_)
 cases f with
 | next=>exact wpAny_execs_nil q
 | ret v=>exact q
 | brk=>exact q
 | cont=>exact q
theorem Inv.quiet {pins:List (Addr × Obj)}{σ:St}{H:Hp}{s:Shared}(I:Inv X pins σ H s):interactive X.env=false:=by simp[interactive,I.ok.kind]
def tDrop (te:TE):TS:=fun D σ H=>te σ H fun _ H1=>D.nx σ H1
theorem ps_expr (he:PE X e te)(hs:swapsWith e none pos.line X.env=pure false:=by rfl):PS X (.Expr e pos) (tDrop te):=by
 intro pins s σ H D I h
 exact wpAny_Expr_any (thn (he pins s σ H _ I h) fun v s1 ⟨x,H1,I1,r1,q1⟩=>⟨σ,H1,I1,q1⟩) I.quiet hs
def tRet (te:TE):TS:=fun D σ H=>te σ H D.rt
theorem ps_ret (he:PE X e te):PS X (.Return (some e) pos) (tRet te):=by
 intro pins s σ H D I h
 exact wpAny_Return_some (thn (he pins s σ H _ I h) fun v s1 ⟨x,H1,I1,r1,q1⟩=>⟨x,σ,H1,I1,r1,q1⟩)
def tIfS (c:TT)(t u:TS):TS:=fun D σ H=>c σ H fun b H1=>if b=true then t D σ H1 else u D σ H1
theorem ps_if {c:Expr}{a b:List Stmt}{tc:TT}(hc:PT X c tc)(ha:PSs X a t)(hb:PSs X b u):PS X (.If c a b pos) (tIfS tc t u):=by
 intro pins s σ H D I h
 refine wpAny_If (thn (hc pins s σ H _ I h) fun d s1 ⟨H1,I1,q1⟩=>?_)
 cases d with
 | true=>exact ha pins s1 σ H1 D I1 q1
 | false=>exact hb pins s1 σ H1 D I1 q1
def tNever:TS:=fun _ _ _=>False
theorem pss_never {sts:List Stmt}:PSs X sts tNever:=fun _ _ _ _ _ _ h=>h.elim
end
abbrev TG:=V->St->Hp->(St->Hp->Prop)->Prop
abbrev TGs:=List V->St->Hp->(St->Hp->Prop)->Prop
def PG (X:Cx)(target:Expr)(t:TG):Prop:=
 ∀ (pins:List (Addr × Obj)) (s:Shared) (σ:St) (H:Hp) (v:V) (u:Value) (Q:St->Hp->Prop),Inv X pins σ H s->RelV v u->t v σ H Q ->
  wpAny (model X.prog X.w) X.A (assign target X.env u) (fun _ s'=>∃ σ' H',Inv X pins σ' H' s'/\Q σ' H') X.xe s
def PGs (X:Cx)(ts:List Expr)(t:TGs):Prop:=
 ∀ (pins:List (Addr × Obj)) (s:Shared) (σ:St) (H:Hp) (vs:List V) (us:List Value) (Q:St->Hp->Prop),Inv X pins σ H s->Vals vs us->t vs σ H Q ->
  wpAny (model X.prog X.w) X.A (assignInOrder ((assignEach ts X.env).map (·.2)) us) (fun _ s'=>∃ σ' H',Inv X pins σ' H' s'/\Q σ' H') X.xe s
abbrev TSet:=V->V->V->Hp->(Hp->Prop)->Prop
def PSet (X:Cx)(t:TSet):Prop:=
 ∀ (pins:List (Addr × Obj)) (s:Shared) (σ:St) (H:Hp) (o i v:V) (ov iv u:Value) (Q:Hp->Prop),Inv X pins σ H s->RelV o ov->RelV i iv->RelV v u->t o i v H Q ->
  wpAny (model X.prog X.w) X.A (setItem ov iv u) (fun _ s'=>∃ H',Inv X pins σ H' s'/\Q H') X.xe s
abbrev TIp:=V->V->Hp->VK->Prop
def PIp (X:Cx)(op:Operator)(t:TIp):Prop:=
 ∀ (pins:List (Addr × Obj)) (s:Shared) (σ:St) (H:Hp) (x y:V) (v u:Value) (Q:VK),Inv X pins σ H s->RelV x v->RelV y u->t x y H Q ->
  wpAny (model X.prog X.w) X.A (inplaceOp op v u) (EP X pins σ Q) X.xe s
section
variable {X:Cx} {pos:Pos}
def gName (i:Nat):TG:=fun v σ H Q=>Q (σ.set i (some v)) H
theorem pg_name {i:Nat}{x:Str}(hN:X.N.Nodup)(hi:X.N[i]?=some x)(hx:Loc X.env.scope x)(hf:X.fn x=true\/X.env.scope.names.lookup x=some .local:=by first | exact .inl rfl | exact .inr rfl | assumption):PG X (.Name x pos) (gName i):=by
 intro pins s σ H v u Q I r h
 exact wpAny_assign_Name (store_ok I hN hi hx r (fun s' I'=>⟨_,H,I',h⟩) hf)
def gNil:TGs:=fun vs σ H Q=>vs=[]/\Q σ H
def gCons (t:TG)(u:TGs):TGs:=fun vs σ H Q=>∃ v r,vs=v::r/\t v σ H fun σ' H'=>u r σ' H' Q
theorem pgs_nil:PGs X [] gNil:=by
 intro pins s σ H vs us Q I r h
 obtain⟨e,h⟩:=h
 subst e
 cases r
 exact assignInOrder_nil ⟨σ,H,I,h⟩
theorem pgs_cons {e:Expr}{es:List Expr}{t:TG}{u:TGs}(h1:PG X e t)(h2:PGs X es u)
  (hs:(assignEach (e::es) X.env).map (·.2)=assign e X.env::(assignEach es X.env).map (·.2):=by rfl):PGs X (e::es) (gCons t u):=by
 intro pins s σ H vs us Q I r h
 obtain⟨v,vr,e1,h⟩:=h
 subst e1
 cases r with
 | cons r rr =>
  rw[hs]
  refine assignInOrder_cons (thn (h1 pins s σ H _ _ _ I r h) fun _ s1 ⟨σ1,H1,I1,q1⟩=>?_)
  exact h2 pins s1 σ1 H1 _ _ Q I1 rr q1
def gTup (K:W.Frag)(n:Nat)(t:TGs):TG:=fun v σ H Q=>∃ a xs,v=.ref a/\SqT K H a xs/\xs.length=n/\t xs σ H Q
theorem pg_tup {es:List Expr}{k:Nat}{t:TGs}{n:Nat}(hc:X.calm=true)(h:PGs X es t)
  (hn:(assignEach es X.env).length=n:=by rfl)(hst:(assignEach es X.env).findIdx? (·.1)=none:=by rfl):PG X (.Tuple es k pos) (gTup X.K n t):=by
 intro pins s σ H v u Q I r hw
 obtain⟨a,xs,e1,hq,hl,hw⟩:=hw
 subst e1
 cases r
 obtain⟨its,rv,ht,hz⟩:=I.tuple hq
 refine assign_Tuple_tuple (I.ok.hd hc) ht (by simp[hn,<- hl,rv.length]) hst fun h' hx=>?_
 have I1:Inv X pins σ H { s with heap:=h' }:=I.kept (t':=s.toks) fun b o e=>hx b o (Nat.ne_of_lt (Heap.lt_size e)) e
 exact h pins _ σ H xs _ Q I1 (by simpa using rv) hw
def gSub (to ti:TE)(t:TSet):TG:=fun v σ H Q=>to σ H fun o H1=>ti σ H1 fun i H2=>t o i v H2 fun H3=>Q σ H3
theorem pg_sub {o i:Expr} {to ti:TE} {t:TSet} (ho:PE X o to) (hi:PE X i ti) (hs:PSet X t)
  (ha : ∀ v, assign (.Subscript o i pos) X.env v = (do
   let ov <- holding [v] (eval o X.env)
   let iv <- holding [v,ov] (eval i X.env)
   standAt pos
   holding [v,ov,iv] (setItem ov iv v)
   release [v,ov,iv] []):=by intro _;rfl):PG X (.Subscript o i pos) (gSub to ti t):=by
 intro pins s σ H v u Q I r h
 rw[ha]
 refine wpAny_bind (wpAny_holding (thn (ho pins s σ H _ I h) fun ov s1 ⟨x,H1,I1,r1,q1⟩=>?_))
 refine wpAny_bind (wpAny_holding (thn (hi pins s1 σ H1 _ I1 q1) fun iv s2 ⟨y,H2,I2,r2,q2⟩=>?_))
 refine wpAny_bind (wpAny_standAt (wpAny_bind (wpAny_holding (thn (hs pins s2 σ H2 x y v ov iv u _ I2 r1 r2 r q2) fun _ s3 ⟨H3,I3,q3⟩=>?_))))
 exact wpAny_release ⟨σ,H3,I3,q3⟩
def tAsg (te:TE)(g:TG):TS:=fun D σ H=>te σ H fun x H1=>g x σ H1 D.nx
theorem ps_asg {tg e:Expr}{te:TE}{g:TG}(he:PE X e te)(hg:PG X tg g)(hs:swapsWithSole [tg] e pos.line X.env=pure false:=by rfl)(hw:swappedStores [tg] e X.env=pure none:=by rfl)
  (h1:(assignEach [tg] X.env).map (·.2)=[assign tg X.env]:=by rfl):PS X (.Assign [tg] e pos) (tAsg te g):=by
 intro pins s σ H D I h
 refine wpAny_Assign_stores (thn (he pins s σ H _ I h) fun v s1 ⟨x,H1,I1,r1,q1⟩=>?_) hs hw
 rw[h1]
 exact thn (hg pins s1 σ H1 x v _ I1 r1 q1) fun _ s2 q=>q
theorem ps_set {i:Nat}{x:Str}{e:Expr}{te:TE}{pos':Pos}(hN:X.N.Nodup)(hi:X.N[i]?=some x)(hx:Loc X.env.scope x)(he:PE X e te)(hs:swapsWith e (some (.Name x pos')) pos.line X.env=pure false:=by rfl)(hf:X.fn x=true\/X.env.scope.names.lookup x=some .local:=by first | exact .inl rfl | exact .inr rfl | assumption) :
  PS X (.Assign [.Name x pos'] e pos) (tAsg te (gName i)):=by
 intro pins s σ H D I h
 refine wpAny_Assign_Name (thn (he pins s σ H _ I h) fun v s1 ⟨y,H1,I1,r1,q1⟩=>?_) hs
 exact store_ok I1 hN hi hx r1 (fun s2 I2=>⟨_,H1,I2,q1⟩) hf
def tAug (i:Nat)(te:TE)(ti:TIp):TS:=fun D σ H=>∃ x,σ[i]?=some (some x)/\te σ H fun y H1=>ti x y H1 fun z H2=>D.nx (σ.set i (some z)) H2
theorem ps_aug {i:Nat}{x:Str}{e:Expr}{te:TE}{op:Operator}{ti:TIp}{pos':Pos}(hN:X.N.Nodup)(hi:X.N[i]?=some x)(hx:Loc X.env.scope x)(he:PE X e te)(ho:PIp X op ti)(hf:X.fn x=true\/X.env.scope.names.lookup x=some .local:=by first | exact .inl rfl | exact .inr rfl | assumption) :
  PS X (.AugAssign (.Name x pos') op e pos) (tAug i te ti):=by
 intro pins s σ H D I h
 obtain⟨v,e1,h⟩:=h
 obtain⟨m,hn,hl⟩:=I.loc
 have vis:Vis X.env.scope x:=by rcases hx with k | k;exact .inl k;exact .inr (.inl k)
 obtain⟨u,r,l⟩:=hl i x v hi e1 vis
 refine wpAny_AugAssign_Name ?_
 have go:wpAny (model X.prog X.w) X.A (eval e X.env) (fun w s₂=>wpAny (model X.prog X.w) X.A (inplaceOp op u w) (fun r s₃=>wpAny (model X.prog X.w) X.A (storeName X.env x r) (fun _=>SP X pins D .next) X.xe s₃) X.xe s₂) X.xe s:=by
  refine thn (he pins s σ H _ I h) fun w s1 ⟨y,H1,I1,r1,q1⟩=>?_
  refine thn (ho pins s1 σ H1 v y u w _ I1 r r1 q1) fun z s2 ⟨zv,H2,I2,r2,q2⟩=>?_
  exact store_ok I2 hN hi hx r2 (fun s3 I3=>⟨_,H2,I3,q2⟩) hf
 rcases l with⟨hk,hm⟩ | ⟨hk,c,hc,hcell⟩
 ·exact wpAny_loadName_local I.ok.kind hk hn hm go
 ·rcases hk with hk | hk
  ·exact wpAny_loadName_cell I.ok.kind hk hc hcell go
  ·rcases hx with k | k
   ·have:X.env.scope.names.lookup x=some .free:=hk
    rw[k]at this;cases this
   ·have:X.env.scope.names.lookup x=some .free:=hk
    rw[k]at this;cases this
def tAugS (to ti te:TE)(tget:V->V->Hp->VK->Prop)(tip:TIp)(tset:TSet):TS:=fun D σ H=>to σ H fun o H1=>ti σ H1 fun i H2=>tget o i H2 fun x H3=>te σ H3 fun y H4=>tip x y H4 fun z H5=>tset o i z H5 fun H6=>D.nx σ H6
def PGet (X:Cx)(t:V->V->Hp->VK->Prop):Prop:=
 ∀ (pins:List (Addr × Obj)) (s:Shared) (σ:St) (H:Hp) (o i:V) (ov iv:Value) (Q:VK),Inv X pins σ H s->RelV o ov->RelV i iv->t o i H Q ->
  wpAny (model X.prog X.w) X.A (getItem ov iv) (EP X pins σ Q) X.xe s
theorem ps_augS {o i e:Expr}{to ti te:TE}{tget:V->V->Hp->VK->Prop}{tip:TIp}{tset:TSet}{op:Operator}{tpos:Pos}(ho:PE X o to)(hi:PE X i ti)(hg:PGet X tget)(he:PE X e te)(hp:PIp X op tip)(hs:PSet X tset)
  (ha:∀ ov iv new,augStore i ov iv new=(do holding [new,ov,iv] (setItem ov iv new);release [new,ov,iv] [];pure .next):=by intros;rfl):PS X (.AugAssign (.Subscript o i tpos) op e pos) (tAugS to ti te tget tip tset):=by
 intro pins s σ H D I h
 refine wpAny_AugAssign_SubscriptAny (thn (ho pins s σ H _ I h) fun ov s1 ⟨x1,H1,I1,r1,q1⟩=>?_) ha
 refine thn (hi pins s1 σ H1 _ I1 q1) fun iv s2 ⟨x2,H2,I2,r2,q2⟩=>?_
 refine thn (hg pins s2 σ H2 x1 x2 ov iv _ I2 r1 r2 q2) fun old s3 ⟨x3,H3,I3,r3,q3⟩=>?_
 refine thn (he pins s3 σ H3 _ I3 q3) fun v s4 ⟨x4,H4,I4,r4,q4⟩=>?_
 refine thn (hp pins s4 σ H4 x3 x4 old v _ I4 r3 r4 q4) fun new s5 ⟨x5,H5,I5,r5,q5⟩=>?_
 exact thn (hs pins s5 σ H5 x1 x2 x5 ov iv new _ I5 r1 r2 r5 q5) fun _ s6 ⟨H6,I6,q6⟩=>⟨σ,H6,I6,q6⟩
def ipI (f:Int->Int->Int):TIp:=fun x y H Q=>∃ i j,x=.int i/\y=.int j/\Q (.int (f i j)) H
theorem ip_add:PIp X .Add (ipI fun i j=>i+j):=by
 intro pins s σ H x y v u Q I r1 r2 h
 obtain⟨i,j,e1,e2,q⟩:=h
 subst e1;subst e2
 obtain⟨t,rfl⟩:=r1
 obtain⟨t',rfl⟩:=r2
 exact iadd_int ⟨.int _,H,I.tok _,⟨_,rfl⟩,q⟩
theorem ip_sub:PIp X .Sub (ipI fun i j=>i - j):=by
 intro pins s σ H x y v u Q I r1 r2 h
 obtain⟨i,j,e1,e2,q⟩:=h
 subst e1;subst e2
 obtain⟨t,rfl⟩:=r1
 obtain⟨t',rfl⟩:=r2
 exact isub_int ⟨.int _,H,I.tok _,⟨_,rfl⟩,q⟩
end
section
variable {X:Cx} {pos:Pos}
def tWhile (c:TT)(tb:TS):TS:=fun D σ H=>∃ W:Nat->St->Hp->Prop,(∃ m,W m σ H)/\∀ m σ H,W m σ H ->
 c σ H fun b H1=>if b=true then ∃ N:St->Hp->Prop,(∀ σ' H',N σ' H'->∃ m',m'<m/\W m' σ' H')/\tb { D with nx:=N,ct:=N,bk:=D.nx } σ H1 else D.nx σ H1
theorem ps_while {c:Expr}{body:List Stmt}{tc:TT}{tb:TS}(hp:PassesOwn (model X.prog X.w) X.A X.env X.xe)(hc:PT X c tc)(hb:PSs X body tb):PS X (.While c body [] pos) (tWhile tc tb):=by
 intro pins s σ H D I h
 obtain⟨W,⟨m0,w0⟩,turn⟩:=h
 refine wpAny_While (codeAny_whileLoop (fun n s'=>∃ σ' H',Inv X pins σ' H' s'/\W n σ' H') ?_ m0 ⟨σ,H,I,w0⟩)
 rintro n s1 ⟨σ1,H1,I1,w1⟩
 refine wpAny_passesOwn hp (thn (hc pins s1 σ1 H1 _ I1 (turn n σ1 H1 w1)) fun b s2 ⟨H2,I2,q2⟩=>?_)
 cases b with
 | true =>
  obtain⟨N,hN,q2⟩:=q2
  rw[if_pos rfl]
  refine wpAny_passesOwn hp (thn (hb pins s2 σ1 H2 _ I2 q2) fun f s3 q3=>?_)
  cases f with
  | next =>
   obtain⟨σ3,H3,I3,n3⟩:=q3
   obtain⟨m',hm,w3⟩:=hN σ3 H3 n3
   exact⟨m',hm,σ3,H3,I3,w3⟩
  | cont =>
   obtain⟨σ3,H3,I3,n3⟩:=q3
   obtain⟨m',hm,w3⟩:=hN σ3 H3 n3
   exact⟨m',hm,σ3,H3,I3,w3⟩
  | brk=>exact q3
  | ret v=>exact q3
 | false =>
  rw[if_neg Bool.false_ne_true]
  exact wpAny_execs_nil ⟨σ1,H2,I2,q2⟩
end
structure It where
 go:Nat->Hp->Prop
 yld:Nat->Hp->V->Hp->Prop
 stop:Nat->Hp->Prop
def FpOk (X:Cx)(pins:List (Addr × Obj))(H:Hp)(b:Addr):Prop:=
 H b=none/\b≠X.env.locals/\b∉X.fs/\(b∈X.ex\/X.s₀.heap.objs.size<=b)/\(∀ x c,X.env.cells.lookup x=some c->c≠b)/\∀ p∈X.pn++pins,p.1≠b
theorem Inv.fpOk {X:Cx}{pins:List (Addr × Obj)}{σ:St}{H H':Hp}{s:Shared}{b:Addr}(I:Inv X pins σ H s)(hb:s.heap.objs.size<=b)(hn:H' b=none):FpOk X pins H' b:=by
 refine⟨hn,Nat.ne_of_gt (Nat.lt_of_lt_of_le I.lt hb),I.nofs hb,.inr (Nat.le_trans I.sz hb),fun x c e z=>?_,fun p hp z=>?_⟩
 ·obtain⟨v,q⟩:=I.cell x c e
  exact absurd (Nat.lt_of_lt_of_le q.lt (by rw[z];exact hb)) (Nat.lt_irrefl _)
 ·exact absurd (Nat.lt_of_lt_of_le (Heap.lt_size (I.pin p hp).1) (by rw[z];exact hb)) (Nat.lt_irrefl _)
structure Turn (P:Program) (w:World) (K:W.Frag) (tg:Expr) (J:It) (fp:List Addr) (it:Addr) (tn:Nat->Heap->Prop):Prop where
 mem:it∈fp
 obj:∀ i h,tn i h->∀ b∈fp,∃ o,h.get? b=some o/\∀ v,o.data≠.cell v
 keep:∀ i h h',tn i h->(∀ b∈fp,∀ o,h.get? b=some o->h'.get? b=some o)->tn i h'
 item:∀ (X:Cx),X.prog=P->X.w=w->X.K=K->X.calm=true->∀ (i:Nat) (pins:List (Addr × Obj)) (s:Shared) (σ:St) (H:Hp) (E:Value->Shared->Prop),Inv X pins σ H s->(∀ b∈fp,FpOk X pins H b)->tn i s.heap->J.go i H ->
  wpAny (model P w) X.A (pyNext (.ref it)) (fun r s1=>∃ u,r=some u /\
   wpAny (model P w) X.A (letOwnedTupleGo tg (.ref it) u) (fun _ s2=>∃ x H',Inv X pins σ H' s2/\RelV x u/\J.yld i H x H'/\tn (i+1) s2.heap/\∀ b∈fp,H' b=none) E s1) E s
 done:∀ (X:Cx),X.prog=P->X.w=w->X.K=K->X.calm=true->∀ (i:Nat) (pins:List (Addr × Obj)) (s:Shared) (σ:St) (H:Hp) (E:Value->Shared->Prop),Inv X pins σ H s->(∀ b∈fp,FpOk X pins H b)->tn i s.heap->J.stop i H ->
  wpAny (model P w) X.A (pyNext (.ref it)) (fun r s1=>r=none/\Inv X pins σ H s1) E s
 self:∀ (A:Around) (i:Nat) (s:Shared) (Q:Value->Shared->Prop) (E:Value->Shared->Prop),tn i s.heap->Q (.ref it) s->wpAny (model P w) A (pyIter (.ref it)) Q E s
abbrev TI:=St->Hp->(It->Hp->Prop)->Prop
def PIE (X:Cx)(pins:List (Addr × Obj))(σ:St)(tg:Expr)(R:It->Hp->Prop)(itv:Value)(s2:Shared):Prop:=
 ∃ (it:Addr) (fp:List Addr) (tn:Nat->Heap->Prop) (J:It) (H':Hp),itv=.ref it/\Inv X pins σ H' s2/\Turn X.prog X.w X.K tg J fp it tn/\tn 0 s2.heap/\(∀ b∈fp,FpOk X pins H' b)/\R J H'
def PI (X:Cx)(tg iter:Expr)(wi:TI):Prop:=
 ∀ (pins:List (Addr × Obj)) (s:Shared) (σ:St) (H:Hp) (R:It->Hp->Prop),Inv X pins σ H s->wi σ H R ->
  wpAny (model X.prog X.w) X.A (eval iter X.env) (fun v s1=>wpAny (model X.prog X.w) X.A (pyIter v) (PIE X pins σ tg R) X.xe s1) X.xe s
theorem go_of {M:Model} {A:Around} {E:Value->Shared->Prop} {s:Shared} {tg:Expr} {it:Addr} {u:Value} {o:Obj} {n:String} {vs:Array Value} {Q:Unit->Shared->Prop} (ho:s.heap.get? it=some o) (hc:o.cls=.type n) (hd:o.data=.fields vs)
    (hn:["enumerate","zip","dict_itemiterator","dict_reverseitemiterator","odict_iterator","itertools.zip_longest","itertools.pairwise"].contains n=false) (hQ:Q () s):wpAny M A (letOwnedTupleGo tg (.ref it) u) Q E s:=by
  unfold letOwnedTupleGo
  cases tg<;>first
    | exact wpAny_pure hQ
    | (cases u<;>first
        | exact wpAny_pure hQ
        | (refine wpAny_bind (wpAny_load ho ?_)
           rw[hc,hd]
           show wpAny M A (if (["enumerate","zip","dict_itemiterator","dict_reverseitemiterator","odict_iterator","itertools.zip_longest","itertools.pairwise"].contains n && vs[0]? == some (rawInt _))=true then _ else _) Q E s
           rw[if_neg (by intro h;rw[hn,Bool.false_and]at h;cases h)]
           exact wpAny_pure hQ))
def Itl (K:W.Frag)(a:Addr):It:=
 ⟨fun i H=>∃ xs x,SqL K H a xs/\xs[i]?=some x,fun i H x H'=>H'=H/\∀ xs,SqL K H a xs->xs[i]?=some x,fun i H=>∃ xs,SqL K H a xs/\xs.length<=i⟩
def Itt (K:W.Frag)(a:Addr):It:=
 ⟨fun i H=>∃ xs x,SqT K H a xs/\xs[i]?=some x,fun i H x H'=>H'=H/\∀ xs,SqT K H a xs->xs[i]?=some x,fun i H=>∃ xs,SqT K H a xs/\xs.length<=i⟩
def Itr (lo:Int)(n:Nat):It:=⟨fun i _=>i<n,fun i H x H'=>H'=H/\x=.int (lo+i),fun i _=>n<=i⟩
theorem turn_list {P:Program}{w:World}{K:W.Frag}{tg:Expr}(a it:Addr):Turn P w K tg (Itl K a) [it] it (fun i h=>h.IsListIter it a i) where
 mem:=by simp
 obj:=fun i h st b hb=>by
  have e:b=it:=by simpa using hb
  subst e
  obtain⟨o,e,c,d⟩:=st
  exact⟨o,e,fun v z=>by rw[d]at z;cases z⟩
 keep:=fun i h h' st k=>st.at fun o e=>k it (by simp) o e
 item:=by
  intro X hP hw hK hc i pins s σ H E I hf st hg
  subst hP hw hK
  obtain⟨xs,x,hq,hx⟩:=hg
  obtain⟨its,rv,p,hz⟩:=I.list hq
  obtain⟨u,hu,ru⟩:=rv.get hx
  obtain⟨f0,f1,f2,f3,f4,f5⟩:=hf it (by simp)
  refine wpAny_pyNext_list_item st p.isList (x:=u) (by simpa using hu) fun h' st' sb=>?_
  have I1:Inv X pins σ H { s with heap:=h' }:=I.turned (t':=s.toks) (fun b o hb e=>(sb.2 b hb).trans e) f0 f1 f3 f4 f5
  obtain⟨o,e,c,d⟩:=id st'
  exact⟨u,rfl,go_of (s:={ s with heap:=h' }) e c d (by decide) ⟨x,H,I1,ru,⟨rfl,fun ys hy=>by rw[I.list_inj hy hq];exact hx⟩,st',fun b hb=>(hf b hb).1⟩⟩
 done:=by
  intro X hP hw hK hc i pins s σ H E I hf st hg
  subst hP hw hK
  obtain⟨xs,hq,hx⟩:=hg
  obtain⟨its,rv,p,hz⟩:=I.list hq
  obtain⟨f0,f1,f2,f3,f4,f5⟩:=hf it (by simp)
  have hl:=rv.length
  exact wpAny_pyNext_list_end (I.ok.hd hc) st p.isList (by simp;omega) fun h' eb=>⟨rfl,I.turned (t':=s.toks) (fun b o hb e=>eb b o hb e) f0 f1 f3 f4 f5⟩
 self:=fun _ _ _ _ _ st h=>wpAny_pyIter_listiter st h
theorem turn_tuple {P:Program}{w:World}{K:W.Frag}{tg:Expr}(a it:Addr):Turn P w K tg (Itt K a) [it] it (fun i h=>h.IsTupleIter it a i) where
 mem:=by simp
 obj:=fun i h st b hb=>by
  have e:b=it:=by simpa using hb
  subst e
  obtain⟨o,e,c,d⟩:=st
  exact⟨o,e,fun v z=>by rw[d]at z;cases z⟩
 keep:=fun i h h' st k=>st.at fun o e=>k it (by simp) o e
 item:=by
  intro X hP hw hK hc i pins s σ H E I hf st hg
  subst hP hw hK
  obtain⟨xs,x,hq,hx⟩:=hg
  obtain⟨its,rv,p,hz⟩:=I.tuple hq
  obtain⟨u,hu,ru⟩:=rv.get hx
  obtain⟨f0,f1,f2,f3,f4,f5⟩:=hf it (by simp)
  refine wpAny_pyNext_tuple_item st (show s.heap.IsTuple a its.toArray from p) (x:=u) (by simpa using hu) fun h' st' sb=>?_
  have I1:Inv X pins σ H { s with heap:=h' }:=I.turned (t':=s.toks) (fun b o hb e=>(sb.2 b hb).trans e) f0 f1 f3 f4 f5
  obtain⟨o,e,c,d⟩:=id st'
  exact⟨u,rfl,go_of (s:={ s with heap:=h' }) e c d (by decide) ⟨x,H,I1,ru,⟨rfl,fun ys hy=>by rw[I.tuple_inj hy hq];exact hx⟩,st',fun b hb=>(hf b hb).1⟩⟩
 done:=by
  intro X hP hw hK hc i pins s σ H E I hf st hg
  subst hP hw hK
  obtain⟨xs,hq,hx⟩:=hg
  obtain⟨its,rv,p,hz⟩:=I.tuple hq
  obtain⟨f0,f1,f2,f3,f4,f5⟩:=hf it (by simp)
  have hl:=rv.length
  exact wpAny_pyNext_tuple_end (I.ok.hd hc) st (show s.heap.IsTuple a its.toArray from p) (by simp;omega) fun h' eb=>⟨rfl,I.turned (t':=s.toks) (fun b o hb e=>eb b o hb e) f0 f1 f3 f4 f5⟩
 self:=fun _ _ _ _ _ st h=>wpAny_pyIter_tupleiter st h
theorem turn_range {P:Program}{w:World}{K:W.Frag}{tg:Expr}(it:Addr)(lo:Int)(n:Nat):Turn P w K tg (Itr lo n) [it] it (fun i h=>IsRangeIter h it (lo+(i:Nat)*1) ((n:Int) - (i:Nat)) 1) where
 mem:=by simp
 obj:=fun i h st b hb=>by
  have e:b=it:=by simpa using hb
  subst e
  exact⟨_,st,fun v z=>by
   have z':Data.fields _=Data.cell v:=z
   cases z'⟩
 keep:=fun i h h' st k=>k it (by simp) _ st
 item:=by
  intro X hP hw hK hc i pins s σ H E I hf st hg
  subst hP hw hK
  obtain⟨f0,f1,f2,f3,f4,f5⟩:=hf it (by simp)
  have W:=Walks.range (prog:=X.prog) (w:=X.w) (I.ok.hd hc) it lo 1 n
  refine W.item i s _ _ hg st fun v h' tk hv st' kk=>?_
  obtain⟨t,rfl⟩:=hv
  have I1:Inv X pins σ H { s with heap:=h',toks:=tk }:=I.turned (fun b o hb e=>kk b o (by simpa using hb) e) f0 f1 f3 f4 f5
  refine⟨_,rfl,go_of (s:={ s with heap:=h',toks:=tk }) (n:="range_iterator") st' rfl rfl (by decide) ⟨.int (lo+i),H,I1,⟨t,?_⟩,⟨rfl,rfl⟩,st',fun b hb=>(hf b hb).1⟩⟩
  rw[Int.mul_one]
 done:=by
  intro X hP hw hK hc i pins s σ H E I hf st hg
  subst hP hw hK
  obtain⟨f0,f1,f2,f3,f4,f5⟩:=hf it (by simp)
  exact wpAny_pyNext_range_end (I.ok.hd hc) st (by have:n<=i:=hg;omega) fun h' eb=>⟨rfl,I.turned (t':=s.toks) (fun b o hb e=>eb b o hb e) f0 f1 f3 f4 f5⟩
 self:=fun _ _ _ _ _ st h=>wpAny_pyIter_rangeiter st h
section
variable {X:Cx} {tg:Expr}
def iList (K:W.Frag)(tl:TE):TI:=fun σ H R=>tl σ H fun x H1=>∃ a,x=.ref a/\(∃ xs,SqL K H1 a xs)/\R (Itl K a) H1
def iTup (K:W.Frag)(tl:TE):TI:=fun σ H R=>tl σ H fun x H1=>∃ a,x=.ref a/\(∃ xs,SqT K H1 a xs)/\R (Itt K a) H1
theorem pi_list {l:Expr}{tl:TE}(hl:PE X l tl):PI X tg l (iList X.K tl):=by
 intro pins s σ H R I h
 refine thn (hl pins s σ H _ I h) fun v s1 ⟨x,H1,I1,r1,q1⟩=>?_
 obtain⟨a,e,⟨xs,hq⟩,q⟩:=q1
 subst e
 cases r1
 obtain⟨its,rv,p,hz⟩:=I1.list hq
 refine wpAny_pyIter_list p.isList ?_
 refine⟨s1.heap.objs.size,[s1.heap.objs.size],_,_,H1,rfl,I1.kept (t':=s1.toks) fun b o e=>Heap.get?_push_of_some _ e,turn_list a _,⟨_,Heap.get?_push_size _ rfl,rfl,rfl⟩,fun b hb=>?_,q⟩
 have e:b=s1.heap.objs.size:=by simpa using hb
 subst e
 exact I1.fpOk (Nat.le_refl _) (I1.hok.fresh (Nat.le_refl _))
theorem pi_tup {l:Expr}{tl:TE}(hl:PE X l tl):PI X tg l (iTup X.K tl):=by
 intro pins s σ H R I h
 refine thn (hl pins s σ H _ I h) fun v s1 ⟨x,H1,I1,r1,q1⟩=>?_
 obtain⟨a,e,⟨xs,hq⟩,q⟩:=q1
 subst e
 cases r1
 obtain⟨its,rv,p,hz⟩:=I1.tuple hq
 refine wpAny_pyIter_tuple (show s1.heap.IsTuple a its.toArray from p) ?_
 refine⟨s1.heap.objs.size,[s1.heap.objs.size],_,_,H1,rfl,I1.kept (t':=s1.toks) fun b o e=>Heap.get?_push_of_some _ e,turn_tuple a _,⟨_,Heap.get?_push_size _ rfl,rfl,rfl⟩,fun b hb=>?_,q⟩
 have e:b=s1.heap.objs.size:=by simpa using hb
 subst e
 exact I1.fpOk (Nat.le_refl _) (I1.hok.fresh (Nat.le_refl _))
theorem range_it {pins:List (Addr × Obj)}{σ:St}{H:Hp}{s:Shared}{R:It->Hp->Prop}{E:Value->Shared->Prop}{lo hi:Int}{t u v:Tok}{tk:Nat}(I:Inv X pins σ H s)(h1:-(2 ^ 62)<=lo)(h2:lo<2 ^ 62)(h3:-(2 ^ 62)<=hi)(h4:hi<2 ^ 62)
  (q:R (Itr lo (hi - lo).toNat) H):wpAny (model X.prog X.w) X.A (pyIter (.ref s.heap.objs.size)) (PIE X pins σ tg R) E { s with heap:=s.heap.push { cls:=.type "range",data:=.fields #[.int lo t,.int hi u,.int 1 v] },toks:=tk }:=by
 refine wpAny_pyIter_range (IsRange.new ..) (small_one h1 h2 h3 h4) ?_
 have I1:Inv X pins σ H { s with heap:=s.heap.push { cls:=.type "range",data:=.fields #[.int lo t,.int hi u,.int 1 v] },toks:=tk }:=I.kept fun b o e=>Heap.get?_push_of_some _ e
 refine⟨(s.heap.push { cls:=.type "range",data:=.fields #[.int lo t,.int hi u,.int 1 v] }).objs.size,[(s.heap.push { cls:=.type "range",data:=.fields #[.int lo t,.int hi u,.int 1 v] }).objs.size],_,_,H,rfl,
  I1.kept (t':=tk) fun b o e=>Heap.get?_push_of_some _ e,turn_range _ lo (hi - lo).toNat,?_,fun b hb=>?_,q⟩
 ·have e1:lo+((0:Nat):Int)*1=lo:=by simp
  have e2:(((hi - lo).toNat:Nat):Int) - ((0:Nat):Int)=Builtin.Range.rangeSize lo hi 1:=by rw[rangeSize_one];split<;>omega
  show IsRangeIter _ _ (lo+((0:Nat):Int)*1) ((((hi - lo).toNat:Nat):Int) - ((0:Nat):Int)) 1
  rw[e1,e2]
  exact Heap.get?_push_size _ rfl
 ·have e:b=(s.heap.push { cls:=.type "range",data:=.fields #[.int lo t,.int hi u,.int 1 v] }).objs.size:=by simpa using hb
  subst e
  exact I1.fpOk (Nat.le_refl _) (I1.hok.fresh (Nat.le_refl _))
def iRng1 (ta:TA):TI:=fun σ H R=>ta σ H fun vs H1=>∃ j:Int,vs=[.int j] /\ -(2 ^ 62)<=j/\j<2 ^ 62/\R (Itr 0 j.toNat) H1
def iRng2 (ta:TA):TI:=fun σ H R=>ta σ H fun vs H1=>∃ i j:Int,vs=[.int i,.int j]/\(-(2 ^ 62)<=i/\i<2 ^ 62 /\ -(2 ^ 62)<=j/\j<2 ^ 62)/\R (Itr i (j - i).toNat) H1
theorem pi_range1 {a:Expr}{ta:TA}{p pos:Pos}(hg:Gl X "range")(hm:X.mg "range"=none)(ha:PA X [a] ta)(hs:starEach [a] X.env=[(false,eval a X.env)]:=by rfl):PI X tg (.Call (.Name "range" p) [a] [] pos) (iRng1 ta):=by
 intro pins s σ H R I h
 refine Call_ (ld_blt I hg hm boot_range (PyProof.Rows.callWith_type1 (thn (ha pos pins s σ H _ I h) fun us s1 ⟨vs,H1,I1,r1,q1⟩=>?_) hs rfl))
 obtain⟨j,e,q1,q2,q⟩:=q1
 subst e
 cases r1 with
 | cons r rr =>
  cases rr
  obtain⟨t,rfl⟩:=r
  exact call_range_1 (range_it I1 (by omega) (by omega) q1 q2 (by simpa using q))
theorem pi_range2 {a b:Expr}{ta:TA}{p pos:Pos}(hg:Gl X "range")(hm:X.mg "range"=none)(ha:PA X [a,b] ta)(hs:starEach [a,b] X.env=[(false,eval a X.env),(false,eval b X.env)]:=by rfl)(hs2:starEach [b] X.env=[(false,eval b X.env)]:=by rfl) :
  PI X tg (.Call (.Name "range" p) [a,b] [] pos) (iRng2 ta):=by
 intro pins s σ H R I h
 refine Call_ (ld_blt I hg hm boot_range (PyProof.Rows.callWith_type1 (thn (ha pos pins s σ H _ I h) fun us s1 ⟨vs,H1,I1,r1,q1⟩=>?_) (by rw[hs,hs2]) (by rw[hs2];rfl)))
 obtain⟨i,j,e,⟨q1,q2,q3,q4⟩,q⟩:=q1
 subst e
 cases r1 with
 | cons r rr =>
  cases rr with
  | cons r' rr =>
   cases rr
   obtain⟨t,rfl⟩:=r
   obtain⟨t',rfl⟩:=r'
   exact call_range_2 (range_it I1 q1 q2 q3 q4 q)
def tFor (wi:TI)(g:TG)(tb:TS):TS:=fun D σ H=>wi σ H fun J H1=>∃ W:Nat->Nat->St->Hp->Prop,(∃ m,W 0 m σ H1)/\∀ i m σ H,W i m σ H ->
 (J.stop i H/\D.nx σ H)\/(J.go i H/\∃ N:St->Hp->Prop,(∀ σ' H',N σ' H'->∃ m',m'<m/\W (i+1) m' σ' H')/\∀ x H',J.yld i H x H'->g x σ H' fun σ2 H2=>tb { D with nx:=N,ct:=N,bk:=D.nx } σ2 H2)
def pinsAt (fp:List Addr)(h:Heap):List (Addr × Obj):=fp.filterMap fun b=>(h.get? b).map fun o=>(b,o)
theorem mem_pinsAt {fp:List Addr}{h:Heap}{b:Addr}{o:Obj}(hb:b∈fp)(e:h.get? b=some o):(b,o)∈pinsAt fp h:=List.mem_filterMap.mpr ⟨b,hb,by rw[e];rfl⟩
theorem of_pinsAt {fp:List Addr}{h:Heap}{p:Addr × Obj}(hp:p∈pinsAt fp h):p.1∈fp/\h.get? p.1=some p.2:=by
 obtain⟨b,hb,e⟩:=List.mem_filterMap.mp hp
 cases q:h.get? b with
 | none=>rw[q]at e;cases e
 | some o =>
  rw[q]at e
  have e':(b,o)=p:=Option.some.inj e
  subst e'
  exact⟨hb,q⟩
theorem Inv.pinned {pins:List (Addr × Obj)}{σ:St}{H:Hp}{s:Shared}{fp:List Addr}(I:Inv X pins σ H s)(hf:∀ b∈fp,FpOk X pins H b)(ho:∀ b∈fp,∃ o,s.heap.get? b=some o/\∀ v,o.data≠.cell v):Inv X (pins++pinsAt fp s.heap) σ H s:=
 I.pins_of fun p hp=>(List.mem_append.mp hp).elim (fun z=>I.pin p (List.mem_append_right _ z)) fun z=>by
  obtain⟨hb,e⟩:=of_pinsAt z
  obtain⟨f0,f1,f2,_⟩:=hf p.1 hb
  obtain⟨o,e',d⟩:=ho p.1 hb
  rw[e]at e';cases e'
  exact⟨e,f0,f1,f2,d⟩
theorem Inv.unpinned {pins pl:List (Addr × Obj)}{σ:St}{H:Hp}{s:Shared}(I:Inv X (pins++pl) σ H s):Inv X pins σ H s:=I.pins_of fun p hp=>I.pin p (List.mem_append_right _ (List.mem_append_left _ hp))
theorem ps_for {iter:Expr}{body:List Stmt}{wi:TI}{g:TG}{tb:TS}{pos:Pos}(hp:PassesOwn (model X.prog X.w) X.A X.env X.xe)(hc:X.calm=true)(hi:PI X tg iter wi)(hg:PG X tg g)(hb:PSs X body tb)
  (hs:∀ x,foldedSetIterable iter X.env x=pure x:=by intro _;rfl):PS X (.For tg iter body [] pos) (tFor wi g tb):=by
 intro pins s σ H D I h
 refine wpAny_For (thn (hi pins s σ H _ I h) fun v s1 h1=>thn h1 fun itv s2 h2=>?_) hs
 obtain⟨it,fp,tn,J,H2,e,I2,T,st2,f2,W,⟨m0,w0⟩,turn⟩:=h2
 subst e
 have stat:∀ {H':Hp},(∀ b∈fp,H' b=none)->∀ b∈fp,FpOk X pins H' b:=fun hn b hb=>⟨hn b hb,(f2 b hb).2⟩
 refine codeAny_forLoop_any (fun n s'=>∃ i σ' H',Inv X pins σ' H' s'/\tn i s'.heap/\(∀ b∈fp,H' b=none)/\W i n σ' H') ?_ m0 ⟨0,σ,H2,I2,st2,fun b hb=>(f2 b hb).1,w0⟩
 rintro n s3 ⟨i,σ3,H3,I3,st3,fr3,w3⟩
 rcases turn i n σ3 H3 w3 with⟨stop,qn⟩ | ⟨go,N,hN,step⟩
 ·refine wpAny_passesOwn hp (thn (T.done X rfl rfl rfl hc i pins s3 σ3 H3 X.xe I3 (stat fr3) st3 stop) fun r s4 ⟨hr,I4⟩=>?_)
  subst hr
  exact wpAny_execs_nil ⟨σ3,H3,I4,qn⟩
 ·refine wpAny_passesOwn hp (thn (T.item X rfl rfl rfl hc i pins s3 σ3 H3 X.xe I3 (stat fr3) st3 go) fun r s4 ⟨u,hr,h4⟩=>?_)
  subst hr
  refine wpAny_passesOwn hp (thn h4 fun _ s5 ⟨x,H5,I5,r5,y5,st5,fr5⟩=>?_)
  have I5':=I5.pinned (stat fr5) (T.obj _ _ st5)
  refine wpAny_passesOwn hp (thn (hg _ s5 σ3 H5 x u _ I5' r5 (step x H5 y5)) fun _ s6 ⟨σ6,H6,I6,q6⟩=>?_)
  refine wpAny_passesOwn hp (thn (hb _ s6 σ6 H6 _ I6 q6) fun f s7 q7=>?_)
  have again:∀ {σ7:St} {H7:Hp},Inv X (pins++pinsAt fp s5.heap) σ7 H7 s7->N σ7 H7->∃ m,m<n/\∃ i σ' H',Inv X pins σ' H' s7/\tn i s7.heap/\(∀ b∈fp,H' b=none)/\W i m σ' H':=fun {σ7 H7} I7 n7=>by
   obtain⟨m',hm,w7⟩:=hN σ7 H7 n7
   refine⟨m',hm,i+1,σ7,H7,I7.unpinned,T.keep _ _ _ st5 fun b hb o e=>(I7.pin (b,o) (List.mem_append_right _ (List.mem_append_right _ (mem_pinsAt hb e)))).1,fun b hb=>?_,w7⟩
   obtain⟨o,e,d⟩:=T.obj _ _ st5 b hb
   exact(I7.pin (b,o) (List.mem_append_right _ (List.mem_append_right _ (mem_pinsAt hb e)))).2.1
  cases f with
  | next=>obtain⟨σ7,H7,I7,n7⟩:=q7;exact again I7 n7
  | cont=>obtain⟨σ7,H7,I7,n7⟩:=q7;exact again I7 n7
  | brk=>obtain⟨σ7,H7,I7,q7⟩:=q7;exact⟨σ7,H7,I7.unpinned,q7⟩
  | ret v=>obtain⟨x7,σ7,H7,I7,r7,q7⟩:=q7;exact⟨x7,σ7,H7,I7.unpinned,r7,q7⟩
end
theorem for_list {K:W.Frag}{a:Addr}{xs:List V}{g:TG}{tb:TS}{D:Ends}{σ:St}{H:Hp}(Pv:Nat->St->Hp->Prop)(h0:Pv 0 σ H)(hl:∀ i σ H,i<=xs.length->Pv i σ H->SqL K H a xs)
  (hs:∀ i x σ H,xs[i]?=some x->Pv i σ H->g x σ H fun σ2 H2=>tb { D with nx:=Pv (i+1),ct:=Pv (i+1),bk:=D.nx } σ2 H2)(hd:∀ σ H,Pv xs.length σ H->D.nx σ H) :
  ∃ W:Nat->Nat->St->Hp->Prop,(∃ m,W 0 m σ H)/\∀ i m σ H,W i m σ H ->
   ((Itl K a).stop i H/\D.nx σ H)\/((Itl K a).go i H/\∃ N:St->Hp->Prop,(∀ σ' H',N σ' H'->∃ m',m'<m/\W (i+1) m' σ' H')/\∀ x H',(Itl K a).yld i H x H'->g x σ H' fun σ2 H2=>tb { D with nx:=N,ct:=N,bk:=D.nx } σ2 H2):=by
 refine⟨fun i m σ H=>m=xs.length - i/\i<=xs.length/\Pv i σ H,⟨xs.length,by simp,Nat.zero_le _,h0⟩,?_⟩
 rintro i m σ H ⟨rfl,hi,p⟩
 have q:=hl i σ H hi p
 by_cases hlt:i<xs.length
 ·refine .inr ⟨⟨xs,xs[i],q,by simp[hlt]⟩,Pv (i+1),fun σ' H' p'=>⟨xs.length - (i+1),by omega,rfl,hlt,p'⟩,fun x H' y=>?_⟩
  obtain⟨e,y⟩:=y
  subst e
  exact hs i x σ _ (y xs q) p
 ·have e:i=xs.length:=by omega
  subst e
  exact .inl ⟨⟨xs,q,Nat.le_refl _⟩,hd σ H p⟩
theorem for_tup {K:W.Frag}{a:Addr}{xs:List V}{g:TG}{tb:TS}{D:Ends}{σ:St}{H:Hp}(Pv:Nat->St->Hp->Prop)(h0:Pv 0 σ H)(hl:∀ i σ H,i<=xs.length->Pv i σ H->SqT K H a xs)
  (hs:∀ i x σ H,xs[i]?=some x->Pv i σ H->g x σ H fun σ2 H2=>tb { D with nx:=Pv (i+1),ct:=Pv (i+1),bk:=D.nx } σ2 H2)(hd:∀ σ H,Pv xs.length σ H->D.nx σ H) :
  ∃ W:Nat->Nat->St->Hp->Prop,(∃ m,W 0 m σ H)/\∀ i m σ H,W i m σ H ->
   ((Itt K a).stop i H/\D.nx σ H)\/((Itt K a).go i H/\∃ N:St->Hp->Prop,(∀ σ' H',N σ' H'->∃ m',m'<m/\W (i+1) m' σ' H')/\∀ x H',(Itt K a).yld i H x H'->g x σ H' fun σ2 H2=>tb { D with nx:=N,ct:=N,bk:=D.nx } σ2 H2):=by
 refine⟨fun i m σ H=>m=xs.length - i/\i<=xs.length/\Pv i σ H,⟨xs.length,by simp,Nat.zero_le _,h0⟩,?_⟩
 rintro i m σ H ⟨rfl,hi,p⟩
 have q:=hl i σ H hi p
 by_cases hlt:i<xs.length
 ·refine .inr ⟨⟨xs,xs[i],q,by simp[hlt]⟩,Pv (i+1),fun σ' H' p'=>⟨xs.length - (i+1),by omega,rfl,hlt,p'⟩,fun x H' y=>?_⟩
  obtain⟨e,y⟩:=y
  subst e
  exact hs i x σ _ (y xs q) p
 ·have e:i=xs.length:=by omega
  subst e
  exact .inl ⟨⟨xs,q,Nat.le_refl _⟩,hd σ H p⟩
theorem for_range {lo:Int}{n:Nat}{g:TG}{tb:TS}{D:Ends}{σ:St}{H:Hp}(Pv:Nat->St->Hp->Prop)(h0:Pv 0 σ H)
  (hs:∀ i σ H,i<n->Pv i σ H->g (.int (lo+i)) σ H fun σ2 H2=>tb { D with nx:=Pv (i+1),ct:=Pv (i+1),bk:=D.nx } σ2 H2)(hd:∀ σ H,Pv n σ H->D.nx σ H) :
  ∃ W:Nat->Nat->St->Hp->Prop,(∃ m,W 0 m σ H)/\∀ i m σ H,W i m σ H ->
   ((Itr lo n).stop i H/\D.nx σ H)\/((Itr lo n).go i H/\∃ N:St->Hp->Prop,(∀ σ' H',N σ' H'->∃ m',m'<m/\W (i+1) m' σ' H')/\∀ x H',(Itr lo n).yld i H x H'->g x σ H' fun σ2 H2=>tb { D with nx:=N,ct:=N,bk:=D.nx } σ2 H2):=by
 refine⟨fun i m σ H=>m=n - i/\i<=n/\Pv i σ H,⟨n,by simp,Nat.zero_le _,h0⟩,?_⟩
 rintro i m σ H ⟨rfl,hi,p⟩
 by_cases hlt:i<n
 ·refine .inr ⟨hlt,Pv (i+1),fun σ' H' p'=>⟨n - (i+1),by omega,rfl,hlt,p'⟩,fun x H' y=>?_⟩
  obtain⟨e,y⟩:=y
  subst e y
  exact hs i σ _ hlt p
 ·have e:i=n:=by omega
  subst e
  exact .inl ⟨Nat.le_refl _,hd σ H p⟩
abbrev R2:=V->V->Hp->VK->Prop
def OpR (X:Cx)(f:Value->Value->Sem Value)(r:R2):Prop:=
 ∀ (pins:List (Addr × Obj)) (s:Shared) (σ:St) (H:Hp) (x y:V) (v u:Value) (Q:VK),Inv X pins σ H s->RelV x v->RelV y u->r x y H Q ->
  wpAny (model X.prog X.w) X.A (f v u) (EP X pins σ Q) X.xe s
def UnR (X:Cx)(f:Value->Sem Value)(r:V->Hp->VK->Prop):Prop:=
 ∀ (pins:List (Addr × Obj)) (s:Shared) (σ:St) (H:Hp) (x:V) (v:Value) (Q:VK),Inv X pins σ H s->RelV x v->r x H Q ->
  wpAny (model X.prog X.w) X.A (f v) (EP X pins σ Q) X.xe s
def CallR (X:Cx)(f:Value)(r:List V->Hp->VK->Prop):Prop:=
 ∀ (pins:List (Addr × Obj)) (s:Shared) (σ:St) (H:Hp) (xs:List V) (us:List Value) (Q:VK),Inv X pins σ H s->Vals xs us->r xs H Q ->
  wpAny (model X.prog X.w) X.A (call f us) (EP X pins σ Q) X.xe s
def TruR (X:Cx)(r:V->Hp->(Bool->Hp->Prop)->Prop):Prop:=
 ∀ (pins:List (Addr × Obj)) (s:Shared) (σ:St) (H:Hp) (x:V) (v:Value) (Q:Bool->Hp->Prop),Inv X pins σ H s->RelV x v->r x H Q ->
  wpAny (model X.prog X.w) X.A (truthy v) (TP X pins σ Q) X.xe s
def tOp (r:R2)(ta tb:TE):TE:=fun σ H Q=>ta σ H fun x H1=>tb σ H1 fun y H2=>r x y H2 Q
def tUn (r:V->Hp->VK->Prop)(ta:TE):TE:=fun σ H Q=>ta σ H fun x H1=>r x H1 Q
def rI (C:Int->Int->Prop)(g:Int->Int->V):R2:=fun x y H Q=>∃ i j,x=.int i/\y=.int j/\C i j/\Q (g i j) H
def rI0 (g:Int->Int->V):R2:=fun x y H Q=>∃ i j,x=.int i/\y=.int j/\Q (g i j) H
def rU (g:Int->V):V->Hp->VK->Prop:=fun x H Q=>∃ i,x=.int i/\Q (g i) H
section
variable {X:Cx} {a b c:Expr} {ta tb tc:TE} {pos:Pos}
theorem binT (ha:PE X a ta)(hb:PE X b tb){pins:List (Addr × Obj)}{s:Shared}{σ:St}{H:Hp}{R:V->V->Hp->Prop}(I:Inv X pins σ H s)
  (h:ta σ H fun x H1=>tb σ H1 fun y H2=>R x y H2){Q:Value->Shared->Prop}{f:Value->Value->Sem Value}
  (hf:∀ v u s2 x y H2,Inv X pins σ H2 s2->RelV x v->RelV y u->R x y H2->wpAny (model X.prog X.w) X.A (f v u) Q X.xe s2) :
  wpAny (model X.prog X.w) X.A (eval a X.env) (fun v s₁=>wpAny (model X.prog X.w) X.A (eval b X.env) (fun u s₂=>wpAny (model X.prog X.w) X.A (f v u) Q X.xe s₂) X.xe s₁) X.xe s:=by
 refine thn (ha pins s σ H _ I h) fun v s1 ⟨x,H1,I1,r1,q1⟩=>?_
 refine thn (hb pins s1 σ H1 _ I1 q1) fun u s2 ⟨y,H2,I2,r2,q2⟩=>?_
 exact hf v u s2 x y H2 I2 r1 r2 q2
theorem pe_op {op:Operator}{r:R2}(ho:OpR X (binaryOp op) r)(ha:PE X a ta)(hb:PE X b tb):PE X (.BinOp a op b pos) (tOp r ta tb):=by
 intro pins s σ H Q I h
 exact wpAny_BinOp (binT ha hb I h fun v u s2 x y H2 I2 rx ry q=>ho pins s2 σ H2 x y v u Q I2 rx ry q)
theorem pe_un {op:UnaryOp}{r:V->Hp->VK->Prop}(ho:UnR X (unaryOp op) r)(ha:PE X a ta):PE X (.UnaryOp op a pos) (tUn r ta):=by
 intro pins s σ H Q I h
 exact UnaryOp_ (thn (ha pins s σ H _ I h) fun v s1 ⟨x,H1,I1,r1,q1⟩=>ho pins s1 σ H1 x v Q I1 r1 q1)
theorem opI {f:Value->Value->Sem Value}{C:Int->Int->Prop}{g:Int->Int->Int}
  (rule:∀ (i j:Int) (t u:Tok) (s:Shared) (Q:Value->Shared->Prop) (E:Value->Shared->Prop),C i j->Q (.int (g i j) s.toks) { s with toks:=s.toks+1 }->wpAny (model X.prog X.w) X.A (f (.int i t) (.int j u)) Q E s) :
  OpR X f (rI C fun i j=>.int (g i j)):=by
 intro pins s σ H x y v u Q I rx ry h
 obtain⟨i,j,rfl,rfl,hc,q⟩:=h
 obtain⟨t,rfl⟩:=rx
 obtain⟨t',rfl⟩:=ry
 exact rule i j t t' s _ _ hc ⟨.int (g i j),H,I.tok _,⟨_,rfl⟩,q⟩
theorem opI0 {f:Value->Value->Sem Value}{g:Int->Int->Int}
  (rule:∀ (i j:Int) (t u:Tok) (s:Shared) (Q:Value->Shared->Prop) (E:Value->Shared->Prop),Q (.int (g i j) s.toks) { s with toks:=s.toks+1 }->wpAny (model X.prog X.w) X.A (f (.int i t) (.int j u)) Q E s) :
  OpR X f (rI0 fun i j=>.int (g i j)):=by
 intro pins s σ H x y v u Q I rx ry h
 obtain⟨i,j,rfl,rfl,q⟩:=h
 obtain⟨t,rfl⟩:=rx
 obtain⟨t',rfl⟩:=ry
 exact rule i j t t' s _ _ ⟨.int (g i j),H,I.tok _,⟨_,rfl⟩,q⟩
theorem opB0 {f:Value->Value->Sem Value}{g:Int->Int->Bool}
  (rule:∀ (i j:Int) (t u:Tok) (s:Shared) (Q:Value->Shared->Prop) (E:Value->Shared->Prop),Q (.bool (g i j)) s->wpAny (model X.prog X.w) X.A (f (.int i t) (.int j u)) Q E s) :
  OpR X f (rI0 fun i j=>.bl (g i j)):=by
 intro pins s σ H x y v u Q I rx ry h
 obtain⟨i,j,rfl,rfl,q⟩:=h
 obtain⟨t,rfl⟩:=rx
 obtain⟨t',rfl⟩:=ry
 exact rule i j t t' s _ _ ⟨.bl (g i j),H,I,rfl,q⟩
def CDiv (i j:Int):Prop:=0<j/\j<1073741824
def CPow (i j:Int):Prop:=0<=j/\j<=1000000/\i.natAbs<2 ^ 64
def CMul (i j:Int):Prop:=(-(2 ^ 64)<i/\i<2 ^ 64)\/(-(2 ^ 64)<j/\j<2 ^ 64)
theorem CMul.ok {i j:Int}(h:CMul i j):IntMulOk i j:=by
 rcases h with⟨h1,h2⟩ | ⟨h1,h2⟩
 ·exact .of_left (intBits_le_64 h1 h2)
 ·exact .of_right (intBits_le_64 h1 h2)
theorem op_add:OpR X (binaryOp .Add) (rI0 fun i j=>.int (i+j)):=opI0 fun _ _ _ _ _ _ _ q=>add_int q
theorem op_sub:OpR X (binaryOp .Sub) (rI0 fun i j=>.int (i - j)):=opI0 fun _ _ _ _ _ _ _ q=>sub_int q
theorem op_mul:OpR X (binaryOp .Mult) (rI CMul fun i j=>.int (i*j)):=opI fun _ _ _ _ _ _ _ hc q=>mul_int q hc.ok
theorem op_fdiv:OpR X (binaryOp .FloorDiv) (rI CDiv fun i j=>.int (i / j)):=opI fun i j _ _ _ _ _ hc q=>by
 have h1:(0:Int)<j:=hc.1
 have h2:j<1073741824:=hc.2
 exact floordiv_int (by omega) (by rw[Int.fdiv_eq_ediv_of_nonneg i (by omega)];exact q) (.inl (PyProof.noPylong_small (by omega)))
theorem op_mod:OpR X (binaryOp .Mod) (rI (fun _ j=>0<j) fun i j=>.int (i % j)):=opI fun i j _ _ _ _ _ hc q=>by
 have h1:(0:Int)<j:=hc
 exact mod_int' (by omega) (by rw[Int.fmod_eq_emod_of_nonneg i (by omega)];exact q)
theorem op_pow:OpR X (binaryOp .Pow) (rI CPow fun i j=>.int (i ^ j.toNat)):=opI fun _ _ _ _ _ _ _ hc q=>pow_int_small hc.1 hc.2.1 hc.2.2 q
theorem unI {f:Value->Sem Value}{g:Int->Int}
  (rule:∀ (i:Int) (t:Tok) (s:Shared) (Q:Value->Shared->Prop) (E:Value->Shared->Prop),Q (.int (g i) s.toks) { s with toks:=s.toks+1 }->wpAny (model X.prog X.w) X.A (f (.int i t)) Q E s) :
  UnR X f (rU fun i=>.int (g i)):=by
 intro pins s σ H x v Q I rx h
 obtain⟨i,rfl,q⟩:=h
 obtain⟨t,rfl⟩:=rx
 exact rule i t s _ _ ⟨.int (g i),H,I.tok _,⟨_,rfl⟩,q⟩
theorem un_neg:UnR X (unaryOp .USub) (rU fun i=>.int (-i)):=unI fun _ _ _ _ _ q=>neg_int q
end
def scal:V->V->Bool
 | .non,.non=>true | .non,.int _=>true | .int _,.non=>true | .non,.bl _=>true | .bl _,.non=>true | .non,.str _=>true | .str _,.non=>true
 | .int _,.int _=>true | .bl _,.bl _=>true | .str _,.str _=>true | .byt _,.byt _=>true
 | .int _,.str _=>true | .str _,.int _=>true | .bl _,.str _=>true | .str _,.bl _=>true
 | _,_=>false
def rEq:R2:=fun x y H Q=>scal x y=true/\Q (.bl (decide (x=y))) H
def rNe:R2:=fun x y H Q=>scal x y=true/\Q (.bl (!decide (x=y))) H
theorem dec_int {i j:Int}:decide (V.int i=V.int j)=(i == j):=by
 rw[Bool.eq_iff_iff]
 simp
theorem dec_bl {i j:Bool}:decide (V.bl i=V.bl j)=(i == j):=by
 rw[Bool.eq_iff_iff]
 simp
theorem dec_str {i j:Str}:decide (V.str i=V.str j)=(i == j):=by
 rw[Bool.eq_iff_iff]
 simp
theorem dec_byt {i j:Array UInt8}:decide (V.byt i=V.byt j)=(i.toList == j.toList):=by
 rw[Bool.eq_iff_iff]
 cases i
 cases j
 simp
section
variable {X:Cx} {a b c:Expr} {ta tb tc:TE} {pos:Pos}
theorem fin_bl {pins:List (Addr × Obj)}{σ:St}{H:Hp}{s:Shared}{Q:VK}{k k':Bool}(I:Inv X pins σ H s)(q:Q (.bl k) H)(e:k=k'):EP X pins σ Q (.bool k') s:=by
 subst e
 exact⟨.bl k,H,I,rfl,q⟩
theorem op_eq:OpR X (compareOp .Eq) rEq:=by
 intro pins s σ H x y v u Q I rx ry h
 obtain⟨hs,q⟩:=h
 cases x with
 | non =>
  cases rx
  cases y with
  | non=>cases ry;exact PySem.EqNone.eq_none_none (fin_bl I q (by simp))
  | bl j=>cases ry;exact PySem.EqNone.eq_none_bool (fin_bl I q (by simp))
  | int j=>obtain⟨t',rfl⟩:=ry;exact PySem.EqNone.eq_none_int (fin_bl I q (by simp))
  | str j=>obtain⟨t',rfl⟩:=ry;exact PySem.EqNone.eq_none_str (fin_bl I q (by simp))
  | _=>exact absurd (show false=true from hs) Bool.false_ne_true
 | bl i =>
  cases rx
  cases y with
  | non=>cases ry;exact PySem.EqNone.eq_bool_none (fin_bl I q (by simp))
  | bl j=>cases ry;exact eq_bool (fin_bl I q dec_bl)
  | str j=>obtain⟨t',rfl⟩:=ry;exact PySem.EqMixed.eq_bool_str (fin_bl I q (by simp))
  | _=>exact absurd (show false=true from hs) Bool.false_ne_true
 | int i =>
  obtain⟨t,rfl⟩:=rx
  cases y with
  | non=>cases ry;exact PySem.EqNone.eq_int_none (fin_bl I q (by simp))
  | int j=>obtain⟨t',rfl⟩:=ry;exact eq_int (fin_bl I q dec_int)
  | str j=>obtain⟨t',rfl⟩:=ry;exact PySem.EqMixed.eq_int_str (fin_bl I q (by simp))
  | _=>exact absurd (show false=true from hs) Bool.false_ne_true
 | str i =>
  obtain⟨t,rfl⟩:=rx
  cases y with
  | non=>cases ry;exact PySem.EqNone.eq_str_none (fin_bl I q (by simp))
  | bl j=>cases ry;exact PySem.EqMixed.eq_str_bool (fin_bl I q (by simp))
  | int j=>obtain⟨t',rfl⟩:=ry;exact PySem.EqMixed.eq_str_int (fin_bl I q (by simp))
  | str j=>obtain⟨t',rfl⟩:=ry;exact eq_str (fin_bl I q dec_str)
  | _=>exact absurd (show false=true from hs) Bool.false_ne_true
 | byt i =>
  obtain⟨t,rfl⟩:=rx
  cases y with
  | byt j=>obtain⟨t',rfl⟩:=ry;exact PySem.W.eq_bytes (fin_bl I q dec_byt)
  | _=>exact absurd (show false=true from hs) Bool.false_ne_true
 | _=>cases y<;>exact absurd (show false=true from hs) Bool.false_ne_true
theorem op_ne:OpR X (compareOp .NotEq) rNe:=by
 intro pins s σ H x y v u Q I rx ry h
 obtain⟨hs,q⟩:=h
 cases x with
 | non =>
  cases rx
  cases y with
  | non=>cases ry;exact PySem.EqNone.ne_none_none (fin_bl I q (by simp))
  | bl j=>cases ry;exact PySem.EqNone.ne_none_bool (fin_bl I q (by simp))
  | int j=>obtain⟨t',rfl⟩:=ry;exact PySem.EqNone.ne_none_int (fin_bl I q (by simp))
  | str j=>obtain⟨t',rfl⟩:=ry;exact PySem.EqNone.ne_none_str (fin_bl I q (by simp))
  | _=>exact absurd (show false=true from hs) Bool.false_ne_true
 | bl i =>
  cases rx
  cases y with
  | non=>cases ry;exact PySem.EqNone.ne_bool_none (fin_bl I q (by simp))
  | bl j=>cases ry;exact ne_bool (fin_bl I q (congrArg not dec_bl))
  | str j=>obtain⟨t',rfl⟩:=ry;exact PySem.EqMixed.ne_bool_str (fin_bl I q (by simp))
  | _=>exact absurd (show false=true from hs) Bool.false_ne_true
 | int i =>
  obtain⟨t,rfl⟩:=rx
  cases y with
  | non=>cases ry;exact PySem.EqNone.ne_int_none (fin_bl I q (by simp))
  | int j=>obtain⟨t',rfl⟩:=ry;exact ne_int (fin_bl I q (congrArg not dec_int))
  | str j=>obtain⟨t',rfl⟩:=ry;exact PySem.EqMixed.ne_int_str (fin_bl I q (by simp))
  | _=>exact absurd (show false=true from hs) Bool.false_ne_true
 | str i =>
  obtain⟨t,rfl⟩:=rx
  cases y with
  | non=>cases ry;exact PySem.EqNone.ne_str_none (fin_bl I q (by simp))
  | bl j=>cases ry;exact PySem.EqMixed.ne_str_bool (fin_bl I q (by simp))
  | int j=>obtain⟨t',rfl⟩:=ry;exact PySem.EqMixed.ne_str_int (fin_bl I q (by simp))
  | str j=>obtain⟨t',rfl⟩:=ry;exact ne_str (fin_bl I q (congrArg not dec_str))
  | _=>exact absurd (show false=true from hs) Bool.false_ne_true
 | byt i =>
  obtain⟨t,rfl⟩:=rx
  cases y with
  | byt j=>obtain⟨t',rfl⟩:=ry;exact PySem.W.ne_bytes (fin_bl I q (congrArg not dec_byt))
  | _=>exact absurd (show false=true from hs) Bool.false_ne_true
 | _=>cases y<;>exact absurd (show false=true from hs) Bool.false_ne_true
theorem op_lt:OpR X (compareOp .Lt) (rI0 fun i j=>.bl (decide (i<j))):=opB0 fun _ _ _ _ _ _ _ q=>lt_int q
theorem op_le:OpR X (compareOp .LtE) (rI0 fun i j=>.bl (decide (i<=j))):=opB0 fun _ _ _ _ _ _ _ q=>le_int q
theorem op_gt:OpR X (compareOp .Gt) (rI0 fun i j=>.bl (decide (j<i))):=opB0 fun _ _ _ _ _ _ _ q=>gt_int q
theorem op_notN:OpR X (compareOp .IsNot) (fun x y H Q=>y=.non/\Q (.bl (!decide (x=.non))) H):=by
 intro pins s σ H x y v u Q I rx ry h
 obtain⟨rfl,q⟩:=h
 cases ry
 refine isnot_none_gen (fin_bl I q ?_)
 cases x<;>first
  | (cases rx;rfl)
  | (obtain⟨t,rfl⟩:=rx;rfl)
theorem nomark (b:Expr){op:CmpOp}(h:op≠.In:=by decide)(h2:op≠.NotIn:=by decide):behindInMarks op b=false:=by
 have e1:(op == CmpOp.In)=false:=by cases op<;>first | rfl | exact absurd rfl h
 have e2:(op == CmpOp.NotIn)=false:=by cases op<;>first | rfl | exact absurd rfl h2
 cases b<;>simp[behindInMarks,e1,e2]
theorem pe_cmpR {op:CmpOp}{r:R2}(ho:OpR X (compareOp op) r)(ha:PE X a ta)(hb:PE X b tb)(hm:behindInMarks op b=false):PE X (.Compare a [op] [b] pos) (tOp r ta tb):=by
 intro pins s σ H Q I h
 exact wpAny_Compare1 (binT ha hb I h fun v u s2 x y H2 I2 rx ry q=>ho pins s2 σ H2 x y v u Q I2 rx ry q) hm
def tTest (t:TE):TT:=fun σ H Q=>t σ H fun x H'=>∃ k,x=.bl k/\Q k H'
theorem pt_cmpR {op:CmpOp}{r:R2}(ho:OpR X (compareOp op) r)(ha:PE X a ta)(hb:PE X b tb)(hm:behindInMarks op b=false):PT X (.Compare a [op] [b] pos) (tTest (tOp r ta tb)):=by
 intro pins s σ H Q I h
 refine wpAny_isTrue_Compare1 (thn (ha pins s σ H _ I h) fun v s1 ⟨x,H1,I1,r1,q1⟩=>thn (hb pins s1 σ H1 _ I1 q1) fun u s2 ⟨y,H2,I2,r2,q2⟩ =>
  thn (ho pins s2 σ H2 x y v u _ I2 r1 r2 q2) fun c s3 ⟨z,H3,I3,r3,k,e,q3⟩=>?_) hm
 subst e
 cases r3
 exact wpAny_truthy_bool ⟨H3,I3,q3⟩
def tChain (r r':R2)(ta tb tc:TE):TE:=fun σ H Q=>ta σ H fun x H1=>tb σ H1 fun y H2=>r x y H2 fun z H3=>∃ k,z=.bl k /\
 (if k=true then tc σ H3 fun w' H4=>r' y w' H4 Q else Q (.bl false) H3)
theorem pe_chain {op op':CmpOp}{r r':R2}(ho:OpR X (compareOp op) r)(ho':OpR X (compareOp op') r')(ha:PE X a ta)(hb:PE X b tb)(hc:PE X c tc)
  (hm:lastMarks [op,op'] [b,c]=false:=by with_unfolding_all rfl):PE X (.Compare a [op,op'] [b,c] pos) (tChain r r' ta tb tc):=by
 intro pins s σ H Q I h
 refine Compare_chain (thn (ha pins s σ H _ I h) fun v s1 ⟨x,H1,I1,r1,q1⟩=>chain_link (thn (hb pins s1 σ H1 _ I1 q1) fun u s2 ⟨y,H2,I2,r2,q2⟩ =>
  thn (ho pins s2 σ H2 x y v u _ I2 r1 r2 q2) fun d s3 ⟨z,H3,I3,r3,k,e,q3⟩=>?_)) hm
 subst e
 cases r3
 refine wpAny_truthy_bool ?_
 cases k with
 | false=>exact ite_ff ⟨.bl false,H3,I3,rfl,q3⟩
 | true=>exact ite_tt (chain_last (thn (hc pins s3 σ H3 _ I3 q3) fun w' s4 ⟨z',H4,I4,r4,q4⟩=>ho' pins s4 σ H4 y z' u w' Q I4 r2 r4 q4))
theorem pt_chain {op op':CmpOp}{r r':R2}(ho:OpR X (compareOp op) r)(ho':OpR X (compareOp op') r')(ha:PE X a ta)(hb:PE X b tb)(hc:PE X c tc)
  (hm:lastMarks [op,op'] [b,c]=false:=by with_unfolding_all rfl):PT X (.Compare a [op,op'] [b,c] pos) (tTest (tChain r r' ta tb tc)):=by
 intro pins s σ H Q I h
 refine isTrue_chain (thn (ha pins s σ H _ I h) fun v s1 ⟨x,H1,I1,r1,q1⟩=>test_link (thn (hb pins s1 σ H1 _ I1 q1) fun u s2 ⟨y,H2,I2,r2,q2⟩ =>
  thn (ho pins s2 σ H2 x y v u _ I2 r1 r2 q2) fun d s3 ⟨z,H3,I3,r3,k,e,q3⟩=>?_)) hm
 subst e
 cases r3
 refine wpAny_truthy_bool ?_
 cases k with
 | false =>
  obtain⟨k',e',q'⟩:=q3
  cases e'
  exact ite_ff ⟨H3,I3,q'⟩
 | true =>
  refine ite_tt (test_last (thn (hc pins s3 σ H3 _ I3 q3) fun w' s4 ⟨z',H4,I4,r4,q4⟩=>thn (ho' pins s4 σ H4 y z' u w' _ I4 r2 r4 q4) fun d' s5 ⟨z2,H5,I5,r5,k2,e2,q5⟩=>?_))
  subst e2
  cases r5
  exact wpAny_truthy_bool ⟨H5,I5,q5⟩
def TruV (K:W.Frag)(x:V)(H:Hp)(k:Bool):Prop:=
 match x with
 | .non=>k=false
 | .bl b=>k=b
 | .int i=>k=(i != 0)
 | .str y=>y.length<=sizeLine/\k=((y.length:Int) != 0)
 | .byt y=>y.size<=sizeLine/\k=((y.size:Int) != 0)
 | .ref p=>(∃ xs,SqL K H p xs/\k=!xs.isEmpty)\/(∃ xs,SqT K H p xs/\k=!xs.isEmpty)\/∃ kvs,H p=some (.dK kvs)/\k=!kvs.isEmpty
 | _=>False
theorem isEmpty_kv {κ:Type}{kvs:List (κ × V)}{vs:List (κ × Value)}(r:KV kvs vs):(!vs.isEmpty)=!kvs.isEmpty:=by
 cases r<;>rfl
theorem isEmpty_of {xs:List V}{its:List Value}(r:Vals xs its):(!its.toArray.isEmpty)=!xs.isEmpty:=by
 cases r<;>simp
theorem line63:(sizeLine:Nat)<2 ^ 63:=by rw[sizeLine_eq];decide
theorem tru_ok:TruR X (fun x H Q=>∃ k,TruV X.K x H k/\Q k H):=by
 intro pins s σ H x v Q I rx h
 obtain⟨k,e,q⟩:=h
 have hl:=line63
 have hs:sizeLine=16777216:=sizeLine_eq
 cases x with
 | non =>
  cases rx
  have e':k=false:=e
  subst e'
  exact truthy_none ⟨H,I,q⟩
 | bl b =>
  cases rx
  have e':k=b:=e
  subst e'
  exact wpAny_truthy_bool ⟨H,I,q⟩
 | int i =>
  obtain⟨t,rfl⟩:=rx
  have e':k=(i != 0):=e
  subst e'
  exact PySem.P.truthy_int ⟨H,I,q⟩
 | str y =>
  obtain⟨t,rfl⟩:=rx
  obtain⟨hy,e'⟩:y.length<=sizeLine/\k=((y.length:Int) != 0):=e
  subst e'
  exact PySem.P.truthy_str (by omega) ⟨H,I.tok _,q⟩
 | byt y =>
  obtain⟨t,rfl⟩:=rx
  obtain⟨hy,e'⟩:y.size<=sizeLine/\k=((y.size:Int) != 0):=e
  subst e'
  exact PySem.W.truthy_bytes (by omega) ⟨H,I.tok _,q⟩
 | ref p =>
  cases rx
  have e':(∃ xs,SqL X.K H p xs/\k=!xs.isEmpty)\/(∃ xs,SqT X.K H p xs/\k=!xs.isEmpty)\/∃ kvs,H p=some (.dK kvs)/\k=!kvs.isEmpty:=e
  rcases e' with⟨xs,hx,e'⟩ | ⟨xs,hx,e'⟩ | ⟨kvs,hx,e'⟩
  ·subst e'
   obtain⟨its,r,pl,hz⟩:=I.list hx
   have hlen:=r.length
   exact wpAny_truthy_list pl.isList (by simp only[List.size_toArray];omega) ⟨H,I.tok _,by rw[isEmpty_of r];exact q⟩
  ·subst e'
   obtain⟨its,r,pl,hz⟩:=I.tuple hx
   have hlen:=r.length
   exact truthy_tuple pl (by simp only[List.size_toArray];omega) ⟨H,I.tok _,by rw[isEmpty_of r];exact q⟩
  ·subst e'
   obtain⟨hz,hS,vs,r,m⟩:kvs.length<=sizeLine/\(p == sysModules)=false/\∃ vs,KV kvs vs/\s.heap.DictOf (mixKind X.prog X.w) p vs:=I.hok p _ hx
   have hlen:kvs.length=vs.length:=Paired.length r
   exact wpAny_truthy_dict hS m (by omega) ⟨H,I.tok _,by rw[isEmpty_kv r];exact q⟩
 | _=>exact(show False from e).elim
theorem pt_truth (ha:PE X a ta)(he:∀ whole,isTrue a X.env whole=(do let v <- whole;standAt a.pos;holding [v] (truthy v))) :
  PT X a (fun σ H Q=>ta σ H fun x H'=>∃ k,TruV X.K x H' k/\Q k H'):=by
 intro pins s σ H Q I h
 exact isTrue_plain (thn (ha pins s σ H _ I h) fun v s1 ⟨x,H1,I1,r1,q1⟩=>tru_ok pins s1 σ H1 x v Q I1 r1 q1) (he _)
theorem vals1 {x:V}{us:List Value}(r:Vals [x] us):∃ u,us=[u]/\RelV x u:=by
 cases r with
 | cons r1 r2=>cases r2;exact⟨_,rfl,r1⟩
theorem vals2 {x y:V}{us:List Value}(r:Vals [x,y] us):∃ u w',us=[u,w']/\RelV x u/\RelV y w':=by
 cases r with
 | cons r1 r2 =>
  cases r2 with
  | cons r3 r4=>cases r4;exact⟨_,_,rfl,r1,r3⟩
theorem call_max2 (hc:X.calm=true):CallR X (.builtin "max") (fun xs H Q=>∃ i j,xs=[.int i,.int j]/\Q (.int (if j > i then j else i)) H):=by
 intro pins s σ H xs us Q I r h
 obtain⟨i,j,rfl,q⟩:=h
 obtain⟨u,w',rfl,⟨t,rfl⟩,⟨t',rfl⟩⟩:=vals2 r
 refine max_two_ints (I.ok.hd hc) fun h' tk k=>⟨_,H,I.kept k,?_,q⟩
 by_cases hj:j > i
 ·rw[if_pos hj,if_pos hj];exact⟨_,rfl⟩
 ·rw[if_neg hj,if_neg hj];exact⟨_,rfl⟩
theorem call_min2 (hc:X.calm=true):CallR X (.builtin "min") (fun xs H Q=>∃ i j,xs=[.int i,.int j]/\Q (.int (if j<i then j else i)) H):=by
 intro pins s σ H xs us Q I r h
 obtain⟨i,j,rfl,q⟩:=h
 obtain⟨u,w',rfl,⟨t,rfl⟩,⟨t',rfl⟩⟩:=vals2 r
 refine min_two_ints (I.ok.hd hc) fun h' tk k=>⟨_,H,I.kept k,?_,q⟩
 by_cases hj:j<i
 ·rw[if_pos hj,if_pos hj];exact⟨_,rfl⟩
 ·rw[if_neg hj,if_neg hj];exact⟨_,rfl⟩
end
structure ObjM (h:Heap) (x dx C:Addr) (mA:Str->Option Value):Prop where
 obj:h.get? x=some (PySem.W.instObj C dx)
 ns:h.Ns1 dx mA
 ne:dx≠x
section
variable {prog:Program} {w:World} {A:Around} {E:Value->Shared->Prop} {s:Shared} {K:W.Frag} {x dx C f:Addr} {mA:Str->Option Value} {name:Str} {v:Value}
end
theorem RelO.some_of {v:V}{o:Option Value}(r:RelO (some v) o):∃ u,o=some u/\RelV v u:=by
 cases o with
 | none=>exact(show False from r).elim
 | some u=>exact⟨u,rfl,r⟩
section
variable {P:Program} {w:World} {H H':Hp} {h h':Heap} {a C dx:Addr} {fs fs':List (Str × V)}
end
structure Cls (K:W.Frag) (C:Addr):Prop where
 pg:PySem.W.plainGet K C Str.empty=true
 hd:PySem.W.hasDictIn K C=true
 po:PySem.W.plainOver K C=true
 sa:PySem.W.findIn K (.ref C) "__setattr__"=some (some (.builtin "object.__setattr__"))
structure Con (K:W.Frag) (C:Addr) (f:Str) (v:V) (u:Value):Prop where
 at_:PySem.W.findIn K (.ref C) f=some (some u)
 rel:RelV v u
 get:PySem.W.specialIn K u "__get__"=some none
 cp:PySem.W.copiedNames.contains f=false
structure Meth (K:W.Frag) (C:Addr) (m:Str) (f:Addr):Prop where
 at_:PySem.W.findIn K (.ref C) m=some (some (.ref f))
 fn:PySem.W.isFn K (.ref f)=true
 kp:PySem.W.keepIn K (.ref f)=true
section
variable {X:Cx} {pins:List (Addr × Obj)} {σ:St} {H:Hp} {s:Shared} {a C dx:Addr} {fs:List (Str × V)} {f:Str} {v:V} {A:Around} {E:Value->Shared->Prop}
end
section
variable {X:Cx} {o e value:Expr} {f:Str} {pos pos' tpos:Pos} {ta tv:TE}
end
section
variable {X:Cx} {pins:List (Addr × Obj)} {σ:St} {H:Hp} {s:Shared} {A:Around} {E:Value->Shared->Prop} {Q:Value->Shared->Prop} {c:Value} {b:Bool}
inductive TyOf (K:W.Frag) (H:Hp):V->Value->Prop where
 | non:TyOf K H .non (.type "NoneType")
 | bl (x:Bool):TyOf K H (.bl x) (.type "bool")
 | int (i:Int):TyOf K H (.int i) (.type "int")
 | str (x:Str):TyOf K H (.str x) (.type "str")
 | flt (x:UInt64):TyOf K H (.flt x) (.type "float")
 | lst {a:Addr} {xs:List V} (e:H a=some (.lst xs)):TyOf K H (.ref a) (.type "list")
 | frz {a:Addr} {o:Obj} {xs:List V} (e:H a=some (.frz o (.lst xs))):TyOf K H (.ref a) (.type "list")
 | tup {a:Addr} {xs:List V} (e:H a=some (.tup xs)):TyOf K H (.ref a) (.type "tuple")
 | dK {a:Addr} {kvs:List (Key × V)} (e:H a=some (.dK kvs)):TyOf K H (.ref a) (.type "dict")
 | dT {a:Addr} {kvs:List (List Key × V)} (e:H a=some (.dT kvs)):TyOf K H (.ref a) (.type "dict")
 | ins {a C dx:Addr} {fs:List (Str × V)} (e:H a=some (.ins C dx fs)) (cl:Cls K C) (ha:PySem.W.findIn K (.ref C) "__class__"=some (some (.builtin "object.__class__")))
   (hn:PySem.W.specialIn K (.builtin "object.__class__") "__get__"=some (some (.builtin "getset_descriptor.__get__"))) (htk:PySem.W.takesIn K (.builtin "object.__class__")=some true)
   (hm:PySem.W.mroIn K C (.type "object")=some true):TyOf K H (.ref a) (.ref C)
end
structure Room (k:Nat) (A:Around):Prop where
 hd:A.handled=none
 dp:A.depth+3*k+5<recursionLimit
 un:A.units+16*k+200<cLine
theorem Room.mono {j k:Nat}{A:Around}(r:Room k A)(h:j<=k):Room j A:=⟨r.hd,by have:=r.dp;omega,by have:=r.un;omega⟩
theorem Room.deeper {k:Nat}{A:Around}(r:Room (k+1) A)(env:Env):Room k (A.deeper env):=
 ⟨r.hd,by have:=r.dp;show A.depth+1+3*k+5<_;omega,by have:=r.un;show A.units+3+16*k+200<_;omega⟩
theorem Room.depth {k:Nat}{A:Around}(r:Room k A):A.depth<recursionLimit:=by have:=r.dp;omega
theorem Room.units {k:Nat}{A:Around}(r:Room k A):A.units+64<cLine:=by have:=r.un;omega
def tNil:TA:=fun _ H Q=>Q [] H
def tCons (ta:TE)(tr:TA):TA:=fun σ H Q=>ta σ H fun x H1=>tr σ H1 fun xs H2=>Q (x::xs) H2
section
variable {X:Cx} {e:Expr} {es:List Expr} {te:TE} {t:TA} {pos:Pos}
theorem pa_nil:PA X [] tNil:=fun _ _ _ _ H Q I h=>Calls.spliced_nil ⟨[],H,I,.nil,h⟩
theorem pa_cons (ha:PE X e te)(hr:PA X es t)(hs:starEach (e::es) X.env=(false,eval e X.env)::starEach es X.env:=by rfl):PA X (e::es) (tCons te t):=by
 intro pos pins s σ H Q I h
 rw[hs]
 show wpAny _ _ (spliced ((false,eval e X.env)::backTo pos (starEach es X.env))) _ _ s
 refine Calls.spliced_cons (thn (ha pins s σ H _ I h) fun u s1 ⟨x,H1,I1,r1,q1⟩=>?_)
 exact thn (hr pos pins s1 σ H1 _ I1 q1) fun us s2 ⟨xs,H2,I2,r2,q2⟩=>⟨x::xs,H2,I2,.cons r1 r2,q2⟩
def tTup (t:TA):TE:=fun σ H Q=>t σ H fun xs H1=>xs.length<=sizeLine/\∀ p,H1 p=none->Q (.ref p) (upd H1 p (.tup xs))
def tLst (t:TA):TE:=fun σ H Q=>t σ H fun xs H1=>xs.length<=sizeLine/\∀ p,H1 p=none->Q (.ref p) (upd H1 p (.lst xs))
theorem pe_tup {x1}(h:PA X es t):PE X (.Tuple es x1 pos) (tTup t):=by
 intro pins s σ H Q I hq
 refine wpAny_Tuple_spliced (thn (h pos pins s σ H _ I hq) fun us s1 ⟨xs,H1,I1,r,z,q⟩=>⟨by rw[<- r.length];exact z,?_⟩)
 have hf:H1 s1.heap.objs.size=none:=I1.hok.fresh (Nat.le_refl _)
 refine⟨.ref s1.heap.objs.size,upd H1 s1.heap.objs.size (.tup xs),I1.laid (t':=s1.toks) (fun b u e=>Heap.get?_push_of_some _ e) (Nat.le_refl _) ?_,rfl,q _ hf⟩
 exact⟨z,us,r,⟨_,Heap.get?_push_size _ rfl,rfl,_,rfl⟩⟩
theorem pe_lst (h:PA X es t):PE X (.List es pos) (tLst t):=by
 intro pins s σ H Q I hq
 refine wpAny_List_spliced (thn (h pos pins s σ H _ I hq) fun us s1 ⟨xs,H1,I1,r,z,q⟩=>⟨by rw[<- r.length];exact z,?_⟩)
 have hf:H1 s1.heap.objs.size=none:=I1.hok.fresh (Nat.le_refl _)
 refine⟨.ref s1.heap.objs.size,upd H1 s1.heap.objs.size (.lst xs),I1.laid (t':=s1.toks) (fun b u e=>Heap.get?_push_of_some _ e) (Nat.le_refl _) ?_,rfl,q _ hf⟩
 exact⟨z,us,0,r,Heap.get?_push_size _ rfl⟩
end
abbrev Sp:=List V->Hp->VK->XK->Prop
abbrev CXT:=List Env->Hp->Shared->XK->Value->Shared->Prop
structure Env0 (P:Program) (w:World) (K:W.Frag) (mg:Str->Option Value) (base:Heap) (A:Around) (outer:List Env) (s:Shared) (H:Hp):Prop where
 frames:A.frames=some outer
 mod:Mod K mg base
 bs:∀ b o,base.get? b=some o->s.heap.get? b=some o/\H b=none
 bsz:base.objs.size<=s.heap.objs.size
 funs:s.heap.FunFrames base outer
 frf:∀ b∈frs outer,H b=none
 hok:HOk P w H s.heap
 bare:AllBare s.gens
def CE (outer:List Env)(P:Program)(w:World)(H:Hp)(s:Shared)(Q:VK)(u:Value)(s':Shared):Prop:=
 ∃ v H',s'.os=s.os/\AllBare s'.gens/\Un (frs outer) [] H H' s.heap s'.heap/\HOk P w H' s'.heap/\RelV v u/\Q v H'
def CR (CX:CXT)(outer:List Env)(P:Program)(w:World)(H:Hp)(s:Shared)(Q:VK)(E:XK)(r:Result)(s':Shared):Prop:=
 match r with
 | .ok (.ret u)=>CE outer P w H s Q u s'
 | .ok _=>False
 | .error e=>CX outer H s E e s'
structure FnOk (P:Program) (w:World) (K:W.Frag) (mg:Str->Option Value) (base:Heap) (CX:CXT) (k:Nat) (f:Addr) (fd:FuncData) (ps:List Str) (sp:Sp):Prop where
 len:∀ vs H Q E,sp vs H Q E->vs.length=ps.length
 run:∀ (A:Around) (outer:List Env) (s:Shared) (H:Hp) (args:Args) (us:List Value) (vs:List V) (Q:VK) (E:XK),Room k A->Env0 P w K mg base A outer s H->BindsTo s fd args (ps.zip us)->Vals vs us->sp vs H Q E ->
  codeAny (model P w) A (.call (.ref f) args) (CR CX outer P w H s Q E) s
theorem FnOk.mono {P:Program}{w:World}{K:W.Frag}{mg:Str->Option Value}{base:Heap}{CX:CXT}{j k:Nat}{f:Addr}{fd:FuncData}{ps:List Str}{sp:Sp}(F:FnOk P w K mg base CX j f fd ps sp)(h:j<=k) :
  FnOk P w K mg base CX k f fd ps sp:=⟨F.len,fun A outer s H args us vs Q E hr=>F.run A outer s H args us vs Q E (hr.mono h)⟩
section
variable {X:Cx} {pins:List (Addr × Obj)} {σ:St} {H:Hp} {s s':Shared}
theorem Inv.env0 (I:Inv X pins σ H s):Env0 X.prog X.w X.K X.mg X.base X.A X.stack s H:=
 ⟨I.ok.frames,I.ok.mod,I.bs,Nat.le_trans I.ok.bsz I.sz,I.stack,I.stkFree,I.hok,I.bare⟩
theorem Inv.after {Q:VK}{u:Value}(I:Inv X pins σ H s)(h:CE X.stack X.prog X.w H s Q u s'):EP X pins σ Q u s':=by
 obtain⟨v,H',os,bare,un,hok,r,q⟩:=h
 obtain⟨hh,g,d,t,os'⟩:=s'
 obtain rfl:os'=s.os:=os
 exact⟨v,H',I.call (h':=hh) (g':=g) (d':=d) (t':=t) (ch:=[]) un hok bare (fun b z=>absurd z (by simp)),r,q⟩
end
def tCall (sp:Sp)(dvs:List V)(E:XK)(t:TA):TE:=fun σ H Q=>t σ H fun vs H1=>sp (vs++dvs) H1 Q E
def Binds (K:W.Frag)(fd:FuncData)(ps:List Str)(ds:List Value):Prop:=
 ∀ (s:Shared) (us:List Value),K.In s.heap->(us++ds).length=ps.length->BindsTo s fd ⟨us,[]⟩ (ps.zip (us++ds))
theorem Binds.all {K:W.Frag}{fd:FuncData}{ps:List Str}(h:∀ us:List Value,us.length=ps.length->bindArgs fd ⟨us,[]⟩=pure (ps.zip us)):Binds K fd ps []:=fun s us _ hl=>by
 rw[List.append_nil]at hl ⊢
 exact .of_eq (h us hl)
def Passes (CX:CXT)(X:Cx)(E:XK):Prop:=∀ (pins:List (Addr × Obj)) (σ:St) (H:Hp) (s:Shared) (e:Value) (s':Shared),Inv X pins σ H s->CX X.stack H s E e s'->X.xe e s'
section
variable {X:Cx} {CX:CXT} {k:Nat} {f C:Addr} {fd:FuncData} {ps:List Str} {sp:Sp} {dvs:List V} {ds:List Value} {E:XK} {x m:Str} {p pos apos:Pos} {e o:Expr} {es:List Expr} {ta:TE} {t:TA}
theorem run_fn {pins:List (Addr × Obj)}{σ:St}{H:Hp}{s:Shared}{Q:VK}{us:List Value}{vs:List V}(F:FnOk X.prog X.w X.K X.mg X.base CX k f fd ps sp)(hr:Room k X.A)(hb:Binds X.K fd ps ds)(hd:Vals dvs ds)(hx:Passes CX X E)
  (I:Inv X pins σ H s)(r:Vals vs us)(h:sp (vs++dvs) H Q E):wpAny (model X.prog X.w) X.A (call (.ref f) us) (EP X pins σ Q) X.xe s:=by
 have r2:Vals (vs++dvs) (us++ds):=r.append hd
 have hl:(us++ds).length=ps.length:=by rw[<- r2.length];exact F.len _ _ _ _ h
 refine wpAny_call (codeAny_mono (F.run X.A X.stack s H ⟨us,[]⟩ (us++ds) (vs++dvs) Q E hr I.env0 (hb s us I.kIn hl) r2 h) fun r s' hq=>?_)
 cases r with
 | error e=>exact hx pins σ H s e s' I hq
 | ok fl =>
  cases fl with
  | ret u=>exact I.after hq
  | next=>exact False.elim hq
  | brk=>exact False.elim hq
  | cont=>exact False.elim hq
theorem pe_call (F:FnOk X.prog X.w X.K X.mg X.base CX k f fd ps sp)(hr:Room k X.A)(hg:Gl X x)(hm:X.mg x=some (.ref f))(hk:PySem.W.keepIn X.K (.ref f)=true)(hb:Binds X.K fd ps ds)(hd:Vals dvs ds)(hx:Passes CX X E)
  (ha:PA X (e::es) t)(hdb:(x == ("__debug__":Str))=false:=by decide)(he:starEach (e::es) X.env=(false,eval e X.env)::starEach es X.env:=by rfl)(hpl:(backTo pos (starEach es X.env)).any (·.1)=false:=by rfl) :
  PE X (.Call (.Name x p) (e::es) [] pos) (tCall sp dvs E t):=by
 intro pins s σ H Q I h
 refine wpAny_Call_Name_kw (ld_glob I hg hm ?_ hdb)
 refine PySem.W.callWith_K (h₀:=X.base) I.ok.mod.kin hk (thn (ha pos pins s σ H _ I h) fun us s1 ⟨vs,H1,I1,r,q⟩=>⟨I1.kIn,?_⟩) he hpl
 exact run_fn F hr hb hd hx I1 r q
structure Mk (K:W.Frag) (C f:Addr):Prop where
 makes:PySem.W.makesIn K C=true
 init:PySem.W.findIn K (.ref C) "__init__"=some (some (.ref f))
 fn:PySem.W.isFn K (.ref f)=true
 kp:PySem.W.keepIn K (.ref C)=true
end
def PK (X:Cx)(kws:List Keyword)(t:TA):Prop:=
 ∀ (pos:Pos) (pins:List (Addr × Obj)) (s:Shared) (σ:St) (H:Hp) (Q:List V->Hp->Prop),Inv X pins σ H s->t σ H Q->wpAny (model X.prog X.w) X.A (evalAll ((backToKw pos (keywordEach kws X.env)).map (·.2))) (AP X pins σ Q) X.xe s
section
variable {X:Cx} {CX:CXT} {k:Nat} {f C:Addr} {fd:FuncData} {ps ks:List Str} {sp:Sp} {E:XK} {x m:Str} {p pos apos kpos:Pos} {e o:Expr} {es:List Expr} {kws:List Keyword} {te ta:TE} {t tk:TA} {nm:Option Str}
theorem pk_nil:PK X [] tNil:=fun _ _ _ _ H Q I h=>wpAny_evalAll_nil ⟨[],H,I,.nil,h⟩
theorem pk_cons (ha:PE X e te)(hr:PK X kws t):PK X (⟨nm,e,kpos⟩::kws) (tCons te t):=by
 intro pos pins s σ H Q I h
 show wpAny _ _ (evalAll ((do let v <- eval e X.env;standAt pos;pure v)::(backToKw pos (keywordEach kws X.env)).map (·.2))) _ _ s
 refine wpAny_evalAll_cons (wpAny_bind (thn (ha pins s σ H _ I h) fun u s1 ⟨x,H1,I1,r1,q1⟩=>wpAny_bind (wpAny_standAt (wpAny_pure ?_))))
 exact thn (hr pos pins s1 σ H1 _ I1 q1) fun us s2 ⟨xs,H2,I2,r2,q2⟩=>⟨x::xs,H2,I2,.cons r1 r2,q2⟩
structure KBinds (K:W.Frag) (fd:FuncData) (ps ks:List Str) (g:List Value->List Value->List Value) (gV:List V->List V->List V):Prop where
 to:∀ (s:Shared) (us ws:List Value),K.In s.heap->(g us ws).length=ps.length->BindsTo s fd ⟨us,ks.zip ws⟩ (ps.zip (g us ws))
 rel:∀ {vs:List V} {us:List Value} {zs:List V} {ws:List Value},Vals vs us->Vals zs ws->Vals (gV vs zs) (g us ws)
variable {g:List Value->List Value->List Value} {gV:List V->List V->List V}
end
structure FnScope (N P:List Str) (sc:Scope):Prop where
 kind:sc.kind=.function
 co:sc.isCoroutine=false
 gen:sc.isGenerator=false
 nd:N.Nodup
 pre:N.take P.length=P
 par:∀ x∈P,sc.names.lookup x=some .local\/sc.names.lookup x=some .cell
 nofree:∀ y∈sc.names,y.2≠.free
theorem bindL_out {kindOf:Str->Option NameKind}{x:Str}:∀ {binds:List (Str × Value)} {m:Str->Option Value},(∀ v,(x,v)∉binds)->bindL kindOf binds m x=m x
 | [],_,_=>rfl
 | (n,v)::r,m,h=>by
  unfold bindL
  rw[bindL_out fun w hw=>h w (List.mem_cons_of_mem _ hw)]
  split
  ·have:x≠n:=by rintro rfl;exact h v List.mem_cons_self
   simp[this]
  ·rfl
theorem bindC_out {kindOf:Str->Option NameKind}{x:Str}:∀ {binds:List (Str × Value)} {m:Str->Option Value},(∀ v,(x,v)∉binds)->bindC kindOf binds m x=m x
 | [],_,_=>rfl
 | (n,v)::r,m,h=>by
  unfold bindC
  rw[bindC_out fun w hw=>h w (List.mem_cons_of_mem _ hw)]
  split
  ·rfl
  ·have:x≠n:=by rintro rfl;exact h v List.mem_cons_self
   simp[this]
theorem bindL_get {kindOf:Str->Option NameKind}{x:Str}{v:Value}:∀ {P:List Str} {vs:List Value} {i:Nat} {m:Str->Option Value},P.Nodup->P[i]?=some x->vs[i]?=some v->kindOf x=some .local ->
  bindL kindOf (P.zip vs) m x=some v
 | [],_,_,_,_,h,_,_=>by simp at h
 | _::_,[],_,_,_,_,h,_=>by simp at h
 | p::P,w::vs,0,m,nd,h1,h2,hk=>by
  simp at h1 h2;subst h1;subst h2
  show bindL kindOf ((p,w)::P.zip vs) m p=_
  unfold bindL
  rw[bindL_out fun v hv=>(List.nodup_cons.mp nd).1 (List.of_mem_zip hv).1,if_pos hk]
  simp
 | p::P,w::vs,i+1,m,nd,h1,h2,hk=>by
  show bindL kindOf ((p,w)::P.zip vs) m x=_
  unfold bindL
  exact bindL_get (i:=i) (List.nodup_cons.mp nd).2 (by simpa using h1) (by simpa using h2) hk
theorem bindC_get {kindOf:Str->Option NameKind}{x:Str}{v:Value}:∀ {P:List Str} {vs:List Value} {i:Nat} {m:Str->Option Value},P.Nodup->P[i]?=some x->vs[i]?=some v->kindOf x≠some .local ->
  bindC kindOf (P.zip vs) m x=some v
 | [],_,_,_,_,h,_,_=>by simp at h
 | _::_,[],_,_,_,_,h,_=>by simp at h
 | p::P,w::vs,0,m,nd,h1,h2,hk=>by
  simp at h1 h2;subst h1;subst h2
  show bindC kindOf ((p,w)::P.zip vs) m p=_
  unfold bindC
  rw[bindC_out fun v hv=>(List.nodup_cons.mp nd).1 (List.of_mem_zip hv).1,if_neg hk]
  simp
 | p::P,w::vs,i+1,m,nd,h1,h2,hk=>by
  show bindC kindOf ((p,w)::P.zip vs) m x=_
  unfold bindC
  exact bindC_get (i:=i) (List.nodup_cons.mp nd).2 (by simpa using h1) (by simpa using h2) hk
def start (N:List Str)(vs:List V):St:=vs.map some++List.replicate (N.length - vs.length) none
def cxOf (CX:CXT)(P:Program)(w:World)(K:W.Frag)(mg:Str->Option Value)(base:Heap)(N:List Str)(qual:Str)(scope:Scope)(f:Addr)(cd:Value)(A:Around)(outer:List Env)(s:Shared)(H:Hp)(E:XK):Cx where
 prog:=P
 w:=w
 K:=K
 mg:=mg
 base:=base
 A:=A.deeper (envOfC qual scope s.heap.objs.size f cd)
 N:=N
 s₀:=s
 H₀:=H
 env:=envOfC qual scope s.heap.objs.size f cd
 outer:=outer
 stack:=envOfC qual scope s.heap.objs.size f cd::outer
 ex:=[]
 calm:=true
 fn:=fun _=>true
 pn:=[]
 xe:=fun e s'=>wpAny (model P w) (A.deeper (envOfC qual scope s.heap.objs.size f cd)) (leaving (envOfC qual scope s.heap.objs.size f cd) e) (fun _ s''=>CX outer H s E e s'') (fun e' s''=>CX outer H s E e' s'') s'
theorem cell_has {sc:Scope}{n:Nat}{x:Str}(h:sc.names.lookup x=some .cell):∃ c,(cellsFrom n sc.names []).lookup x=some c:=by
 have q:=PySem.W.cellsFrom_some sc.names n [] (.inl h)
 exact Option.isSome_iff_exists.mp q
theorem inv_start {CX:CXT}{P:Program}{w:World}{K:W.Frag}{mg:Str->Option Value}{base:Heap}{N ps:List Str}{qual:Str}{scope:Scope}{f:Addr}{cd:Value}{A:Around}{outer:List Env}{s s1:Shared}{H:Hp}{E:XK}{us:List Value}{vs:List V}
  (S:FnScope N ps scope)(hd:A.handled=none)(e0:Env0 P w K mg base A outer s H)(hl:vs.length=ps.length)(r:Vals vs us)
  (x:InCallC s s.heap.objs.size (bindL (envOfC qual scope s.heap.objs.size f cd).kindOf (ps.zip us) fun _=>none) (cellsFrom (s.heap.objs.size+1) scope.names []) (bindC (envOfC qual scope s.heap.objs.size f cd).kindOf (ps.zip us) fun _=>none) s1) :
  Inv (cxOf CX P w K mg base N qual scope f cd A outer s H E) [] (start N vs) H s1:=by
 have hpl:ps.length<=N.length:=by have:=congrArg List.length S.pre;rw[List.length_take]at this;omega
 obtain⟨h1,tk,rfl,hk⟩:=x.done
 have noA:∀ b:Addr,b∉(cxOf CX P w K mg base N qual scope f cd A outer s H E).ex:=fun b z=>absurd (show b∈([]:List Addr) from z) (by simp)
 refine⟨⟨e0.mod,S.kind,rfl,rfl,Nat.le_refl _,fun y z c h1 h2=>?_,fun y hy=>?_,fun y c _ h=>?_,fun _=>hd,Around.frames_deeper e0.frames,.inr ⟨rfl,rfl⟩,fun b z=>absurd z (noA b),e0.bs,e0.bsz,fun b _ _=>noA b,fun b z=>absurd z (noA b),e0.funs,e0.frf⟩,
  rfl,e0.bare,Un.kept hk,⟨_,x.toInCall.ns,fun i y v h1 h2 h3=>?_⟩,fun y c h=>⟨_,x.cell y c h⟩,e0.hok.fresh (Nat.le_refl _),fun y c h=>?_,fun p hp=>absurd (show p∈([]:List (Addr × Obj)) from hp) (by simp),e0.hok.kept hk,?_⟩
 ·exact name_of_addr x.apart (PySem.mem_of_lookup h1) (PySem.mem_of_lookup h2)
 ·have hy:scope.names.lookup y=some .cell\/scope.names.lookup y=some .free:=hy
  rcases hy with hy | hy
  ·exact cell_has hy
  ·exact absurd rfl (S.nofree _ (PySem.mem_of_lookup hy))
 ·exact Nat.le_of_lt (x.above y c (PySem.mem_of_lookup h))
 ·have hi:i<vs.length:=by
   unfold start at h2
   by_cases hi:i<vs.length
   ·exact hi
   ·rw[List.getElem?_append_right (by simpa using hi)]at h2
    rw[List.getElem?_replicate]at h2
    split at h2<;>cases h2
  have ha:vs[i]?=some v:=by
   unfold start at h2
   rw[List.getElem?_append_left (by simpa using hi),List.getElem?_map]at h2
   cases e:vs[i]? with
   | none=>rw[e]at h2;cases h2
   | some a=>rw[e]at h2;cases h2;rfl
  obtain⟨u,hu,rv⟩:=r.get ha
  have hp:ps[i]?=some y:=by
   rw[<- S.pre,List.getElem?_take_of_lt (by omega)];exact h1
  have ndP:ps.Nodup:=by rw[<- S.pre];exact S.nd.sublist (List.take_sublist _ _)
  refine⟨u,rv,?_⟩
  rcases S.par y (List.mem_of_getElem? hp) with k | k
  ·exact .inl ⟨k,bindL_get ndP hp hu k⟩
  ·obtain⟨c,e⟩:=cell_has (n:=s.heap.objs.size+1) k
   refine .inr ⟨.inl k,c,e,?_⟩
   have q:=x.cell y c e
   rw[bindC_get ndP hp hu (by show scope.names.lookup y≠_;rw[k];decide)]at q
   exact q
 ·exact e0.hok.fresh (Nat.le_of_lt (x.above y c (PySem.mem_of_lookup h)))
 ·unfold start
  show _=N.length
  rw[List.length_append,List.length_map,List.length_replicate]
  omega
theorem fn_of {CX:CXT} {P:Program} {w:World} {K:W.Frag} {mg:Str->Option Value} {base:Heap} {k:Nat} {f:Addr} {name qual:Str} {params:Arguments} {body:List Stmt} {scope:Scope} {dV kV doc pm cdv ct oc:Value} {an od:Option Addr}
  {osl:Array (Option Value)} {N ps:List Str} {sp:Sp} (lk:K.lookup f=some ⟨oc,od,.func (PySem.W.fnOf name qual params body scope dV kV doc pm an cdv ct),osl⟩) (hcd:PySem.W.codeIn K cdv qual=true) (S:FnScope N ps scope)
  (len:∀ vs H Q E,sp vs H Q E->vs.length=ps.length)
  (hbody : ∀ (A : Around) (outer : List Env) (s : Shared) (H : Hp) (vs : List V) (Q : VK) (E : XK), Room k (A.deeper (envOfC qual scope s.heap.objs.size f cdv)) -> sp vs H Q E ->
   ∃ t,PSs (cxOf CX P w K mg base N qual scope f cdv A outer s H E) body t/\t { nx:=fun _ H'=>Q .non H',rt:=Q } (start N vs) H) :
  FnOk P w K mg base CX (k+1) f (PySem.W.fnOf name qual params body scope dV kV doc pm an cdv ct) ps sp:=by
 refine⟨len,fun A outer s H args us vs Q E hr e0 hb r hsp=>?_⟩
 have hl:=len _ _ _ _ hsp
 have KX:K.In s.heap:=e0.mod.kin.keeps fun b o e=>(e0.bs b o e).1
 have lim:s.heap.NoLimit:=e0.mod.nolimit.keeps fun b o e=>(e0.bs b o e).1
 have hkind:∀ y∈ps.zip us,scope.names.lookup y.1=some .local\/(scope.names.lookup y.1=some .cell/\((cellsFrom (s.heap.objs.size+1) scope.names []).lookup y.1).isSome=true):=fun⟨n,v⟩ hy=>by
  rcases S.par n (List.of_mem_zip hy).1 with q | q
  ·exact .inl q
  ·exact .inr ⟨q,PySem.W.cellsFrom_some _ _ _ (.inl q)⟩
 refine codeAny_call_function hr.depth (KX _ _ lk) rfl S.co S.gen rfl (PySem.W.codeRec_of KX hcd) (hb _ _ _ _ ?_)
 refine wpAny_newFunctionEnv_cells S.kind hkind fun env he s1 x=>?_
 subst he
 refine⟨lim.keeps x.toInCall.keep,codeAny_func ?_⟩
 obtain⟨t,ht,hq⟩:=hbody A outer s H vs Q E (hr.deeper _) hsp
 have I:Inv (cxOf CX P w K mg base N qual scope f cdv A outer s H E) [] (start N vs) H s1:=inv_start S hr.hd e0 hl r x
 refine wpAny_mono (ht [] s1 (start N vs) H _ I hq) (fun fl s' hs=>?_) fun e s' hs=>hs
 have fin:∀ {σ':St} {H':Hp} {v:V} {u:Value},Inv (cxOf CX P w K mg base N qual scope f cdv A outer s H E) [] σ' H' s'->RelV v u->Q v H'->CE outer P w H s Q u s':=
  fun {σ' H' v u} J rv q=>⟨v,H',J.os,J.bare,J.base,J.hok,rv,q⟩
 cases fl with
 | ret u =>
  obtain⟨v,σ',H',J,rv,q⟩:=hs
  exact fin J rv q
 | next =>
  obtain⟨σ',H',J,q⟩:=hs
  exact fin (v:=V.non) (u:=Value.none) J rfl q
 | brk =>
  obtain⟨_,_,_,q⟩:=hs
  exact False.elim q
 | cont =>
  obtain⟨_,_,_,q⟩:=hs
  exact False.elim q
section
variable {X:Cx} {x:Str} {p pos:Pos} {e:Expr} {es:List Expr} {t:TA} {id T:String} {r:List V->Hp->VK->Prop}
def tCB (r:List V->Hp->VK->Prop)(t:TA):TE:=fun σ H Q=>t σ H fun vs H1=>r vs H1 Q
theorem pe_callB (hc:CallR X (.builtin id) r)(hg:Gl X x)(hm:X.mg x=none)(hv:bootBuiltins x=some (.builtin id))(ha:PA X (e::es) t)(hn:x≠"__name__":=by decide)(hdb:(x == ("__debug__":Str))=false:=by decide)
  (he:starEach (e::es) X.env=(false,eval e X.env)::starEach es X.env:=by rfl)(hpl:(backTo pos (starEach es X.env)).any (·.1)=false:=by rfl):PE X (.Call (.Name x p) (e::es) [] pos) (tCB r t):=by
 intro pins s σ H Q I h
 refine wpAny_Call_Name_kw (ld_blt I hg hm hv ?_ hn hdb)
 exact PyProof.Rows.callWith_builtin1 (thn (ha pos pins s σ H _ I h) fun us s1 ⟨vs,H1,I1,r1,q1⟩=>hc pins s1 σ H1 vs us Q I1 r1 q1) he hpl
theorem pe_callTy (hc:CallR X (.type T) r)(hg:Gl X x)(hm:X.mg x=none)(hv:bootBuiltins x=some (.type T))(ha:PA X (e::es) t)(hn:x≠"__name__":=by decide)(hdb:(x == ("__debug__":Str))=false:=by decide)
  (he:starEach (e::es) X.env=(false,eval e X.env)::starEach es X.env:=by rfl)(hpl:(backTo pos (starEach es X.env)).any (·.1)=false:=by rfl):PE X (.Call (.Name x p) (e::es) [] pos) (tCB r t):=by
 intro pins s σ H Q I h
 refine wpAny_Call_Name_kw (ld_blt I hg hm hv ?_ hn hdb)
 exact PyProof.Rows.callWith_type1 (thn (ha pos pins s σ H _ I h) fun us s1 ⟨vs,H1,I1,r1,q1⟩=>hc pins s1 σ H1 vs us Q I1 r1 q1) he hpl
end
end L2
namespace HT
open PySem PyProof.Rows
def lexLt:List Int->List Int->Bool
 | [],[]=>false
 | [],_::_=>true
 | _::_,[]=>false
 | x::xs,y::ys=>if x=y then lexLt xs ys else decide (x<y)
theorem lexLt_cons (x y:Int)(xs ys:List Int):lexLt (x::xs) (y::ys)=if x=y then lexLt xs ys else decide (x<y):=rfl
theorem lexLt_nil_nil:lexLt [] []=false:=rfl
theorem lexLt_nil_cons (y:Int)(ys:List Int):lexLt [] (y::ys)=true:=rfl
theorem lexLt_cons_nil (x:Int)(xs:List Int):lexLt (x::xs) []=false:=rfl
theorem eqAt_int (A:Around)(s:Shared)(a:Int)(t:Tok)(c:Int)(u:Tok):∃ e,SeqAt.EqAt A s (.int a t) (.int c u) e/\(e=true↔a=c):=
 ⟨(a == c),SeqAt.EqAt.int_int a t c u,by simp⟩
theorem rcLt_int (A:Around)(s:Shared)(a:Int)(t:Tok)(c:Int)(u:Tok)(prog:Program)(w:World)(E:Value->Shared->Prop)(Q:Value->Shared->Prop)(h:Q (.bool (decide (a<c))) s) :
  wpAny (model prog w) A (richCompare .Lt (.int a t) (.int c u)) Q E s:=
 (PyProof.Rows.lt_int h:wpAny (model prog w) A (compareOp .Lt (.int a t) (.int c u)) Q E s)
section
open PySem.SeqAt
open PySem.AutoSeq1 (wpAny_loadPart')
open PySem.MeetsSeq PySem.MeetsSeq2 PySem.MeetsSeq3
theorem tuple_lt_ints (l b:Addr) (items items2:Array Value) (n n2:Nat) (dd dd2:Option Addr) (sl sl2:Array (Option Value)) (ns ms:List Int) (hi:IntsAre items.toList ns) (hj:IntsAre items2.toList ms) :
  Meets (Builtin.«tuple.__lt__» ⟨[.ref l,.ref b],[]⟩)
   (fun _ R s => s.heap.get? l = some { cls := .type "tuple", dict := dd, data := .seq items n, slots := sl } /\ s.heap.get? b = some { cls := .type "tuple", dict := dd2, data := .seq items2 n2, slots := sl2 } /\
    R (.ok (.ret (.bool (lexLt ns ms)))) s):=
 .of_wp fun prog w A R s h=>by
  obtain⟨hp,g,d,tk,os⟩:=s;obtain⟨hl,hb,h⟩:=h
  have f2:=AutoSeq1.sub_tuple_tuple
  have z1:items.size=ns.length:=by rw[<- hi.length];simp
  have z2:items2.size=ms.length:=by rw[<- hj.length];simp
  wp_walk using wpAny_loadPart' hl,wpAny_loadPart' hb,wpAny_forIn_list _ (fun rest b s'=>b.1=none/\s'=⟨hp,g,d,tk,os⟩/\∃ (vs ws:List Value) (ns' ms':List Int),rest=vs.zip ws /\
   IntsAre vs ns'/\IntsAre ws ms'/\ns'.length+items2.size=ms'.length+items.size/\R (.ok (.ret (.bool (lexLt ns' ms')))) ⟨hp,g,d,tk,os⟩) _
  case turn =>
   rintro⟨y,x⟩ rest b s' ⟨hb',rfl,vs,ws,ns',ms',hz,hvi,hwi,hlen,hR⟩
   cases hvi with
   | nil=>rw[List.zip_nil_left]at hz;cases hz
   | cons a t hvi' =>
    cases hwi with
    | nil=>rw[List.zip_nil_right]at hz;cases hz
    | cons c u hwi' =>
     rw[List.zip_cons_cons]at hz
     injection hz with hyx hrest
     injection hyx with hy hx
     subst hy hx
     rw[lexLt_cons]at hR
     simp only[List.length_cons]at hlen
     obtain⟨e,he,hiff⟩:=eqAt_int A.in1 ⟨hp,g,d,tk,os⟩ a t c u
     refine wpAny_bind (he prog w _ _ ?_)
     cases e with
     | true =>
      rw[if_pos (hiff.mp rfl)]at hR
      wp_walk
      exact⟨rfl,rfl,_,_,_,_,hrest,hvi',hwi',by omega,hR⟩
     | false =>
      rw[if_neg (fun q=>absurd (hiff.mpr q) Bool.false_ne_true)]at hR
      have hri:=rcLt_int A.in1 ⟨hp,g,d,tk,os⟩ a t c u prog w
      wp_walk using hri
      exact⟨_,rfl,by simpa using hR⟩
  case fin =>
   rintro⟨b1,b2⟩ s' ⟨hb',rfl,vs,ws,ns',ms',hz,hvi,hwi,hlen,hR⟩
   simp only at hb'
   subst hb'
   have hv:lexLt ns' ms'=decide (items.size<items2.size):=by
    cases hvi with
    | nil =>
     cases hwi with
     | nil =>
      simp only[List.length_nil]at hlen
      rw[lexLt_nil_nil]
      exact(decide_eq_false (by omega)).symm
     | cons c u hw =>
      simp only[List.length_nil,List.length_cons]at hlen
      rw[lexLt_nil_cons]
      exact(decide_eq_true (by omega)).symm
    | cons a t hv =>
     cases hwi with
     | nil =>
      simp only[List.length_nil,List.length_cons]at hlen
      rw[lexLt_cons_nil]
      exact(decide_eq_false (by omega)).symm
     | cons c u hw =>
      rw[List.zip_cons_cons]at hz
      cases hz
   rw[hv]at hR
   wp_walk
   exact⟨_,rfl,by simpa [Builtin.Tuple.tupleCompareSizes] using hR⟩
  case h =>
   exact⟨rfl,rfl,items.toList,items2.toList,ns,ms,rfl,hi,hj,by omega,h⟩
end
section
variable {prog:Program} {w:World} {A:Around} {E:Value->Shared->Prop} {s:Shared}
theorem lt_tupInts {l b:Addr}{items items2:Array Value}{ns ms:List Int}{Q:Value->Shared->Prop}(hl:IsTup s.heap l items)(hb:IsTup s.heap b items2)(hi:IntsAre items.toList ns)(hj:IntsAre items2.toList ms)
  (hu:A.units<cLine)(h:Q (.bool (lexLt ns ms)) s):wpAny (model prog w) A (compareOp .Lt (.ref l) (.ref b)) Q E s:=by
 obtain⟨⟨cls,dd,data,sl⟩,ho,hc,n,hd⟩:=id hl
 obtain⟨⟨cls2,dd2,data2,sl2⟩,ho2,hc2,n2,hd2⟩:=id hb
 simp only at hc hd hc2 hd2
 subst hc hd hc2 hd2
 exact richCompare_meets_room (op:=.Lt) ⟨_,ho,rfl⟩ ⟨_,ho2,rfl⟩ PySem.F.slot_tuple_lt PySem.F.entry_tuple_lt (PySem.F.args_tuple_lt_2 _ _) (tuple_lt_ints l b items items2 n n2 dd dd2 sl sl2 ns ms hi hj)
  ⟨ho,ho2,show Value.bool (lexLt ns ms)≠Value.notImplemented/\Q (.bool (lexLt ns ms)) s from ⟨(fun x=>nomatch x),h⟩⟩ hu
theorem cat_tup {t b:Addr}{vs ws:List Value}{Q:Value->Shared->Prop}(ht:IsTup s.heap t vs.toArray)(hb:IsTup s.heap b ws.toArray)(hv:vs≠[])
  (h1:ws=[]->Q (.ref t) s)(h2:ws≠[]->Q (.ref s.heap.objs.size) { s with heap:=s.heap.push { cls:=.type "tuple",data:=.seq (vs++ws).toArray } })
  (hsz:vs.length+ws.length<=sizeLine):wpAny (model prog w) A (binaryOp .Add (.ref t) (.ref b)) Q E s:=by
 obtain⟨⟨cls,dd,data,sl⟩,ho,hc,n,hd⟩:=id ht
 obtain⟨⟨cls2,dd2,data2,sl2⟩,ho2,hc2,n2,hd2⟩:=id hb
 simp only at hc hd hc2 hd2
 subst hc hd hc2 hd2
 have e:vs.toArray++ws.toArray=(vs++ws).toArray:=by simp
 by_cases hw:ws=[]
 ·exact concat_meets ⟨_,ho,rfl⟩ ⟨_,ho2,rfl⟩ noFill_tuple_add seq_tuple_add PySem.F.slot_tuple_add PySem.F.entry_tuple_add (PySem.F.args_tuple_add_2 _ _)
   (tuple_addW1 t b vs.toArray ws.toArray n n2 dd dd2 sl sl2 (by simpa using hv) (by simp[hw])) ⟨ho,ho2,h1 hw⟩
 ·refine concat_meets ⟨_,ho,rfl⟩ ⟨_,ho2,rfl⟩ noFill_tuple_add seq_tuple_add PySem.F.slot_tuple_add PySem.F.entry_tuple_add (PySem.F.args_tuple_add_2 _ _)
   (tuple_addW2 t b vs.toArray ws.toArray n n2 dd dd2 sl sl2 (by simpa using hv) (by simpa using hw) (by rw[List.size_toArray,List.size_toArray];exact hsz)) ⟨ho,ho2,?_⟩
  rw[e]
  exact h2 hw
def sIx (n d:Nat):Option Int->Nat
 | none=>d
 | some v=>if v<0 then (v+(n:Int)).toNat else min v.toNat n
theorem sIx_none (n d:Nat):sIx n d none=d:=rfl
theorem sIx_nat (n d k:Nat):sIx n d (some (k:Int))=min k n:=by
 show (if (k:Int)<0 then ((k:Int)+(n:Int)).toNat else min (k:Int).toNat n)=min k n
 rw[if_neg (by omega),Int.toNat_natCast]
end
end HT
namespace L2
open PySem PySem.Spec PyProof.Rows
abbrev TO:=St->Hp->(Option Int->Hp->Prop)->Prop
def PO (X:Cx)(e:Option Expr)(t:TO):Prop:=
 ∀ (pins:List (Addr × Obj)) (s:Shared) (σ:St) (H:Hp) (Q:Option Int->Hp->Prop),Inv X pins σ H s->t σ H Q ->
  wpAny (model X.prog X.w) X.A (evalPart e X.env) (fun u s'=>∃ o H',Inv X pins σ H' s'/\IsPart u o/\Q o H') X.xe s
def tNoPart:TO:=fun _ H Q=>Q none H
def tPart (t:TE):TO:=fun σ H Q=>t σ H fun x H1=>∃ i,x=.int i/\Q (some i) H1
theorem intsAre_of {ns:List Int}:∀ {us:List Value},Vals (ns.map V.int) us->IntsAre us ns:=by
 induction ns with
 | nil=>intro us r;rw[List.map_nil]at r;cases r;exact .nil
 | cons n ns ih =>
  intro us r
  rw[List.map_cons]at r
  cases r with
  | cons r1 r2 =>
   obtain⟨t,e⟩:=r1
   subst e
   exact .cons n t (ih r2)
section
variable {X:Cx} {e:Expr} {te:TE} {lo hi:Option Expr} {tl th:TO} {pos p2:Pos}
theorem po_none:PO X none tNoPart:=by
 intro pins s σ H Q I h
 rw[evalPart_none]
 exact wpAny_pure ⟨none,H,I,.none,h⟩
theorem po_some (h:PE X e te):PO X (some e) (tPart te):=by
 intro pins s σ H Q I hw
 rw[evalPart_some]
 refine thn (h pins s σ H _ I hw) fun u s1 ⟨x,H1,I1,r1,q1⟩=>?_
 obtain⟨i,rfl,q⟩:=q1
 obtain⟨t,rfl⟩:=r1
 exact⟨some i,H1,I1,.int i t,q⟩
def SlR (X:Cx)(r:V->Option Int->Option Int->Hp->VK->Prop):Prop:=
 ∀ (pins:List (Addr × Obj)) (s:Shared) (σ:St) (H:Hp) (x:V) (v vl vu:Value) (lo hi:Option Int) (sl:Addr) (Q:VK),Inv X pins σ H s->RelV x v->s.heap.IsSliceOf sl vl vu .none->IsPart vl lo->IsPart vu hi->r x lo hi H Q ->
  ∃ T id,typeLookup (.type T) "__getitem__"=pure (some (.builtin id))/\s.TypeIs v T/\wpAny (model X.prog X.w) X.A (getItem v (.ref sl)) (EP X pins σ Q) X.xe s
def tSl (r:V->Option Int->Option Int->Hp->VK->Prop)(te:TE)(tl th:TO):TE:=fun σ H Q=>te σ H fun x H1=>tl σ H1 fun l H2=>th σ H2 fun u H3=>r x l u H3 Q
theorem pe_slice {r:V->Option Int->Option Int->Hp->VK->Prop}(hr:SlR X r)(he:PE X e te)(hl:PO X lo tl)(hu:PO X hi th):PE X (.Subscript e (.Slice lo hi none p2) pos) (tSl r te tl th):=by
 intro pins s σ H Q I h
 refine Subscript_ (thn (he pins s σ H _ I h) fun v s1 ⟨x,H1,I1,r1,q1⟩=>?_)
 refine wpAny_Slice (thn (hl pins s1 σ H1 _ I1 q1) fun vl s2 ⟨l,H2,I2,pl,q2⟩=>thn (hu pins s2 σ H2 _ I2 q2) fun vu s3 ⟨u,H3,I3,pu,q3⟩=>?_)
 rw[evalPart_none]
 refine wpAny_pure ?_
 have I4:Inv X pins σ H3 { s3 with heap:=s3.heap.push { cls:=.type "slice",data:=.fields #[vl,vu,.none] } }:=I3.kept (t':=s3.toks) fun b ob q=>Heap.get?_push_of_some _ q
 obtain⟨T,id,hT,ht,hg⟩:=hr pins { s3 with heap:=s3.heap.push { cls:=.type "slice",data:=.fields #[vl,vu,.none] } } σ H3 x v vl vu l u s3.heap.objs.size Q I4 r1 (Heap.IsSliceOf.new ..) pl pu q3
 show wpAny (model X.prog X.w) X.A (subscriptTail e (.Slice lo hi none p2) v (.ref s3.heap.objs.size)) (EP X pins σ Q) X.xe { s3 with heap:=s3.heap.push { cls:=.type "slice",data:=.fields #[vl,vu,.none] } }
 exact tail_any (ops:=[.ref s3.heap.objs.size,v]) ht hT hg (by with_unfolding_all rfl)
def cutV (xs:List V)(lo hi:Option Int):List V:=(xs.drop (HT.sIx xs.length 0 lo)).take (HT.sIx xs.length xs.length hi - HT.sIx xs.length 0 lo)
theorem cutV_length (xs:List V)(lo hi:Option Int):(cutV xs lo hi).length<=xs.length:=by
 unfold cutV
 rw[List.length_take,List.length_drop]
 omega
def rLtT (K:W.Frag):R2:=fun x y H Q=>∃ a b ns ms,x=.ref a/\y=.ref b/\SqT K H a (ns.map V.int)/\SqT K H b (ms.map V.int)/\Q (.bl (HT.lexLt ns ms)) H
theorem op_ltT (hu:X.A.units<cLine):OpR X (compareOp .Lt) (rLtT X.K):=by
 intro pins s σ H x y v u Q I rx ry h
 obtain⟨a,b,ns,ms,rfl,rfl,ha,hb,q⟩:=h
 cases rx
 cases ry
 obtain⟨its,r1,p1,_⟩:=I.tuple ha
 obtain⟨its2,r2,p2,_⟩:=I.tuple hb
 have i1:IntsAre its.toArray.toList ns:=intsAre_of r1
 have i2:IntsAre its2.toArray.toList ms:=intsAre_of r2
 exact HT.lt_tupInts p1 p2 i1 i2 hu ⟨.bl (HT.lexLt ns ms),H,I,rfl,q⟩
def rCatT (K:W.Frag):R2:=fun x y H Q=>∃ a b xs ys,x=.ref a/\y=.ref b/\SqT K H a xs/\SqT K H b ys/\xs≠[]/\xs.length+ys.length<=sizeLine /\
 (ys=[]->Q (.ref a) H)/\(ys≠[]->∀ p,H p=none->Q (.ref p) (upd H p (.tup (xs++ys))))
theorem Vals.nil_iff {xs:List V}{us:List Value}(r:Vals xs us):us=[]↔xs=[]:=by
 cases r with
 | nil=>simp
 | cons _ _=>simp
theorem op_catT:OpR X (binaryOp .Add) (rCatT X.K):=by
 intro pins s σ H x y v u Q I rx ry h
 obtain⟨a,b,xs,ys,rfl,rfl,ha,hb,hx,hz,q1,q2⟩:=h
 cases rx
 cases ry
 obtain⟨its,r1,p1,_⟩:=I.tuple ha
 obtain⟨its2,r2,p2,_⟩:=I.tuple hb
 refine HT.cat_tup p1 p2 (fun z=>hx (r1.nil_iff.mp z)) (fun z=>⟨.ref a,H,I,rfl,q1 (r2.nil_iff.mp z)⟩) (fun z=>?_) (by rw[<- r1.length,<- r2.length];exact hz)
 refine⟨.ref s.heap.objs.size,_,I.laid (t':=s.toks) (o:=.tup (xs++ys)) (fun b ob q=>Heap.get?_push_of_some _ q) (Nat.le_refl _) ?_,rfl,q2 (fun w=>z (r2.nil_iff.mpr w)) _ (I.hok.fresh (Nat.le_refl _))⟩
 exact⟨by rw[List.length_append];exact hz,_,r1.append r2,IsTup.new _ _⟩
end
def ixN (n:Nat)(i:Int):Option Nat:=if 0<=i then (if i<n then some i.toNat else none) else if -(n:Int)<=i then some (i+n).toNat else none
def atI {α:Type}(xs:List α)(i:Int):Option α:=(ixN xs.length i).bind fun j=>xs[j]?
theorem ixN_seq {n:Nat}{i:Int}{j:Nat}(h:ixN n i=some j):seqIndex? i n=some j/\j<n /\ -(n:Int)<=i/\i<n:=by
 unfold ixN at h
 by_cases h0:0<=i
 ·rw[if_pos h0]at h
  by_cases h1:i<n
  ·rw[if_pos h1]at h
   have e:i.toNat=j:=Option.some.inj h
   exact⟨by rw[seqIndex_of h0 h1,e],by omega,by omega,h1⟩
  ·rw[if_neg h1]at h;cases h
 ·rw[if_neg h0]at h
  by_cases h1:-(n:Int)<=i
  ·rw[if_pos h1]at h
   have e:(i+n).toNat=j:=Option.some.inj h
   exact⟨by rw[seqIndex_neg (by omega) h1,e],by omega,h1,by omega⟩
  ·rw[if_neg h1]at h;cases h
theorem atI_get {α:Type}{xs:List α}{i:Int}{v:α}(h:atI xs i=some v):∃ j,seqIndex? i xs.length=some j/\xs[j]?=some v/\j<xs.length /\ -(xs.length:Int)<=i/\i<xs.length:=by
 unfold atI at h
 cases e:ixN xs.length i with
 | none=>rw[e]at h;cases h
 | some j =>
  rw[e]at h
  obtain⟨h1,h2,h3,h4⟩:=ixN_seq e
  exact⟨j,h1,h,h2,h3,h4⟩
theorem atI_nat {α:Type}{xs:List α}{j:Nat}{v:α}(h:xs[j]?=some v):atI xs (j:Int)=some v:=by
 have hj:j<xs.length:=(List.getElem?_eq_some_iff.mp h).1
 have e:ixN xs.length (j:Int)=some j:=by
  unfold ixN
  rw[if_pos (by omega),if_pos (by omega)];simp
 unfold atI;rw[e];exact h
theorem atI_last {α:Type}(xs:List α)(v:α):atI (xs++[v]) (-1)=some v:=by
 have hl:(xs++[v]).length=xs.length+1:=by simp
 have e:ixN (xs++[v]).length (-1)=some xs.length:=by
  unfold ixN
  rw[hl,if_neg (by decide),if_pos (by omega)]
  congr 1
  omega
 unfold atI
 rw[e]
 show (xs++[v])[xs.length]?=some v
 simp
def PlainIx (b:Expr):Prop:=∀ o i,subscripted b false o i=operate [o,i] (getItem o i)
def IxR (X:Cx)(r:R2):Prop:=
 ∀ (value slice:Expr) (pins:List (Addr × Obj)) (s:Shared) (σ:St) (H:Hp) (x y:V) (v u:Value) (Q:VK),Inv X pins σ H s->RelV x v->RelV y u->r x y H Q ->
  subscripted slice false v u=operate [v,u] (getItem v u)->wpAny (model X.prog X.w) X.A (subscriptTail value slice v u) (EP X pins σ Q) X.xe s
def MtR (X:Cx)(id:String)(r:V->List V->Hp->VK->Prop):Prop:=
 ∀ (pins:List (Addr × Obj)) (s:Shared) (σ:St) (H:Hp) (x:V) (xs:List V) (v:Value) (us:List Value) (Q:VK),Inv X pins σ H s->RelV x v->Vals xs us->r x xs H Q ->
  wpAny (model X.prog X.w) X.A (call (.builtin id) (v::us)) (EP X pins σ Q) X.xe s
section
variable {X:Cx} {a b:Expr} {ta tb:TE} {pos:Pos}
theorem IxR.or {r r':R2}(h:IxR X r)(h':IxR X r'):IxR X (fun x y H Q=>r x y H Q\/r' x y H Q):=by
 intro value slice pins s σ H x y v u Q I rx ry q hs
 rcases q with q | q
 ·exact h value slice pins s σ H x y v u Q I rx ry q hs
 ·exact h' value slice pins s σ H x y v u Q I rx ry q hs
theorem pe_ix {r:R2}(hr:IxR X r)(ha:PE X a ta)(hb:PE X b tb)(hs:PlainIx b):PE X (.Subscript a b pos) (tOp r ta tb):=by
 intro pins s σ H Q I h
 exact Subscript_ (binT ha hb I h fun v u s2 x y H2 I2 rx ry q=>hr a b pins s2 σ H2 x y v u Q I2 rx ry q (hs _ _))
def rIxL (K:W.Frag):R2:=fun x y H Q=>∃ p xs i v,x=.ref p/\y=.int i/\SqL K H p xs/\atI xs i=some v/\Q v H
def rIxT (K:W.Frag):R2:=fun x y H Q=>∃ p xs i v,x=.ref p/\y=.int i/\SqT K H p xs/\atI xs i=some v/\Q v H
def rIxS:R2:=fun x y H Q=>∃ z i c,x=.str z/\y=.int i/\z.length<=sizeLine/\atI z.cps.toList i=some c/\Q (.str ⟨#[c]⟩) H
theorem ix_list:IxR X (rIxL X.K):=by
 intro value slice pins s σ H x y v u Q I rx ry h hs
 obtain⟨p,xs,i,z,rfl,rfl,hq,he,q⟩:=h
 cases rx
 obtain⟨t,rfl⟩:=ry
 obtain⟨its,r,pl,hz⟩:=I.list hq
 obtain⟨j,h1,h2,h3,h4,h5⟩:=atI_get he
 obtain⟨w,ew,rw'⟩:=r.get h2
 have hl:=r.length
 have hn:=line63
 have fin:EP X pins σ Q w s:=⟨z,H,I,rw',q⟩
 by_cases h0:0<=i
 ·have hj:i.toNat=j:=by
   rw[seqIndex_of h0 h5]at h1
   exact Option.some.inj h1
  exact item_listR pl.isList h0 (by omega) (by rw[hj];simpa using ew) fin hs
 ·have hj:(i+(its.toArray.size:Int)).toNat=j:=by
   rw[seqIndex_neg (by omega) h4]at h1
   rw[List.size_toArray,<- hl]
   exact Option.some.inj h1
  exact subscriptTail_builtinR (x:=w) pl.isList.typeIs slot_list_getitem.lookup
   (wpAny_getItem_list_neg (Q:=fun r s'=>r=w/\EP X pins σ Q r s') pl.isList (by omega) (by rw[List.size_toArray]<;>omega) (by omega) (by rw[hj];simpa using ew) ⟨rfl,fin⟩) hs
theorem ix_tup:IxR X (rIxT X.K):=by
 intro value slice pins s σ H x y v u Q I rx ry h hs
 obtain⟨p,xs,i,z,rfl,rfl,hq,he,q⟩:=h
 cases rx
 obtain⟨t,rfl⟩:=ry
 obtain⟨its,r,pl,hz⟩:=I.tuple hq
 obtain⟨j,h1,h2,h3,h4,h5⟩:=atI_get he
 obtain⟨w,ew,rw'⟩:=r.get h2
 have hl:=r.length
 have hn:=line63
 have fin:EP X pins σ Q w s:=⟨z,H,I,rw',q⟩
 exact subscriptTail_builtinR (x:=w) pl.typeIs slot_tuple_getitem.lookup
  (getItem_tuple (j:=j) (Q:=fun r s'=>r=w/\EP X pins σ Q r s') pl (by omega) (by omega) (by rw[List.size_toArray,<- hl];exact h1) (by simpa using ew) ⟨rfl,fin⟩) hs
theorem ix_str:IxR X rIxS:=by
 intro value slice pins s σ H x y v u Q I rx ry h hs
 obtain⟨z,i,c,rfl,rfl,hz,he,q⟩:=h
 obtain⟨t,rfl⟩:=rx
 obtain⟨t',rfl⟩:=ry
 obtain⟨j,h1,h2,h3,h4,h5⟩:=atI_get he
 have hl:z.cps.toList.length=z.length:=by simp[Str.length]
 rw[hl]at h1 h4 h5
 have hn:=line63
 exact tail_any (typeIs_str s z t) slot_str_getitem.lookup (getItem_str (c:=c) (by
  have e1:decide (i < -(2 ^ 63:Int))=false:=decide_eq_false (by omega)
  have e2:decide (i≥2 ^ 63)=false:=decide_eq_false (by omega)
  rw[e1,e2,Bool.or_false]) (by rw[h1];simpa using h2) ⟨.str ⟨#[c]⟩,H,I.tok _,⟨_,rfl⟩,q⟩) hs
def rIx (K:W.Frag):R2:=fun x y H Q=>rIxL K x y H Q\/rIxT K x y H Q\/rIxS x y H Q
theorem ix_seq:IxR X (rIx X.K):=ix_list.or (ix_tup.or ix_str)
theorem mapSeq_set (its:List Value)(n j:Nat)(u:Value):Obj.mapSeq (·.setIfInBounds j u) { cls:=.type "list",data:=.seq its.toArray n }={ cls:=.type "list",data:=.seq (its.set j u).toArray n }:=by
 simp[Obj.mapSeq]
theorem Inv.lst {pins:List (Addr × Obj)}{σ:St}{H:Hp}{s:Shared}{p:Addr}{xs:List V}(I:Inv X pins σ H s)(h:H p=some (.lst xs)) :
  ∃ (its:List Value) (n:Nat),Vals xs its/\s.heap.get? p=some { cls:=.type "list",data:=.seq its.toArray n }/\xs.length<=sizeLine:=by
 obtain⟨z,its,n,r,e⟩:=I.hok p _ h
 exact⟨its,n,r,e,z⟩
theorem Inv.lstUpd {pins:List (Addr × Obj)}{σ:St}{H:Hp}{s:Shared}{p:Addr}{xs ys:List V}{its its':List Value}{n n':Nat}{f:Obj->Obj}(I:Inv X pins σ H s)(h:H p=some (.lst xs))
  (ho:s.heap.get? p=some { cls:=.type "list",data:=.seq its.toArray n })(hf:f { cls:=.type "list",data:=.seq its.toArray n }={ cls:=.type "list",data:=.seq its'.toArray n' })(r:Vals ys its')(hz:ys.length<=sizeLine)(t:Nat) :
  Inv X pins σ (upd H p (.lst ys)) { s with heap:=s.heap.update p f,toks:=t }:=by
 have e:(s.heap.update p f).get? p=some { cls:=.type "list",data:=.seq its'.toArray n' }:=by
  rw[Heap.get?_update_self f ho (by rw[hf]<;>rfl),hf]
 refine I.write (x:=p) (e:=p) (by rw[h];trivial) (.inl rfl) (fun b u hb q=>(Heap.get?_update_other _ _ (Ne.symm hb)).trans q) ⟨_,e⟩ ?_
 exact⟨hz,its',n',r,e⟩
def rSetL:V->V->V->Hp->(Hp->Prop)->Prop:=fun o i v H Q=>∃ p xs k j,o=.ref p/\i=.int k/\H p=some (.lst xs)/\ixN xs.length k=some j/\Q (upd H p (.lst (xs.set j v)))
theorem set_list:PSet X rSetL:=by
 intro pins s σ H o i v ov iv u Q I ro ri rv h
 obtain⟨p,xs,k,j,rfl,rfl,hp,hj,q⟩:=h
 cases ro
 obtain⟨t,rfl⟩:=ri
 obtain⟨its,n,r,ho,hz⟩:=I.lst hp
 obtain⟨h1,h2,h3,h4⟩:=ixN_seq hj
 have hl:=r.length
 have hn:=line63
 have I':Inv X pins σ (upd H p (.lst (xs.set j v))) { s with heap:=s.heap.update p (Obj.mapSeq (·.setIfInBounds j u)) }:=
  I.lstUpd hp ho (mapSeq_set its n j u) (r.set rv j) (by rw[List.length_set];exact hz) s.toks
 by_cases h0:0<=k
 ·have hk:k.toNat=j:=by
   rw[seqIndex_of h0 h4]at h1
   exact Option.some.inj h1
  exact PySem.W.ki_setAt ho h0 (by omega) (by rw[List.size_toArray,<- hl];exact h4) (by rw[hk];exact⟨_,I',q⟩)
 ·have hk:(k+(its.toArray.size:Int)).toNat=j:=by
   rw[seqIndex_neg (by omega) h3]at h1
   rw[List.size_toArray,<- hl]
   exact Option.some.inj h1
  exact PySem.W.ki_setBack ho (by omega) (by rw[List.size_toArray,<- hl];exact h3) (by omega) (by rw[hk];exact⟨_,I',q⟩)
theorem slice_bounds (lo hi:Option Int)(n:Nat):(sliceBounds lo hi none n).1=((HT.sIx n 0 lo:Nat):Int)/\(sliceBounds lo hi none n).2.1=((HT.sIx n n hi:Nat):Int)/\(sliceBounds lo hi none n).2.2=1:=by
 refine⟨?_,?_,rfl⟩
 ·cases lo with
  | none=>simp[sliceBounds,HT.sIx]
  | some i =>
   simp only[sliceBounds,HT.sIx,Option.getD_none,show (1:Int) > 0 by decide,if_true]
   by_cases h:i<0
   ·simp only[h,if_true]<;>omega
   ·simp only[h,if_false]<;>omega
 ·cases hi with
  | none=>simp[sliceBounds,HT.sIx]
  | some i =>
   simp only[sliceBounds,HT.sIx,Option.getD_none,show (1:Int) > 0 by decide,if_true]
   by_cases h:i<0
   ·simp only[h,if_true]<;>omega
   ·simp only[h,if_false]<;>omega
theorem slicePick_cut (its:List Value)(lo hi:Option Int):slicePick its.toArray lo hi none=((its.drop (HT.sIx its.length 0 lo)).take (HT.sIx its.length its.length hi - HT.sIx its.length 0 lo)).toArray:=by
 obtain⟨h1,h2,h3⟩:=slice_bounds lo hi its.toArray.size
 unfold slicePick
 rw[h1,h2,h3]
 simp only[sliceRange_one,pick_run,List.size_toArray]<;>rfl
def rSlL (K:W.Frag):V->Option Int->Option Int->Hp->VK->Prop:=fun x lo hi H Q=>∃ a xs,x=.ref a/\SqL K H a xs/\∀ p,H p=none->Q (.ref p) (upd H p (.lst (cutV xs lo hi)))
theorem sl_list:SlR X (rSlL X.K):=by
 intro pins s σ H x v vl vu lo hi sl Q I rx hs pl pu h
 obtain⟨a,xs,rfl,hx,q⟩:=h
 cases rx
 obtain⟨its,r,ht,hz⟩:=I.list hx
 have hlen:=r.length
 refine⟨"list",_,slot_list_getitem.lookup,ht.isList.typeIs,?_⟩
 refine wpAny_getItem_list_slice ht.isList hs pl pu .none (by simp) ?_ (by rw[List.size_toArray]<;>omega)
 rw[slicePick_cut,<- hlen]
 refine⟨.ref s.heap.objs.size,_,I.laid (t':=s.toks) (o:=.lst (cutV xs lo hi)) (fun b ob q=>Heap.get?_push_of_some _ q) (Nat.le_refl _) ?_,rfl,q _ (I.hok.fresh (Nat.le_refl _))⟩
 exact⟨Nat.le_trans (cutV_length xs lo hi) hz,_,0,(r.drop (HT.sIx xs.length 0 lo)).take (HT.sIx xs.length xs.length hi - HT.sIx xs.length 0 lo),Heap.get?_push_size _ rfl⟩
theorem call_len_seq:CallR X (.builtin "len") (fun xs H Q=>∃ p ys,xs=[.ref p]/\(SqL X.K H p ys\/SqT X.K H p ys)/\Q (.int ys.length) H):=by
 intro pins s σ H xs us Q I r h
 obtain⟨p,ys,rfl,hq,q⟩:=h
 obtain⟨u,rfl,rx⟩:=vals1 r
 cases rx
 have hn:=line63
 rcases hq with hq | hq
 ·obtain⟨its,r',pl,hz⟩:=I.list hq
  have hlen:=r'.length
  exact Calls.call_len_list pl.isList (by simp only[List.size_toArray]<;>omega) ⟨.int ys.length,H,I.tok _,⟨s.toks+1,by rw[List.size_toArray,hlen]⟩,q⟩
 ·obtain⟨its,r',pl,hz⟩:=I.tuple hq
  have hlen:=r'.length
  exact len_tuple pl (by simp only[List.size_toArray]<;>omega) ⟨.int ys.length,H,I.tok _,⟨s.toks+1,by rw[List.size_toArray,hlen]⟩,q⟩
theorem call_list_of:CallR X (.type "list") (fun xs H Q=>∃ p ys,xs=[.ref p]/\(SqL X.K H p ys\/SqT X.K H p ys)/\∀ l,H l=none->Q (.ref l) (upd H l (.lst ys))):=by
 intro pins s σ H xs us Q I r h
 obtain⟨p,ys,rfl,hq,q⟩:=h
 obtain⟨u,rfl,rx⟩:=vals1 r
 cases rx
 have fin:∀ (its:List Value),Vals ys its->ys.length<=sizeLine->∀ (h':Heap) (c':Nat),(∀ b o',s.heap.get? b=some o'->h'.get? b=some o') ->
   h'.get? s.heap.objs.size=some { cls:=.type "list",dict:=none,data:=.seq its.toArray c',slots:=#[] }->EP X pins σ Q (.ref s.heap.objs.size) { s with heap:=h' }:=fun its r' hz h' c' kp e =>
  ⟨.ref s.heap.objs.size,_,I.laid (t':=s.toks) kp (Nat.le_refl _) (show ObjOk X.prog X.w _ h' _ (.lst ys) from ⟨hz,its,c',r',e⟩),rfl,q _ (I.hok.fresh (Nat.le_refl _))⟩
 rcases hq with hq | hq
 ·obtain⟨its,r',pl,hz⟩:=I.list hq
  have hlen:=r'.length
  obtain⟨o,ho,hc,n,hd⟩:=pl.isList
  exact call_list_seq p (.inl rfl) ho hc hd (fun h' c' kp e=>fin its r' hz h' c' kp e) (by simp only[List.size_toArray]<;>omega)
 ·obtain⟨its,r',pl,hz⟩:=I.tuple hq
  have hlen:=r'.length
  obtain⟨o,ho,hc,n,hd⟩:=pl
  exact call_list_seq p (.inr rfl) ho hc hd (fun h' c' kp e=>fin its r' hz h' c' kp e) (by simp only[List.size_toArray]<;>omega)
theorem call_tuple_of:CallR X (.type "tuple") (fun xs H Q=>∃ p ys,xs=[.ref p]/\((SqL X.K H p ys/\∀ l,H l=none->Q (.ref l) (upd H l (.tup ys)))\/(SqT X.K H p ys/\Q (.ref p) H))):=by
 intro pins s σ H xs us Q I r h
 obtain⟨p,ys,rfl,h⟩:=h
 obtain⟨u,rfl,rx⟩:=vals1 r
 cases rx
 rcases h with⟨hq,q⟩ | ⟨hq,q⟩
 ·obtain⟨its,r',pl,hz⟩:=I.list hq
  have hlen:=r'.length
  refine call_tuple_list pl.isList (fun h' kp=>?_) (by simp only[List.size_toArray]<;>omega)
  have I1:Inv X pins σ H { s with heap:=h' }:=I.kept (t':=s.toks) kp
  have I2:Inv X pins σ (upd H h'.objs.size (.tup ys)) { s with heap:=h'.push { cls:=.type "tuple",data:=.seq its.toArray } } :=
   I1.laid (t':=s.toks) (fun b o e=>Heap.get?_push_of_some _ e) (Nat.le_refl _) (show ObjOk X.prog X.w _ _ _ (.tup ys) from ⟨hz,its,r',IsTup.new _ _⟩)
  exact⟨.ref h'.objs.size,_,I2,rfl,q _ (I1.hok.fresh (Nat.le_refl _))⟩
 ·obtain⟨its,r',pl,hz⟩:=I.tuple hq
  exact call_tuple_same pl ⟨.ref p,H,I,rfl,q⟩
def tyV (K:W.Frag)(T:String)(x:V)(H:Hp):Prop:=match x with
 | .str _=>T="str"
 | .int _=>T="int"
 | .ref p=>(T="list"/\∃ xs,SqL K H p xs)\/(T="tuple"/\∃ o,K.lookup p=some o/\o.cls=.type "tuple"/\o.dict=none) \/
   (T="dict"/\((∃ kvs,H p=some (.dK kvs))\/∃ kvs,H p=some (.dT kvs)))\/(T="set"/\∃ S n,H p=some (.set S n))
 | _=>False
theorem tyV_is {pins:List (Addr × Obj)}{σ:St}{H:Hp}{s:Shared}{T:String}{x:V}{v:Value}(I:Inv X pins σ H s)(r:RelV x v)(ty:tyV X.K T x H) :
  s.TypeIs v T/\∀ a,v=.ref a->∃ ob,s.heap.get? a=some ob/\ob.dict=none:=by
 cases x with
 | str z =>
  obtain⟨t,rfl⟩:=r
  cases (show T="str" from ty)
  exact⟨typeIs_str s z t,fun _ e=>nomatch e⟩
 | int i =>
  obtain⟨t,rfl⟩:=r
  cases (show T="int" from ty)
  exact⟨typeIs_int s i t,fun _ e=>nomatch e⟩
 | ref p =>
  cases r
  rcases ty with⟨rfl,xs,hq⟩ | ⟨rfl,o,hk,hc,hd⟩ | ⟨rfl,hk⟩ | ⟨rfl,S,n,hk⟩
  ·obtain⟨its,_,pl,_⟩:=I.list hq
   refine⟨pl.isList.typeIs,fun a e=>?_⟩
   cases e
   obtain⟨o,n,e,c,hd,_⟩:=pl
   exact⟨o,e,hd⟩
  ·refine⟨⟨o,I.kIn p o hk,hc⟩,fun a e=>?_⟩
   cases e
   exact⟨o,I.kIn _ o hk,hd⟩
  ·have z:∃ o,s.heap.get? p=some o/\o.ExactDict:=by
    rcases hk with⟨kvs,hk⟩ | ⟨kvs,hk⟩
    ·obtain⟨_,_,_,_,o,_,_,e,ex,_⟩:=I.hok p _ hk
     exact⟨o,e,ex⟩
    ·obtain⟨_,_,_,_,o,_,_,e,ex,_⟩:=I.hok p _ hk
     exact⟨o,e,ex⟩
   obtain⟨o,e,ex⟩:=z
   refine⟨⟨o,e,ex.1⟩,fun a e2=>?_⟩
   cases e2
   exact⟨o,e,ex.2.1⟩
  ·obtain⟨o,_,_,_,e,ex,_⟩:=I.hok p _ hk
   refine⟨⟨o,e,ex.1⟩,fun a e2=>?_⟩
   cases e2
   exact⟨o,e,ex.2.1⟩
 | _=>exact False.elim ty
def tBM (K:W.Frag)(T:String)(r:V->List V->Hp->VK->Prop)(to:TE)(t:TA):TE:=fun σ H Q=>to σ H fun x H1=>tyV K T x H1/\t σ H1 fun xs H2=>r x xs H2 Q
variable {o e:Expr} {es:List Expr} {to:TE} {t:TA} {name:Str} {apos cpos:Pos} {T id:String} {r:V->List V->Hp->VK->Prop}
theorem pe_bm (pa:PlainAttrs T) (slot:Slot T name id) (hty:typeOf (.builtin id)=pure (.type "method_descriptor")) (hm:MtR X id r) (ho:PE X o to) (ha:PA X (e::es) t)
  (hbase:attributeBase o name X.env (eval o X.env)=eval o X.env:=by rfl)
  (hfew : ((backTo cpos (starEach (e :: es) X.env)).all (fun x => !x.1) && (backToKw cpos (keywordEach [] X.env)).all (fun x => x.1.isSome)
   && decide ((e::es).length+([]:List Keyword).length+(if ([]:List Keyword).isEmpty then 0 else 1)<30))=true:=by rfl)
  (hline:(apos.endLine == cpos.line)=true:=by rfl) (hs:starEach (e::es) X.env=(false,eval e X.env)::starEach es X.env:=by rfl) (hplain:(backTo cpos (starEach es X.env)).any (·.1)=false:=by rfl) :
  PE X (.Call (.Attribute o name apos) (e::es) [] cpos) (tBM X.K T r to t):=by
 intro pins s σ H Q I h
 refine wpAny_Call_method_late hbase hfew hline rfl (thn (ho pins s σ H _ I h) fun v s1 ⟨x,H1,I1,r1,ty,q1⟩=>?_)
 obtain⟨h1,h2⟩:=tyV_is I1 r1 ty
 refine⟨T,id,pa,slot,hty,h1,h2,?_⟩
 have hA:=ha cpos pins s1 σ H1 _ I1 q1
 rw[hs]at hA ⊢
 refine Calls.callWith_builtin (by show (false || (backTo cpos (starEach es X.env)).any (·.1))=false;rw[hplain]<;>rfl) (Calls.evalArgs_plain ?_)
 exact thn hA fun us s2 ⟨vs,H2,I2,r2,q2⟩=>hm pins s2 σ H2 x vs v us Q I2 r1 r2 q2
/- xs.append(e),list.index on a module's tuple .. are MtR facts of 06m -/
end
def MtM (X:Cx)(id:String)(r:V->List V->Hp->VK->Prop):Prop:=
 ∀ (pins:List (Addr × Obj)) (s:Shared) (σ:St) (H:Hp) (x:V) (xs:List V) (v:Value) (us:List Value) (Q:VK),Inv X pins σ H s->RelV x v->Vals xs us->r x xs H Q ->
  wpAny (model X.prog X.w) X.A (call (.builtin id) (v::us)) (EP X pins σ Q) X.xe s
theorem Vals.one:∀ {x:V} {us:List Value},Vals [x] us->∃ u,us=[u]/\RelV x u
 | _,_,.cons r .nil=>⟨_,rfl,r⟩
theorem Vals.rep {xs:List V}{us:List Value}(h:Vals xs us):∀ k:Nat,Vals (List.replicate k xs).flatten (List.replicate k us).flatten
 | 0=>.nil
 | k+1=>by
  rw[List.replicate_succ,List.replicate_succ,List.flatten_cons,List.flatten_cons]
  exact Vals.append h (Vals.rep h k)
theorem foldl_rep (its:List Value):∀ (k:Nat) (acc:List Value),
  List.foldl (fun x1 x2=>x1++x2) acc.toArray (List.replicate k its.toArray)=(acc++(List.replicate k its).flatten).toArray
 | 0,acc=>by simp
 | k+1,acc=>by
  have e:acc.toArray++its.toArray=(acc++its).toArray:=by simp
  have e2:(acc++its)++(List.replicate k its).flatten=acc++(List.replicate (k+1) its).flatten:=by
   rw[List.replicate_succ,List.flatten_cons,List.append_assoc]
  rw[<- e2,<- foldl_rep its k (acc++its),<- e,List.replicate_succ,List.foldl_cons]
section
variable {X:Cx} {pins:List (Addr × Obj)} {σ:St} {H:Hp} {s:Shared} {l b:Addr} {xs ys zs:List V}
theorem Inv.lset {its its':List Value}{n:Nat}{f:Array Value->Array Value}{t':Nat}(I:Inv X pins σ H s)(hH:H l=some (.lst xs))
  (e:s.heap.get? l=some { cls:=.type "list",data:=.seq its.toArray n })(hf:f its.toArray=its'.toArray)(hv:Vals ys its')(hz:ys.length<=sizeLine) :
  Inv X pins σ (upd H l (.lst ys)) { s with heap:=s.heap.update l (Obj.mapSeq f),toks:=t' }:=by
 have q:=PySem.IsL.update e f
 rw[hf]at q
 refine I.write (x:=l) (e:=l) (by rw[hH];exact trivial) (.inl rfl) (fun b' u hb hu=>(Heap.get?_update_other s.heap (Obj.mapSeq f) (Ne.symm hb)).trans hu) ⟨_,q⟩ ?_
 exact⟨hz,its',_,hv,q⟩
theorem Inv.lnew {its:List Value}{t':Nat}(I:Inv X pins σ H s)(hv:Vals ys its)(hz:ys.length<=sizeLine) :
  Inv X pins σ (upd H s.heap.objs.size (.lst ys)) { s with heap:=s.heap.push { cls:=.type "list",data:=.seq its.toArray },toks:=t' } :=
 I.laid (fun _ _ q=>Heap.get?_push_of_some _ q) (Nat.le_refl _) ⟨hz,its,0,hv,Heap.get?_push_size _ rfl⟩
theorem Inv.fresh (I:Inv X pins σ H s):H s.heap.objs.size=none:=I.hok.fresh (Nat.le_refl _)
theorem Inv.lstM (I:Inv X pins σ H s)(hH:H l=some (.lst xs)):xs.length<=sizeLine/\∃ (its:List Value) (n:Nat),Vals xs its/\xs.length=its.length/\s.heap.get? l=some { cls:=.type "list",data:=.seq its.toArray n }:=by
 obtain⟨z,its,n,r,e⟩:=I.hok l _ hH
 exact⟨z,its,n,r,r.length,e⟩
theorem notLongL {n:Nat}(h:n<=sizeLine):Builtin.List.listTooLong n=false:=by
 unfold Builtin.List.listTooLong
 exact decide_eq_false (by omega)
end
section
variable {X:Cx}
def rAppend:V->List V->Hp->VK->Prop:=fun x vs H Q=>∃ l xs y,x=.ref l/\vs=[y]/\H l=some (.lst xs)/\xs.length<sizeLine/\Q .non (upd H l (.lst (xs++[y])))
theorem mt_append:MtM X "list.append" rAppend:=by
 intro pins s σ H x vs v us Q I rx rv h
 obtain⟨l,xs,y,rfl,rfl,hH,hz,q⟩:=h
 cases rx
 obtain⟨u,rfl,ru⟩:=rv.one
 obtain⟨z,its,n,r,hl,e⟩:=I.lstM hH
 refine call_meets F.slot_list_append ⟨_,e,rfl⟩ F.entry_list_append (F.args_list_append_2 _ _) (PySem.list_append l its.toArray n u (by rw[List.size_toArray];omega)) ⟨e,?_⟩
 refine⟨.non,_,I.lset (its':=its++[u]) hH e (by simp) (r.append (.cons ru .nil)) ?_,rfl,q⟩
 rw[List.length_append,List.length_singleton]
 omega
def rCat:R2:=fun x y H Q=>∃ l b xs zs,x=.ref l/\y=.ref b/\H l=some (.lst xs)/\H b=some (.lst zs)/\xs.length+zs.length<=sizeLine/\∀ p,H p=none->Q (.ref p) (upd H p (.lst (xs++zs)))
theorem op_cat:OpR X (binaryOp .Add) rCat:=by
 intro pins s σ H x y v u Q I rx ry h
 obtain⟨l,b,xs,zs,rfl,rfl,hH,hB,hz,q⟩:=h
 cases rx
 cases ry
 obtain⟨z,its,n,r,hl,e⟩:=I.lstM hH
 obtain⟨z2,its2,n2,r2,hl2,e2⟩:=I.lstM hB
 refine PySem.P.add_list e e2 ?_ (by rw[List.size_toArray,List.size_toArray];omega)
 have ea:its.toArray++its2.toArray=(its++its2).toArray:=by simp
 rw[ea]
 exact⟨.ref _,_,I.lnew (t':=s.toks) (r.append r2) (by rw[List.length_append];omega),rfl,q _ I.fresh⟩
def rRep:R2:=fun x y H Q=>∃ l k xs,x=.ref l/\y=.int k/\H l=some (.lst xs) /\ -(2 ^ 63)<=k/\k<2 ^ 63/\xs.length*k.toNat<=sizeLine /\
 ∀ p,H p=none->Q (.ref p) (upd H p (.lst (List.replicate k.toNat xs).flatten))
theorem len_rep {α:Type}(xs:List α)(k:Nat):(List.replicate k xs).flatten.length=k*xs.length:=by
 induction k with
 | zero=>simp
 | succ k ih=>rw[List.replicate_succ,List.flatten_cons,List.length_append,ih,Nat.succ_mul,Nat.add_comm]
theorem op_rep:OpR X (binaryOp .Mult) rRep:=by
 intro pins s σ H x y v u Q I rx ry h
 obtain⟨l,k,xs,rfl,rfl,hH,h1,h2,hz,q⟩:=h
 cases rx
 obtain⟨t,rfl⟩:=ry
 obtain⟨z,its,n,r,hl,e⟩:=I.lstM hH
 have hlen:its.toArray.size*k.toNat<=sizeLine:=by rw[List.size_toArray,<- hl];exact hz
 have hcap:¬ its.toArray.size*k.toNat > (2 ^ 63 - 1) / 8:=by
  have:(sizeLine:Nat)<=(2 ^ 63 - 1) / 8:=by decide
  omega
 have hfit:¬ (!Builtin.List.listFitsIndex k)=true:=by
  rw[fitsIndex_both h1 h2]
  exact Bool.false_ne_true
 have hlong:¬ Builtin.List.listTooLong (its.toArray.size*k.toNat)=true:=by
  rw[notLongL hlen]
  exact Bool.false_ne_true
 have hnew:List.foldl (fun x1 x2=>x1++x2) #[] (List.replicate (if its.toArray.isEmpty=true then 0 else k.toNat) its.toArray)=(List.replicate k.toNat its).flatten.toArray:=by
  have f0:∀ m:Nat,List.foldl (fun x1 x2=>x1++x2) #[] (List.replicate m its.toArray)=(List.replicate m its).flatten.toArray:=fun m=>by
   have:=foldl_rep its m []
   rw[List.nil_append]at this
   exact this
  rw[f0]
  cases its with
  | nil=>simp
  | cons a r'=>rw[if_neg (by simp)]
 refine wpAny_binaryOp_repeat_ref (T:="list") (U:="int") (by decide) ⟨_,e,rfl⟩ (fun s'=>typeIs_int s' k t) noFill_list_mul F.fills_int_mul F.slot_int_rmul repeat_list F.slot_int_index.lookup
  (call_meets F.slot_int_rmul (typeIs_int s k t) F.entry_int_rmul (F.args_int_rmul_2 _ _) (int___rmul___int_list k t l its.toArray n)
   ⟨e,rfl,⟨_,e,rfl⟩,call_meets F.slot_list_mul ⟨_,e,rfl⟩ F.entry_list_mul (F.args_list_mul_2 _ _) (AutoListH.list___mul___list_int_3 l its.toArray n k t hfit hcap hlong) ⟨e,?_⟩⟩)
 rw[hnew]
 exact⟨.ref _,_,I.lnew (t':=s.toks) (r.rep k.toNat) (by rw[len_rep,Nat.mul_comm];exact hz),rfl,q _ I.fresh⟩
end
section
variable {prog:Program} {w:World} {A:Around} {E:Value->Shared->Prop} {s:Shared}
end
section
variable {X:Cx}
end
end L2
namespace Att
open PySem PySem.W PySem.Calls PyProof.Rows
theorem ints_of_wellAll {P:Params}{h:Heap}:∀ (ns:List Int) (vs:List Value),WellAll P h vs (ns.map WData.int)->IntsAre vs ns:=by
 intro ns
 induction ns with
 | nil =>
  intro vs w
  rw[List.map_nil]at w
  cases w
  exact .nil
 | cons n ns ih =>
  intro vs w
  rw[List.map_cons]at w
  cases w with
  | cons a b =>
   cases a
   exact .cons _ _ (ih _ b)
theorem script_of {l:OpenLaw}{n:Nat}(hn:l.most=some n){P:Params}{h:Heap}{args:List WData}{vals:List Value}
  (hpre:l.row.toRowW.claim.pre args=true)(hwl:WellAll P h vals args) :
  ∃ a vs ns,vals=[Value.ref a]/\args=[WData.list (ns.map WData.int)]/\h.get? a=some { cls:=.type "list",data:=.seq vs.toArray }/\IntsAre vs ns/\ns.length<=n:=by
 have hsh:WShape.hasAll [] args [.list .int]=true:=(pre_splitW hpre).1
 have hc:l.pre.holds [] { args:=args }=true:=(pre_splitW hpre).2
 obtain⟨d,r,rfl,h1,h2⟩:=hasAllW_cons hsh
 obtain rfl:=hasAllW_nil h2
 obtain⟨xs,rfl,h3⟩:=hasW_list h1
 obtain⟨ns,rfl⟩:=items_int h3
 have hlen:ns.length<=n:=by
  unfold OpenLaw.pre at hc
  have h4:(WTm.not (.lt (.lit (.int (n:Int))) (.len (.arg 0)))).holds [] { args:=[.list (ns.map .int)] }=true:=by
   have h4:=(holds_andW hc).1
   rw[hn]at h4
   exact h4
  have h5:=condW_of h4 (w_not (w_lt w_lit (w_len_list (w_arg rfl))))
  rw[List.length_map]at h5
  refine Nat.le_of_not_lt fun q=>?_
  have q':(n:Int)<((ns.length:Nat):Int):=by omega
  first
   | (rw[decide_eq_true q']at h5;exact absurd h5 (by decide))
   | (simp at h5;omega)
 cases hwl with
 | cons w1 w2 =>
  cases w2
  cases w1 with
  | list ho hall=>exact⟨_,_,ns,rfl,rfl,ho,ints_of_wellAll ns _ hall,hlen⟩
theorem post_true (l:OpenLaw)(args:List WData):l.row.toRowW.claim.post args (.bool true) args=true:=
 postW_of (r:=l.row.toRowW) (X:=(true == true))
  (show WShape.has [] (.bool true) .bool=true by first | rfl | decide | simp[WShape.has,WShape.arms,WShape.armsAll])
  (show (WTm.eq .res (.lit (.bool true))).value [] { args:=args,res:=some (.bool true),after:=args }=some (.bool (true == true)) from w_eq_bool (w_res rfl) w_lit) rfl
theorem attach_call {l:OpenLaw} {n:Nat} {q:Program} {loose:List Str} {XP:(Str->Option Value)->Heap->Prop} {YP:World->Heap->Prop} {d:DefRec}
  (hn:l.most=some n) (hdf:d.params.defaults=[])
  (call : ∀ (w : World) (s₀ s₁ : Shared) (mg mb : Str -> Option Value) (fa : Addr) (o : Obj) (pm cd doc : Value) (a : Addr) (vs : List Value) (ns : List Int),
   Ground q loose [] XP w s₀ mg mb s₁.heap->YP w s₁.heap ->
   s₁.heap.get? fa=some o->o.data=.func (docDef d.name d.params d.body d.scope pm cd doc)->s₁.heap.CodeRec cd d.name->mg d.name=some (.ref fa) ->
   s₁.heap.get? a=some { cls:=.type "list",data:=.seq vs.toArray }->IntsAre vs ns->ns.length<=n->s₁.gens=#[] ->
   codeAny (model l.prog w) callerA (.call (.ref fa) ⟨[.ref a],[]⟩) (fun r s'=>r=.ok (.ret (.bool true))/\OldK s₁.heap s'.heap/\s'.os=s₁.os/\AllBare s'.gens) s₁) :
  WalkO q loose XP YP l.row.toRowW d [] (fun f vs=>PySem.call f vs):=by
 intro w s₀ s₁ mg mb G Y fa o pm cd doc dV kV ho hd hcd hD hmg hg args vals as hpre hlay hrd hwl hlo
 obtain rfl:dV=.none:=Dflts.none hD hdf
 obtain rfl:kV=.none:=Dflts.noKw hD
 obtain⟨a,vs,ns,rfl,rfl,hobj,hints,hlen⟩:=script_of hn hpre hwl
 refine enter_call (codeAny_mono (call w s₀ s₁ mg mb fa o pm cd doc a vs ns G Y ho (fd_plain hd) hcd hmg hobj hints hlen hg) fun r s' hq=>?_)
 obtain⟨rfl,h2,h3,h4⟩:=hq
 exact⟨.inl ⟨.bool true,.bool true,[],rfl,fun _=>rfl,.bool true,post_true l _,fun _=>⟨List.Pairwise.nil,fun _ hm=>(nomatch hm)⟩⟩,h2,h3,h4⟩
section
variable {prog:Program} {w:World} {A:Around} {E:Value->Shared->Prop} {s:Shared} {K:Frag}
end
end Att
namespace L2
open PySem PySem.Spec PyProof.Rows
theorem vals_ints:∀ {vs:List Value} {ns:List Int},IntsAre vs ns->Vals (ns.map V.int) vs
 | _,_,.nil=>.nil
 | _,_,.cons n t h=>.cons ⟨t,rfl⟩ (vals_ints h)
end L2
namespace L2
open PySem PySem.Spec PyProof.Rows
def defArgs (s:Stmt):Arguments:=match s with
 | .FunctionDef _ a _ _ _ _ _ _ _ _=>a
 | _=>{ posonlyargs:=[],args:=[],vararg:=none,kwonlyargs:=[],kw_defaults:=[],kwarg:=none,defaults:=[] }
def defBody (s:Stmt):List Stmt:=match s with
 | .FunctionDef _ _ b _ _ _ _ _ _ _=>b
 | _=>[]
def defScope (s:Stmt):Scope:=match s with
 | .FunctionDef _ _ _ _ _ _ sc _ _ _=>sc
 | _=>{ kind:=.function,names:=[],isGenerator:=false,isCoroutine:=false }
abbrev CX0:CXT:=fun _ _ _ _ _ _=>False
abbrev E0:XK:=fun _ _ _=>False
theorem pass0 {X:Cx}:Passes CX0 X E0:=fun _ _ _ _ _ _ _ h=>h.elim
structure Fun (K:W.Frag) (x qual:Str) (st:Stmt) (f:Addr) (fd:FuncData):Prop where
 ex:∃ (oc:Value) (od:Option Addr) (kV doc pm:Value) (an:Option Addr) (cdv ct:Value) (osl:Array (Option Value)),
  fd=PySem.W.fnOf x qual (defArgs st) (defBody st) (defScope st) .none kV doc pm an cdv ct/\K.lookup f=some ⟨oc,od,.func fd,osl⟩/\PySem.W.codeIn K cdv qual=true
 kp:PySem.W.keepIn K (.ref f)=true
section
variable {P:Program} {w:World} {K:W.Frag} {mg:Str->Option Value} {base:Heap}
theorem Fun.ok {x qual:Str} {st:Stmt} {f:Addr} {fd:FuncData} {N ps:List Str} {k:Nat} {sp:Sp} (F:Fun K x qual st f fd) (S:FnScope N ps (defScope st)) (len:∀ vs H Q E,sp vs H Q E->vs.length=ps.length)
  (hbody : ∀ (cdv : Value) (A : Around) (outer : List Env) (s : Shared) (H : Hp) (vs : List V) (Q : VK) (E : XK), Room k (A.deeper (envOfC qual (defScope st) s.heap.objs.size f cdv)) -> sp vs H Q E ->
   ∃ t,PSs (cxOf CX0 P w K mg base N qual (defScope st) f cdv A outer s H E).nox (defBody st) t/\t { nx:=fun _ H'=>Q .non H',rt:=Q } (start N vs) H):FnOk P w K mg base CX0 (k+1) f fd ps sp:=by
 obtain⟨oc,od,kV,doc,pm,an,cdv,ct,osl,rfl,lk,hcd⟩:=F.ex
 refine fn_of lk hcd S len fun A outer s H vs Q E hr hsp=>?_
 obtain⟨t,h,q⟩:=hbody cdv A outer s H vs Q E hr hsp
 exact⟨t,h.nox,q⟩
theorem Fun.binds {x qual:Str}{st:Stmt}{f:Addr}{fd:FuncData}{ps:List Str}(F:Fun K x qual st f fd)
  (h:∀ (kV doc pm:Value) (an:Option Addr) (cdv ct:Value) (us:List Value),us.length=ps.length->bindArgs (PySem.W.fnOf x qual (defArgs st) (defBody st) (defScope st) .none kV doc pm an cdv ct) ⟨us,[]⟩=pure (ps.zip us)):Binds K fd ps []:=by
 obtain⟨oc,od,kV,doc,pm,an,cdv,ct,osl,rfl,lk,hcd⟩:=F.ex
 exact .all (h kV doc pm an cdv ct)
theorem fun_mk {x qual:Str}{st:Stmt}{f:Addr}{oc:Value}{od an:Option Addr}{osl:Array (Option Value)}{kV doc pm cdv ct:Value}(l:K.lookup f=some ⟨oc,od,.func (PySem.W.fnOf x qual (defArgs st) (defBody st) (defScope st) .none kV doc pm an cdv ct),osl⟩)
  (c:PySem.W.codeIn K cdv qual=true)(k:PySem.W.keepIn K (.ref f)=true):Fun K x qual st f (PySem.W.fnOf x qual (defArgs st) (defBody st) (defScope st) .none kV doc pm an cdv ct):=⟨⟨oc,od,kV,doc,pm,an,cdv,ct,osl,rfl,l,c⟩,k⟩
end
section
variable {X:Cx}
theorem pv (i:Nat){x:Str}{pos:Pos}(hN:X.N[i]?=some x:=by rfl)(hv:Vis X.env.scope x:=by first | exact Or.inl rfl | exact Or.inr (Or.inl rfl) | exact Or.inr (Or.inr rfl))(hd:(x == ("__debug__":Str))=false:=by decide)
  (hcd:(x == ("__classdict__":Str))=false:=by decide):PE X (.Name x pos) (tVar i):=pe_var hN hv hd hcd
end
theorem iteF {A B:Prop}(h:B):if false=true then A else B:=by
 rw[if_neg Bool.false_ne_true]
 exact h
theorem iteT {A B:Prop}(h:A):if true=true then A else B:=by
 rw[if_pos rfl]
 exact h
theorem ite2 {c A B:Prop}[Decidable c](h1:c->A)(h2:¬ c->B):if c then A else B:=by
 by_cases h:c
 ·rw[if_pos h]
  exact h1 h
 ·rw[if_neg h]
  exact h2 h
theorem iteNS {c A B:Prop}[Decidable c](hc:c)(h:B):if (!decide c)=true then A else B:=by
 rw[decide_eq_true hc]
 exact iteF h
def Same (H H':Hp):Prop:=∀ b o,H b=some o->H' b=some o
theorem Same.refl (H:Hp):Same H H:=fun _ _ h=>h
theorem Same.trans {H H1 H2:Hp}(a:Same H H1)(b:Same H1 H2):Same H H2:=fun c o h=>b c o (a c o h)
theorem Same.free {H H':Hp}(e:Same H H'){l:Addr}(h:H' l=Option.none):H l=Option.none:=by
 cases q:H l with
 | none=>rfl
 | some o =>
  rw[e l o q]at h
  cases h
theorem Same.seq {K:W.Frag}{H H':Hp}{a:Addr}{xs:List V}(e:Same H H')(h:SqL K H a xs):SqL K H' a xs:=by
 rcases h with(h | ⟨o,h⟩) | h
 ·exact .inl (.inl (e _ _ h))
 ·exact .inl (.inr ⟨o,e _ _ h⟩)
 ·exact .inr h
end L2
namespace Tim
open PySem PyProof.Rows
structure Ord (B:Keyed->Keyed->Bool):Prop where
 irr:∀ x,B x x=false
 tr:∀ x y z,B x y=true->B y z=true->B x z=true
 ng:∀ x y z,B x z=true->B x y=true\/B y z=true
def le (B:Keyed->Keyed->Bool)(x y:Keyed):Prop:=B y x=false
section
variable {prog:Program} {w:World} {A:Around} {E:Value->Shared->Prop} {s:Shared} {κ:SortKind} {S:Keyed->Prop} {B:Keyed->Keyed->Bool}
def Cmp (prog:Program)(w:World)(A:Around)(E:Value->Shared->Prop)(s:Shared)(κ:SortKind)(S:Keyed->Prop)(B:Keyed->Keyed->Bool):Prop:=
 ∀ (x y:Keyed),S x->S y->∀ (Q:Bool->Shared->Prop),Q (B x y) s->wpAny (model prog w) A (keyLt' κ x.1 y.1) Q (fun _ _=>False) s
theorem wpS_lt (C:Cmp prog w A E s κ S B){x y:Keyed}{st:SortSt}{Q:Option Bool->SortSt->Prop}(hk:kindOf st=κ)(hx:S x)(hy:S y)(h:Q (some (B x y)) st):wpS (model prog w) A E s (lt' x y) Q st:=by
 rw[lt'_eq]
 refine wpS_bind (wpS_get ?_)
 rw[hk]
 refine wpS_bind (wpS_lift (wpAny_attempt ?_))
 refine wpAny_mono (C x y hx hy (fun b s'=>s'=s/\b=B x y) ⟨rfl,rfl⟩) (fun b s' hb=>?_) (fun _ _ f=>f.elim)
 obtain⟨rfl,rfl⟩:=hb
 exact⟨rfl,wpS_pure h⟩
theorem wpS_elem {arr:Array Keyed}{i:Nat}{x:Keyed}{st:SortSt}{Q:Keyed->SortSt->Prop}(hi:arr[i]?=some x)(h:Q x st):wpS (model prog w) A E s (elem' arr i) Q st:=by
 rw[elem'_eq,hi]
 exact wpS_pure h
theorem wpS_ltAt' (C:Cmp prog w A E s κ S B){i j:Nat}{x y:Keyed}{st:SortSt}{Q:Option Bool->SortSt->Prop}(hk:kindOf st=κ)(hi:(arrOf st)[i]?=some x)(hj:(arrOf st)[j]?=some y)(hx:S x)(hy:S y)(h:Q (some (B x y)) st) :
  wpS (model prog w) A E s (ltAt' i j) Q st:=by
 rw[ltAt'_eq]
 refine wpS_bind (wpS_get ?_)
 show wpS _ _ _ _ (do let x <- elem' (arrOf st) i;let y <- elem' (arrOf st) j;lt' x y) Q st
 exact wpS_bind (wpS_elem hi (wpS_bind (wpS_elem hj (wpS_lt C hk hx hy h))))
theorem wpS_rule {n:String}{st:SortSt}{Q:Unit->SortSt->Prop}(h:Q () st):wpS (model prog w) A E s (liftM (rule n):StateT SortSt Sem Unit) Q st:=wpS_lift (wpAny_rule ⟨rfl,h⟩)
end
structure MI (R:Keyed->Keyed->Prop) (out ra rb all:List Keyed):Prop where
 so:out.Pairwise R
 oa:∀ x∈out,∀ y∈ra,R x y
 ob:∀ x∈out,∀ y∈rb,R x y
 sa:ra.Pairwise R
 sb:rb.Pairwise R
 pm:(out++(ra++rb)).Perm all
structure Sm (st st':SortSt):Prop where
 k:kindOf st'=kindOf st
 a:arrOf st'=arrOf st
 p:pendingOf st'=pendingOf st
 f:failedOf st'=failedOf st
section
variable {prog:Program} {w:World} {A:Around} {E:Value->Shared->Prop} {s:Shared} {κ:SortKind} {S:Keyed->Prop} {B:Keyed->Keyed->Bool}
structure LoI (B:Keyed->Keyed->Bool) (a b out:Array Keyed) (ia ib:Nat):Prop where
 m:MI (le B) out.toList (a.toList.drop ia) (b.toList.drop ib) (a.toList++b.toList)
 ha:ia+1<a.size
 hb:ib<b.size
 sz:out.size=ia+ib
def Good (B:Keyed->Keyed->Bool)(a b r:Array Keyed):Prop:=r.toList.Pairwise (le B)/\r.toList.Perm (a.toList++b.toList)
end
section
variable {prog:Program} {w:World} {A:Around} {E:Value->Shared->Prop} {s:Shared} {κ:SortKind} {S:Keyed->Prop} {B:Keyed->Keyed->Bool}
abbrev HM (B:Keyed->Keyed->Bool)(a b out:Array Keyed)(na nb:Nat):Prop:=MI (fun x y=>le B y x) out.toList (a.toList.take na).reverse (b.toList.take nb).reverse (a.toList++b.toList)
structure HiI (B:Keyed->Keyed->Bool) (a b out:Array Keyed) (na nb:Nat):Prop where
 m:HM B a b out na nb
 ha:0<na
 ha':na<=a.size
 hb:1<nb
 hb':nb<=b.size
 sz:out.size+na+nb=a.size+b.size
end
def KF {O:KeyOrd}(f:Keyed->O.α)(d:O.α)(xs:Array Keyed)(i:Nat):O.α:=match xs[i]? with
 | some p=>f p
 | none=>d
def Bf {O:KeyOrd}(f:Keyed->O.α)(x y:Keyed):Bool:=O.blt (f x) (f y)
section
variable {O:KeyOrd} {f:Keyed->O.α} {d:O.α}
theorem KF_congr {xs ys:Array Keyed}{i j:Nat}(h:xs[i]?=ys[j]?):KF f d xs i=KF f d ys j:=by unfold KF;rw[h]
theorem KF_some {xs:Array Keyed}{i:Nat}{x:Keyed}(h:xs[i]?=some x):KF f d xs i=f x:=by unfold KF;rw[h]
theorem KF_bubble {xs:Array Keyed}{src dd:Nat}(hs:src<xs.size)(hd:dd<=src)(k:Nat) :
  KF f d (bubble xs src dd) k=if k=src - dd then KF f d xs src else if src - dd<k/\k<=src then KF f d xs (k - 1) else KF f d xs k:=by
 have e:=getElem?_bubble hs dd hd k
 repeat' split at e
 all_goals first
  | (rw[if_pos (by assumption)];exact KF_congr e)
  | (rw[if_neg (by assumption),if_pos (by assumption)];exact KF_congr e)
  | (rw[if_neg (by assumption),if_neg (by assumption)];exact KF_congr e)
theorem KF_mirror {xs:Array Keyed}{i j:Nat}(hj:j<=xs.size)(k:Nat):KF f d (mirror xs i j ((j - i) / 2)) k=if i<=k/\k<j then KF f d xs (i+j - 1 - k) else KF f d xs k:=by
 have e:=getElem?_mirror_all (i:=i) hj k
 split at e
 ·rw[if_pos (by assumption)];exact KF_congr e
 ·rw[if_neg (by assumption)];exact KF_congr e
theorem KF_mirror_equal {xs:Array Keyed}{i j:Nat}(hj:j<=xs.size)(heq:∀ k,i<=k->k<j->KF f d xs k=KF f d xs (j - 1))(k:Nat):KF f d (mirror xs i j ((j - i) / 2)) k=KF f d xs k:=by
 rw[KF_mirror hj]
 split
 ·rw[heq _ (by omega) (by omega),heq k (by omega) (by omega)]
 ·rfl
end
def SortedF {O:KeyOrd}(f:Keyed->O.α)(d:O.α)(lo:Nat)(xs:Array Keyed)(k:Nat):Prop:=∀ i j,i<=j->j<k->O.kle (KF f d xs (lo+i)) (KF f d xs (lo+j))
def NonIncF {O:KeyOrd}(f:Keyed->O.α)(d:O.α)(lo:Nat)(xs:Array Keyed)(k:Nat):Prop:=∀ i j,i<=j->j<k->O.kle (KF f d xs (lo+j)) (KF f d xs (lo+i))
def Pre (lo:Nat)(xs ys:Array Keyed):Prop:=∀ k,k<lo->ys[k]?=xs[k]?
theorem Pre.rf (lo:Nat)(xs:Array Keyed):Pre lo xs xs:=fun _ _=>rfl
theorem Pre.trans {lo:Nat}{xs ys zs:Array Keyed}(a:Pre lo xs ys)(b:Pre lo ys zs):Pre lo xs zs:=fun k hk=>(b k hk).trans (a k hk)
theorem Pre.mirror {lo i j:Nat}{xs:Array Keyed}(hj:j<=xs.size)(hi:lo<=i):Pre lo xs (mirror xs i j ((j - i) / 2)):=fun k hk=>by
 rw[getElem?_mirror_all hj,if_neg (by omega)]
theorem Pre.bubble {lo src dd:Nat}{xs:Array Keyed}(hs:src<xs.size)(hd:dd<=src)(hl:lo<=src - dd):Pre lo xs (bubble xs src dd):=fun k hk=>by
 rw[getElem?_bubble hs dd hd,if_neg (by omega),if_neg (by omega)]
structure SI (a₀:Array Keyed) (κ:SortKind) (p:Array (Nat × Nat × Nat)) (st:SortSt):Prop where
 perm:(arrOf st).Perm a₀
 kind:kindOf st=κ
 failed:failedOf st=none
 pend:pendingOf st=p
section
variable {prog:Program} {w:World} {A:Around} {E:Value->Shared->Prop} {s:Shared} {κ:SortKind} {a₀:Array Keyed} {p:Array (Nat × Nat × Nat)} {O:KeyOrd} {f:Keyed->O.α} {d:O.α}
theorem SI.size {st:SortSt}(h:SI a₀ κ p st):(arrOf st).size=a₀.size:=h.perm.size_eq
theorem SI.setArr {st:SortSt}(h:SI a₀ κ p st){xs:Array Keyed}(hp:xs.Perm (arrOf st)):SI a₀ κ p (setArr st xs):=⟨hp.trans h.perm,h.kind,h.failed,h.pend⟩
theorem SI.at {st:SortSt}(h:SI a₀ κ p st){i:Nat}(hi:i<a₀.size):∃ x,(arrOf st)[i]?=some x/\x∈a₀.toList:=by
 have hi':i<(arrOf st).size:=by rw[h.size];exact hi
 exact⟨(arrOf st)[i],getElem?_pos _ i hi',(Array.perm_iff_toList_perm.mp h.perm).mem_iff.mp (by simp)⟩
abbrev CmpA (prog:Program)(w:World)(A:Around)(E:Value->Shared->Prop)(s:Shared)(κ:SortKind)(a₀:Array Keyed){O:KeyOrd}(f:Keyed->O.α):Prop:=Cmp prog w A E s κ (·∈a₀.toList) (Bf f)
theorem wpS_ltF (C:CmpA prog w A E s κ a₀ f){st:SortSt}{i j:Nat}{Q:Option Bool->SortSt->Prop}(hB:SI a₀ κ p st)(hi:i<a₀.size)(hj:j<a₀.size)
  (h:Q (some (O.blt (KF f d (arrOf st) i) (KF f d (arrOf st) j))) st):wpS (model prog w) A E s (ltAt' i j) Q st:=by
 obtain⟨x,e1,hx⟩:=hB.at hi
 obtain⟨y,e2,hy⟩:=hB.at hj
 rw[KF_some e1,KF_some e2]at h
 exact wpS_ltAt' C hB.kind e1 e2 hx hy h
theorem wpS_asc {st:SortSt} {lo a nrem:Nat} {Q:Option (Option Nat) × Nat->SortSt->Prop} {b:Nat->Option (Option Nat) × Nat->StateT SortSt Sem (ForInStep (Option (Option Nat) × Nat))} (ha:1<=a) (han:a<=nrem)
  (hb : ∀ x n (R : ForInStep (Option (Option Nat) × Nat) -> SortSt -> Prop), 1 <= n -> n < nrem -> (O.klt (KF f d (arrOf st) (lo + n)) (KF f d (arrOf st) (lo + n - 1)) -> R (.done (none, n)) st) ->
   (O.kle (KF f d (arrOf st) (lo+n - 1)) (KF f d (arrOf st) (lo+n))->R (.yield (none,n+1)) st)->wpS (model prog w) A E s (b x (none,n)) R st)
  (hs:SortedF f d lo (arrOf st) a)
  (h:∀ n,a<=n->n<=nrem->SortedF f d lo (arrOf st) n->(n=nrem\/O.klt (KF f d (arrOf st) (lo+n)) (KF f d (arrOf st) (lo+n - 1)))->Q (none,n) st) :
  wpS (model prog w) A E s (forIn [a:nrem] (none,a) b) Q st:=by
 refine wpS_forRange (I:=fun x c st'=>st'=st/\c=(none,x)/\SortedF f d lo (arrOf st) x) ?step ?fin ⟨rfl,rfl,hs⟩
 case fin =>
  rintro c st' ⟨rfl,rfl,hs'⟩
  rw[show max a nrem=nrem by omega]at hs' ⊢
  exact h nrem han (Nat.le_refl _) hs' (.inl rfl)
 case step =>
  rintro x c st' hax hxn ⟨rfl,rfl,hs'⟩
  refine hb x x _ (by omega) hxn (fun q=>h x hax (by omega) hs' (.inr q)) (fun q=>⟨rfl,rfl,fun i j hij hj=>?_⟩)
  by_cases hjx:j<x
  ·exact hs' i j hij hjx
  ·have hj':j=x:=by omega
   subst hj'
   by_cases hi':i=j
   ·subst hi';exact KeyOrd.kle_refl _
   ·refine KeyOrd.kle_trans (hs' i (j - 1) (by omega) (by omega)) ?_
    rw[show lo+(j - 1)=lo+j - 1 by omega]
    exact q
theorem wpS_desc {st:SortSt} {lo n nrem:Nat} {Q:Option (Option Nat) × Nat × Nat->SortSt->Prop} {b:Nat->Option (Option Nat) × Nat × Nat->StateT SortSt Sem (ForInStep (Option (Option Nat) × Nat × Nat))} (hn:lo+nrem<=a₀.size) (h1:1<=n) (hnn:n<=nrem) (hB:SI a₀ κ p st)
  (hb : ∀ y x neq st' (R : ForInStep (Option (Option Nat) × Nat × Nat) -> SortSt -> Prop), SI a₀ κ p st' -> 1 <= x -> x < nrem ->
   (O.klt (KF f d (arrOf st') (lo+x)) (KF f d (arrOf st') (lo+x - 1))->0<neq->R (.yield (none,x+1,0)) (setArr st' (mirror (arrOf st') (lo+x - (neq+1)) (lo+x) ((lo+x - (lo+x - (neq+1))) / 2)))) ->
   (O.klt (KF f d (arrOf st') (lo+x)) (KF f d (arrOf st') (lo+x - 1))->R (.yield (none,x+1,0)) st') ->
   (R (.done (none,x,neq)) st') ->
   (O.kle (KF f d (arrOf st') (lo+x - 1)) (KF f d (arrOf st') (lo+x))->O.kle (KF f d (arrOf st') (lo+x)) (KF f d (arrOf st') (lo+x - 1))->R (.yield (none,x+1,neq+1)) st')->wpS (model prog w) A E s (b y (none,x,neq)) R st')
  (hs:NonIncF f d lo (arrOf st) n)
  (h:∀ m neq st',SI a₀ κ p st'->Pre lo (arrOf st) (arrOf st')->n<=m->m<=nrem->NonIncF f d lo (arrOf st') m->neq+1<=m->(∀ i,m - (neq+1)<=i->i<m->KF f d (arrOf st') (lo+i)=KF f d (arrOf st') (lo+m - 1))->Q (none,m,neq) st') :
  wpS (model prog w) A E s (forIn [n:nrem] (none,n,0) b) Q st:=by
 refine wpS_forRange (I:=fun x c st'=>∃ neq,c=(none,x,neq)/\SI a₀ κ p st'/\Pre lo (arrOf st) (arrOf st')/\NonIncF f d lo (arrOf st') x/\neq+1<=x /\
   (∀ i,x - (neq+1)<=i->i<x->KF f d (arrOf st') (lo+i)=KF f d (arrOf st') (lo+x - 1))) ?step ?fin ⟨0,rfl,hB,Pre.rf _ _,hs,by omega,fun i h1 h2=>by congr 1;omega⟩
 case fin =>
  rintro c st' ⟨neq,rfl,hB',hp',hs',hq,he⟩
  rw[show max n nrem=nrem by omega]at hs' hq he ⊢
  exact h nrem neq st' hB' hp' hnn (Nat.le_refl _) hs' hq he
 case step =>
  rintro x c st' hax hxn ⟨neq,rfl,hB',hp',hs',hq,he⟩
  have hsz:lo+x<=(arrOf st').size:=by rw[hB'.size];omega
  have step1:O.klt (KF f d (arrOf st') (lo+x)) (KF f d (arrOf st') (lo+x - 1))->∀ xs:Array Keyed,(∀ k,KF f d xs k=KF f d (arrOf st') k)->NonIncF f d lo xs (x+1):=by
   intro hless xs hk i j hij hj
   rw[hk,hk]
   by_cases hjx:j<x
   ·exact hs' i j hij hjx
   ·have hj':j=x:=by omega
    subst hj'
    by_cases hi':i=j
    ·subst hi';exact KeyOrd.kle_refl _
    ·refine KeyOrd.kle_trans (KeyOrd.kle_of_klt hless) ?_
     rw[show lo+j - 1=lo+(j - 1) by omega]
     exact hs' i (j - 1) (by omega) (by omega)
  have he':∀ k,lo+x - (neq+1)<=k->k<lo+x->KF f d (arrOf st') k=KF f d (arrOf st') (lo+x - 1):=fun k h1 h2=>by
   have:=he (k - lo) (by omega) (by omega)
   rw[show lo+(k - lo)=k by omega]at this
   exact this
  refine hb x x neq st' _ hB' (by omega) hxn (fun q hneq=>?_) (fun q=>?_) (h x neq st' hB' hp' hax (by omega) hs' hq he) (fun q q'=>?_)
  ·exact⟨0,rfl,hB'.setArr (mirror_perm _ _ _ _),hp'.trans (Pre.mirror hsz (by omega)),step1 q _ (KF_mirror_equal hsz he'),by omega,fun i h1 h2=>by congr 1;omega⟩
  ·exact⟨0,rfl,hB',hp',step1 q _ (fun _=>rfl),by omega,fun i h1 h2=>by congr 1;omega⟩
  ·have heqx:KF f d (arrOf st') (lo+x)=KF f d (arrOf st') (lo+x - 1):=KeyOrd.kle_antisymm q' q
   refine⟨neq+1,rfl,hB',hp',fun i j hij hj=>?_,by omega,fun i h1 h2=>?_⟩
   ·by_cases hjx:j<x
    ·exact hs' i j hij hjx
    ·have hj':j=x:=by omega
     subst hj'
     by_cases hi':i=j
     ·subst hi';exact KeyOrd.kle_refl _
     ·rw[heqx,show lo+j - 1=lo+(j - 1) by omega];exact hs' i (j - 1) (by omega) (by omega)
   ·rw[show lo+(x+1) - 1=lo+x by omega]
    by_cases hix:i=x
    ·subst hix;rfl
    ·rw[heqx];exact he i (by omega) (by omega)
theorem wpS_countRun (C:CmpA prog w A E s κ a₀ f) {st:SortSt} {lo nrem:Nat} {Q:Option Nat->SortSt->Prop} (d:O.α) (hn:lo+nrem<=a₀.size) (h1:1<=nrem) (hB:SI a₀ κ p st)
    (h:∀ m st',SI a₀ κ p st'->Pre lo (arrOf st) (arrOf st')->1<=m->m<=nrem->SortedF f d lo (arrOf st') m->Q (some m) st') :
    wpS (model prog w) A E s (countRun' lo nrem) Q st:=by
  rw[countRun'_eq]
  dsimp only
  refine wpS_bind (wpS_asc (f:=f) (d:=d) (lo:=lo) (Nat.le_refl 1) h1 (fun x n R hn1 hn2 q1 q2=>?_) (fun i j hij hj=>by have:i=j:=(by omega);subst this;exact KeyOrd.kle_refl _) fun n hn1 hn2 hsn hor=>?_)
  · dsimp only
    refine wpS_bind (wpS_ltF (d:=d) C hB (by omega) (by omega) ?_)
    cases e:O.blt (KF f d (arrOf st) (lo+n)) (KF f d (arrOf st) (lo+n - 1)) with
    | true=>exact wpS_pure (q1 e)
    | false=>exact wpS_pure (q2 e)
  dsimp only
  by_cases hnn:n=nrem
  · rw[if_pos (by simpa using hnn)]
    exact wpS_pure (h n st hB (Pre.rf _ _) hn1 hn2 hsn)
  rw[if_neg (by simpa using hnn)]
  have hlt:=hor.resolve_left hnn
  by_cases hrose:1<n/\O.blt (KF f d (arrOf st) lo) (KF f d (arrOf st) (lo+n - 1))=true
  · rw[if_pos hrose.1]
    refine wpS_bind (wpS_ltF (d:=d) C hB (by omega) (by omega) ?_)
    rw[hrose.2]
    exact wpS_pure (h n st hB (Pre.rf _ _) hn1 hn2 hsn)
  have hfell:1<n->O.blt (KF f d (arrOf st) lo) (KF f d (arrOf st) (lo+n - 1))=false:=fun hgt=>by
    cases e:O.blt (KF f d (arrOf st) lo) (KF f d (arrOf st) (lo+n - 1)) with
    | false=>rfl
    | true=>exact absurd ⟨hgt,e⟩ hrose
  have fall:∃ st2,SI a₀ κ p st2/\Pre lo (arrOf st) (arrOf st2)/\NonIncF f d lo (arrOf st2) (n+1)/\(n > 1->st2=setArr st (mirror (arrOf st) lo (lo+n) ((lo+n - lo) / 2)))/\(¬ n > 1->st2=st):=by
    by_cases hgt:1<n
    · have hfell:=hfell hgt
      have hsz:lo+n<=(arrOf st).size:=by rw[hB.size];omega
      have hall:∀ k,lo<=k->k<lo+n->KF f d (arrOf st) k=KF f d (arrOf st) (lo+n - 1):=by
        intro k hk0 hk
        have a1:=hsn 0 (k - lo) (by omega) (by omega)
        have a2:=hsn (k - lo) (n - 1) (by omega) (by omega)
        rw[show lo+0=lo by omega,show lo+(k - lo)=k by omega]at a1
        rw[show lo+(k - lo)=k by omega,show lo+(n - 1)=lo+n - 1 by omega]at a2
        exact KeyOrd.kle_antisymm a2 (KeyOrd.kle_trans hfell a1)
      refine⟨_,hB.setArr (mirror_perm _ _ _ _),Pre.mirror hsz (Nat.le_refl _),?_,fun _=>rfl,fun e=>by omega⟩
      intro i j hij hj
      show O.kle (KF f d (mirror (arrOf st) _ _ _) (lo+j)) (KF f d (mirror (arrOf st) _ _ _) (lo+i))
      rw[KF_mirror_equal hsz hall,KF_mirror_equal hsz hall]
      by_cases hjn:j<n
      · rw[hall (lo+i) (by omega) (by omega),hall (lo+j) (by omega) (by omega)];exact KeyOrd.kle_refl _
      · have hj':j=n:=by omega
        subst hj'
        by_cases hi':i=j
        · subst hi';exact KeyOrd.kle_refl _
        · rw[hall (lo+i) (by omega) (by omega)];exact KeyOrd.kle_of_klt hlt
    · have hn1':n=1:=by omega
      subst hn1'
      refine⟨st,hB,Pre.rf _ _,?_,fun q=>by omega,fun _=>rfl⟩
      intro i j hij hj
      by_cases hi':i=j
      · subst hi';exact KeyOrd.kle_refl _
      · have hi0:i=0:=by omega
        have hj1:j=1:=by omega
        subst hi0;subst hj1
        rw[show lo+0=lo+1 - 1 by omega]
        exact KeyOrd.kle_of_klt hlt
  obtain⟨st2,hB2,hp2,hs2,e2,e3⟩:=fall
  by_cases hgt:n > 1
  all_goals first
    | (rw [if_pos hgt]
       refine wpS_bind (wpS_ltF (d:=d) C hB (by omega) (by omega) ?_)
       rw[hfell hgt]
       dsimp only
       rw[if_neg Bool.false_ne_true]
       refine wpS_bind (wpS_reverse ?_)
       rw[<- e2 hgt])
    | (rw [if_neg hgt]
       have e3:=e3 hgt
       rw[<- e3])
  all_goals
    clear e2 e3
    refine wpS_bind (wpS_rule ?_)
    refine wpS_bind (wpS_desc (f:=f) (d:=d) (lo:=lo) hn (by omega) (by omega) hB2 (fun y x neq st' R hB' x1 x2 q1 q2 q3 q4=>?_) hs2 fun m neq st' hB' hp' hm1 hm2 hs' hq he=>?_)
    · dsimp only
      refine wpS_bind (wpS_ltF (d:=d) C hB' (by omega) (by omega) ?_)
      cases e:O.blt (KF f d (arrOf st') (lo+x)) (KF f d (arrOf st') (lo+x - 1)) with
      | true =>
        dsimp only
        rw[if_pos rfl]
        split
        · rename_i hz
          exact wpS_bind (wpS_reverse (wpS_pure (q1 e hz)))
        · exact wpS_pure (q2 e)
      | false =>
        dsimp only
        rw[if_neg Bool.false_ne_true]
        refine wpS_bind (wpS_ltF (d:=d) C hB' (by omega) (by omega) ?_)
        cases e':O.blt (KF f d (arrOf st') (lo+x - 1)) (KF f d (arrOf st') (lo+x)) with
        | true=>exact wpS_pure q3
        | false=>exact wpS_pure (q4 e e')
    · dsimp only
      have hsz:lo+m<=(arrOf st').size:=by rw[hB'.size];omega
      have he':∀ k,lo+m - (neq+1)<=k->k<lo+m->KF f d (arrOf st') k=KF f d (arrOf st') (lo+m - 1):=fun k h1 h2=>by
        have:=he (k - lo) (by omega) (by omega)
        rw[show lo+(k - lo)=k by omega]at this
        exact this
      have tailOk:∀ st3,SI a₀ κ p st3->Pre lo (arrOf st) (arrOf st3)->NonIncF f d lo (arrOf st3) m->SI a₀ κ p (setArr st3 (mirror (arrOf st3) lo (lo+m) ((lo+m - lo) / 2)))/\Pre lo (arrOf st) (mirror (arrOf st3) lo (lo+m) ((lo+m - lo) / 2))/\SortedF f d lo (mirror (arrOf st3) lo (lo+m) ((lo+m - lo) / 2)) m:=fun st3 hB3 hp3 hs3=>by
        have hsz3:lo+m<=(arrOf st3).size:=by rw[hB3.size];omega
        refine⟨hB3.setArr (mirror_perm _ _ _ _),hp3.trans (Pre.mirror hsz3 (Nat.le_refl _)),fun i j hij hj=>?_⟩
        rw[KF_mirror hsz3,KF_mirror hsz3,if_pos (by omega),if_pos (by omega),show lo+(lo+m) - 1 - (lo+i)=lo+(m - 1 - i) by omega,show lo+(lo+m) - 1 - (lo+j)=lo+(m - 1 - j) by omega]
        exact hs3 _ _ (by omega) (by omega)
      have mm:NonIncF f d lo (mirror (arrOf st') (lo+m - (neq+1)) (lo+m) ((lo+m - (lo+m - (neq+1))) / 2)) m:=fun i j hij hj=>by
        rw[KF_mirror_equal hsz he',KF_mirror_equal hsz he']
        exact hs' i j hij hj
      by_cases hneq:neq > 0
      all_goals first
        | (rw [if_pos hneq]
           refine wpS_bind (wpS_reverse (wpS_bind (wpS_reverse ?_)))
           obtain⟨hB4,hp4,hs4⟩:=tailOk (setArr st' (mirror (arrOf st') (lo+m - (neq+1)) (lo+m) ((lo+m - (lo+m - (neq+1))) / 2))) (hB'.setArr (mirror_perm _ _ _ _)) ((hp2.trans hp').trans (Pre.mirror hsz (by omega))) mm)
        | (rw [if_neg hneq]
           refine wpS_bind (wpS_reverse ?_)
           obtain⟨hB4,hp4,hs4⟩:=tailOk st' hB' (hp2.trans hp') hs')
      all_goals
        refine wpS_bind (wpS_asc (f:=f) (d:=d) (lo:=lo) (by omega) hm2 (fun x n R hn1 hn2 q1 q2=>?_) hs4 fun n' hn1' hn2' hsn' _=>wpS_pure (h n' _ hB4 hp4 (by omega) hn2' hsn'))
        dsimp only
        refine wpS_bind (wpS_ltF (d:=d) C hB4 (by omega) (by omega) ?_)
        revert q1 q2
        generalize KF f d (arrOf _) (lo+n)=u
        generalize KF f d (arrOf _) (lo+n - 1)=v
        intro q1 q2
        cases e:O.blt u v with
        | true=>exact wpS_pure (q1 e)
        | false=>exact wpS_pure (q2 e)
theorem wpS_binarySort' (C:CmpA prog w A E s κ a₀ f) {st:SortSt} {lo n ok:Nat} {Q:Bool->SortSt->Prop} (d:O.α) (hn:lo+n<=a₀.size) (hok:ok<=n) (hB:SI a₀ κ p st) (hs:SortedF f d lo (arrOf st) ok)
  (h:∀ st',SI a₀ κ p st'->Pre lo (arrOf st) (arrOf st')->SortedF f d lo (arrOf st') n->Q true st'):wpS (model prog w) A E s (binarySort' lo n ok) Q st:=by
 rw[binarySort'_eq]
 refine wpS_bind (wpS_mono (wpS_forRange (I:=fun k c st'=>c=(none,())/\SI a₀ κ p st'/\Pre lo (arrOf st) (arrOf st')/\SortedF f d lo (arrOf st') (min k n))
  (Q:=fun c st'=>c=(none,())/\SI a₀ κ p st'/\Pre lo (arrOf st) (arrOf st')/\SortedF f d lo (arrOf st') n) ?step ?fin ?init) ?post)
 case post =>
  rintro c st' ⟨rfl,hB',hp',hs'⟩
  exact wpS_pure (h st' hB' hp' hs')
 case init =>
  refine⟨rfl,hB,Pre.rf _ _,fun i j hij hj=>?_⟩
  by_cases h1:ok=0
  ·have:i=j:=by omega
   subst this;exact KeyOrd.kle_refl _
  ·exact hs i j hij (by omega)
 case fin =>
  rintro c st' ⟨hc,hB',hp',hs'⟩
  refine⟨hc,hB',hp',?_⟩
  rwa [show min (max (max ok 1) n) n=n by omega]at hs'
 case step =>
  rintro k c st' hak hkn ⟨rfl,hB',hp',hs'⟩
  rw[show min k n=k by omega]at hs'
  have hk:lo+k<a₀.size:=by omega
  refine wpS_bind (wpS_mono (wpS_forRange (I:=fun x c st''=>st''=st'/\∃ l r,c=(none,l,r)/\l<=r/\r<=k/\r - l<=k - x /\
    (∀ i,i<l->O.kle (KF f d (arrOf st') (lo+i)) (KF f d (arrOf st') (lo+k)))/\(∀ i,r<=i->i<k->O.klt (KF f d (arrOf st') (lo+k)) (KF f d (arrOf st') (lo+i))))
   (Q := fun c st'' => st'' = st' /\ ∃ l r, c = (none, l, r) /\ l <= k /\
    (∀ i,i<l->O.kle (KF f d (arrOf st') (lo+i)) (KF f d (arrOf st') (lo+k)))/\(∀ i,l<=i->i<k->O.klt (KF f d (arrOf st') (lo+k)) (KF f d (arrOf st') (lo+i)))) ?istep ?ifin ?iinit) ?ipost)
  case iinit=>exact⟨rfl,0,k,rfl,by omega,by omega,by omega,fun i hi=>by omega,fun i h1 h2=>by omega⟩
  case ifin =>
   rintro c st'' ⟨rfl,l,r,rfl,hlr,hrk,hm,hlo,hhi⟩
   have:l=r:=by omega
   subst this
   exact⟨rfl,l,l,rfl,hrk,hlo,hhi⟩
  case istep =>
   rintro x c st'' _ hxk ⟨rfl,l,r,rfl,hlr,hrk,hm,hlo,hhi⟩
   dsimp only
   by_cases hge:l≥r
   ·rw[if_pos hge]
    have:l=r:=by omega
    subst this
    exact wpS_pure ⟨rfl,l,l,rfl,hrk,hlo,hhi⟩
   ·rw[if_neg hge]
    refine wpS_bind (wpS_ltF (d:=d) C hB' hk (by omega) ?_)
    cases hless:O.blt (KF f d (arrOf st'') (lo+k)) (KF f d (arrOf st'') (lo+(l+r) / 2))
    case true =>
     simp only[if_true]
     refine wpS_pure ⟨rfl,l,(l+r) / 2,rfl,by omega,by omega,by omega,hlo,fun i h1 h2=>?_⟩
     exact KeyOrd.klt_of_klt_of_kle hless (hs' _ _ h1 h2)
    case false =>
     simp only[Bool.false_eq_true,if_false]
     refine wpS_pure ⟨rfl,(l+r) / 2+1,r,rfl,by omega,by omega,by omega,fun i h1=>?_,hhi⟩
     exact KeyOrd.kle_trans (hs' i ((l+r) / 2) (by omega) (by omega)) (show O.kle _ _ from hless)
  case ipost =>
   rintro c st'' ⟨rfl,l,r,rfl,hlk,hlo,hhi⟩
   show wpS _ _ _ _ (do moveDown' (lo+k) (lo+l);pure (ForInStep.yield (none,()))) _ _
   rw[moveDown'_eq]
   have hks:lo+k<(arrOf st'').size:=by rw[hB'.size];exact hk
   refine wpS_bind (wpS_modify (wpS_pure ⟨rfl,hB'.setArr (bubble_perm _ _ _),hp'.trans (Pre.bubble hks (by omega) (by omega)),?_⟩))
   rw[show min (k+1) n=k+1 by omega]
   intro i j hij hj
   show O.kle (KF f d (bubble (arrOf st'') (lo+k) (lo+k - (lo+l))) (lo+i)) (KF f d (bubble (arrOf st'') (lo+k) (lo+k - (lo+l))) (lo+j))
   rw[KF_bubble hks (by omega),KF_bubble hks (by omega),show lo+k - (lo+k - (lo+l))=lo+l by omega]
   have e1:∀ t:Nat,0<t->lo+t - 1=lo+(t - 1):=fun t ht=>by omega
   repeat' split
   all_goals first
    | (exfalso;omega)
    | exact KeyOrd.kle_refl _
    | exact hlo _ (by omega)
    | (rw[e1 _ (by omega)];exact KeyOrd.kle_of_klt (hhi _ (by omega) (by omega)))
    | exact KeyOrd.kle_of_klt (hhi _ (by omega) (by omega))
    | exact hs' _ _ (by omega) (by omega)
    | (rw[e1 _ (by omega)];exact hs' _ _ (by omega) (by omega))
    | (rw[e1 _ (by omega),e1 _ (by omega)];exact hs' _ _ (by omega) (by omega))
end
def shape (ps:List (Nat × Nat × Nat)):List (Nat × Nat):=ps.map fun x=>(x.1,x.2.1)
def offs:Nat->List (List Keyed)->List (Nat × Nat)
 | _,[]=>[]
 | k,r::rs=>(k,r.length)::offs (k+r.length) rs
structure SR (a₀:Array Keyed) (κ:SortKind) (B:Keyed->Keyed->Bool) (runs:List (List Keyed)) (suf:List Keyed) (st:SortSt):Prop where
 perm:(arrOf st).Perm a₀
 kind:kindOf st=κ
 failed:failedOf st=none
 sh:shape (pendingOf st).toList=offs 0 runs
 ok:∀ r∈runs,r≠[]/\r.Pairwise (le B)
 arr:(arrOf st).toList=runs.flatten++suf
section
variable {prog:Program} {w:World} {A:Around} {E:Value->Shared->Prop} {s:Shared} {κ:SortKind} {a₀:Array Keyed} {B:Keyed->Keyed->Bool}
end
section
variable {prog:Program} {w:World} {A:Around} {E:Value->Shared->Prop} {s:Shared} {κ:SortKind} {a₀:Array Keyed} {O:KeyOrd} {f:Keyed->O.α}
theorem run_of {d:O.α}{xs:Array Keyed}{lo n:Nat}(hs:SortedF f d lo xs n)(hn:lo+n<=xs.size):((xs.toList.drop lo).take n).Pairwise (le (Bf f))/\((xs.toList.drop lo).take n).length=n:=by
 refine⟨List.pairwise_iff_getElem.mpr fun i j hi hj hij=>?_,by rw[List.length_take,List.length_drop,Array.length_toList];omega⟩
 have hjn:j<n:=by rw[List.length_take]at hj;omega
 have gi:∀ k,(hk:k<n)->(xs.toList.drop lo)[k]?=some (xs[lo+k]'(by omega)):=fun k hk=>by
  rw[List.getElem?_drop,Array.getElem?_toList]
  exact getElem?_pos xs _ _
 have e1:((xs.toList.drop lo).take n)[i]=xs[lo+i]'(by omega):=by
  have:=gi i (by omega)
  rw[<- List.getElem?_take_of_lt (show i<n by omega),List.getElem?_eq_getElem hi]at this
  exact Option.some.inj this
 have e2:((xs.toList.drop lo).take n)[j]=xs[lo+j]'(by omega):=by
  have:=gi j hjn
  rw[<- List.getElem?_take_of_lt hjn,List.getElem?_eq_getElem hj]at this
  exact Option.some.inj this
 rw[e1,e2]
 have:=hs i j (Nat.le_of_lt hij) hjn
 rw[KF_some (getElem?_pos xs (lo+i) (by omega)),KF_some (getElem?_pos xs (lo+j) (by omega))]at this
 exact this
end
end Tim
namespace Tim
open PySem PyProof.Rows PySem.W
def lexB:List Int->List Int->Bool
 | [],[]=>false
 | [],_::_=>true
 | _::_,[]=>false
 | a::x,b::y=>if a=b then lexB x y else decide (a<b)
theorem lexB_irr:∀ x,lexB x x=false
 | []=>rfl
 | a::x=>by unfold lexB;rw[if_pos rfl];exact lexB_irr x
theorem lexB_tr:∀ x y z,lexB x y=true->lexB y z=true->lexB x z=true
 | [],[],z,h,_=>by cases h
 | [],_::_,[],_,h=>by cases h
 | [],_::_,_::_,_,_=>rfl
 | _::_,[],z,h,_=>by cases h
 | _::_,_::_,[],_,h=>by cases h
 | a::x,b::y,c::z,h1,h2=>by
  unfold lexB at h1 h2 ⊢
  by_cases e1:a=b
  ·subst e1
   rw[if_pos rfl]at h1
   by_cases e2:a=c
   ·rw[if_pos e2]at h2 ⊢
    exact lexB_tr x y z h1 h2
   ·rw[if_neg e2]at h2 ⊢
    exact h2
  ·rw[if_neg e1,decide_eq_true_eq]at h1
   by_cases e2:b=c
   ·subst e2
    rw[if_neg e1,decide_eq_true_eq]
    exact h1
   ·rw[if_neg e2,decide_eq_true_eq]at h2
    rw[if_neg (by omega),decide_eq_true_eq]
    omega
theorem lexB_tot:∀ x y,lexB x y=false->lexB y x=false->x=y
 | [],[],_,_=>rfl
 | [],_::_,h,_=>by cases h
 | _::_,[],_,h=>by cases h
 | a::x,b::y,h1,h2=>by
  unfold lexB at h1 h2
  by_cases e:a=b
  ·subst e
   rw[if_pos rfl]at h1 h2
   rw[lexB_tot x y h1 h2]
  ·rw[if_neg e,decide_eq_false_iff_not]at h1
   rw[if_neg (Ne.symm e),decide_eq_false_iff_not]at h2
   omega
theorem lexB_ng (x y z:List Int)(h:lexB x z=true):lexB x y=true\/lexB y z=true:=by
 cases e1:lexB x y with
 | true=>exact .inl rfl
 | false =>
  cases e2:lexB y x with
  | true=>exact .inr (lexB_tr _ _ _ e2 h)
  | false=>rw[lexB_tot x y e1 e2]at h;exact .inr h
def lexO:KeyOrd:=⟨List Int,lexB,lexB_irr,lexB_tr,lexB_ng,lexB_tot⟩
section
variable {prog:Program} {w:World}
def IsK (prog:Program)(w:World)(h:Heap)(k:List Int)(v:Value):Prop:=∃ a,v=.ref a/\IsTupleKey (intKind prog w) h k a
theorem IsK.inj {h:Heap}{k k':List Int}{v:Value}(x:IsK prog w h k v)(y:IsK prog w h k' v):k=k':=by
 obtain⟨a,rfl,h1⟩:=x
 obtain⟨b,e,h2⟩:=y
 cases e
 exact h1.inj h2
open Classical in
noncomputable def keyAt (prog:Program)(w:World)(h:Heap)(v:Value):List Int:=if q:∃ k,IsK prog w h k v then Classical.choose q else []
theorem keyAt_eq {h:Heap}{k:List Int}{v:Value}(x:IsK prog w h k v):keyAt prog w h v=k:=by
 unfold keyAt
 rw[dif_pos ⟨k,x⟩]
 exact(Classical.choose_spec (⟨k,x⟩:∃ k,IsK prog w h k v)).inj x
theorem IsK.up {h h':Heap}{k:List Int}{v:Value}(x:IsK prog w h k v)(hs:∀ b o,h.get? b=some o->h'.get? b=some o):IsK prog w h' k v:=by
 obtain⟨a,e,o,items,n,h2,h3⟩:=x
 exact⟨a,e,o,items,n,hs a o h2,h3⟩
variable {A:Around} {E:Value->Shared->Prop} {s:Shared}
theorem lex_items {b:Bool}{Q:Bool->Shared->Prop}(hb:b=true):∀ (x y:List Int) (vs us:List Value) (i:Nat) (fin:Bool),ItemsAre (intKind prog w) x vs->ItemsAre (intKind prog w) y us->(x.length<y.length↔fin=true)->Q (lexB x y) s->KatLex prog w A b fin Q (vs.zip us) i s
 | [],[],_,_,i,fin,.nil,.nil,hf,h=>by
  have:fin=false:=by cases fin with | false=>rfl | true=>exact absurd (hf.mpr rfl) (by simp)
  subst this
  exact kat_nil h
 | [],_::_,_,_,i,fin,.nil,.cons _ _,hf,h=>by
  have:fin=true:=hf.mp (by simp)
  subst this
  exact kat_nil h
 | _::_,[],_,_,i,fin,.cons _ _,.nil,hf,h=>by
  have:fin=false:=by cases fin with | false=>rfl | true=>exact absurd (hf.mpr rfl) (by simp)
  subst this
  exact kat_nil h
 | a::x,c::y,_,_,i,fin,.cons h1 t1,.cons h2 t2,hf,h=>by
  obtain⟨t,rfl⟩:=Value.isInt_shape h1
  obtain⟨u,rfl⟩:=Value.isInt_shape h2
  rw[List.zip_cons_cons]
  refine kat_cons (wpAny_eqBool_int ?_)
  unfold lexB at h
  by_cases e:a=c
  ·subst e
   rw[if_pos rfl]at h
   rw[show (a == a)=true by simp]
   exact kat_yes (lex_items hb x y _ _ (i+1) fin t1 t2 (by rw[<- hf];simp) h)
  ·rw[if_neg e]at h
   rw[show (a == c)=false by simpa using e]
   refine kat_no ?_
   cases hi:(b && i == 0) with
   | true=>exact oneLt_int h
   | false=>exact kat_one _ _ (lt_int h)
theorem lt_pairs {x y:Value}{k k':List Int}{Q:Bool->Shared->Prop}(hx:IsK prog w s.heap k x)(hy:IsK prog w s.heap k' y)(h:Q (lexB k k') s):wpAny (model prog w) A (keyLt' (tuples' true) x y) Q E s:=by
 obtain⟨a,rfl,o,xs,n,ho,hc,hd,hi⟩:=hx
 obtain⟨b,rfl,o',ys,n',ho',hc',hd',hi'⟩:=hy
 refine kat_lt ho hd ho' hd' (lex_items rfl k k' _ _ 0 _ hi hi' ?_ h)
 have e1:k.length=xs.size:=by have:=hi.length;simpa using this
 have e2:k'.length=ys.size:=by have:=hi'.length;simpa using this
 rw[e1,e2]
 simp
theorem kind_pairs {vs:List Value}{Q:SortKind->Shared->Prop}(hne:0<vs.length)(hv:∀ v∈vs,∃ i k,IsK prog w s.heap (i::k) v)(h:Q (tuples' true) s):wpAny (model prog w) A (keyKind' vs.toArray) Q E s:=by
 have ex:∀ l:List Value,(∀ v∈l,∃ i k,IsK prog w s.heap (i::k) v)->∃ fs:List Value,KatTups s.heap l fs/\fs.length=l.length/\∀ v∈fs,∃ i t,v=.int i t:=fun l=>by
  induction l with
  | nil=>intro _;exact⟨[],KatTups.nil,rfl,(fun _ h=>nomatch h)⟩
  | cons v l ih =>
   intro hl
   obtain⟨i,k,a,rfl,o,xs,n,ho,hc,hd,hi⟩:=hl v List.mem_cons_self
   obtain⟨fs,f1,f2,f3⟩:=ih fun v hv=>hl v (List.mem_cons_of_mem _ hv)
   obtain⟨f,hf,t,rfl⟩:∃ f,xs[0]?=some f/\∃ t,f=.int i t:=by
    cases e:xs.toList with
    | nil=>rw[e]at hi;cases hi
    | cons f r =>
     rw[e]at hi
     cases hi with
     | cons h1 _ =>
      obtain⟨t,et⟩:=Value.isInt_shape h1
      exact⟨f,by rw[<- Array.getElem?_toList,e];rfl,t,et⟩
   refine⟨.int i t::fs,KatTups.cons ho hc hd hf f1,by rw[List.length_cons,f2,List.length_cons],fun v hv=>?_⟩
   rcases List.mem_cons.mp hv with rfl | hv
   ·exact⟨i,t,rfl⟩
   ·exact f3 v hv
 obtain⟨fs,f1,f2,f3⟩:=ex vs hv
 refine kat_kind (T:=.type "int") f1 (by omega) (fun v hv=>?_) (by decide) ?_
 ·obtain⟨i,t,rfl⟩:=f3 v hv
  exact .now
 ·exact h
end
end Tim
namespace Sett
open PySem PySem.SetTable
theorem ex_min {P:Nat->Prop}(h:∃ n,P n):∃ n,P n/\∀ m,m<n->¬ P m:=by
 obtain⟨n,hn⟩:=h
 induction n using Nat.strongRecOn with
 | ind n ih =>
  by_cases q:∃ m,m<n/\P m
  ·obtain⟨m,hm,pm⟩:=q
   exact ih m hm pm
  ·exact⟨n,hn,fun m hm pm=>q ⟨m,hm,pm⟩⟩
def st (m i pt:Nat):Probe:={ j:=i,more:=runEnd m i - i,i:=i,perturb:=pt,dummy:=none }
def it (t:SetTable):Nat->Probe->Probe
 | 0,p=>p
 | n+1,p=>it t n (t.advance p)
theorem it_add (t:SetTable):∀ (a b:Nat) (p:Probe),it t (a+b) p=it t b (it t a p)
 | 0,b,p=>by rw[Nat.zero_add];rfl
 | a+1,b,p=>by
  rw[show a+1+b=(a+b)+1 by omega]
  exact it_add t a b (t.advance p)
theorem it_succ (t:SetTable)(n:Nat)(p:Probe):it t (n+1) p=t.advance (it t n p):=it_add t n 1 p
theorem runEnd_le (m i:Nat):i<=runEnd m i/\runEnd m i<=i+9:=by unfold runEnd;split<;>omega
theorem runEnd_m {m i:Nat}(h:i<=m):runEnd m i<=m:=by unfold runEnd;split<;>omega
theorem it_run (t:SetTable)(i pt:Nat):∀ k,k<=runEnd t.mask i - i->it t k (st t.mask i pt)={ j:=i+k,more:=runEnd t.mask i - i - k,i:=i,perturb:=pt,dummy:=none }
 | 0,_=>rfl
 | k+1,h=>by
  rw[it_succ,it_run t i pt k (by omega)]
  unfold advance
  dsimp only
  rw[if_pos (by omega)]
  simp only[Probe.mk.injEq,and_true,true_and]
  omega
theorem it_leap (t:SetTable)(i pt:Nat):it t (runEnd t.mask i - i+1) (st t.mask i pt)=st t.mask (leap t.mask i pt).1 (leap t.mask i pt).2:=by
 rw[it_succ,it_run t i pt _ (Nat.le_refl _)]
 unfold advance
 dsimp only
 rw[if_neg (by omega)]
 rfl
def rn (m i pt:Nat):Nat->Nat × Nat
 | 0=>(i,pt)
 | r+1=>leap m (rn m i pt r).1 (rn m i pt r).2
theorem rn_pt (m i pt:Nat):∀ r,(rn m i pt r).2=pt / 32 ^ r
 | 0=>by simp[rn]
 | r+1=>by
  show (rn m i pt r).2 / 32=_
  rw[rn_pt m i pt r,Nat.div_div_eq_div_mul,Nat.pow_succ]
theorem rn_le (m i pt:Nat)(h:i<=m):∀ r,(rn m i pt r).1<=m
 | 0=>h
 | r+1=>Nat.le_of_lt_succ (Nat.mod_lt _ (Nat.succ_pos m))
theorem it_rn (t:SetTable)(i pt:Nat):∀ r,∃ n,n<=10*r/\it t n (st t.mask i pt)=st t.mask (rn t.mask i pt r).1 (rn t.mask i pt r).2
 | 0=>⟨0,Nat.le_refl _,rfl⟩
 | r+1=>by
  obtain⟨n,hn,e⟩:=it_rn t i pt r
  have h9:=runEnd_le t.mask (rn t.mask i pt r).1
  refine⟨n+(runEnd t.mask (rn t.mask i pt r).1 - (rn t.mask i pt r).1+1),by omega,?_⟩
  rw[it_add,e,it_leap]
  rfl
def f5 (m i:Nat):Nat:=(i*5+1) % (m+1)
def orb (m:Nat):Nat->Nat->List Nat
 | 0,_=>[]
 | k+1,i=>i::orb m k (f5 m i)
def Full (m:Nat):Prop:=∀ b,b<=m->∀ a,a<=m->∃ n,n<=m/\Nat.repeat (f5 m) n a=b
def chk (m:Nat):Bool:=(orb m (m+1) 0).foldl (fun acc i=>acc ||| 2 ^ i) 0 == 2 ^ (m+1) - 1
theorem bits_mem:∀ (l:List Nat) (acc b:Nat),(l.foldl (fun acc i=>acc ||| 2 ^ i) acc).testBit b=true->acc.testBit b=true\/b∈l
 | [],acc,b,h=>.inl h
 | i::l,acc,b,h=>by
  rcases bits_mem l _ b h with q | q
  ·rw[Nat.testBit_or,Bool.or_eq_true]at q
   rcases q with q | q
   ·exact .inl q
   ·rw[Nat.testBit_two_pow]at q
    exact .inr (by rw[of_decide_eq_true q];exact List.mem_cons_self)
  ·exact .inr (List.mem_cons_of_mem _ q)
theorem rep_add (f:Nat->Nat)(a:Nat):∀ n k,Nat.repeat f (n+k) a=Nat.repeat f k (Nat.repeat f n a)
 | n,0=>rfl
 | n,k+1=>by
  show f (Nat.repeat f (n+k) a)=f (Nat.repeat f k (Nat.repeat f n a))
  rw[rep_add f a n k]
theorem orb_get (m:Nat):∀ k i x,x∈orb m k i->∃ n,n<k/\Nat.repeat (f5 m) n i=x
 | 0,i,x,h=>by cases h
 | k+1,i,x,h=>by
  rcases List.mem_cons.mp h with rfl | h
  ·exact⟨0,Nat.succ_pos _,rfl⟩
  ·obtain⟨n,hn,e⟩:=orb_get m k (f5 m i) x h
   refine⟨n+1,by omega,?_⟩
   rw[Nat.add_comm n 1,rep_add]
   exact e
theorem full_of {m:Nat}(hc:chk m=true)(hz:Nat.repeat (f5 m) (m+1) 0=0):Full m:=by
 intro b hb a ha
 unfold chk at hc
 have hc:=eq_of_beq hc
 have get:∀ x,x<=m->∃ n,n<m+1/\Nat.repeat (f5 m) n 0=x:=fun x hx=>by
  have hb:(2 ^ (m+1) - 1).testBit x=true:=by rw[Nat.testBit_two_pow_sub_one];exact decide_eq_true (by omega)
  rw[<- hc]at hb
  rcases bits_mem _ _ _ hb with q | q
  ·simp at q
  ·exact orb_get m (m+1) 0 x q
 obtain⟨p,hp,ep⟩:=get a ha
 obtain⟨q,hq,eq⟩:=get b hb
 by_cases h:p<=q
 ·refine⟨q - p,by omega,?_⟩
  rw[<- ep,<- rep_add,show p+(q - p)=q by omega,eq]
 ·refine⟨m+1 - p+q,by omega,?_⟩
  rw[<- ep,<- rep_add,show p+(m+1 - p+q)=(m+1)+q by omega,rep_add,hz,eq]
def Good (m:Nat):Prop:=m=7\/m=31\/m=127\/m=511
set_option maxRecDepth 100000 in
theorem Good.full {m:Nat}(h:Good m):Full m:=by
 rcases h with rfl | rfl | rfl | rfl
 ·exact full_of (by decide +kernel) (by decide +kernel)
 ·exact full_of (by decide +kernel) (by decide +kernel)
 ·exact full_of (by decide +kernel) (by decide +kernel)
 ·exact full_of (by decide +kernel) (by decide +kernel)
theorem rn_late (m i pt:Nat)(hp:pt<2 ^ 64):∀ k,(rn m i pt (13+k)).1=Nat.repeat (f5 m) k (rn m i pt 13).1
 | 0=>rfl
 | k+1=>by
  show (leap m (rn m i pt (13+k)).1 (rn m i pt (13+k)).2).1=f5 m (Nat.repeat (f5 m) k (rn m i pt 13).1)
  rw[<- rn_late m i pt hp k]
  unfold leap f5
  have:(rn m i pt (13+k)).2 / 32=0:=by
   rw[rn_pt,Nat.pow_add,<- Nat.div_div_eq_div_mul]
   have:pt / 32 ^ 13=0:=Nat.div_eq_of_lt (Nat.lt_trans hp (by decide))
   rw[this]
   simp
  dsimp only
  rw[this,Nat.add_zero]
theorem rn_hits {m i pt b:Nat}(g:Good m)(hi:i<=m)(hp:pt<2 ^ 64)(hb:b<=m):∃ r,r<turns m/\(rn m i pt r).1=b:=by
 obtain⟨n,hn,e⟩:=g.full b hb (rn m i pt 13).1 (rn_le m i pt hi 13)
 exact⟨13+n,by unfold turns;omega,by rw[rn_late m i pt hp];exact e⟩
theorem it_hits (t:SetTable){i pt b:Nat}(g:Good t.mask)(hi:i<=t.mask)(hp:pt<2 ^ 64)(hb:b<=t.mask):∃ n,n<10*turns t.mask/\(it t n (st t.mask i pt)).j=b:=by
 obtain⟨r,hr,e⟩:=rn_hits g hi hp hb
 obtain⟨n,hn,e'⟩:=it_rn t i pt r
 refine⟨n,by omega,?_⟩
 rw[e']
 exact e
theorem it_dummy (t:SetTable):∀ (n:Nat) (p:Probe),(it t n p).dummy=p.dummy
 | 0,p=>rfl
 | n+1,p=>by
  show (it t n (t.advance p)).dummy=_
  rw[it_dummy t n]
  unfold advance
  split<;>rfl
theorem bits_lt (h:Int):bits h<2 ^ 64:=by
 unfold bits
 have h1:=Int.emod_nonneg h (show (2 ^ 64:Int)≠0 by decide)
 have h2:=Int.emod_lt_of_pos h (show (0:Int)<2 ^ 64 by decide)
 omega
theorem start_eq (t:SetTable)(h:Int):t.probeStart h=st t.mask (bits h % (t.mask+1)) (bits h):=rfl
theorem it_mask {t t':SetTable}(h:t'.mask=t.mask):∀ (n:Nat) (p:Probe),it t' n p=it t n p
 | 0,p=>rfl
 | n+1,p=>by
  show it t' n (t'.advance p)=it t n (t.advance p)
  have:t'.advance p=t.advance p:=by unfold advance;rw[h]
  rw[this,it_mask h n]
def Asc (xs:Array Nat):Prop:=∀ (i j a b:Nat),i<j->xs[i]?=some a->xs[j]?=some b->a<b
theorem below_go {xs:Array Nat}(asc:Asc xs)(j:Nat):∀ (fuel lo hi:Nat),hi - lo<=fuel->lo<=hi->hi<=xs.size->(∀ i a,i<lo->xs[i]?=some a->a<j)->(∀ i a,hi<=i->xs[i]?=some a->j<=a) ->
  (below.go xs j fuel lo hi)<=xs.size/\(∀ i a,i<below.go xs j fuel lo hi->xs[i]?=some a->a<j)/\(∀ i a,below.go xs j fuel lo hi<=i->xs[i]?=some a->j<=a)
 | 0,lo,hi,h0,h1,h2,h3,h4=>by
  have:lo=hi:=by omega
  subst this
  exact⟨h2,h3,h4⟩
 | fuel+1,lo,hi,h0,h1,h2,h3,h4=>by
  unfold below.go
  by_cases hlt:lo<hi
  ·rw[if_pos hlt]
   dsimp only
   have hm:(lo+hi) / 2<xs.size:=by omega
   have hg:xs.getD ((lo+hi) / 2) j=xs[(lo+hi) / 2]:=by simp[Array.getD,hm]
   have hq:xs[(lo+hi) / 2]?=some xs[(lo+hi) / 2]:=getElem?_pos xs _ hm
   by_cases hc:xs.getD ((lo+hi) / 2) j<j
   ·rw[if_pos hc]
    refine below_go asc j fuel _ hi (by omega) (by omega) h2 (fun i a hi' e=>?_) h4
    rw[hg]at hc
    by_cases he:i=(lo+hi) / 2
    ·subst he;rw[hq]at e;cases e;exact hc
    ·have:=asc i _ a _ (by omega) e hq
     omega
   ·rw[if_neg hc]
    refine below_go asc j fuel lo _ (by omega) (by omega) (by omega) h3 (fun i a hi' e=>?_)
    rw[hg]at hc
    by_cases he:i=(lo+hi) / 2
    ·subst he;rw[hq]at e;cases e;omega
    ·have:=asc _ i _ a (by omega) hq e
     omega
  ·rw[if_neg hlt]
   have:lo=hi:=by omega
   subst this
   exact⟨h2,h3,h4⟩
theorem below_spec {xs:Array Nat}(asc:Asc xs)(j:Nat):below xs j<=xs.size/\(∀ i a,i<below xs j->xs[i]?=some a->a<j)/\(∀ i a,below xs j<=i->xs[i]?=some a->j<=a):=
 below_go asc j xs.size 0 xs.size (by omega) (by omega) (Nat.le_refl _) (fun i a h=>by omega) fun i a h e=>by
  have:=(getElem?_eq_some_iff.mp e).1
  omega
theorem below_at {xs:Array Nat}(asc:Asc xs){i j:Nat}(h:xs[i]?=some j):below xs j=i:=by
 obtain⟨h1,h2,h3⟩:=below_spec asc j
 rcases Nat.lt_trichotomy (below xs j) i with q | q | q
 ·exfalso
  have hlt:below xs j<xs.size:=Nat.lt_trans q (getElem?_eq_some_iff.mp h).1
  have e:=getElem?_pos xs (below xs j) hlt
  have a1:=h3 (below xs j) _ (Nat.le_refl _) e
  have a2:=asc _ _ _ _ q e h
  omega
 ·exact q
 ·have:=h2 i j q h
  omega
theorem slot_live {t:SetTable}(asc:Asc t.place){i j:Nat}(h:t.place[i]?=some j):t.slot j=.live i:=by
 unfold slot
 dsimp only
 rw[below_at asc h,h]
 simp
theorem slot_empty {t:SetTable}(hd:t.dummies=#[]){j:Nat}(h:∀ i:Nat,t.place[i]?≠some j):t.slot j=.empty:=by
 unfold slot
 dsimp only
 rw[if_neg (by simpa using h _),if_neg (by rw[hd];simp[has])]
theorem go_empty {t:SetTable}{hashAt:Nat->Int}{h:Int}:∀ (n fuel:Nat) (p:Probe),n<fuel->(∀ k,k<n->∃ i,t.slot (it t k p).j=.live i/\hashAt i≠h)->t.slot (it t n p).j=.empty ->
  probe.go t hashAt h fuel p=some (.empty (it t n p).j (it t n p).dummy)
 | 0,fuel+1,p,_,_,he=>by
  unfold probe.go
  have he':t.slot p.j=.empty:=he
  rw[he']
  rfl
 | n+1,fuel+1,p,hl,hk,he=>by
  obtain⟨i,e,hne⟩:=hk 0 (Nat.succ_pos _)
  have e':t.slot p.j=.live i:=e
  unfold probe.go
  rw[e']
  dsimp only
  rw[if_neg (by simpa using hne)]
  exact go_empty n fuel (t.advance p) (by omega) (fun k hk'=>hk (k+1) (by omega)) he
theorem go_cand {t:SetTable}{hashAt:Nat->Int}{h:Int}{i:Nat}:∀ (n fuel:Nat) (p:Probe),n<fuel->(∀ k,k<n->∃ i,t.slot (it t k p).j=.live i/\hashAt i≠h)->t.slot (it t n p).j=.live i->hashAt i=h ->
  ∃ q,probe.go t hashAt h fuel p=some (.candidate (it t n p).j i q)
 | 0,fuel+1,p,_,_,he,hh=>by
  unfold probe.go
  have he':t.slot p.j=.live i:=he
  rw[he']
  dsimp only
  rw[if_pos (by simpa using hh)]
  exact⟨_,rfl⟩
 | n+1,fuel+1,p,hl,hk,he,hh=>by
  obtain⟨i',e,hne⟩:=hk 0 (Nat.succ_pos _)
  have e':t.slot p.j=.live i':=e
  unfold probe.go
  rw[e']
  dsimp only
  rw[if_neg (by simpa using hne)]
  exact go_cand n fuel (t.advance p) (by omega) (fun k hk'=>hk (k+1) (by omega)) he hh
abbrev En:=Int × Value
structure Tb (t:SetTable) (es:Array En):Prop where
 dum:t.dummies=#[]
 len:t.place.size=es.size
 asc:Asc t.place
 bnd:∀ (i j:Nat),t.place[i]?=some j->j<=t.mask
 good:Good t.mask
 nf:es.size*5<t.mask*3
 path:∀ (i:Nat) (e:En),es[i]?=some e->∃ n,n<10*turns t.mask/\t.place[i]?=some (it t n (t.probeStart e.1)).j/\∀ k,k<n->∃ i':Nat,t.place[i']?=some (it t k (t.probeStart e.1)).j
theorem asc_ge {xs:Array Nat}(asc:Asc xs):∀ (i a:Nat),xs[i]?=some a->i<=a
 | 0,a,_=>Nat.zero_le _
 | i+1,a,h=>by
  have hi:i+1<xs.size:=(getElem?_eq_some_iff.mp h).1
  have e:=getElem?_pos xs i (by omega)
  have h1:=asc_ge asc i _ e
  have h2:=asc i (i+1) _ a (by omega) e h
  omega
theorem free_slot {xs:Array Nat}(asc:Asc xs){m:Nat}(h:xs.size<=m):∃ b,b<=m/\∀ i:Nat,xs[i]?≠some b:=by
 by_cases q:∃ i,i<xs.size/\xs[i]?≠some i
 ·obtain⟨i,⟨hi,hne⟩,hmin⟩:=ex_min q
  refine⟨i,by omega,fun k e=>?_⟩
  have hk:=asc_ge asc k i e
  rcases Nat.lt_or_eq_of_le hk with hlt | rfl
  ·have ek:xs[k]?=some k:=Classical.byContradiction fun z=>hmin k hlt ⟨by omega,z⟩
   rw[ek]at e
   cases e
   omega
  ·exact hne e
 ·refine⟨xs.size,h,fun k e=>?_⟩
  have hk:k<xs.size:=(getElem?_eq_some_iff.mp e).1
  have ek:xs[k]?=some k:=Classical.byContradiction fun z=>q ⟨k,hk,z⟩
  rw[ek]at e
  cases e
  omega
theorem Tb.small {t:SetTable}{es:Array En}(T:Tb t es):es.size<=t.mask:=by
 have:=T.nf
 omega
theorem Tb.fits {t:SetTable}{es:Array En}(T:Tb t es):t.fits es.size=true:=by
 unfold SetTable.fits fill
 rw[T.dum,T.len]
 have:=T.small
 simp
 exact this
theorem Tb.odd {t:SetTable}{es:Array En}(T:Tb t es):t.gaveWay=false:=by
 unfold gaveWay
 rcases T.good with e | e | e | e<;>rw[e]<;>rfl
def hashOf (es:Array En)(i:Nat):Int:=(es[i]?.map (·.1)).getD 0
theorem hashOf_some {es:Array En}{i:Nat}{e:En}(h:es[i]?=some e):hashOf es i=e.1:=by unfold hashOf;rw[h];rfl
theorem start_le (t:SetTable)(h:Int):bits h % (t.mask+1)<=t.mask:=Nat.le_of_lt_succ (Nat.mod_lt _ (Nat.succ_pos _))
theorem Tb.absent {t:SetTable}{es:Array En}(T:Tb t es){h:Int}(hh:∀ e∈es.toList,e.1≠h):∃ n,n<10*turns t.mask/\(∀ i:Nat,t.place[i]?≠some (it t n (t.probeStart h)).j)/\(it t n (t.probeStart h)).j<=t.mask /\
  (∀ k,k<n->∃ i':Nat,t.place[i']?=some (it t k (t.probeStart h)).j)/\t.probe (hashOf es) h (t.probeStart h)=some (.empty (it t n (t.probeStart h)).j none):=by
 obtain⟨b,hb,hfree⟩:=free_slot T.asc (m:=t.mask) (by rw[T.len];exact T.small)
 obtain⟨n0,hn0,e0⟩:=it_hits t T.good (start_le t h) (bits_lt h) hb
 rw[<- start_eq]at e0
 obtain⟨n,⟨hfr,hn,hle⟩,hmin⟩:=ex_min (P:=fun n=>(∀ i:Nat,t.place[i]?≠some (it t n (t.probeStart h)).j)/\n<=n0/\(it t n (t.probeStart h)).j<=t.mask) ⟨n0,by rw[e0];exact hfree,Nat.le_refl _,by rw[e0];exact hb⟩
 have hocc:∀ k,k<n->∃ i':Nat,t.place[i']?=some (it t k (t.probeStart h)).j:=fun k hk=>Classical.byContradiction fun z=>by
  have hk':∀ i:Nat,t.place[i]?≠some (it t k (t.probeStart h)).j:=fun i e=>z ⟨i,e⟩
  by_cases hkm:(it t k (t.probeStart h)).j<=t.mask
  ·exact hmin k hk ⟨hk',by omega,hkm⟩
  ·-- every place on the way is a slot
   exact hkm (by
    clear z hk' hkm hmin hfr hle hn hk
    rw[start_eq]
    induction k with
    | zero=>exact start_le t h
    | succ k ih =>
     have key:∀ k,∃ r c,c<=runEnd t.mask (rn t.mask (bits h % (t.mask+1)) (bits h) r).1 - (rn t.mask (bits h % (t.mask+1)) (bits h) r).1 /\
       it t k (st t.mask (bits h % (t.mask+1)) (bits h))=it t c (st t.mask (rn t.mask (bits h % (t.mask+1)) (bits h) r).1 (rn t.mask (bits h % (t.mask+1)) (bits h) r).2):=fun k=>by
      induction k with
      | zero=>exact⟨0,0,Nat.zero_le _,rfl⟩
      | succ k ih =>
       obtain⟨r,c,hc,e⟩:=ih
       rcases Nat.lt_or_eq_of_le hc with hlt | heq
       ·exact⟨r,c+1,hlt,by rw[it_succ,e,<- it_succ]⟩
       ·refine⟨r+1,0,Nat.zero_le _,?_⟩
        rw[it_succ,e,<- it_succ,heq,it_leap]
        rfl
     obtain⟨r,c,hc,e⟩:=key (k+1)
     rw[e,it_run t _ _ c hc]
     have h1:=rn_le t.mask (bits h % (t.mask+1)) (bits h) (start_le t h) r
     have h2:=runEnd_m h1
     have h3:=runEnd_le t.mask (rn t.mask (bits h % (t.mask+1)) (bits h) r).1
     show (rn t.mask (bits h % (t.mask+1)) (bits h) r).1+c<=t.mask
     omega)
 refine⟨n,by omega,hfr,hle,hocc,?_⟩
 unfold probe
 have:=go_empty (hashAt:=hashOf es) (h:=h) n (10*turns t.mask) (t.probeStart h) (by omega) (fun k hk=>?_) (slot_empty T.dum hfr)
 ·rw[this,it_dummy]
  rfl
 ·obtain⟨i',e⟩:=hocc k hk
  refine⟨i',slot_live T.asc e,?_⟩
  have hi:i'<es.size:=by rw[<- T.len];exact(getElem?_eq_some_iff.mp e).1
  have e2:=getElem?_pos es i' hi
  rw[hashOf_some e2]
  exact hh _ (by simp)
theorem Tb.present {t:SetTable}{es:Array En}(T:Tb t es){i:Nat}{e:En}(he:es[i]?=some e)(hu:∀ (k:Nat) (e':En),es[k]?=some e'->e'.1=e.1->k=i):∃ j q,t.probe (hashOf es) e.1 (t.probeStart e.1)=some (.candidate j i q):=by
 obtain⟨n,hn,hp,hocc⟩:=T.path i e he
 unfold probe
 obtain⟨m,⟨hm,i1,hi1,hs1⟩,hmin⟩:=ex_min (P:=fun m=>m<=n/\∃ i1:Nat,t.place[i1]?=some (it t m (t.probeStart e.1)).j/\hashOf es i1=e.1) ⟨n,Nat.le_refl _,i,hp,hashOf_some he⟩
 have hi2:i1<es.size:=by rw[<- T.len];exact(getElem?_eq_some_iff.mp hi1).1
 have e2:=getElem?_pos es i1 hi2
 rw[hashOf_some e2]at hs1
 have hii:i1=i:=hu i1 _ e2 hs1
 subst hii
 obtain⟨q,hq⟩:=go_cand (hashAt:=hashOf es) (h:=e.1) (i:=i1) m (10*turns t.mask) (t.probeStart e.1) (by omega) (fun k hk=>by
  obtain⟨i',e3⟩:=hocc k (by omega)
  exact⟨i',slot_live T.asc e3,fun z=>hmin k hk ⟨by omega,i',e3,z⟩⟩) (slot_live T.asc hi1) (hashOf_some he)
 exact⟨_,q,hq⟩
theorem get_ins {α:Type}{xs:Array α}{p:Nat}{x:α}(hp:p<=xs.size)(i:Nat):(insertAt xs p x)[i]?=if i<p then xs[i]? else if i=p then some x else xs[i - 1]?:=by
 unfold insertAt
 have e0:((xs.extract 0 p).push x).size=p+1:=by rw[Array.size_push,Array.size_extract];omega
 by_cases h1:i<p
 ·rw[if_pos h1,Array.getElem?_append_left (by omega),Array.getElem?_push_lt (by rw[Array.size_extract];omega)]
  rw[Array.getElem_extract]
  simp only[Nat.zero_add]
  exact(getElem?_pos xs i (by omega)).symm
 ·rw[if_neg h1]
  by_cases h2:i=p
  ·subst h2
   rw[if_pos rfl,Array.getElem?_append_left (by omega)]
   have e1:(xs.extract 0 i).size=i:=by rw[Array.size_extract];omega
   rw[Array.getElem?_push,e1,if_pos rfl]
  ·rw[if_neg h2,Array.getElem?_append_right (by omega),e0,Array.getElem?_extract]
   split
   ·congr 1;omega
   ·rw[getElem?_neg]
    omega
theorem size_ins {α:Type}{xs:Array α}{p:Nat}{x:α}(hp:p<=xs.size):(insertAt xs p x).size=xs.size+1:=by
 unfold insertAt
 rw[Array.size_append,Array.size_push,Array.size_extract,Array.size_extract]
 omega
theorem mem_ins {α:Type}{xs:Array α}{p:Nat}{x:α}(hp:p<=xs.size)(y:α):y∈(insertAt xs p x).toList↔y=x\/y∈xs.toList:=by
 constructor
 ·intro h
  obtain⟨i,hi⟩:=List.mem_iff_getElem?.mp h
  rw[Array.getElem?_toList,get_ins hp]at hi
  split at hi
  ·exact .inr (List.mem_of_getElem? (by rw[Array.getElem?_toList];exact hi))
  ·split at hi
   ·cases hi;exact .inl rfl
   ·exact .inr (List.mem_of_getElem? (by rw[Array.getElem?_toList];exact hi))
 ·rintro(rfl | h)
  ·exact List.mem_of_getElem? (i:=p) (by rw[Array.getElem?_toList,get_ins hp,if_neg (Nat.lt_irrefl _),if_pos rfl])
  ·obtain⟨i,hi⟩:=List.mem_iff_getElem?.mp h
   rw[Array.getElem?_toList]at hi
   have hi':i<xs.size:=(getElem?_eq_some_iff.mp hi).1
   by_cases q:i<p
   ·exact List.mem_of_getElem? (i:=i) (by rw[Array.getElem?_toList,get_ins hp,if_pos q];exact hi)
   ·exact List.mem_of_getElem? (i:=i+1) (by rw[Array.getElem?_toList,get_ins hp,if_neg (by omega),if_neg (by omega)];simpa using hi)
structure Tb' (t:SetTable) (es:Array En):Prop where
 dum:t.dummies=#[]
 len:t.place.size=es.size
 asc:Asc t.place
 bnd:∀ (i j:Nat),t.place[i]?=some j->j<=t.mask
 good:Good t.mask
 fil:es.size<=t.mask
 path:∀ (i:Nat) (e:En),es[i]?=some e->∃ n,n<10*turns t.mask/\t.place[i]?=some (it t n (t.probeStart e.1)).j/\∀ k,k<n->∃ i':Nat,t.place[i']?=some (it t k (t.probeStart e.1)).j
theorem Tb'.full {t:SetTable}{es:Array En}(T:Tb' t es)(h:es.size*5<t.mask*3):Tb t es:=⟨T.dum,T.len,T.asc,T.bnd,T.good,h,T.path⟩
theorem Tb'.fits {t:SetTable}{es:Array En}(T:Tb' t es):t.fits es.size=true:=by
 unfold SetTable.fits fill
 rw[T.dum,T.len]
 have:=T.fil
 simp
 exact this
theorem Tb'.plain {t:SetTable}{es:Array En}(T:Tb' t es)(b:Bool):Tb' { t with plain:=b } es:=by
 have e:∀ n (p:Probe),it { t with plain:=b } n p=it t n p:=fun n p=>it_mask (t:=t) (t':={ t with plain:=b }) rfl n p
 refine⟨T.dum,T.len,T.asc,T.bnd,T.good,T.fil,fun i x hx=>?_⟩
 obtain⟨n,h1,h2,h3⟩:=T.path i x hx
 exact⟨n,h1,by rw[e];exact h2,fun k hk=>by rw[e];exact h3 k hk⟩
theorem Tb.put {t:SetTable}{es:Array En}(T:Tb t es){h:Int}{x:Value}{n:Nat}(hn:n<10*turns t.mask)(hfr:∀ i:Nat,t.place[i]?≠some (it t n (t.probeStart h)).j)(hle:(it t n (t.probeStart h)).j<=t.mask)
  (hocc:∀ k,k<n->∃ i':Nat,t.place[i']?=some (it t k (t.probeStart h)).j) :
  (t.put (it t n (t.probeStart h)).j).2<=es.size/\Tb' (t.put (it t n (t.probeStart h)).j).1 (insertAt es (t.put (it t n (t.probeStart h)).j).2 (h,x)):=by
 generalize hj:(it t n (t.probeStart h)).j=j at *
 obtain⟨b1,b2,b3⟩:=below_spec T.asc j
 have hp:(t.put j).2=below t.place j:=rfl
 have hd:has t.dummies j=false:=by rw[T.dum];simp[has]
 have ht:(t.put j).1={ t with place:=insertAt t.place (below t.place j) j }:=by
  unfold SetTable.put
  dsimp only
  rw[if_neg (by rw[hd];exact Bool.false_ne_true)]
 have hm:(t.put j).1.mask=t.mask:=by rw[ht]
 have hpl:(t.put j).1.place=insertAt t.place (below t.place j) j:=by rw[ht]
 have hsz:=T.nf
 have old:∀ (i a:Nat),t.place[i]?=some a->∃ i':Nat,(insertAt t.place (below t.place j) j)[i']?=some a:=fun i a e=>by
  by_cases q:i<below t.place j
  ·exact⟨i,by rw[get_ins b1,if_pos q];exact e⟩
  ·exact⟨i+1,by rw[get_ins b1,if_neg (by omega),if_neg (by omega)];simpa using e⟩
 have hit:∀ k (p:Probe),it (t.put j).1 k p=it t k p:=fun k p=>it_mask hm k p
 have hst:∀ z:Int,(t.put j).1.probeStart z=t.probeStart z:=fun z=>by rw[start_eq,start_eq,hm]
 refine⟨by rw[hp,<- T.len];exact b1,?_⟩
 rw[hp]
 refine⟨by rw[ht];exact T.dum,by rw[hpl,size_ins b1,size_ins (by rw[<- T.len];exact b1),T.len],?_,?_,by rw[hm];exact T.good,?_,?_⟩
 ·rw[hpl]
  intro i k a c hik ea ec
  rw[get_ins b1]at ea ec
  split at ea
  ·rename_i hi
   split at ec
   ·exact T.asc i k a c hik ea ec
   ·split at ec
    ·cases ec;exact b2 i a hi ea
    ·exact T.asc i (k - 1) a c (by omega) ea ec
  ·split at ea
   ·rename_i hi1 hi2
    cases ea
    rw[if_neg (by omega),if_neg (by omega)]at ec
    have h1:=b3 (k - 1) c (by omega) ec
    rcases Nat.lt_or_eq_of_le h1 with h2 | h2
    ·exact h2
    ·subst h2;exact absurd ec (hfr (k - 1))
   ·rw[if_neg (by omega),if_neg (by omega)]at ec
    exact T.asc (i - 1) (k - 1) a c (by omega) ea ec
 ·rw[hpl,hm]
  intro i a ea
  rw[get_ins b1]at ea
  split at ea
  ·exact T.bnd i a ea
  ·split at ea
   ·cases ea;exact hle
   ·exact T.bnd _ a ea
 ·rw[hm,size_ins (by rw[<- T.len];exact b1)]
  have:=T.good
  unfold Good at this
  omega
 ·intro i e he
  rw[hpl,hm]
  have b1':below t.place j<=es.size:=by rw[<- T.len];exact b1
  rw[get_ins b1']at he
  have lift:∀ (i0:Nat) (i':Nat),es[i0]?=some e->(∀ a,t.place[i0]?=some a->(insertAt t.place (below t.place j) j)[i']?=some a) ->
    ∃ n,n<10*turns t.mask/\(insertAt t.place (below t.place j) j)[i']?=some (it (t.put j).1 n ((t.put j).1.probeStart e.1)).j/\∀ k,k<n->∃ i':Nat,(insertAt t.place (below t.place j) j)[i']?=some (it (t.put j).1 k ((t.put j).1.probeStart e.1)).j:=fun i0 i' h0 h1=>by
   obtain⟨n',q1,q2,q3⟩:=T.path i0 e h0
   refine⟨n',q1,?_,fun k hk=>?_⟩
   ·rw[hit,hst];exact h1 _ q2
   ·obtain⟨i2,e2⟩:=q3 k hk
    rw[hit,hst]
    exact old i2 _ e2
  split at he
  ·rename_i hi
   exact lift i i he fun a ea=>by rw[get_ins b1,if_pos hi];exact ea
  ·split at he
   ·rename_i hi1 hi2
    cases he
    refine⟨n,hn,?_,fun k hk=>?_⟩
    ·rw[hit,hst,hj,get_ins b1,if_neg hi1,if_pos hi2]
    ·obtain⟨i2,e2⟩:=hocc k hk
     rw[hit,hst]
     exact old i2 _ e2
   ·rename_i hi1 hi2
    exact lift (i - 1) i he fun a ea=>by rw[get_ins b1,if_neg hi1,if_neg hi2];exact ea
theorem pigeon:∀ (k n:Nat) (g:Nat->Nat),(∀ i,i<n->g i<k)->(∀ i j,i<n->j<n->g i=g j->i=j)->n<=k
 | 0,n,g,h,_=>by
  rcases Nat.eq_zero_or_pos n with e | e
  ·omega
  ·exact absurd (h 0 e) (Nat.not_lt_zero _)
 | k+1,0,g,_,_=>Nat.zero_le _
 | k+1,n+1,g,h,inj=>by
  by_cases q:∃ i0,i0<n+1/\g i0=k
  ·obtain⟨i0,h0,e0⟩:=q
   have:=pigeon k n (fun i=>if i=i0 then g n else g i) (fun i hi=>?_) (fun i j hi hj e=>?_)
   ·omega
   ·try dsimp only
    split
    ·rename_i hii
     have h1:=h n (by omega)
     have h2:g n≠k:=fun z=>by have:=inj n i0 (by omega) h0 (by rw[z,e0]);omega
     omega
    ·have h1:=h i (by omega)
     have h2:g i≠k:=fun z=>by have:=inj i i0 (by omega) h0 (by rw[z,e0]);omega
     omega
   ·try dsimp only at e
    split at e
    ·split at e
     ·omega
     ·have:=inj n j (by omega) (by omega) e;omega
    ·split at e
     ·have:=inj i n (by omega) (by omega) e;omega
     ·exact inj i j (by omega) (by omega) e
  ·have:=pigeon k (n+1) g (fun i hi=>?_) inj
   ·omega
   ·have h1:=h i hi
    have h2:g i≠k:=fun z=>q ⟨i,hi,z⟩
    omega
structure LI (t:SetTable) (hs:Array Int) (owner:Array (Option Nat)) (k:Nat):Prop where
 size:owner.size=t.mask+1
 lt:∀ (j i:Nat),owner[j]?=some (some i)->i<k
 inj:∀ (j j' i:Nat),owner[j]?=some (some i)->owner[j']?=some (some i)->j=j'
 has:∀ (i:Nat) (h:Int),i<k->hs[i]?=some h->∃ n,n<10*turns t.mask/\owner[(it t n (t.probeStart h)).j]?=some (some i)/\∀ c,c<n->∃ i':Nat,owner[(it t c (t.probeStart h)).j]?=some (some i')
theorem LI.free {t:SetTable}{hs:Array Int}{owner:Array (Option Nat)}{k:Nat}(L:LI t hs owner k)(hk:k<=t.mask):∃ b,b<=t.mask/\owner[b]?=some none:=by
 apply Classical.byContradiction
 intro z
 have all:∀ b,b<=t.mask->∃ i,owner[b]?=some (some i):=fun b hb=>by
  have e:=getElem?_pos owner b (by rw[L.size];omega)
  cases q:owner[b]'(by rw[L.size];omega) with
  | none=>rw[q]at e;exact absurd ⟨b,hb,e⟩ z
  | some i=>rw[q]at e;exact⟨i,e⟩
 have:=pigeon k (t.mask+1) (fun b=>match owner[b]? with | some (some i)=>i | _=>0) (fun b hb=>?_) (fun b b' hb hb' e=>?_)
 ·omega
 ·obtain⟨i,e⟩:=all b (by omega)
  try dsimp only
  rw[e]
  exact L.lt b i e
 ·obtain⟨i,e1⟩:=all b (by omega)
  obtain⟨i',e2⟩:=all b' (by omega)
  try dsimp only at e
  rw[e1,e2]at e
  dsimp only at e
  subst e
  exact L.inj b b' i e1 e2
theorem free_spec (t:SetTable)(owner:Array (Option Nat))(hz:owner.size=t.mask+1):∀ (fuel i pt:Nat),i<=t.mask->(∃ r,r<fuel/\∃ b,b=(rn t.mask i pt r).1/\owner[b]?=some none) ->
  ∃ n,n<10*fuel/\layClean.free t.mask owner fuel i pt=some (it t n (st t.mask i pt)).j/\owner[(it t n (st t.mask i pt)).j]?=some none/\∀ c,c<n->∃ i':Nat,owner[(it t c (st t.mask i pt)).j]?=some (some i')
 | 0,i,pt,_,⟨r,hr,_⟩=>absurd hr (Nat.not_lt_zero _)
 | fuel+1,i,pt,hi,⟨r,hr,b,hb,hbo⟩=>by
  have h9:=runEnd_le t.mask i
  have hm:=runEnd_m hi
  unfold layClean.free
  have slotOf:∀ k,k<=runEnd t.mask i - i->(it t k (st t.mask i pt)).j=i+k:=fun k hk=>by rw[it_run t i pt k hk]
  have getS:∀ k,k<=runEnd t.mask i - i->(owner.getD (i+k) (some 0)).isNone=false->∃ i':Nat,owner[i+k]?=some (some i'):=fun k hk e=>by
   have hlt:i+k<owner.size:=by omega
   have e1:=getElem?_pos owner (i+k) hlt
   have e2:owner.getD (i+k) (some 0)=owner[i+k]:=by simp[Array.getD,hlt]
   rw[e2]at e
   cases q:owner[i+k] with
   | none=>rw[q]at e;cases e
   | some i'=>rw[q]at e1;exact⟨i',e1⟩
  cases hf:(List.range (runEnd t.mask i+1 - i)).find? (fun k=>(owner.getD (i+k) (some 0)).isNone) with
  | some k =>
   dsimp only
   rw[List.find?_eq_some_iff_getElem]at hf
   obtain⟨hp,k',hk',ek,hbef⟩:=hf
   rw[List.length_range]at hk'
   rw[List.getElem_range]at ek
   subst ek
   refine⟨k',by omega,by rw[slotOf k' (by omega)],?_,fun c hc=>?_⟩
   ·rw[slotOf k' (by omega)]
    have hlt:i+k'<owner.size:=by omega
    have e2:owner.getD (i+k') (some 0)=owner[i+k']:=by simp[Array.getD,hlt]
    rw[e2]at hp
    rw[getElem?_pos owner _ hlt]
    cases q:owner[i+k'] with
    | none=>rfl
    | some z=>rw[q]at hp;cases hp
   ·rw[slotOf c (by omega)]
    have:=hbef c hc
    rw[List.getElem_range]at this
    exact getS c (by omega) (by simpa using this)
  | none =>
   dsimp only
   rw[List.find?_eq_none]at hf
   have all:∀ c,c<=runEnd t.mask i - i->∃ i':Nat,owner[i+c]?=some (some i'):=fun c hc=>getS c hc (by simpa only [Bool.not_eq_true] using hf c (List.mem_range.mpr (by omega)))
   have hr0:r≠0:=fun z=>by
    subst z
    obtain⟨i',e⟩:=all 0 (Nat.zero_le _)
    have hb':b=i:=hb
    rw[hb']at hbo
    rw[Nat.add_zero,hbo]at e
    cases e
   obtain⟨r',rfl⟩:∃ r',r=r'+1:=⟨r - 1,by omega⟩
   have shift:∀ r,rn t.mask (leap t.mask i pt).1 (leap t.mask i pt).2 r=rn t.mask i pt (r+1):=fun r=>by
    induction r with
    | zero=>rfl
    | succ r ih =>
     show leap t.mask _ _=leap t.mask _ _
     rw[ih]
   obtain⟨n,hn,e1,e2,e3⟩:=free_spec t owner hz fuel (leap t.mask i pt).1 (leap t.mask i pt).2 (Nat.le_of_lt_succ (Nat.mod_lt _ (Nat.succ_pos _))) ⟨r',by omega,b,by rw[hb,shift],hbo⟩
   have sh:∀ c,it t (runEnd t.mask i - i+1+c) (st t.mask i pt)=it t c (st t.mask (leap t.mask i pt).1 (leap t.mask i pt).2):=fun c=>by rw[it_add,it_leap]
   refine⟨runEnd t.mask i - i+1+n,by omega,by rw[sh];exact e1,by rw[sh];exact e2,fun c hc=>?_⟩
   by_cases q:c<=runEnd t.mask i - i
   ·rw[slotOf c q]
    exact all c q
   ·have:=e3 (c - (runEnd t.mask i - i+1)) (by omega)
    rw[<- sh,show runEnd t.mask i - i+1+(c - (runEnd t.mask i - i+1))=c by omega]at this
    exact this
theorem lay_fold (t:SetTable)(g:Good t.mask)(hs:Array Int)(hsz:hs.size<=t.mask):∀ (l:List Int) (k:Nat) (owner:Array (Option Nat)),LI t hs owner k->hs.toList.drop k=l ->
  ∃ owner',(l.foldl (fun acc h=>do
   let (owner,k) <- acc
   let j <- layClean.free t.mask owner (turns t.mask) (bits h % (t.mask+1)) (bits h)
   pure (owner.setIfInBounds j (some k),k+1)) (some (owner,k)))=some (owner',k+l.length)/\LI t hs owner' (k+l.length)
 | [],k,owner,L,_=>⟨owner,rfl,L⟩
 | h::l,k,owner,L,hd=>by
  have hk:k<hs.size:=by
   apply Classical.byContradiction
   intro z
   rw[List.drop_of_length_le (by rw[Array.length_toList];omega)]at hd
   cases hd
  have hget:hs[k]?=some h:=by
   rw[<- Array.getElem?_toList]
   have:=congrArg (fun l=>l[0]?) hd
   simpa using this
  obtain⟨b,hb,hbo⟩:=L.free (by omega)
  obtain⟨r,hr,er⟩:=rn_hits g (start_le t h) (bits_lt h) hb
  obtain⟨n,hn,e1,e2,e3⟩:=free_spec t owner L.size (turns t.mask) (bits h % (t.mask+1)) (bits h) (start_le t h) ⟨r,hr,b,er.symm,hbo⟩
  rw[<- start_eq]at e1 e2 e3
  have hjs:(it t n (t.probeStart h)).j<owner.size:=(getElem?_eq_some_iff.mp e2).1
  have gs:∀ x,(owner.setIfInBounds (it t n (t.probeStart h)).j (some k))[x]?=if (it t n (t.probeStart h)).j=x then some (some k) else owner[x]?:=fun x=>by
   rw[Array.getElem?_setIfInBounds]
   split
   ·rename_i hx;subst hx;simp[hjs]
   ·rfl
  have occ:∀ (x i:Nat),owner[x]?=some (some i)->∃ i':Nat,(owner.setIfInBounds (it t n (t.probeStart h)).j (some k))[x]?=some (some i'):=fun x i e=>by
   rw[gs];split
   ·exact⟨k,rfl⟩
   ·exact⟨i,e⟩
  have L':LI t hs (owner.setIfInBounds (it t n (t.probeStart h)).j (some k)) (k+1):=by
   refine⟨by rw[Array.size_setIfInBounds];exact L.size,fun j i e=>?_,fun j j' i ea ec=>?_,fun i h' hi hh=>?_⟩
   ·rw[gs]at e
    split at e
    ·cases e;omega
    ·have:=L.lt j i e;omega
   ·rw[gs]at ea ec
    split at ea
    ·rename_i q1
     cases ea
     split at ec
     ·rename_i q2;rw[<- q1,<- q2]
     ·have:=L.lt j' k ec;omega
    ·split at ec
     ·cases ec
      have:=L.lt j k ea;omega
     ·exact L.inj j j' i ea ec
   ·by_cases q:i=k
    ·subst q
     rw[hget]at hh
     cases hh
     refine⟨n,hn,by rw[gs,if_pos rfl],fun c hc=>?_⟩
     obtain⟨i',e⟩:=e3 c hc
     exact occ _ i' e
    ·obtain⟨n',q1,q2,q3⟩:=L.has i h' (by omega) hh
     refine⟨n',q1,?_,fun c hc=>?_⟩
     ·rw[gs]
      split
      ·rename_i q4
       rw[q4]at e2
       rw[e2]at q2
       cases q2
      ·exact q2
     ·obtain⟨i',e⟩:=q3 c hc
      exact occ _ i' e
  obtain⟨owner',f1,f2⟩:=lay_fold t g hs hsz l (k+1) _ L' (by
   have e5:hs.toList.drop (k+1)=(hs.toList.drop k).drop 1:=by rw[List.drop_drop]
   rw[e5,hd]
   rfl)
  refine⟨owner',?_,?_⟩
  ·rw[List.foldl_cons]
   have:(do
     let (owner,k) <- some (owner,k)
     let j <- layClean.free t.mask owner (turns t.mask) (bits h % (t.mask+1)) (bits h)
     pure (owner.setIfInBounds j (some k),k+1))=some (owner.setIfInBounds (it t n (t.probeStart h)).j (some k),k+1):=by
    show (layClean.free t.mask owner (turns t.mask) (bits h % (t.mask+1)) (bits h) >>= fun j=>pure (owner.setIfInBounds j (some k),k+1))=_
    rw[e1]
    rfl
   rw[this,f1,List.length_cons]
   congr 2
   omega
  ·rw[List.length_cons,show k+(l.length+1)=k+1+l.length by omega]
   exact f2
theorem laid_ok {M finger moves:Nat}{led plain:Bool}{es:Array En}(g:Good M)(hsz:es.size*5<M*3) :
  ∃ t2 order,laid M finger moves led plain (es.map (·.1))=some (t2,order)/\Tb t2 (order.filterMap (es[·]?))/\(order.filterMap (es[·]?)).toList.Perm es.toList:=by
 let t:SetTable:={ mask:=M,place:=#[],dummies:=#[],finger:=finger,led:=led,moves:=moves,plain:=plain }
 have ht:t.mask=M:=rfl
 have h0:LI t (es.map (·.1)) (Array.replicate (M+1) none) 0:=by
  refine⟨by simp[ht],fun j i e=>?_,fun j j' i e=>?_,fun i h hi=>by omega⟩
  ·rw[Array.getElem?_replicate]at e;split at e<;>cases e
  ·rw[Array.getElem?_replicate]at e;split at e<;>cases e
 obtain⟨owner,f1,L⟩:=lay_fold t g (es.map (·.1)) (by rw[Array.size_map,ht];omega) (es.map (·.1)).toList 0 _ h0 rfl
 rw[Nat.zero_add,Array.length_toList,Array.size_map]at f1 L
 have hlay:layClean M (es.map (·.1))=some owner:=by
  unfold layClean
  rw[<- Array.foldl_toList]
  have:(List.foldl _ _ (es.map (·.1)).toList)=some (owner,es.size):=f1
  rw[this]
  rfl
 let live:List (Nat × Nat):=(List.range (M+1)).filterMap fun j=>(owner.getD j none).map (j,·)
 have hlive:∀ p:Nat × Nat,p∈live↔owner[p.1]?=some (some p.2):=fun p=>by
  obtain⟨j,i⟩:=p
  have hg:∀ j,owner.getD j none=(owner[j]?).getD none:=fun j=>by simp
  show (j,i)∈List.filterMap _ _↔_
  rw[List.mem_filterMap]
  constructor
  ·rintro⟨j',hj',e⟩
   rw[hg]at e
   cases q:owner[j']? with
   | none=>rw[q]at e;cases e
   | some z =>
    rw[q]at e
    cases z with
    | none=>cases e
    | some i' =>
     have e':(j',i')=(j,i):=Option.some.inj e
     cases e'
     exact q
  ·intro e
   have hj:j<owner.size:=(getElem?_eq_some_iff.mp e).1
   refine⟨j,List.mem_range.mpr (by rw[L.size,ht]at hj;exact hj),?_⟩
   rw[hg,e]
   rfl
 have hpw:live.Pairwise (fun a b=>a.1<b.1):=by
  show (List.filterMap _ _).Pairwise _
  rw[List.pairwise_filterMap]
  refine List.Pairwise.imp ?_ List.pairwise_lt_range
  intro a b hab p hp q hq
  cases h1:owner.getD a none with
  | none=>rw[h1]at hp;cases hp
  | some i =>
   cases h2:owner.getD b none with
   | none=>rw[h2]at hq;cases hq
   | some i' =>
    rw[h1]at hp
    rw[h2]at hq
    have e1:(a,i)=p:=Option.some.inj hp
    have e2:(b,i')=q:=Option.some.inj hq
    subst e1 e2
    exact hab
 have hnd:(live.map (·.2)).Nodup:=by
  unfold List.Nodup
  rw[List.pairwise_map]
  refine List.Pairwise.imp_of_mem ?_ hpw
  intro a b ha hb hab e
  have h1:=(hlive a).mp ha
  have h2:=(hlive b).mp hb
  rw[<- e]at h2
  have:=L.inj _ _ _ h1 h2
  omega
 have hord:(live.map (·.2)).Perm (List.range es.size):=by
  refine(List.perm_ext_iff_of_nodup hnd List.nodup_range).mpr fun i=>?_
  rw[List.mem_range,List.mem_map]
  constructor
  ·rintro⟨p,hp,rfl⟩
   exact L.lt _ _ ((hlive p).mp hp)
  ·intro hi
   obtain⟨n,_,q,_⟩:=L.has i ((es.map (·.1))[i]'(by rw[Array.size_map];exact hi)) hi (getElem?_pos _ _ _)
   exact⟨(_,i),(hlive _).mpr q,rfl⟩
 have hlen:live.length=es.size:=by have:=hord.length_eq;simpa using this
 have hes:∀ i,i∈live.map (·.2)->∃ e,es[i]?=some e:=fun i hi=>by
  have:=hord.mem_iff.mp hi
  rw[List.mem_range]at this
  exact⟨es[i],getElem?_pos es i this⟩
 have fm:∀ (l:List Nat),(∀ i∈l,∃ e,es[i]?=some e)->(l.filterMap (es[·]?)).length=l.length/\∀ (p:Nat),(l.filterMap (es[·]?))[p]?=(l[p]?).bind (es[·]?):=fun l=>by
  induction l with
  | nil=>intro _;exact⟨rfl,fun p=>rfl⟩
  | cons a l ih =>
   intro h
   obtain⟨e,he⟩:=h a List.mem_cons_self
   obtain⟨i1,i2⟩:=ih fun i hi=>h i (List.mem_cons_of_mem _ hi)
   rw[List.filterMap_cons_some he]
   refine⟨by rw[List.length_cons,i1,List.length_cons],fun p=>?_⟩
   cases p with
   | zero=>simp[he]
   | succ p=>simpa using i2 p
 obtain⟨fl,fg⟩:=fm _ hes
 have hperm:((live.map (·.2)).filterMap (es[·]?)).Perm es.toList:=by
  refine(hord.filterMap _).trans (List.Perm.of_eq ?_)
  apply List.ext_getElem?
  intro p
  obtain⟨_,g2⟩:=fm (List.range es.size) fun i hi=>⟨es[i]'(List.mem_range.mp hi),getElem?_pos es i (List.mem_range.mp hi)⟩
  rw[g2,show es.toList[p]?=es[p]? from Array.getElem?_toList ..]
  by_cases hp:p<es.size
  ·rw[List.getElem?_range hp];rfl
  ·rw[List.getElem?_eq_none (by simp;omega),getElem?_neg es p hp];rfl
 let t2:SetTable:={ mask:=M,place:=(live.map (·.1)).toArray,dummies:=#[],finger:=finger,led:=led,moves:=moves,plain:=plain }
 have hes':((live.map (·.2)).toArray.filterMap (es[·]?)).toList=(live.map (·.2)).filterMap (es[·]?):=by simp
 have getE:∀ (p:Nat) (e:En),((live.map (·.2)).toArray.filterMap (es[·]?))[p]?=some e->∃ j i:Nat,live[p]?=some (j,i)/\es[i]?=some e:=fun p e h=>by
  rw[<- Array.getElem?_toList,hes',fg,List.getElem?_map]at h
  cases q:live[p]? with
  | none=>rw[q]at h;cases h
  | some ji=>rw[q]at h;exact⟨ji.1,ji.2,rfl,h⟩
 have getP:∀ (p:Nat) (j:Nat),t2.place[p]?=some j↔∃ i,live[p]?=some (j,i):=fun p j=>by
  show (live.map (·.1)).toArray[p]?=some j↔_
  rw[List.getElem?_toArray,List.getElem?_map]
  cases q:live[p]? with
  | none=>simp
  | some ji =>
   obtain⟨a,b⟩:=ji
   simp
 have itE:∀ n (p:Probe),it t2 n p=it t n p:=fun n p=>it_mask (t:=t) (t':=t2) rfl n p
 refine⟨t2,(live.map (·.2)).toArray,?_,?_,by rw[hes'];exact hperm⟩
 ·unfold laid
  rw[hlay]
  rfl
 ·refine⟨rfl,?_,?_,?_,g,?_,?_⟩
  ·show (live.map (·.1)).toArray.size=_
   rw[List.size_toArray,List.length_map,<- Array.length_toList,hes',fl,List.length_map]
  ·intro i j a b hij ea eb
   obtain⟨_,ea⟩:=(getP i a).mp ea
   obtain⟨_,eb⟩:=(getP j b).mp eb
   obtain⟨h1,e1⟩:=List.getElem?_eq_some_iff.mp ea
   obtain⟨h2,e2⟩:=List.getElem?_eq_some_iff.mp eb
   have:=List.pairwise_iff_getElem.mp hpw i j h1 h2 hij
   rw[e1,e2]at this
   exact this
  ·intro i j e
   obtain⟨i',e⟩:=(getP i j).mp e
   have:=(hlive _).mp (List.mem_of_getElem? e)
   have hj:j<owner.size:=(getElem?_eq_some_iff.mp this).1
   rw[L.size]at hj
   show j<=M
   exact Nat.le_of_lt_succ hj
  ·rw[<- Array.length_toList,hes',fl,List.length_map,hlen]
   exact hsz
  ·intro p e he
   obtain⟨j,i,hl,hi⟩:=getE p e he
   have ho:=(hlive _).mp (List.mem_of_getElem? hl)
   have hi':i<es.size:=(getElem?_eq_some_iff.mp hi).1
   obtain⟨n,q1,q2,q3⟩:=L.has i e.1 hi' (by rw[Array.getElem?_map,hi];rfl)
   have ej:=L.inj _ _ _ ho q2
   refine⟨n,q1,?_,fun c hc=>?_⟩
   ·rw[itE]
    exact(getP p _).mpr ⟨i,by rw[hl];congr 2⟩
   ·obtain⟨i',e'⟩:=q3 c hc
    obtain⟨p',hp'⟩:=List.mem_iff_getElem?.mp ((hlive (_,i')).mpr e')
    exact⟨p',by rw[itE];exact(getP p' _).mpr ⟨i',hp'⟩⟩
end Sett
namespace Sett
open PySem PySem.SetTable PyProof.Rows
def nodupBits:List Nat->Nat->Bool
 | [],_=>true
 | x::l,acc=>!acc.testBit x && nodupBits l (acc ||| 2 ^ x)
theorem nodupBits_ok:∀ (l:List Nat) (acc:Nat),nodupBits l acc=true->l.Nodup/\∀ x∈l,acc.testBit x=false
 | [],_,_=>⟨List.nodup_nil,(fun _ h=>nomatch h)⟩
 | x::l,acc,h=>by
  unfold nodupBits at h
  rw[Bool.and_eq_true]at h
  obtain⟨h1,h2⟩:=h
  obtain⟨n,m⟩:=nodupBits_ok l _ h2
  have m':∀ y∈l,acc.testBit y=false/\x≠y:=fun y hy=>by
   have:=m y hy
   rw[Nat.testBit_or,Bool.or_eq_false_iff,Nat.testBit_two_pow]at this
   exact⟨this.1,of_decide_eq_false this.2⟩
  refine⟨List.nodup_cons.mpr ⟨fun hx=>(m' x hx).2 rfl,n⟩,fun y hy=>?_⟩
  rcases List.mem_cons.mp hy with rfl | hy
  ·simpa using h1
  ·exact(m' y hy).1
def hp (n:Nat):Nat:=bits (reduceHash (Builtin.Tuple.tupleHashOf [hashInt ((n / 24:Nat):Int),hashInt ((n % 24:Nat):Int)])) % 3708
set_option maxRecDepth 100000 in
theorem hp_all:nodupBits ((List.range 576).map hp) 0=true:=by decide +kernel
theorem hp_inj {a b:Nat}(ha:a<576)(hb:b<576)(h:hp a=hp b):a=b:=by
 have:=(nodupBits_ok _ _ hp_all).1
 unfold List.Nodup at this
 rw[List.pairwise_map]at this
 rw[List.pairwise_iff_getElem]at this
 rcases Nat.lt_trichotomy a b with q | q | q
 ·have:=this a b (by simpa using ha) (by simpa using hb) q
  simp only[List.getElem_range]at this
  exact absurd h this
 ·exact q
 ·have:=this b a (by simpa using hb) (by simpa using ha) q
  simp only[List.getElem_range]at this
  exact absurd h.symm this
def KeyOk (ks:List Int):Prop:=∃ i j:Nat,i<24/\j<24/\ks=[(i:Int),(j:Int)]
theorem hash_inj {prog:Program}{w:World}{k k':List Int}(h1:KeyOk k)(h2:KeyOk k')(e:tupleKeyHash (intKind prog w) k=tupleKeyHash (intKind prog w) k'):k=k':=by
 obtain⟨i,j,hi,hj,rfl⟩:=h1
 obtain⟨i',j',hi',hj',rfl⟩:=h2
 have e2:hp (24*i+j)=hp (24*i'+j'):=by
  unfold hp
  rw[show (24*i+j) / 24=i by omega,show (24*i+j) % 24=j by omega,show (24*i'+j') / 24=i' by omega,show (24*i'+j') % 24=j' by omega]
  exact congrArg (fun z=>bits z % 3708) e
 have:=hp_inj (by omega) (by omega) e2
 have h3:i=i':=by omega
 have h4:j=j':=by omega
 rw[h3,h4]
section
variable {prog:Program} {w:World}
def IsEn (prog:Program)(w:World)(h:Heap)(k:List Int)(e:En):Prop:=∃ a,e.2=.ref a/\IsTupleKey (intKind prog w) h k a/\e.1=tupleKeyHash (intKind prog w) k
def SetT (prog:Program)(w:World)(hk h:Heap)(S:Addr)(ks:List (List Int)):Prop:=
 ∃ o es ep t,h.get? S=some o/\o.ExactSet/\o.data=.set es ep t/\Tb t es/\es.size=ks.length/\ks.Nodup/\(∀ k∈ks,KeyOk k)/\(∀ k∈ks,∃ e∈es.toList,IsEn prog w hk k e)/\∀ e∈es.toList,∃ k∈ks,IsEn prog w hk k e
theorem key_up {h h':Heap}{k:List Int}{a:Addr}(x:IsTupleKey (intKind prog w) h k a)(hs:∀ b o,h.get? b=some o->h'.get? b=some o):IsTupleKey (intKind prog w) h' k a:=by
 obtain⟨o,items,n,h2,h3⟩:=x
 exact⟨o,items,n,hs a o h2,h3⟩
theorem IsEn.up {h h':Heap}{k:List Int}{e:En}(x:IsEn prog w h k e)(hs:∀ b o,h.get? b=some o->h'.get? b=some o):IsEn prog w h' k e:=by
 obtain⟨a,h1,h2,h6⟩:=x
 exact⟨a,h1,key_up h2 hs,h6⟩
theorem IsEn.inj {h:Heap}{k k':List Int}{e:En}(x:IsEn prog w h k e)(y:IsEn prog w h k' e):k=k':=by
 obtain⟨a,h1,h2,_⟩:=x
 obtain⟨b,h3,h4,_⟩:=y
 rw[h1]at h3
 cases h3
 exact h2.inj h4
variable {A:Around} {E:Value->Shared->Prop} {s:Shared}
theorem byScan_ref (x:Addr)(es:Array En):byScan (.ref x) es=false:=by
 unfold byScan Value.scannable
 rfl
theorem hashByValue_pair {k:List Int}{x:Addr}{Q:Bool->Shared->Prop}(hx:IsTupleKey (intKind prog w) s.heap k x)(h:Q true s):wpAny (model prog w) A (hashByValue 8 (.ref x)) Q E s:=by
 have hT:=hx.typeIs
 obtain⟨o,items,n,ho,hc,hd,hi⟩:=hx
 unfold hashByValue
 refine wpAny_bind (wpAny_specialOf hT F.slot_tuple_hash.lookup ?_)
 dsimp only
 refine wpAny_bind (wpAny_seqItems ho hd ?_)
 show wpAny _ _ (forIn items _ _ >>= _) _ _ s
 rw[<- Array.forIn_toList]
 have hv:∀ v∈items.toList,∃ i t,v=.int i t:=fun v hv=>by
  clear ho hd
  generalize items.toList=l at hi hv
  induction hi with
  | nil=>cases hv
  | cons h1 _ ih =>
   rcases List.mem_cons.mp hv with rfl | hv
   ·obtain⟨t,e⟩:=Value.isInt_shape h1
    exact⟨_,t,e⟩
   ·exact ih hv
 refine wpAny_bind (wpAny_forIn_list _ (fun rest r s'=>r.1=none/\s'=s/\∀ v∈rest,∃ i t,v=.int i t) _ ?_ ?_ _ _ ⟨rfl,rfl,hv⟩)
 ·rintro v rest r s' ⟨hr,rfl,hall⟩
  obtain⟨i,t,rfl⟩:=hall v List.mem_cons_self
  have e:hashByValue 7 (.int i t)=pure true:=by unfold hashByValue;rfl
  rw[e]
  refine wpAny_bind (wpAny_pure ?_)
  simp only[Bool.not_true,Bool.false_eq_true,if_false]
  exact wpAny_pure ⟨rfl,rfl,fun u hu'=>hall u (List.mem_cons_of_mem _ hu')⟩
 ·rintro⟨r1,r2⟩ s' ⟨hr,rfl,_⟩
  simp only at hr
  subst hr
  exact wpAny_pure h
end
section
variable {prog:Program} {w:World} {A:Around} {E:Value->Shared->Prop} {s:Shared}
theorem search_absent {S x:Addr}{o:Obj}{es:Array En}{ep:Nat}{t:SetTable}{h:Int}{Q:SetFound->Shared->Prop}(ho:s.heap.get? S=some o)(hd:o.data=.set es ep t)(T:Tb t es)(hh:∀ e∈es.toList,e.1≠h)
  (hq:∀ n,n<10*turns t.mask->(∀ i:Nat,t.place[i]?≠some (it t n (t.probeStart h)).j)->(it t n (t.probeStart h)).j<=t.mask->(∀ k,k<n->∃ i':Nat,t.place[i']?=some (it t k (t.probeStart h)).j)->Q (.free (it t n (t.probeStart h)).j false) s) :
  wpAny (model prog w) A (setSearch S (.ref x) h true) Q E s:=by
 obtain⟨n,h1,h2,h3,h4,h5⟩:=T.absent hh
 unfold setSearch setSearchFrom
 refine wpAny_bind (wpAny_setState_of ho hd T.fits ?_)
 dsimp only
 rw[T.odd]
 simp only[Bool.false_eq_true,if_false]
 split
 ·rename_i met hm
  have e:=hm.symm.trans h5
  cases e
  exact wpAny_pure (hq n h1 h2 h3 h4)
 ·rename_i hm
  exact absurd h5 (fun z=>hm _ z)
theorem cls_pair {k:List Int}{x:Addr}{Q:Bool->Shared->Prop}(hx:IsTupleKey (intKind prog w) s.heap k x)(h:Q false s):wpAny (model prog w) A (ofAClassStatement 8 (.ref x)) Q E s:=by
 have hT:=hx.typeIs
 obtain⟨o,items,n,ho,hc,hd,hi⟩:=hx
 unfold ofAClassStatement
 refine wpAny_bind (wpAny_typeOf hT ?_)
 dsimp only
 rw[if_pos (by decide)]
 refine wpAny_bind (wpAny_pure ?_)
 simp only[Bool.not_true,Bool.false_eq_true,if_false]
 refine wpAny_bind (wpAny_seqItems ho hd ?_)
 dsimp only
 rw[<- Array.forIn_toList]
 have hv:∀ v∈items.toList,∃ i t,v=.int i t:=fun v hv=>by
  clear ho hd
  generalize items.toList=l at hi hv
  induction hi with
  | nil=>cases hv
  | cons h1 _ ih =>
   rcases List.mem_cons.mp hv with rfl | hv
   ·obtain⟨t,e⟩:=Value.isInt_shape h1
    exact⟨_,t,e⟩
   ·exact ih hv
 refine wpAny_bind (wpAny_forIn_list _ (fun rest r s'=>r.1=none/\s'=s/\∀ v∈rest,∃ i t,v=.int i t) _ ?_ ?_ _ _ ⟨rfl,rfl,hv⟩)
 ·rintro v rest r s' ⟨hr,rfl,hall⟩
  obtain⟨i,t,rfl⟩:=hall v List.mem_cons_self
  have e:ofAClassStatement 7 (.int i t)=pure false:=by unfold ofAClassStatement;rfl
  rw[e]
  refine wpAny_bind (wpAny_pure ?_)
  simp only[Bool.false_eq_true,if_false]
  exact wpAny_pure ⟨rfl,rfl,fun u hu'=>hall u (List.mem_cons_of_mem _ hu')⟩
 ·rintro⟨r1,r2⟩ s' ⟨hr,rfl,_⟩
  simp only at hr
  subst hr
  exact wpAny_pure h
theorem unseen {k:List Int}{x:Addr}{l:List Value}{Q:Bool->Shared->Prop}(hx:IsTupleKey (intKind prog w) s.heap k x)(hl:∀ v∈l,∃ a k',v=.ref a/\IsTupleKey (intKind prog w) s.heap k' a)(h:Q false s) :
  wpAny (model prog w) A (searchCouldBeSeen (.ref x) l) Q E s:=by
 unfold searchCouldBeSeen
 refine wpAny_bind (wpAny_forIn_list _ (fun rest r s'=>r.1=none/\s'=s/\∀ v∈rest,∃ a k',v=.ref a/\IsTupleKey (intKind prog w) s.heap k' a) _ ?_ ?_ _ _ ⟨rfl,rfl,hl⟩)
 ·rintro v rest r s' ⟨hr,rfl,hall⟩
  obtain⟨a,k',rfl,ha⟩:=hall v List.mem_cons_self
  have hrest:∀ v∈rest,∃ a k',v=.ref a/\IsTupleKey (intKind prog w) s'.heap k' a:=fun u hu'=>hall u (List.mem_cons_of_mem _ hu')
  dsimp only
  split
  ·exact wpAny_pure ⟨rfl,rfl,hrest⟩
  ·refine wpAny_bind (wpAny_eqIsQuiet_tuple hx ?_)
   simp only[Bool.not_true,Bool.false_eq_true,if_false]
   refine wpAny_bind (wpAny_eqIsQuiet_tuple ha ?_)
   simp only[Bool.not_true,Bool.false_eq_true,if_false]
   refine wpAny_bind (cls_pair hx ?_)
   simp only[Bool.false_eq_true,if_false]
   refine wpAny_bind (cls_pair ha ?_)
   simp only[Bool.false_eq_true,if_false]
   exact wpAny_pure ⟨rfl,rfl,hrest⟩
 ·rintro⟨r1,r2⟩ s' ⟨hr,rfl,_⟩
  simp only at hr
  subst hr
  exact wpAny_pure h
theorem search_present {S x:Addr}{o:Obj}{es:Array En}{ep:Nat}{t:SetTable}{k:List Int}{i:Nat}{e:En}{Q:SetFound->Shared->Prop}(hu:A.units<cLine)(ho:s.heap.get? S=some o)(hd:o.data=.set es ep t)(T:Tb t es)
  (hx:IsTupleKey (intKind prog w) s.heap k x)(he:es[i]?=some e)(hk:IsEn prog w s.heap k e)(hall:∀ e∈es.toList,∃ k,IsEn prog w s.heap k e)(huq:∀ (c:Nat) (e':En),es[c]?=some e'->e'.1=e.1->c=i)
  (hq:Q (.there none) s):wpAny (model prog w) A (setSearch S (.ref x) (tupleKeyHash (intKind prog w) k) true) Q E s:=by
 obtain⟨y,hy1,hy2,hy3⟩:=hk
 obtain⟨j,q,hp⟩:=T.present he huq
 rw[hy3]at hp
 unfold setSearch setSearchFrom
 refine wpAny_bind (wpAny_setState_of ho hd T.fits ?_)
 dsimp only
 rw[T.odd]
 simp only[Bool.false_eq_true,if_false]
 have fin:wpAny (model prog w) A (do
   let some (_,y):=es[i]? | unsupported "internal:set-entry"
   let equal <- holding [y] (eqBool y (.ref x))
   let (es',_,t') <- setState S
   if true && equal then return .there none
   let some same:=t'.sameMemory t.moves t.mask | unsupported "set.changed-during-lookup:is-the-new-block-at-the-old-address"
   let still <- match (if same then t'.slot j else .empty) with
    | .live i'=>match es'[i']? with
     | some (_,y')=>do pure (if <- isSame y' y then some i' else none)
     | none=>pure none
    | _=>pure none
   match still with
   | none=>rule "set.search.anew";setSearchFrom S (.ref x) (tupleKeyHash (intKind prog w) k) true 99999 none
   | some i'=>if equal then return .there (some i') else setSearchFrom S (.ref x) (tupleKeyHash (intKind prog w) k) true 99999 (some q)) Q E s:=by
  rw[he]
  obtain⟨e1,e2⟩:=e
  have hy1:e2=.ref y:=hy1
  subst hy1
  dsimp only
  refine wpAny_bind (wpAny_holding (wpAny_eqBool_tuple hu hy2 hx ?_))
  refine wpAny_bind (wpAny_setState_of ho hd T.fits ?_)
  dsimp only
  rw[decide_eq_true rfl]
  simp only[Bool.and_self,if_true]
  exact wpAny_pure hq
 split
 ·rename_i met hm
  have e9:=hm.symm.trans hp
  cases e9
  dsimp only
  cases hled:t.led with
  | true =>
   simp only[Bool.not_true,Bool.false_eq_true,if_false]
   exact fin
  | false =>
   simp only[Bool.not_false,if_true]
   refine wpAny_bind (unseen hx (fun v hv=>?_) ?_)
   ·rw[List.mem_map]at hv
    obtain⟨e',he',rfl⟩:=hv
    have he'':e'∈es.toList:=by
     have:=Array.mem_filter.mp (Array.mem_toList_iff.mp he')
     exact Array.mem_toList_iff.mpr this.1
    obtain⟨k',a,h1,h2,_⟩:=hall e' he''
    exact⟨a,k',h1,h2⟩
   ·simp only[Bool.false_eq_true,if_false]
    exact fin
 ·rename_i hm
  exact absurd hp (fun z=>hm _ z)
end
theorem thr {n m:Nat}(g:Good m)(h1:n*5<m*3)(h2:m*3<=(n+1)*5)(h3:n<300):(m=7/\n+1=5)\/(m=31/\n+1=19)\/(m=127/\n+1=77):=by
 rcases g with rfl | rfl | rfl | rfl<;>omega
theorem grown_good {n m:Nat}(g:Good m)(h1:n*5<m*3)(h2:m*3<=(n+1)*5)(h3:n<300):Good (sizeAbove (grown (n+1)) - 1)/\(n+1)*5<(sizeAbove (grown (n+1)) - 1)*3/\sizeAbove (grown (n+1))<=4096:=by
 rcases thr g h1 h2 h3 with⟨_,e⟩ | ⟨_,e⟩ | ⟨_,e⟩<;>rw[e]<;>refine⟨?_,by decide +kernel,by decide +kernel⟩
 ·exact .inr (.inl (by decide +kernel))
 ·exact .inr (.inr (.inl (by decide +kernel)))
 ·exact .inr (.inr (.inr (by decide +kernel)))
theorem toofull {t:SetTable}{es:Array En}(T:Tb' t es):t.tooFull=decide (t.mask*3<=es.size*5):=by
 unfold tooFull PySem.SetTable.fill
 rw[T.dum,T.len]
 rfl
section
variable {prog:Program} {w:World} {A:Around} {E:Value->Shared->Prop} {s:Shared}
theorem stored {S:Addr}{o:Obj}{es es':Array En}{ep:Nat}{t t':SetTable}{h:Heap}(ho:h.get? S=some o)(hd:o.data=.set es ep t) :
  (h.update S (Obj.putSet es' t')).get? S=some { o with data:=.set es' (ep+1) t' }:=by
 have:=Heap.get?_update_self (Obj.putSet es' t') ho (by rw[putSet_of es' t' hd];rfl)
 rw[putSet_of es' t' hd]at this
 exact this
theorem setAdd_pair {S x:Addr}{ks:List (List Int)}{k:List Int}{Q:Bool->Shared->Prop}{hp:Heap}(hup:∀ b o,hp.get? b=some o->s.heap.get? b=some o)(hu:A.units<cLine)(hS:SetT prog w hp s.heap S ks)(hx0:IsTupleKey (intKind prog w) hp k x)(hk:KeyOk k)(hn:ks.length<300)
  (hq:∀ (b:Bool) (h':Heap) (tk:Nat),s.toks<=tk->Heap.SameBut S s.heap h'->SetT prog w hp h' S (if k∈ks then ks else k::ks)->Q b { s with heap:=h',toks:=tk }) :
  wpAny (model prog w) A (setAdd S (.ref x)) Q E s:=by
 have hx:=key_up hx0 hup
 unfold setAdd
 refine wpAny_holding (wpAny_bind (wpAny_pyHash_tuple hu hx ?_))
 obtain⟨o,es,ep,t,ho,hex,hd,T,hsz,hnd,hok,hto,hfrom⟩:=hS
 unfold setAddHashed
 refine wpAny_holding ?_
 unfold setAddHashedIn
 refine wpAny_bind (wpAny_setState_of (s:={ s with toks:=s.toks+(k.length+1) }) ho hd T.fits ?_)
 dsimp only
 rw[byScan_ref]
 simp only[Bool.false_eq_true,if_false]
 by_cases hmem:k∈ks
 ·-- it is there
  obtain⟨e,he,hek⟩:=hto k hmem
  obtain⟨i,hi⟩:=List.mem_iff_getElem?.mp he
  rw[Array.getElem?_toList]at hi
  have huq:∀ (c:Nat) (e':En),es[c]?=some e'->e'.1=e.1->c=i:=fun c e' hc hh=>by
   apply Classical.byContradiction
   intro hci
   have hkey:∀ (c:Nat),c<es.size->∃ kk,kk∈ks/\∃ e,es[c]?=some e/\IsEn prog w hp kk e:=fun c hc=>by
    have e:=getElem?_pos es c hc
    obtain⟨kk,h1,h2⟩:=hfrom es[c] (by simp)
    exact⟨kk,h1,_,e,h2⟩
   have e'k:IsEn prog w hp k e':=by
    obtain⟨kk,h1,h2⟩:=hfrom e' (List.mem_of_getElem? (by rw[Array.getElem?_toList];exact hc))
    have h3:=h2
    obtain⟨_,_,_,h4⟩:=h2
    have h5:=hek
    obtain⟨_,_,_,h6⟩:=h5
    have:kk=k:=hash_inj (prog:=prog) (w:=w) (hok kk h1) hk (by rw[<- h4,hh,h6])
    rw[<- this]
    exact h3
   have hch:∀ n,n<ks.length->∃ c,c<es.size/\∃ e,es[c]?=some e/\∃ kk,ks[n]?=some kk/\IsEn prog w hp kk e:=fun n hn'=>by
    obtain⟨e,he,hek⟩:=hto ks[n] (List.getElem_mem hn')
    obtain⟨c,hc⟩:=List.mem_iff_getElem?.mp he
    rw[Array.getElem?_toList]at hc
    exact⟨c,(getElem?_eq_some_iff.mp hc).1,e,hc,ks[n],List.getElem?_eq_getElem hn',hek⟩
   have:=pigeon (es.size - 1) ks.length (fun n=>if hn':n<ks.length then (let c0:=Classical.choose (hch n hn');let c1:=if c0=c then i else c0;if c1<c then c1 else c1 - 1) else 0) ?_ ?_
   ·have hc':=(getElem?_eq_some_iff.mp hc).1
    omega
   ·intro n hn'
    dsimp only
    rw[dif_pos hn']
    have hp:=Classical.choose_spec (hch n hn')
    generalize Classical.choose (hch n hn')=c0 at hp
    obtain⟨p1,_⟩:=hp
    have hc':=(getElem?_eq_some_iff.mp hc).1
    have hi':=(getElem?_eq_some_iff.mp hi).1
    split<;>split<;>omega
   ·intro n n' hn1 hn2 eqn
    dsimp only at eqn
    rw[dif_pos hn1,dif_pos hn2]at eqn
    have hp:=Classical.choose_spec (hch n hn1)
    have hp':=Classical.choose_spec (hch n' hn2)
    generalize Classical.choose (hch n hn1)=c0 at hp eqn
    generalize Classical.choose (hch n' hn2)=c0' at hp' eqn
    obtain⟨p1,e1,p2,kk,p3,p4⟩:=hp
    obtain⟨p1',e1',p2',kk',p3',p4'⟩:=hp'
    have same:kk=kk':=by
     have r1:IsEn prog w hp kk (if c0=c then e else e1):=by
      split
      ·rename_i hcc
       subst hcc
       rw[hc]at p2
       cases p2
       have:=p4.inj e'k
       rw[this]
       exact hek
      ·exact p4
     have r2:IsEn prog w hp kk' (if c0'=c then e else e1'):=by
      split
      ·rename_i hcc
       subst hcc
       rw[hc]at p2'
       cases p2'
       have:=p4'.inj e'k
       rw[this]
       exact hek
      ·exact p4'
     have g1:es[if c0=c then i else c0]?=some (if c0=c then e else e1):=by split<;>assumption
     have g2:es[if c0'=c then i else c0']?=some (if c0'=c then e else e1'):=by split<;>assumption
     have ne1:(if c0=c then i else c0)≠c:=by split<;>omega
     have ne2:(if c0'=c then i else c0')≠c:=by split<;>omega
     have eqc:(if c0=c then i else c0)=(if c0'=c then i else c0'):=by
      generalize (if c0=c then i else c0)=u at eqn ne1
      generalize (if c0'=c then i else c0')=v at eqn ne2
      split at eqn<;>split at eqn<;>omega
     rw[eqc,g2]at g1
     rw[<- Option.some.inj g1]at r1
     exact r1.inj r2
    subst same
    obtain⟨q1,q2⟩:=List.getElem?_eq_some_iff.mp p3
    obtain⟨q3,q4⟩:=List.getElem?_eq_some_iff.mp p3'
    rcases Nat.lt_trichotomy n n' with z | z | z
    ·exact absurd (q2.trans q4.symm) (List.pairwise_iff_getElem.mp hnd n n' q1 q3 z)
    ·exact z
    ·exact absurd (q4.trans q2.symm) (List.pairwise_iff_getElem.mp hnd n' n q3 q1 z)
  refine wpAny_bind (search_present (s:={ s with toks:=s.toks+(k.length+1) }) hu ho hd T hx hi (hek.up hup) (fun e he=>?_) huq ?_)
  ·obtain⟨kk,_,h2⟩:=hfrom e he
   exact⟨kk,h2.up hup⟩
  ·refine wpAny_pure ?_
   have:=hq false s.heap (s.toks+(k.length+1)) (Nat.le_add_right _ _) (Heap.SameBut.refl S s.heap)
   rw[if_pos hmem]at this
   exact this ⟨o,es,ep,t,ho,hex,hd,T,hsz,hnd,hok,hto,hfrom⟩
 ·-- it is new
  have hh:∀ e∈es.toList,e.1≠tupleKeyHash (intKind prog w) k:=fun e he z=>by
   obtain⟨kk,h1,h2⟩:=hfrom e he
   obtain⟨_,_,_,h4⟩:=h2
   have:kk=k:=hash_inj (prog:=prog) (w:=w) (hok kk h1) hk (by rw[<- h4,z])
   exact hmem (this ▸ h1)
  refine wpAny_bind (search_absent (s:={ s with toks:=s.toks+(k.length+1) }) ho hd T hh fun n hn1 hfr hle hocc=>?_)
  dsimp only
  refine wpAny_bind (wpAny_setState_of (s:={ s with toks:=s.toks+(k.length+1) }) ho hd T.fits ?_)
  dsimp only
  obtain⟨hp1,T1⟩:=T.put (h:=tupleKeyHash (intKind prog w) k) (x:=Value.ref x) hn1 hfr hle hocc
  generalize hpt:t.put (it t n (t.probeStart (tupleKeyHash (intKind prog w) k))).j=tp at hp1 T1 ⊢
  have hled:tp.1.mask=t.mask:=by
   rw[<- hpt]
   unfold SetTable.put
   rfl
  obtain⟨t1,p⟩:=tp
  dsimp only at hp1 T1 hled ⊢
  have hsz1:(insertAt es p (tupleKeyHash (intKind prog w) k,Value.ref x)).size=es.size+1:=size_ins hp1
  have fits1:(insertAt es p (tupleKeyHash (intKind prog w) k,Value.ref x)).size<=sizeLine:=by rw[hsz1,hsz,sizeLine_eq];omega
  have made:∀ (h':Heap) (o':Obj) (es':Array En) (ep':Nat) (t':SetTable),Heap.SameBut S s.heap h'->h'.get? S=some o'->o'.ExactSet->o'.data=.set es' ep' t'->Tb t' es' ->
    es'.toList.Perm (insertAt es p (tupleKeyHash (intKind prog w) k,Value.ref x)).toList->SetT prog w hp h' S (k::ks):=fun h' o' es' ep' t' hsb ho' hex' hd' T' hpm=>by
   have hmemE:∀ e,e∈es'.toList↔e=(tupleKeyHash (intKind prog w) k,Value.ref x)\/e∈es.toList:=fun e=>by rw[hpm.mem_iff];exact mem_ins hp1 e
   have hnew:IsEn prog w hp k (tupleKeyHash (intKind prog w) k,Value.ref x):=⟨x,rfl,hx0,rfl⟩
   refine⟨o',es',ep',t',ho',hex',hd',T',?_,List.nodup_cons.mpr ⟨hmem,hnd⟩,fun kk hkk=>?_,fun kk hkk=>?_,fun e he=>?_⟩
   ·have:=hpm.length_eq
    rw[Array.length_toList,Array.length_toList,hsz1,hsz]at this
    rw[this,List.length_cons]
   ·rcases List.mem_cons.mp hkk with rfl | hkk
    ·exact hk
    ·exact hok kk hkk
   ·rcases List.mem_cons.mp hkk with rfl | hkk
    ·exact⟨_,(hmemE _).mpr (.inl rfl),hnew⟩
    ·obtain⟨e,he,hek⟩:=hto kk hkk
     exact⟨e,(hmemE e).mpr (.inr he),hek⟩
   ·rcases(hmemE e).mp he with rfl | he
    ·exact⟨k,List.mem_cons_self,hnew⟩
    ·obtain⟨kk,h1,h2⟩:=hfrom e he
     exact⟨kk,List.mem_cons_of_mem _ h1,h2⟩
  have rest:∀ b:Bool,wpAny (model prog w) A (do
    storeSet S (insertAt es p (tupleKeyHash (intKind prog w) k,Value.ref x)) (if b=true then t1 else { t1 with plain:=false })
    if (!false && (if b=true then t1 else { t1 with plain:=false }).tooFull)=true then do
     setRelay S (grown (es.size+1))
     pure true
    else pure true) Q E { s with toks:=s.toks+(k.length+1) }:=fun b=>by
   have T2:Tb' (if b=true then t1 else { t1 with plain:=false }) (insertAt es p (tupleKeyHash (intKind prog w) k,Value.ref x)):=by
    split
    ·exact T1
    ·exact T1.plain false
   have hm2:(if b=true then t1 else { t1 with plain:=false }).mask=t.mask:=by split<;>exact hled
   generalize (if b=true then t1 else { t1 with plain:=false })=t2 at T2 hm2
   refine wpAny_bind (wpAny_storeSet_of (s:={ s with toks:=s.toks+(k.length+1) }) ho hd ?_ fits1)
   have ho1:=stored (es':=insertAt es p (tupleKeyHash (intKind prog w) k,Value.ref x)) (t':=t2) ho hd
   have hsb1:=Heap.SameBut.update s.heap S (Obj.putSet (insertAt es p (tupleKeyHash (intKind prog w) k,Value.ref x)) t2)
   rw[toofull T2]
   simp only[Bool.not_false,Bool.true_and,decide_eq_true_eq]
   by_cases hful:t2.mask*3<=(insertAt es p (tupleKeyHash (intKind prog w) k,Value.ref x)).size*5
   ·rw[if_pos hful]
    rw[hsz1,hm2]at hful
    obtain⟨g1,g2,g3⟩:=grown_good T.good T.nf hful (by rw[hsz];exact hn)
    unfold setRelay
    refine wpAny_bind (wpAny_bind (wpAny_setState_of (s:={ s with heap:=s.heap.update S (Obj.putSet (insertAt es p (tupleKeyHash (intKind prog w) k,Value.ref x)) t2),toks:=s.toks+(k.length+1) }) ho1 rfl T2.fits ?_))
    dsimp only
    rw[if_neg (by rw[sizeLine_eq];omega)]
    obtain⟨t3,order,hl3,T3,hpm3⟩:=laid_ok (M:=sizeAbove (grown (es.size+1)) - 1) (finger:=t2.finger) (moves:=t2.movedTo (sizeAbove (grown (es.size+1)) - 1)) (led:=t2.led) (plain:=t2.plain) (es:=insertAt es p (tupleKeyHash (intKind prog w) k,Value.ref x)) g1 (by rw[hsz1];exact g2)
    have hrel:t2.relaid ((insertAt es p (tupleKeyHash (intKind prog w) k,Value.ref x)).map (·.1)) (grown (es.size+1))=some (t3,order):=by
     unfold relaid
     exact hl3
    rw[hrel]
    have hsz3:(order.filterMap ((insertAt es p (tupleKeyHash (intKind prog w) k,Value.ref x))[·]?)).size=(insertAt es p (tupleKeyHash (intKind prog w) k,Value.ref x)).size:=by
     rw[<- Array.length_toList,hpm3.length_eq,Array.length_toList]
    refine wpAny_bind ?_
    show wpAny _ _ (if ((order.filterMap ((insertAt es p (tupleKeyHash (intKind prog w) k,Value.ref x))[·]?)).size != (insertAt es p (tupleKeyHash (intKind prog w) k,Value.ref x)).size)=true then _ else _) _ _ _
    rw[if_neg (by rw[hsz3];simp)]
    first | refine wpAny_pure ?_ | refine wpAny_bind (wpAny_pure (wpAny_pure ?_))
    dsimp only
    refine wpAny_storeSet_of (s:={ s with heap:=s.heap.update S (Obj.putSet (insertAt es p (tupleKeyHash (intKind prog w) k,Value.ref x)) t2),toks:=s.toks+(k.length+1) }) ho1 rfl ?_ (by rw[hsz3];exact fits1)
    refine wpAny_pure ?_
    have ho2:=stored (es':=order.filterMap ((insertAt es p (tupleKeyHash (intKind prog w) k,Value.ref x))[·]?)) (t':=t3) ho1 rfl
    have hsb2:=hsb1.trans (Heap.SameBut.update _ S (Obj.putSet (order.filterMap ((insertAt es p (tupleKeyHash (intKind prog w) k,Value.ref x))[·]?)) t3))
    have:=hq true _ (s.toks+(k.length+1)) (Nat.le_add_right _ _) hsb2
    rw[if_neg hmem]at this
    exact this (made _ _ _ _ _ hsb2 ho2 hex rfl T3 hpm3)
   ·rw[if_neg hful]
    refine wpAny_pure ?_
    have:=hq true _ (s.toks+(k.length+1)) (Nat.le_add_right _ _) hsb1
    rw[if_neg hmem]at this
    exact this (made _ _ _ _ _ hsb1 ho1 hex rfl (T2.full (by omega)) (List.Perm.refl _))
  cases hpl:t1.plain with
  | true =>
   rw[if_pos rfl]
   refine wpAny_bind (hashByValue_pair (s:={ s with toks:=s.toks+(k.length+1) }) hx ?_)
   exact rest true
  | false =>
   rw[if_neg Bool.false_ne_true]
   refine wpAny_bind (wpAny_pure ?_)
   exact rest true
end
def insT (ks:List (List Int))(k:List Int):List (List Int):=if k∈ks then ks else k::ks
theorem insT_len (ks:List (List Int))(k:List Int):(insT ks k).length<=ks.length+1:=by unfold insT;split<;>simp
theorem fold_le:∀ (l ks:List (List Int)),(l.foldl insT ks).length<=ks.length+l.length
 | [],ks=>by simp
 | k::l,ks=>by
  rw[List.foldl_cons]
  have h1:=fold_le l (insT ks k)
  have h2:=insT_len ks k
  rw[List.length_cons]
  omega
theorem fold_full:∀ (l ks:List (List Int)),(l.foldl insT ks).length=ks.length+l.length↔l.Nodup/\∀ x∈l,x∉ks
 | [],ks=>by simp
 | k::l,ks=>by
  rw[List.foldl_cons,List.length_cons,List.nodup_cons]
  by_cases h:k∈ks
  ·have e:insT ks k=ks:=by unfold insT;rw[if_pos h]
   rw[e]
   have:=fold_le l ks
   constructor
   ·intro q;omega
   ·rintro⟨_,q⟩
    exact absurd h (q k List.mem_cons_self)
  ·have e:insT ks k=k::ks:=by unfold insT;rw[if_neg h]
   rw[e]
   have:=fold_full l (k::ks)
   rw[List.length_cons]at this
   constructor
   ·intro q
    obtain⟨q1,q2⟩:=this.mp (by omega)
    refine⟨⟨fun hk=>q2 k hk List.mem_cons_self,q1⟩,fun x hx=>?_⟩
    rcases List.mem_cons.mp hx with rfl | hx
    ·exact h
    ·exact fun z=>q2 x hx (List.mem_cons_of_mem _ z)
   ·rintro⟨⟨q1,q2⟩,q3⟩
    have:=this.mpr ⟨q2,fun x hx z=>by
     rcases List.mem_cons.mp z with rfl | z
     ·exact q1 hx
     ·exact q3 x (List.mem_cons_of_mem _ hx) z⟩
    omega
section
variable {prog:Program} {w:World}
theorem update_loop {A:Around}{R:Result->Shared->Prop}{I:Addr}{fp wr:List Addr}{G:Array GenState->Array GenState->Prop}{n:Nat}{P:Nat->Value->Prop}{St:Nat->Shared->Prop}
  (W:WalksS prog w A.in1 I fp wr G n P St)(hu:A.in1.units<cLine)(S:Addr)(hSf:S∉fp)(hp:Heap)(hS0:hp.get? S=none)(hw0:∀ b∈wr,hp.get? b=none)(keys:List (List Int))(hn:keys.length=n)(hb:n<300)
  (hkey:∀ i v,P i v->∃ x k,v=.ref x/\keys[i]?=some k/\KeyOk k/\IsTupleKey (intKind prog w) hp k x) :
  ∀ (c i:Nat) (s:Shared),n - i=c->i<=n->St i s->(∀ b o,hp.get? b=some o->s.heap.get? b=some o)->SetT prog w hp s.heap S ((keys.take i).foldl insT []) ->
   (∀ s',Moved (S::wr) G s s'->SetT prog w hp s'.heap S (keys.foldl insT [])->R (.ok (.ret .none)) s') ->
   codeAny (model prog w) A (.builtin "set.update.loop" ⟨[.ref S,.ref I],[]⟩) R s:=by
 have hSw:S∉wr:=fun h=>hSf (W.sub _ h)
 have hsub:∀ b∈wr,b∈S::wr:=fun b hb=>List.mem_cons_of_mem _ hb
 have nw:∀ b o,hp.get? b=some o->b∉wr:=fun b o e hm=>by rw[hw0 b hm]at e;cases e
 have nS:∀ b o,hp.get? b=some o->b≠S:=fun b o e hm=>by rw[hm,hS0]at e;cases e
 have setKept:∀ {s s':Shared} {ks:List (List Int)},SetT prog w hp s.heap S ks->(∀ b o,b∉wr->s.heap.get? b=some o->s'.heap.get? b=some o)->SetT prog w hp s'.heap S ks:=fun {s s' ks} hS hk=>by
  obtain⟨o,es,ep,t,ho,rest⟩:=hS
  exact⟨o,es,ep,t,hk S o hSw ho,rest⟩
 intro c
 induction c with
 | zero =>
  intro i s hk hi hst hup hS hR
  have hin:i=n:=by omega
  subst hin
  refine codeAny_builtin PyProof.Rows.F.entry_set_update_loop ?_
  rw[Around.under_plainId PyProof.Rows.F.plain_set_update_loop _]
  show wpAny _ A.in1 (pyNext (.ref I) >>= _) _ _ s
  refine wpAny_bind (W.done s _ _ hst fun s' hm=>?_)
  show wpAny _ A.in1 (ret Value.none) _ _ s'
  refine wpAny_pure (hR s' (hm.mono hsub) ?_)
  have:=setKept hS hm.heap
  rw[List.take_of_length_le (by omega)]at this
  exact this
 | succ c ih =>
  intro i s hk hi hst hup hS hR
  have hlt:i<n:=by omega
  refine codeAny_builtin PyProof.Rows.F.entry_set_update_loop ?_
  rw[Around.under_plainId PyProof.Rows.F.plain_set_update_loop _]
  show wpAny _ A.in1 (pyNext (.ref I) >>= _) _ _ s
  refine wpAny_bind (W.item i s _ _ hlt hst fun v s' hP hst' hm=>?_)
  obtain⟨x,k,rfl,hki,hok,hx⟩:=hkey i v hP
  have hup':∀ b o,hp.get? b=some o->s'.heap.get? b=some o:=fun b o e=>hm.heap b o (nw b o e) (hup b o e)
  have hS':=setKept (s':=s') hS hm.heap
  show wpAny _ A.in1 (holding [Value.ref x] (setAdd S (.ref x)) >>= _) _ _ s'
  refine wpAny_bind (wpAny_holding ?_)
  have hlen:((keys.take i).foldl insT []).length<300:=by
   have:=fold_le (keys.take i) []
   rw[List.length_take]at this
   simp only[List.length_nil]at this
   omega
  refine setAdd_pair hup' hu hS' hx hok hlen fun b h' tk htk hsb hS2=>?_
  have hS3:SetT prog w hp h' S ((keys.take (i+1)).foldl insT []):=by
   rw[List.take_add_one,hki,List.foldl_append]
   exact hS2
  refine wpAny_pure ⟨plainId_quiet PyProof.Rows.F.plain_set_update_loop _,ih (i+1) _ (by omega) hlt (W.frame _ s' _ _ hst' htk fun b hb o e=>?_) (fun b o e=>?_) hS3 fun s'' hm'' hS''=>?_⟩
  ·rw[hsb.2 b (fun h:b=S=>hSf (h ▸ hb))];exact e
  ·show h'.get? b=some o
   rw[hsb.2 b (nS b o e)]
   exact hup' b o e
  ·refine hR s'' (Moved.trans W.gtrans ((hm.mono hsub).then_heap htk fun b o hb e=>?_) hm'') hS''
   rw[hsb.2 b (fun h:b=S=>hb (h ▸ List.mem_cons_self))];exact e
variable {A:Around} {E:Value->Shared->Prop} {s:Shared}
set_option maxRecDepth 100000 in
set_option maxHeartbeats 3200000 in
theorem set_of_list {l:Addr}{items:Array Value}{keys:List (List Int)}{Q:Value->Shared->Prop}(hh:A.handled=none)(hu:A.units+8<cLine)(hl:s.heap.IsList l items)(hn:keys.length=items.size)(hb:items.size<300)
  (hkey:∀ (i:Nat) (v:Value),items[i]?=some v->∃ x k,v=.ref x/\keys[i]?=some k/\KeyOk k/\IsTupleKey (intKind prog w) s.heap k x)
  (h:∀ (h':Heap) (tk:Nat),SetT prog w s.heap h' s.heap.objs.size (keys.foldl insT [])->(∀ b o,s.heap.get? b=some o->h'.get? b=some o)->Q (.ref s.heap.objs.size) { s with heap:=h',toks:=tk }) :
  wpAny (model prog w) A (call (.type "set") [.ref l]) Q E s:=by
 obtain⟨c,tl,hmro⟩:=F.called_set.mro
 have hmade:=F.called_set.made
 have hsub:=F.called_set.sub
 refine wpAny_call (codeAny_of_tree ?_)
 show wpAny _ _ (callAny (.type "set") _) _ _ _
 refine wpAny_pure ⟨Code.quiet_builtin _ (by decide +kernel),codeAny_builtin F.entry_type_call ?_⟩
 rw[Around.under_plain (weight_type_call_type "set" [.ref l] []) rfl]
 have h1:=F.called_set.notType
 have h2:=F.called_set.canCreate
 have hct:=F.typeCall_set_1 (.ref l)
 repeat (any_goals (first | assumption | wp_step))
 refine codeAny_mono (code_set_new_1 (.ref l) (E:=E) (Q₁:=fun obj s₁=>∃ led:Bool,obj=.ref s.heap.objs.size/\s₁={ s with heap:=s.heap.push { cls:=.type "set",dict:=none,data:=.set #[] 0 (.fresh 0 0 led) } }) fun led=>⟨led,rfl,rfl⟩) fun r s₁ hr=>?_
 cases r with
 | error e=>exact hr
 | ok fl =>
  cases fl with
  | ret obj =>
   obtain⟨led,rfl,rfl⟩:=hr
   have hS:(s.heap.push { cls:=.type "set",dict:=none,data:=.set #[] 0 (.fresh 0 0 led) }).get? s.heap.objs.size=some { cls:=.type "set",dict:=none,data:=.set #[] 0 (.fresh 0 0 led) }:=Heap.get?_push_size _ rfl
   have hT:Shared.TypeIs { s with heap:=s.heap.push { cls:=.type "set",dict:=none,data:=.set #[] 0 (.fresh 0 0 led) } } (.ref s.heap.objs.size) "set":=⟨_,hS,rfl⟩
   have hli:=F.called_set.init.lookup
   have hbi:=F.called_set.init.bind (.ref s.heap.objs.size)
   repeat (any_goals (first | assumption | wp_step))
   refine codeAny_mono (codeAny_call_builtin (R:=wants (fun r s₂=>r=.none/\∃ h' tk,s₂={ s with heap:=h',toks:=tk }/\SetT prog w s.heap h' s.heap.objs.size (keys.foldl insT [])/\(∀ b o,s.heap.get? b=some o->h'.get? b=some o)) E) F.called_set.init.plain F.entry_set_init (check_set_init_1 hT ?_)) fun r₂ s₂ hr₂=>?_
   ·obtain⟨ol,hol,hcl,nl,hdl⟩:=hl
    obtain⟨ocls,odict,odata,oslots⟩:=ol
    simp only at hcl hdl
    subst hcl;subst hdl
    have hol':(s.heap.push { cls:=.type "set",dict:=none,data:=.set #[] 0 (.fresh 0 0 led) }).get? l=some { cls:=.type "list",dict:=odict,data:=.seq items nl,slots:=oslots }:=Heap.get?_push_of_some _ hol
    have hsls:=F.sub_list_set
    have hslf:=F.sub_list_frozenset
    have hne:(Value.type "list" == Value.type "dict")=false:=by decide
    have hl1:(s.heap.push { cls:=.type "set",dict:=none,data:=.set #[] 0 (.fresh 0 0 led) }).IsList l items:=⟨_,hol',rfl,nl,rfl⟩
    unfold Builtin.«set.__init__» noKeywords Builtin.Frozenset.updateFrom
    generalize hPI:pyIter=PI
    wp_walk
    subst hPI
    refine wpAny_pyIter_list hl1 ?_
    refine wpAny_bind (wpAny_runValue ?_)
    have hlS:l<s.heap.objs.size:=Heap.lt_size hol
    have hh3:A.in1.in1.in1.handled=none:=by simp[hh]
    have hneI:l≠(s.heap.push { cls:=.type "set",dict:=none,data:=.set #[] 0 (.fresh 0 0 led) }).objs.size:=by
     rw[Heap.size_push];exact Nat.ne_of_lt (Nat.lt_succ_of_lt hlS)
    have hSf:s.heap.objs.size∉[(s.heap.push { cls:=.type "set",dict:=none,data:=.set #[] 0 (.fresh 0 0 led) }).objs.size,l]:=by
     rw[Heap.size_push];simp only[List.mem_cons,List.mem_singleton,List.not_mem_nil,or_false,not_or]
     exact⟨Nat.ne_of_lt (Nat.lt_succ_self _),Nat.ne_of_gt hlS⟩
    refine update_loop ((Walks.list hh3 _ l hneI items).toS) ?hu s.heap.objs.size hSf s.heap ?hn ?hw keys hn hb hkey (items.size - 0) 0 _ (by omega) (Nat.zero_le _)
     ⟨⟨_,Heap.get?_push_size _ rfl,rfl,rfl⟩,(hl1.push _)⟩ (fun b o e=>Heap.get?_push_of_some _ (Heap.get?_push_of_some _ e)) ?hS0 ?hR
    case hu=>show A.units+1+1+1<cLine;omega
    case hn=>exact Heap.get?_none_of_le (Nat.le_refl _)
    case hw =>
     intro b hb
     have e:b=(s.heap.push { cls:=.type "set",dict:=none,data:=.set #[] 0 (.fresh 0 0 led) }).objs.size:=by simpa using hb
     rw[e]
     exact Heap.get?_none_of_le (by rw[Heap.size_push];exact Nat.le_succ _)
    case hS0 =>
     have hget:((s.heap.push { cls:=.type "set",dict:=none,data:=.set #[] 0 (.fresh 0 0 led) }).push { cls:=.type "list_iterator",data:=.fields #[.ref l,.int 0 0] }).get? s.heap.objs.size
       = some { cls:=.type "set",dict:=none,data:=.set #[] 0 (.fresh 0 0 led) }:=Heap.get?_push_of_some _ hS
     refine⟨_,_,_,_,hget,⟨rfl,rfl,rfl⟩,rfl,⟨rfl,rfl,?_,?_,.inl rfl,by show 0*5<7*3;decide,?_⟩,rfl,List.nodup_nil,(fun _ h=>nomatch h),(fun _ h=>nomatch h),(fun _ h=>nomatch h)⟩
     ·intro i j a b hij ea
      simp[SetTable.fresh]at ea
     ·intro i j ea
      simp[SetTable.fresh]at ea
     ·intro i e ea
      simp at ea
    case hR =>
     intro s' hm hS'
     obtain⟨h',g',d',tk',os'⟩:=s'
     have eg:g'=s.gens:=hm.gens
     have ed:d'=s.drawn:=hm.drawn
     have eo:os'=s.os:=hm.os
     subst eg;subst ed;subst eo
     show wpAny _ _ _ _ _ _
     refine wpAny_pure ?_
     show wpAny _ _ (ret Value.none) _ _ _
     refine wpAny_pure ⟨rfl,h',tk',rfl,hS',fun b o e=>?_⟩
     have hlt:=Heap.lt_size e
     have hb1:b≠s.heap.objs.size:=Nat.ne_of_lt hlt
     have hb2:b≠(s.heap.push { cls:=.type "set",dict:=none,data:=.set #[] 0 (.fresh 0 0 led) }).objs.size:=by
      rw[Heap.size_push];exact Nat.ne_of_lt (Nat.lt_succ_of_lt hlt)
     exact hm.heap b o (by simp only[List.mem_cons,List.mem_singleton,List.not_mem_nil,or_false,not_or];exact⟨hb1,hb2⟩) (Heap.get?_push_of_some _ (Heap.get?_push_of_some _ e))
   ·cases r₂ with
    | error e=>exact hr₂
    | ok fl₂ =>
     cases fl₂ with
     | ret r =>
      obtain⟨rfl,h',tk,rfl,hS',hk'⟩:=hr₂
      repeat (any_goals (first | assumption | wp_step))
      exact h _ _ hS' hk'
     | _=>exact hr₂.elim
  | _=>exact hr.elim
theorem len_of_set {S:Addr}{hp:Heap}{ks:List (List Int)}{Q:Value->Shared->Prop}(hS:SetT prog w hp s.heap S ks)(hn:ks.length<300)(h:∀ t tk,Q (.int ks.length t) { s with toks:=tk }) :
  wpAny (model prog w) A (call (.builtin "len") [.ref S]) Q E s:=by
 obtain⟨o,es,ep,t,ho,hex,hd,T,hsz,_⟩:=hS
 refine call_len_set ho hex hd T.fits (by omega) ?_
 rw[hsz]
 exact h _ _
end
end Sett
namespace L2
open PySem PySem.Spec PyProof.Rows
def Tups (K:W.Frag)(H:Hp)(ys:List V)(ks:List (List Int)):Prop:=Paired (fun y k=>∃ a,y=V.ref a/\SqT K H a (k.map V.int)) ys ks
theorem Tups.len {K:W.Frag}{H:Hp}{ys:List V}{ks:List (List Int)}(t:Tups K H ys ks):ys.length=ks.length:=Paired.length t
theorem Tups.get {K:W.Frag}{H:Hp}:∀ {ys:List V} {ks:List (List Int)} {i:Nat} {y:V},Tups K H ys ks->ys[i]?=some y->∃ a k,y=V.ref a/\ks[i]?=some k/\SqT K H a (k.map V.int)
 | _,_,_,_,.nil,e=>by simp at e
 | _,_,0,_,.cons r _,e=>by
  simp at e
  subst e
  obtain⟨a,h1,h2⟩:=r
  exact⟨a,_,h1,rfl,h2⟩
 | _,_,i+1,y,.cons _ t,e=>by
  obtain⟨a,k,h1,h2,h3⟩:=Tups.get (i:=i) (y:=y) t (by simpa using e)
  exact⟨a,k,h1,by simpa using h2,h3⟩
theorem Tups.same {K:W.Frag}{H H':Hp}(hs:∀ b o,H b=some o->H' b=some o):∀ {ys:List V} {ks:List (List Int)},Tups K H ys ks->Tups K H' ys ks
 | _,_,.nil=>.nil
 | _,_,.cons r t=>by
  obtain⟨a,h1,h2⟩:=r
  refine .cons ⟨a,h1,?_⟩ (Tups.same hs t)
  rcases h2 with(h | ⟨o,h⟩) | h
  ·exact .inl (.inl (hs _ _ h))
  ·exact .inl (.inr ⟨o,hs _ _ h⟩)
  ·exact .inr h
theorem Tups.append {K:W.Frag}{H:Hp}:∀ {ys zs:List V} {ks ls:List (List Int)},Tups K H ys ks->Tups K H zs ls->Tups K H (ys++zs) (ks++ls)
 | _,_,_,_,.nil,s=>s
 | _,_,_,_,.cons r t,s=>.cons r (Tups.append t s)
section
variable {X:Cx} {pins:List (Addr × Obj)} {σ:St} {H:Hp} {s:Shared}
theorem items_of {prog:Program}{w:World}:∀ {k:List Int} {its:List Value},Vals (k.map V.int) its->ItemsAre (intKind prog w) k its
 | [],_,.nil=>.nil
 | i::k,_,.cons r t=>by
  obtain⟨tk,rfl⟩:=r
  exact .cons (by simp[intKind,Value.isInt]) (items_of t)
theorem tup_key (I:Inv X pins σ H s){a:Addr}{k:List Int}(h:SqT X.K H a (k.map V.int)):IsTupleKey (intKind X.prog X.w) s.heap k a:=by
 obtain⟨its,r,⟨o,ho,hc,n,hd⟩,_⟩:=I.tuple h
 exact⟨o,its.toArray,n,ho,hc,hd,by simpa using items_of r⟩
theorem tups_vals (I:Inv X pins σ H s):∀ {ys:List V} {ks:List (List Int)} {us:List Value},Tups X.K H ys ks->Vals ys us->Paired (fun u k=>∃ a,u=Value.ref a/\IsTupleKey (intKind X.prog X.w) s.heap k a) us ks
 | _,_,_,.nil,.nil=>.nil
 | _,_,_,.cons r t,.cons q v=>by
  obtain⟨a,rfl,h⟩:=r
  cases q
  exact .cons ⟨a,rfl,tup_key I h⟩ (tups_vals I t v)
theorem paired_get {α β:Type}{R:α->β->Prop}:∀ {l:List α} {m:List β} {i:Nat} {x:α},Paired R l m->l[i]?=some x->∃ y,m[i]?=some y/\R x y
 | _,_,_,_,.nil,e=>by simp at e
 | _,_,0,_,.cons r _,e=>by simp at e;subst e;exact⟨_,rfl,r⟩
 | _,_,i+1,x,.cons _ t,e=>by
  obtain⟨y,h1,h2⟩:=paired_get (i:=i) (x:=x) t (by simpa using e)
  exact⟨y,by simpa using h1,h2⟩
theorem paired_perm {α β:Type}{R:α->β->Prop}{l l':List α}(p:l'.Perm l):∀ {m:List β},Paired R l m->∃ m',m'.Perm m/\Paired R l' m':=by
 induction p with
 | nil=>intro m h;exact⟨m,List.Perm.refl _,h⟩
 | cons x _ ih =>
  intro m h
  cases h with
  | cons r t =>
   obtain⟨m',p',h'⟩:=ih t
   exact⟨_::m',p'.cons _,.cons r h'⟩
 | swap x y l =>
  intro m h
  cases h with
  | cons r t =>
   cases t with
   | cons r' t'=>exact⟨_::_::_,List.Perm.swap _ _ _,.cons r' (.cons r t')⟩
 | trans _ _ ih1 ih2 =>
  intro m h
  obtain⟨m1,p1,h1⟩:=ih2 h
  obtain⟨m2,p2,h2⟩:=ih1 h1
  exact⟨m2,p2.trans p1,h2⟩
theorem paired_flip {α β:Type}{R:α->β->Prop}:∀ {l:List α} {m:List β},Paired R l m->Paired (fun b a=>R a b) m l
 | _,_,.nil=>.nil
 | _,_,.cons r t=>.cons r (paired_flip t)
theorem paired_imp {α β:Type}{R S:α->β->Prop}(f:∀ a b,R a b->S a b):∀ {l:List α} {m:List β},Paired R l m->Paired S l m
 | _,_,.nil=>.nil
 | _,_,.cons r t=>.cons (f _ _ r) (paired_imp f t)
end
section
variable {X:Cx}
def SetO (P:Program)(w:World)(S:Addr)(n:Nat):HO:=.ext fun h=>∃ hk ks,ks.length=n/\n<300/\Sett.SetT P w hk h S ks
theorem call_set (hc:X.calm=true)(hu:X.A.units+8<cLine):CallR X (.type "set") (fun xs H Q=>∃ p ys ks,xs=[.ref p]/\SqL X.K H p ys/\Tups X.K H ys ks/\(∀ k∈ks,Sett.KeyOk k)/\ks.length<300 /\
  ∀ S,H S=none->Q (.ref S) (upd H S (SetO X.prog X.w S (ks.foldl Sett.insT []).length))):=by
 intro pins s σ H xs us Q I r h
 obtain⟨p,ys,ks,rfl,hq,ht,hok,hb,q⟩:=h
 obtain⟨u,rfl,rx⟩:=vals1 r
 cases rx
 obtain⟨its,r',pl,hz⟩:=I.list hq
 have hlen:=r'.length
 have hk:=tups_vals I ht r'
 have hkl:=ht.len
 refine Sett.set_of_list (keys:=ks) (I.ok.hd hc) hu pl.isList (by simp;omega) (by simp;omega) (fun i v hv=>?_) fun h' tk hS kp=>?_
 ·obtain⟨k,h1,a,rfl,h2⟩:=paired_get hk (by simpa using hv)
  exact⟨a,k,rfl,h1,hok k (List.mem_of_getElem? h1),h2⟩
 ·have hle:=Sett.fold_le ks []
  simp only[List.length_nil]at hle
  refine⟨.ref s.heap.objs.size,_,I.laid (o:=SetO X.prog X.w s.heap.objs.size (ks.foldl Sett.insT []).length) (t':=tk) kp (Nat.le_refl _) ?_,rfl,q _ (I.hok.fresh (Nat.le_refl _))⟩
  refine⟨⟨s.heap,ks.foldl Sett.insT [],rfl,by omega,hS⟩,?_,fun h1 h2 ⟨hk1,ks1,e1,e2,hS1⟩ hkeep=>⟨hk1,ks1,e1,e2,?_⟩⟩
  ·obtain⟨o,_,_,_,ho,_⟩:=hS
   exact⟨o,ho⟩
  ·obtain⟨o,es,ep,t,ho,rest⟩:=hS1
   exact⟨o,es,ep,t,hkeep o ho,rest⟩
theorem call_len_set:CallR X (.builtin "len") (fun xs H Q=>∃ S n,xs=[.ref S]/\H S=some (SetO X.prog X.w S n)/\Q (.int n) H):=by
 intro pins s σ H xs us Q I r h
 obtain⟨S,n,rfl,hS,q⟩:=h
 obtain⟨u,rfl,rx⟩:=vals1 r
 cases rx
 obtain⟨⟨hk,ks,e1,e2,hS1⟩,_⟩:=I.hok S _ hS
 refine Sett.len_of_set hS1 (by omega) fun t tk=>?_
 exact⟨.int n,H,I.tok _,⟨t,by rw[e1]⟩,q⟩
end
def compCx (X:Cx)(scope:Scope)(cl:List (Str × Addr))(N':List Str)(s₃:Shared)(H₃:Hp)(fp:List Addr)(xe':Value->Shared->Prop):Cx:=
 { X with N:=N',s₀:=s₃,H₀:=H₃,env:=compEnvC scope cl s₃.heap.objs.size X.env,outer:=X.stack,ex:=fp,fn:=fun _=>false,pn:=[],xe:=xe' }
def ClOk (env:Env):List (Str × Addr)->Prop
 | []=>True
 | (x,c)::r=>env.cells.lookup x=some c/\ClOk env r
theorem ClOk.get {env:Env}:∀ {cl:List (Str × Addr)} {x:Str} {c:Addr},ClOk env cl->cl.lookup x=some c->env.cells.lookup x=some c
 | [],_,_,_,h=>by cases h
 | (y,d)::r,x,c,⟨h1,h2⟩,h=>by
  rw[List.lookup_cons]at h
  cases e:x == y with
  | true =>
   rw[e]at h
   cases h
   rw[eq_of_beq e]
   exact h1
  | false =>
   rw[e]at h
   exact ClOk.get h2 h
def FrOk (names:List (Str × NameKind))(cl:List (Str × Addr)):Bool:=names.all fun y=>y.2 != .cell && (y.2 != .free || (cl.lookup y.1).isSome)
theorem lookup_relabel {env:Env}:∀ {names:List (Str × NameKind)} {x:Str} {k:NameKind},(names.map fun(n,k)=>if (k == NameKind.free && env.scope.kind == .function && env.kindOf n == some .cell) then (n,NameKind.cell) else (n,k)).lookup x=some k ->
  ∃ k',(x,k')∈names/\(k'=k\/(k'=.free/\k=.cell))
 | [],_,_,h=>by cases h
 | (n,k0)::r,x,k,h=>by
  rw[List.map_cons]at h
  have hn:∀ k1,(List.lookup x ((n,k1)::r.map fun(n,k)=>if (k == NameKind.free && env.scope.kind == .function && env.kindOf n == some .cell) then (n,NameKind.cell) else (n,k)))=some k->(x=n/\k1=k)\/∃ k',(x,k')∈r/\(k'=k\/(k'=.free/\k=.cell)):=fun k1 h=>by
   rw[List.lookup_cons]at h
   cases e:x == n with
   | true=>rw[e]at h;cases h;exact .inl ⟨eq_of_beq e,rfl⟩
   | false=>rw[e]at h;exact .inr (lookup_relabel h)
  dsimp only at h
  by_cases hc:(k0 == NameKind.free && env.scope.kind == .function && env.kindOf n == some .cell)=true
  ·rw[if_pos hc]at h
   rcases hn _ h with⟨rfl,rfl⟩ | ⟨k',h1,h2⟩
   ·simp only[Bool.and_eq_true]at hc
    have e0:k0=.free:=eq_of_beq hc.1.1
    exact⟨k0,List.mem_cons_self,.inr ⟨e0,rfl⟩⟩
   ·exact⟨k',List.mem_cons_of_mem _ h1,h2⟩
  ·rw[if_neg hc]at h
   rcases hn _ h with⟨rfl,rfl⟩ | ⟨k',h1,h2⟩
   ·exact⟨k0,List.mem_cons_self,.inl rfl⟩
   ·exact⟨k',List.mem_cons_of_mem _ h1,h2⟩
def capt (lk:List (Option Nat))(σ:St):St:=lk.map fun o=>o.bind fun j=>(σ[j]?).join
def LkOk (X:Cx)(N':List Str)(lk:List (Option Nat))(scope:Scope)(cl:List (Str × Addr)):Prop:=
 lk.length=N'.length/\∀ (i j:Nat) (x:Str),N'[i]?=some x->lk[i]?=some (some j)->X.N[j]?=some x/\(X.env.scope.names.lookup x=some .cell\/X.env.scope.names.lookup x=some .free)/\(cl.lookup x).isSome=true /\
  ((compEnvC scope cl 0 X.env).kindOf x=some .cell\/(compEnvC scope cl 0 X.env).kindOf x=some .free)
section
variable {X:Cx}
theorem comp_start {pins:List (Addr × Obj)}{σ:St}{H3:Hp}{s3:Shared}{h1:Heap}{tk:Nat}{scope:Scope}{cl:List (Str × Addr)}{N':List Str}{lk:List (Option Nat)}{fp:List Addr}{xe':Value->Shared->Prop}{m0:Str->Option Value}
  (I:Inv X pins σ H3 s3)(hf:∀ b∈fp,FpOk X pins H3 b)(hkind:scope.kind=.function)(hcl:ClOk X.env cl)(hfr:FrOk scope.names cl=true)(hlk:LkOk X N' lk scope cl)
  (hn:h1.Ns s3.heap.objs.size m0)(hk:∀ b u,s3.heap.get? b=some u->h1.get? b=some u)(hfs:∀ b∈fp,b<s3.heap.objs.size):Inv (compCx X scope cl N' s3 H3 fp xe') [] (capt lk σ) H3 { s3 with heap:=h1,toks:=tk }:=by
 have hC:H3 s3.heap.objs.size=none:=I.hok.fresh (Nat.le_refl _)
 have hmem:∀ y∈scope.names,y.2≠.cell/\(y.2=.free->(cl.lookup y.1).isSome=true):=fun y hy=>by
  unfold FrOk at hfr
  rw[List.all_eq_true]at hfr
  have:=hfr y hy
  rw[Bool.and_eq_true]at this
  refine⟨by simpa using this.1,fun e=>?_⟩
  have h2:=this.2
  rw[e]at h2
  simpa using h2
 have hcell:∀ x c,cl.lookup x=some c->X.env.cells.lookup x=some c:=fun x c e=>hcl.get e
 have clt:∀ x c,cl.lookup x=some c->c<s3.heap.objs.size:=fun x c e=>by
  obtain⟨v,q⟩:=I.cell x c (hcell x c e)
  exact q.lt
 refine⟨⟨I.ok.mod,hkind,I.ok.glob,I.ok.blt,Nat.le_refl _,fun x y c e1 e2=>I.ok.inj x y c (hcell x c e1) (hcell y c e2),fun x hx=>?_,(fun x c e=>by cases e),I.ok.hd,I.ok.frames,.inl rfl,fun b hb=>?_,fun b o e=>I.bs b o e,Nat.le_trans I.ok.bsz I.sz,fun b o e hb=>?_,fun b hb z=>?_,I.stack,I.stkFree⟩,
  rfl,I.bare,Un.kept hk,⟨m0,hn,fun i x v e1 e2 e3=>?_⟩,fun x c e=>?_,hC,fun x c e=>?_,(fun p hp=>nomatch hp),I.hok.kept hk,?_⟩
 ·have hx':(relabel scope X.env).names.lookup x=some .cell\/(relabel scope X.env).names.lookup x=some .free:=hx
  have:∃ k',(x,k')∈scope.names/\k'=.free:=by
   rcases hx' with h | h
   ·obtain⟨k',h1,h2⟩:=lookup_relabel h
    rcases h2 with h2 | h2
    ·exact absurd h2 (hmem _ h1).1
    ·exact⟨k',h1,h2.1⟩
   ·obtain⟨k',h1,h2⟩:=lookup_relabel h
    rcases h2 with h2 | h2
    ·exact⟨k',h1,h2⟩
    ·exact⟨k',h1,h2.1⟩
  obtain⟨k',h1,h2⟩:=this
  exact Option.isSome_iff_exists.mp ((hmem _ h1).2 h2)
 ·obtain⟨f0,f1,f2,f3,f4,f5⟩:=hf b hb
  exact⟨Nat.ne_of_lt (hfs b hb),fun x c e=>f4 x c (hcell x c e)⟩
 ·obtain⟨f0,f1,f2,f3,f4,f5⟩:=hf b hb
  rcases f3 with f3 | f3
  ·exact I.ok.noex b o e f3
  ·exact absurd (Nat.lt_of_lt_of_le (Heap.lt_size e) (Nat.le_trans I.ok.bsz f3)) (Nat.lt_irrefl _)
 ·obtain⟨f0,f1,f2,f3,f4,f5⟩:=hf b hb
  rcases List.mem_cons.mp (I.stkSub b z) with e | e
  ·exact f1 e
  ·exact f2 e
 ·-- a captured name
  have e2':(capt lk σ)[i]?=some (some v):=e2
  unfold capt at e2'
  rw[List.getElem?_map]at e2'
  cases hq:lk[i]? with
  | none=>rw[hq]at e2';cases e2'
  | some o =>
   rw[hq]at e2'
   have e2'':(o.bind fun j=>(σ[j]?).join)=some v:=Option.some.inj e2'
   cases o with
   | none=>cases e2''
   | some j =>
    obtain⟨q1,q2,q3,q4⟩:=hlk.2 i j x e1 hq
    have hσ:σ[j]?=some (some v):=by
     have z:(σ[j]?).join=some v:=e2''
     cases hh:σ[j]? with
     | none=>rw[hh]at z;cases z
     | some o=>rw[hh]at z;rw[show o=some v from z]
    obtain⟨m,hnX,hl⟩:=I.loc
    obtain⟨u,r,lo⟩:=hl j x v q1 hσ (q2.elim (fun a=>.inr (.inl a)) (fun a=>.inr (.inr a)))
    refine⟨u,r,.inr ?_⟩
    obtain⟨c,hc⟩:=Option.isSome_iff_exists.mp q3
    refine⟨q4,c,hc,?_⟩
    have hcX:=hcell x c hc
    rcases lo with⟨k,_⟩ | ⟨_,c',hc',z⟩
    ·have k':X.env.scope.names.lookup x=some .local:=k
     rw[k']at q2
     rcases q2 with q2 | q2<;>cases q2
    ·rw[hcX]at hc'
     cases hc'
     obtain⟨o,ho,hd⟩:=z
     exact⟨o,hk c o ho,hd⟩
 ·obtain⟨v,o,ho,hd⟩:=I.cell x c (hcell x c e)
  exact⟨v,o,hk c o ho,hd⟩
 ·exact I.freeC x c (hcell x c e)
 ·show (capt lk σ).length=N'.length
  unfold capt
  rw[List.length_map]
  exact hlk.1
def PTs (X:Cx)(ifs:List Expr)(t:TT):Prop:=
 ∀ (pins:List (Addr × Obj)) (s:Shared) (σ:St) (H:Hp) (Q:Bool->Hp->Prop),Inv X pins σ H s->t σ H Q->wpAny (model X.prog X.w) X.A (forIn ifs true fun c r=>if r=true then do let ok <- isTrue c X.env (eval c X.env);pure (ForInStep.yield ok) else pure (ForInStep.yield r)) (TP X pins σ Q) X.xe s
def tTrue:TT:=fun _ H Q=>Q true H
theorem pts_nil:PTs X [] tTrue:=fun pins s σ H Q I h=>wpAny_tests_nil ⟨H,I,h⟩
theorem pts_one {c:Expr}{t:TT}(h:PT X c t):PTs X [c] t:=fun pins s σ H Q I q=>wpAny_tests_one (h pins s σ H Q I q)
def tComp (wi:TI)(lk:List (Option Nat))(g:TG)(tt:TT)(te:TE):TE:=fun σ H Q=>wi σ H fun J H1=>∀ D,H1 D=none->∃ W:Nat->Nat->List V->St->Hp->Prop,(∃ m,W 0 m [] (capt lk σ) (upd H1 D (.lst [])))/\∀ i m xs σ' H',W i m xs σ' H' ->
 H' D=some (.lst xs)/\((J.stop i H'/\Q (.ref D) H')\/(J.go i H'/\xs.length<sizeLine/\∀ x H'',J.yld i H' x H''->g x σ' H'' fun σ2 H2=>tt σ2 H2 fun b H3 =>
  if b=true then te σ2 H3 fun v H4=>H4 D=some (.lst xs)/\∃ m',m'<m/\W (i+1) m' (xs++[v]) σ2 (upd H4 D (.lst (xs++[v]))) else ∃ m',m'<m/\W (i+1) m' xs σ2 H3))
theorem pe_comp {elt iter tg:Expr}{ifs:List Expr}{scope:Scope}{pos:Pos}{cl:List (Str × Addr)}{N':List Str}{lk:List (Option Nat)}{wi:TI}{g:TG}{tt:TT}{te:TE}(hc:X.calm=true)(hi:PI X tg iter wi)(hclos:closureFor scope X.env=pure cl)(hkind:scope.kind=.function)
  (hnames:∀ y∈scope.names,y.2=.local->scope.names.lookup y.1=some .local)(hcl:ClOk X.env cl)(hfr:FrOk scope.names cl=true)(hlk:LkOk X N' lk scope cl)
  (hg:∀ s3 H3 fp,PG (compCx X scope cl N' s3 H3 fp fun _ _=>False) tg g)(ht:∀ s3 H3 fp,PTs (compCx X scope cl N' s3 H3 fp fun _ _=>False) ifs tt)(he:∀ s3 H3 fp,PE (compCx X scope cl N' s3 H3 fp fun _ _=>False) elt te)
  (hs:∀ x,foldedSetIterable iter X.env x=pure x:=by intro _;rfl):PE X (.ListComp elt [⟨tg,iter,ifs,0⟩] scope pos) (tComp wi lk g tt te):=by
 intro pins s σ H Q I h
 rw[eval_ListComp]
 have hcellN:∀ y∈scope.names,y.2≠.cell:=fun y hy=>by
  unfold FrOk at hfr
  rw[List.all_eq_true]at hfr
  have:=hfr y hy
  rw[Bool.and_eq_true]at this
  simpa using this.1
 refine wpAny_comprehension_free (use:=none) rfl hs hclos hkind hnames (thn (hi pins s σ H _ I h) fun v s1 h1=>thn h1 fun itv s2 h2=>?_)
 obtain⟨it,fp,tn,J,H2,e,I2,T,st2,f2,q⟩:=h2
 subst e
 refine wpAny_newList ?_ (Nat.zero_le _)
 have hD:H2 s2.heap.objs.size=none:=I2.hok.fresh (Nat.le_refl _)
 have I3:=I2.lnew (ys:=[]) (its:=[]) (t':=s2.toks) .nil (Nat.zero_le _)
 obtain⟨W,⟨m0,w0⟩,turn⟩:=q s2.heap.objs.size hD
 have fpl:∀ b∈fp,b<s2.heap.objs.size:=fun b hb=>by
  obtain⟨o,ho,_⟩:=T.obj 0 s2.heap st2 b hb
  exact Heap.lt_size ho
 refine wpAny_newFunctionEnv hcellN (by intro y hy;cases hy) (fun h1 hns1 hsb1=>?_) hkind
 dsimp only at hns1 hsb1 ⊢
 have e3:s2.heap.push { cls:=.type "list",dict:=none,data:=.seq ([]:List Value).toArray }=s2.heap.push { cls:=.type "list",data:=.seq ([]:List Value).toArray }:=rfl
 generalize hh3:s2.heap.push { cls:=.type "list",dict:=none,data:=.seq ([]:List Value).toArray }=h3 at *
 have I3':Inv X pins σ (upd H2 s2.heap.objs.size (.lst [])) { s2 with heap:=h3,toks:=s2.toks }:=I3
 have size3:h3.objs.size=s2.heap.objs.size+1:=by rw[<- hh3,Heap.size_push]
 have f3:∀ b∈fp,FpOk X pins (upd H2 s2.heap.objs.size (.lst [])) b:=fun b hb=>by
  obtain⟨f0,fr⟩:=f2 b hb
  exact⟨by rw[upd_ne (Nat.ne_of_lt (fpl b hb))];exact f0,fr⟩
 have up:∀ b u,h3.get? b=some u->h1.get? b=some u:=fun b u eb=>by
  rw[hsb1.2 b (Nat.ne_of_lt (Heap.lt_size eb))]
  exact Heap.get?_push_of_some _ eb
 have I4:Inv (compCx X scope cl N' { s2 with heap:=h3,toks:=s2.toks } (upd H2 s2.heap.objs.size (.lst [])) fp fun _ _=>False) [] (capt lk σ) (upd H2 s2.heap.objs.size (.lst [])) { s2 with heap:=h1,toks:=s2.toks+([]:List (Str × Value)).length }:=
  comp_start (s3:={ s2 with heap:=h3,toks:=s2.toks }) I3' f3 hkind hcl hfr hlk hns1 up fun b hb=>by show b<h3.objs.size;rw[size3];exact Nat.lt_succ_of_lt (fpl b hb)
 have st4:tn 0 h1:=T.keep 0 s2.heap h1 st2 fun b hb o eb=>up b o (by rw[<- hh3];exact Heap.get?_push_of_some _ eb)
 have hCs:h3.objs.size=(compEnvC scope cl h3.objs.size X.env).locals:=rfl
 have stat:∀ {H':Hp},(∀ b∈fp,H' b=none)->∀ b∈fp,FpOk (compCx X scope cl N' { s2 with heap:=h3,toks:=s2.toks } (upd H2 s2.heap.objs.size (.lst [])) fp fun _ _=>False) [] H' b:=fun {H'} hn b hb=>by
  obtain⟨f0,f1,f2',f3',f4,f5⟩:=f3 b hb
  refine⟨hn b hb,?_,fun z=>?_,.inl hb,fun x c ex=>f4 x c (hcl.get ex),fun p hp=>nomatch hp⟩
  ·show b≠h3.objs.size
   rw[size3]
   exact Nat.ne_of_lt (Nat.lt_succ_of_lt (fpl b hb))
  ·rcases List.mem_cons.mp (I3'.stkSub b z) with q | q
   ·exact f1 q
   ·exact f2' q
 have fin:∀ (s':Shared) (σ':St) (H':Hp),Inv (compCx X scope cl N' { s2 with heap:=h3,toks:=s2.toks } (upd H2 s2.heap.objs.size (.lst [])) fp fun _ _=>False) [] σ' H' s'->Q (.ref s2.heap.objs.size) H' ->
   compPost (model X.prog X.w) X.A X.xe none (EP X pins σ Q) (.ref s2.heap.objs.size) h3.objs.size (.ok .next) s':=fun s' σ' H' I' q'=>by
  obtain⟨m,hm,_⟩:=id I'.loc
  have I5:Inv X pins σ H' s':=I3'.call' (ch:=fp) I'.os I'.base I'.hok I'.bare fun b hb=>by
   obtain⟨f0,f1,f2',f3',f4,f5⟩:=f3 b hb
   exact⟨f3',f1,f4,f5⟩
  refine⟨m,hm,fun h' hsb=>?_⟩
  refine⟨.ref s2.heap.objs.size,H',?_,rfl,q'⟩
  have hfc:H' h3.objs.size=none:=I'.free
  have hcl1:∀ b o,h3.get? b=some o->b≠h3.objs.size:=fun b o eb=>Nat.ne_of_lt (Heap.lt_size eb)
  obtain⟨h0',g0,d0,t0,o0⟩:=s'
  refine I5.turned (t':=t0) (it:=h3.objs.size) (fun b o hb eb=>(hsb.2 b hb).trans eb) hfc ?_ (.inr I3'.sz) (fun x c ex z=>?_) (fun p hp z=>?_)
  ·exact Nat.ne_of_gt I3'.lt
  ·obtain⟨v',q2⟩:=I3'.cell x c ex
   exact absurd q2.lt (by rw[z];exact Nat.lt_irrefl _)
  ·exact absurd (Heap.lt_size (I3'.pin p hp).1) (by rw[z];exact Nat.lt_irrefl _)
 have loop:∀ s5:Shared,s5={ s2 with heap:=h1,toks:=s2.toks+([]:List (Str × Value)).length } ->
   codeAny (model X.prog X.w) X.A (.compLoop (.ListComp elt [⟨tg,iter,ifs,0⟩] scope pos) 0 (.ref it) (.ref s2.heap.objs.size) (compEnvC scope cl h3.objs.size X.env)) (compPost (model X.prog X.w) X.A X.xe none (EP X pins σ Q) (.ref s2.heap.objs.size) h3.objs.size) s5:=by
  rintro s5 rfl
  refine codeAny_loop rfl (fun n s'=>∃ i xs σ' H',Inv (compCx X scope cl N' { s2 with heap:=h3,toks:=s2.toks } (upd H2 s2.heap.objs.size (.lst [])) fp fun _ _=>False) [] σ' H' s'/\tn i s'.heap/\(∀ b∈fp,H' b=none)/\W i n xs σ' H')
   (fun n s6 hI=>?_) m0 ⟨0,[],capt lk σ,_,I4,st4,fun b hb=>(f3 b hb).1,w0⟩
  obtain⟨i,xs,σ6,H6,I6,st6,fr6,w6⟩:=hI
  show wpAny _ X.A ((compTurn (.ListComp elt [⟨tg,iter,ifs,0⟩] scope pos) 0 (.ref it) (.ref s2.heap.objs.size) (compEnvC scope cl h3.objs.size X.env)).onRaise (fun x=>do noteFrame x (compEnvC scope cl h3.objs.size X.env);theTreesLotGoes x)) _ _ s6
  refine wpAny_noted ?_
  rw[compTurn_list]
  refine wpAny_bind (wpAny_standAt (wpAny_bind ?_))
  obtain⟨hD6,hw⟩:=turn i n xs σ6 H6 w6
  rcases hw with⟨stop,qn⟩ | ⟨go,hlen,step⟩
  ·refine thn (T.done (compCx X scope cl N' { s2 with heap:=h3,toks:=s2.toks } (upd H2 s2.heap.objs.size (.lst [])) fp fun _ _=>False) rfl rfl rfl hc i [] s6 σ6 H6 _ I6 (stat fr6) st6 stop) fun r s7 ⟨hr,I7⟩=>?_
   subst hr
   exact wpAny_pure (fin s7 σ6 H6 I7 qn)
  ·refine thn (T.item (compCx X scope cl N' { s2 with heap:=h3,toks:=s2.toks } (upd H2 s2.heap.objs.size (.lst [])) fp fun _ _=>False) rfl rfl rfl hc i [] s6 σ6 H6 _ I6 (stat fr6) st6 go) fun r s7 ⟨u,hr,h7⟩=>?_
   subst hr
   refine wpAny_bind (thn h7 fun _ s8 ⟨x,H8,I8,r8,y8,st8,fr8⟩=>?_)
   have I8':=I8.pinned (stat fr8) (T.obj _ _ st8)
   refine wpAny_bind (wpAny_mono (hg _ _ _ _ s8 σ6 H8 x u _ I8' r8 (step x H8 y8)) (fun _ s9 ⟨σ9,H9,I9,q9⟩=>?_) (fun _ _ z=>False.elim z))
   refine wpAny_bind (wpAny_mono (ht _ _ _ _ s9 σ9 H9 _ I9 q9) (fun ok s10 ⟨H10,I10,q10⟩=>?_) (fun _ _ z=>False.elim z))
   have again:∀ {σ':St} {H':Hp} {ys:List V} {s':Shared},Inv (compCx X scope cl N' { s2 with heap:=h3,toks:=s2.toks } (upd H2 s2.heap.objs.size (.lst [])) fp fun _ _=>False) ([]++pinsAt fp s8.heap) σ' H' s'->(∃ m',m'<n/\W (i+1) m' ys σ' H') ->
     ∃ m',m'<n/\∃ i xs σ' H',Inv (compCx X scope cl N' { s2 with heap:=h3,toks:=s2.toks } (upd H2 s2.heap.objs.size (.lst [])) fp fun _ _=>False) [] σ' H' s'/\tn i s'.heap/\(∀ b∈fp,H' b=none)/\W i m' xs σ' H':=fun {σ' H' ys s'} I' ⟨m',hm,w'⟩=>by
    refine⟨m',hm,i+1,ys,σ',H',I'.unpinned,T.keep _ _ _ st8 fun b hb o eb=>(I'.pin (b,o) (List.mem_append_right _ (List.mem_append_right _ (mem_pinsAt hb eb)))).1,fun b hb=>?_,w'⟩
    obtain⟨o,eb,_⟩:=T.obj _ _ st8 b hb
    exact(I'.pin (b,o) (List.mem_append_right _ (List.mem_append_right _ (mem_pinsAt hb eb)))).2.1
   cases ok with
   | false =>
    have q10':∃ m',m'<n/\W (i+1) m' xs σ9 H10:=by simpa using q10
    exact wpAny_pure ⟨rfl,again I10 q10'⟩
   | true =>
    rw[if_pos rfl]at q10
    refine wpAny_bind (wpAny_bind (wpAny_mono (he _ _ _ _ s10 σ9 H10 _ I10 q10) (fun y s11 ⟨v11,H11,I11,r11,hD11,q11⟩=>?_) (fun _ _ z=>False.elim z)))
    refine wpAny_bind (wpAny_mono (mt_append (X:=compCx X scope cl N' { s2 with heap:=h3,toks:=s2.toks } (upd H2 s2.heap.objs.size (.lst [])) fp fun _ _=>False) _ s11 σ9 H11 (.ref s2.heap.objs.size) [v11] (.ref s2.heap.objs.size) [y] (fun _ H'=>∃ m',m'<n/\W (i+1) m' (xs++[v11]) σ9 H') I11 rfl (.cons r11 .nil) ⟨s2.heap.objs.size,xs,v11,rfl,rfl,hD11,hlen,q11⟩) (fun _ s12 ⟨_,H12,I12,_,q12⟩=>?_) (fun _ _ z=>False.elim z))
    exact wpAny_pure (wpAny_pure ⟨rfl,again I12 q12⟩)
 exact codeAny_compStart_list (loop _ rfl) (T.self X.A 0 _ _ _ st4 (loop _ rfl))
end
def Itn (K:W.Frag)(a:Addr):It:=
 ⟨fun i H=>∃ xs x,SqL K H a xs/\xs[i]?=some x,fun i H x H'=>∃ t v,H t=none/\x=.ref t/\(∀ xs,SqL K H a xs->xs[i]?=some v)/\H'=upd H t (.tup [.int i,v]),fun i H=>∃ xs,SqL K H a xs/\xs.length<=i⟩
def iEnum (K:W.Frag)(ta:TA):TI:=fun σ H R=>ta σ H fun vs H1=>∃ a,vs=[.ref a]/\(∃ xs,SqL K H1 a xs)/\R (Itn K a) H1
theorem turn_enum {P:Program}{w:World}{K:W.Frag}{elts:List Expr}{x1:Nat}{pos:Pos}(a it e:Addr)(hne:e≠it):Turn P w K (.Tuple elts x1 pos) (Itn K a) [e,it] e (fun i h=>(∃ old,IsEnum h e it (i:Int) old)/\h.IsListIter it a i) where
 mem:=by simp
 obj:=fun i h st b hb=>by
  obtain⟨⟨old,he⟩,o,ho,hc,hd⟩:=st
  rcases List.mem_cons.mp hb with rfl | hb
  ·exact⟨_,he,fun v z=>by cases z⟩
  ·have eb:b=it:=by simpa using hb
   subst eb
   exact⟨o,ho,fun v z=>by rw[hd]at z;cases z⟩
 keep:=fun i h h' st k=>by
  obtain⟨⟨old,he⟩,hit⟩:=st
  exact⟨⟨old,k e (by simp) _ he⟩,hit.at fun o q=>k it (by simp) o q⟩
 item:=by
  intro X hP hw hK hc i pins s σ H E I hf st hg
  subst hP hw hK
  obtain⟨xs,x,hq,hx⟩:=hg
  obtain⟨⟨old,he⟩,hit⟩:=st
  obtain⟨its,rv,p,hz⟩:=I.list hq
  obtain⟨u,hu,ru⟩:=rv.get hx
  obtain⟨f0,f1,f2,f3,f4,f5⟩:=hf e (by simp)
  obtain⟨g0,g1,g2,g3,g4,g5⟩:=hf it (by simp)
  refine wpAny_pyNext_enum_item he hit p.isList (x:=u) (by simpa using hu) hne fun h1 heo hit1 ht1 hz1 hk1=>?_
  refine⟨_,rfl,?_⟩
  refine wpAny_letOwnedTupleGo_enum heo fun h2 he2 hs2=>?_
  have hlt:e<s.heap.objs.size:=Heap.lt_size he
  have hs2':Heap.SameBut e h1 h2:=hs2
  have ht2:h2.get? s.heap.objs.size=some { cls:=.type "tuple",data:=.seq #[.int i s.toks,u] }:=(hs2'.2 _ (Nat.ne_of_gt hlt)).trans ht1
  have kp:∀ b o,b≠e->b≠it->s.heap.get? b=some o->h2.get? b=some o:=fun b o h1' h2' q=>(hs2'.2 b h1').trans (hk1 b o h1' h2' q)
  have hT:H s.heap.objs.size=none:=I.hok.fresh (Nat.le_refl _)
  have nH:∀ b,H b≠none->b≠e/\b≠it:=fun b hb=>⟨fun z=>hb (z ▸ f0),fun z=>hb (z ▸ g0)⟩
  have keepH:∀ b o,H b=some o->upd H s.heap.objs.size (.tup [.int i,x]) b=some o:=fun b o q=>by rw[upd_ne (ne_of_none q hT)];exact q
  have hok2:HOk X.prog X.w (upd H s.heap.objs.size (.tup [.int i,x])) h2:=fun b o eb=>by
   by_cases hb:b=s.heap.objs.size
   ·subst hb
    rw[upd_same]at eb
    cases eb
    exact⟨by show 2<=sizeLine;decide,[.int i s.toks,u],.cons ⟨_,rfl⟩ (.cons ru .nil),⟨_,ht2,rfl,_,rfl⟩⟩
   ·rw[upd_ne hb]at eb
    refine(I.hok b o eb).stay (fun c v hcc q=>kp c v ?_ ?_ q) (fun c q=>keepH c _ q) fun c ys q=>keepH c _ q
    ·rcases hcc with z | z
     ·exact(nH c (by rw[z,eb];simp)).1
     ·exact(nH c (by rw[z];simp)).1
    ·rcases hcc with z | z
     ·exact(nH c (by rw[z,eb];simp)).2
     ·exact(nH c (by rw[z];simp)).2
  have I2:Inv X pins σ (upd H s.heap.objs.size (.tup [.int i,x])) { s with heap:=h2,toks:=s.toks+1 }:=by
   refine I.step (g':=s.gens) (d':=s.drawn) (t':=s.toks+1) (ch:=[e,it]) (fun b hb=>?_) (fun b o _ _ hcc q _=>kp b o (fun z=>hcc (by simp[z])) (fun z=>hcc (by simp[z])) q) (fun b o _ _ hcc q _=>⟨o.slots,kp b o (fun z=>hcc (by simp[z])) (fun z=>hcc (by simp[z])) q⟩) (fun b o _ q n=>?_)
    (fun b o hcc q=>⟨o,kp b o (fun z=>hcc (by simp[z])) (fun z=>hcc (by simp[z])) q⟩) (fun b ys q=>keepH b _ q) (fun b o v q=>keepH b _ q) (fun b ps q=>⟨#[],by rw[keepH b _ q];simp⟩) (fun m hm=>?_) hok2 I.bare
   ·rcases List.mem_cons.mp hb with rfl | hb
    ·exact⟨f3,f1,f4,f5⟩
    ·have eb:b=it:=by simpa using hb
     subst eb
     exact⟨g3,g1,g4,g5⟩
   ·rw[upd_ne (Nat.ne_of_lt (Heap.lt_size q))]
    exact n
   ·obtain⟨o,es,ep,ho,r⟩:=hm
    exact⟨o,es,ep,kp _ o (Ne.symm f1) (Ne.symm g1) ho,r⟩
  have hilt:it<s.heap.objs.size:=by
   obtain⟨o,ho,_⟩:=id hit
   exact Heap.lt_size ho
  refine⟨.ref s.heap.objs.size,_,I2,rfl,⟨s.heap.objs.size,x,hT,rfl,fun ys hy=>by rw[I.list_inj hy hq];exact hx,rfl⟩,⟨⟨u,?_⟩,?_⟩,fun b hb=>?_⟩
  ·have:=he2
   rw[show ((i:Int)+1)=(((i+1:Nat):Int)) by simp]at this
   exact this
  ·exact hit1.at fun o q=>(hs2'.2 it (Ne.symm hne)).trans q
  ·rcases List.mem_cons.mp hb with rfl | hb
   ·rw[upd_ne (Nat.ne_of_lt hlt)];exact f0
   ·have eb:b=it:=by simpa using hb
    subst eb
    rw[upd_ne (Nat.ne_of_lt hilt)]
    exact g0
 done:=by
  intro X hP hw hK hc i pins s σ H E I hf st hg
  subst hP hw hK
  obtain⟨xs,hq,hx⟩:=hg
  obtain⟨⟨old,he⟩,hit⟩:=st
  obtain⟨its,rv,p,hz⟩:=I.list hq
  obtain⟨g0,g1,g2,g3,g4,g5⟩:=hf it (by simp)
  have hl:=rv.length
  exact wpAny_pyNext_enum_end (I.ok.hd hc) he hit p.isList (by simp;omega) fun h' eb=>⟨rfl,I.turned (t':=s.toks) (fun b o hb q=>eb b o hb q) g0 g1 g3 g4 g5⟩
 self:=fun _ _ _ _ _ st h=>by
  obtain⟨⟨old,he⟩,_⟩:=st
  exact wpAny_pyIter_enum he h
section
variable {X:Cx}
theorem pi_enum {a:Expr}{ta:TA}{elts:List Expr}{x1:Nat}{tpos p pos:Pos}(hg:Gl X "enumerate")(hm:X.mg "enumerate"=none)(ha:PA X [a] ta)(hv:bootBuiltins "enumerate"=some (.type "enumerate"):=by rfl)(hs:starEach [a] X.env=[(false,eval a X.env)]:=by rfl) :
  PI X (.Tuple elts x1 tpos) (.Call (.Name "enumerate" p) [a] [] pos) (iEnum X.K ta):=by
 intro pins s σ H R I h
 refine Call_ (ld_blt I hg hm hv (PyProof.Rows.callWith_type1 (thn (ha pos pins s σ H _ I h) fun us s1 ⟨vs,H1,I1,r1,q1⟩=>?_) hs rfl))
 obtain⟨b,e,⟨xs,hq⟩,q⟩:=q1
 subst e
 obtain⟨u,rfl,rx⟩:=vals1 r1
 cases rx
 obtain⟨its,rv,pl,hz⟩:=I1.list hq
 refine call_enumerate_list pl.isList fun h' he hit hsz kp=>?_
 refine wpAny_pyIter_enum he ?_
 have hne:s1.heap.objs.size+1≠s1.heap.objs.size:=Nat.succ_ne_self _
 refine⟨s1.heap.objs.size+1,[s1.heap.objs.size+1,s1.heap.objs.size],_,_,H1,rfl,I1.kept (t':=s1.toks) kp,turn_enum b s1.heap.objs.size (s1.heap.objs.size+1) hne,⟨⟨_,he⟩,hit⟩,fun c hc=>?_,q⟩
 rcases List.mem_cons.mp hc with rfl | hc
 ·exact I1.fpOk (Nat.le_succ _) (I1.hok.fresh (Nat.le_succ _))
 ·have e:c=s1.heap.objs.size:=by simpa using hc
  subst e
  exact I1.fpOk (Nat.le_refl _) (I1.hok.fresh (Nat.le_refl _))
end
theorem for_enum {K:W.Frag}{a:Addr}{xs:List V}{g:TG}{tb:TS}{D:Ends}{σ:St}{H:Hp}(Pv:Nat->St->Hp->Prop)(h0:Pv 0 σ H)(hl:∀ i σ H,i<=xs.length->Pv i σ H->SqL K H a xs)
  (hs:∀ i x t σ H,xs[i]?=some x->Pv i σ H->H t=none->g (.ref t) σ (upd H t (.tup [.int i,x])) fun σ2 H2=>tb { D with nx:=Pv (i+1),ct:=Pv (i+1),bk:=D.nx } σ2 H2)(hd:∀ σ H,Pv xs.length σ H->D.nx σ H) :
  ∃ W:Nat->Nat->St->Hp->Prop,(∃ m,W 0 m σ H)/\∀ i m σ H,W i m σ H ->
   ((Itn K a).stop i H/\D.nx σ H)\/((Itn K a).go i H/\∃ N:St->Hp->Prop,(∀ σ' H',N σ' H'->∃ m',m'<m/\W (i+1) m' σ' H')/\∀ x H',(Itn K a).yld i H x H'->g x σ H' fun σ2 H2=>tb { D with nx:=N,ct:=N,bk:=D.nx } σ2 H2):=by
 refine⟨fun i m σ H=>m=xs.length - i/\i<=xs.length/\Pv i σ H,⟨xs.length,by simp,Nat.zero_le _,h0⟩,?_⟩
 rintro i m σ H ⟨rfl,hi,p⟩
 have q:=hl i σ H hi p
 by_cases hlt:i<xs.length
 ·refine .inr ⟨⟨xs,xs[i],q,by simp[hlt]⟩,Pv (i+1),fun σ' H' p'=>⟨xs.length - (i+1),by omega,rfl,hlt,p'⟩,fun x H' y=>?_⟩
  obtain⟨t,v,ht,e,hv,e'⟩:=y
  subst e e'
  exact hs i v t σ H (hv xs q) p ht
 ·have e:i=xs.length:=by omega
  subst e
  exact .inl ⟨⟨xs,q,Nat.le_refl _⟩,hd σ H p⟩
theorem comp_list {K:W.Frag}{a D:Addr}{ys:List V}{g:TG}{tt:TT}{te:TE}{Qd:Hp->Prop}{σ0:St}{H0:Hp}(Pv:Nat->List V->St->Hp->Prop)(h0:Pv 0 [] σ0 H0)(hz:ys.length<=sizeLine)(hl:∀ i xs σ H,i<=ys.length->Pv i xs σ H->SqL K H a ys/\H D=some (.lst xs)/\xs.length<=i)
  (hs:∀ i xs x σ H (N:List V->St->Hp->Prop),(∀ xs' σ' H',Pv (i+1) xs' σ' H'->N xs' σ' H')->ys[i]?=some x->Pv i xs σ H->g x σ H fun σ2 H2=>tt σ2 H2 fun b H3=>if b=true then te σ2 H3 fun v H4=>H4 D=some (.lst xs)/\N (xs++[v]) σ2 (upd H4 D (.lst (xs++[v]))) else N xs σ2 H3)
  (hd:∀ xs σ H,Pv ys.length xs σ H->Qd H) :
  ∃ W:Nat->Nat->List V->St->Hp->Prop,(∃ m,W 0 m [] σ0 H0)/\∀ i m xs σ' H',W i m xs σ' H'->H' D=some (.lst xs)/\(((Itl K a).stop i H'/\Qd H')\/((Itl K a).go i H'/\xs.length<sizeLine/\∀ x H'',(Itl K a).yld i H' x H''->g x σ' H'' fun σ2 H2=>tt σ2 H2 fun b H3 =>
   if b=true then te σ2 H3 fun v H4=>H4 D=some (.lst xs)/\∃ m',m'<m/\W (i+1) m' (xs++[v]) σ2 (upd H4 D (.lst (xs++[v]))) else ∃ m',m'<m/\W (i+1) m' xs σ2 H3)):=by
 refine⟨fun i m xs σ H=>m=ys.length - i/\i<=ys.length/\Pv i xs σ H,⟨ys.length,by simp,Nat.zero_le _,h0⟩,?_⟩
 rintro i m xs σ H ⟨rfl,hi,p⟩
 obtain⟨q,hD,hx⟩:=hl i xs σ H hi p
 refine⟨hD,?_⟩
 by_cases hlt:i<ys.length
 ·refine .inr ⟨⟨ys,ys[i],q,by simp[hlt]⟩,by omega,fun x H'' y=>?_⟩
  obtain⟨e,y⟩:=y
  subst e
  exact hs i xs x σ _ (fun zs σ' H'=>∃ m',m'<ys.length - i/\m'=ys.length - (i+1)/\i+1<=ys.length/\Pv (i+1) zs σ' H') (fun zs σ' H' r=>⟨_,by omega,rfl,hlt,r⟩) (y ys q) p
 ·have e:i=ys.length:=by omega
  subst e
  exact .inl ⟨⟨ys,q,Nat.le_refl _⟩,hd xs σ H p⟩
theorem comp_tup {K:W.Frag}{a D:Addr}{ys:List V}{g:TG}{tt:TT}{te:TE}{Qd:Hp->Prop}{σ0:St}{H0:Hp}(Pv:Nat->List V->St->Hp->Prop)(h0:Pv 0 [] σ0 H0)(hz:ys.length<=sizeLine)(hl:∀ i xs σ H,i<=ys.length->Pv i xs σ H->SqT K H a ys/\H D=some (.lst xs)/\xs.length<=i)
  (hs:∀ i xs x σ H (N:List V->St->Hp->Prop),(∀ xs' σ' H',Pv (i+1) xs' σ' H'->N xs' σ' H')->ys[i]?=some x->Pv i xs σ H->g x σ H fun σ2 H2=>tt σ2 H2 fun b H3=>if b=true then te σ2 H3 fun v H4=>H4 D=some (.lst xs)/\N (xs++[v]) σ2 (upd H4 D (.lst (xs++[v]))) else N xs σ2 H3)
  (hd:∀ xs σ H,Pv ys.length xs σ H->Qd H) :
  ∃ W:Nat->Nat->List V->St->Hp->Prop,(∃ m,W 0 m [] σ0 H0)/\∀ i m xs σ' H',W i m xs σ' H'->H' D=some (.lst xs)/\(((Itt K a).stop i H'/\Qd H')\/((Itt K a).go i H'/\xs.length<sizeLine/\∀ x H'',(Itt K a).yld i H' x H''->g x σ' H'' fun σ2 H2=>tt σ2 H2 fun b H3 =>
   if b=true then te σ2 H3 fun v H4=>H4 D=some (.lst xs)/\∃ m',m'<m/\W (i+1) m' (xs++[v]) σ2 (upd H4 D (.lst (xs++[v]))) else ∃ m',m'<m/\W (i+1) m' xs σ2 H3)):=by
 refine⟨fun i m xs σ H=>m=ys.length - i/\i<=ys.length/\Pv i xs σ H,⟨ys.length,by simp,Nat.zero_le _,h0⟩,?_⟩
 rintro i m xs σ H ⟨rfl,hi,p⟩
 obtain⟨q,hD,hx⟩:=hl i xs σ H hi p
 refine⟨hD,?_⟩
 by_cases hlt:i<ys.length
 ·refine .inr ⟨⟨ys,ys[i],q,by simp[hlt]⟩,by omega,fun x H'' y=>?_⟩
  obtain⟨e,y⟩:=y
  subst e
  exact hs i xs x σ _ (fun zs σ' H'=>∃ m',m'<ys.length - i/\m'=ys.length - (i+1)/\i+1<=ys.length/\Pv (i+1) zs σ' H') (fun zs σ' H' r=>⟨_,by omega,rfl,hlt,r⟩) (y ys q) p
 ·have e:i=ys.length:=by omega
  subst e
  exact .inl ⟨⟨ys,q,Nat.le_refl _⟩,hd xs σ H p⟩
mutual
def Dt (K:W.Frag)(H:Hp):PyData->V->Prop
 | .none,v=>v=.non
 | .bool b,v=>v=.bl b
 | .int i,v=>v=.int i
 | .str x,v=>v=.str x
 | .list ds,v=>∃ a xs,v=.ref a/\SqL K H a xs/\DtAll K H ds xs
 | .tuple ds,v=>∃ a xs,v=.ref a/\SqT K H a xs/\DtAll K H ds xs
 | .dict _,_=>False
def DtAll (K:W.Frag)(H:Hp):List PyData->List V->Prop
 | [],xs=>xs=[]
 | d::ds,xs=>∃ y ys,xs=y::ys/\Dt K H d y/\DtAll K H ds ys
end
section
variable {X:Cx} {pins:List (Addr × Obj)} {σ:St} {H:Hp} {s:Shared}
mutual
theorem Dt.reads (I:Inv X pins σ H s):∀ (d:PyData) (v:V) (u:Value),Dt X.K H d v->RelV v u->∃ as,Reads s.heap u d as
 | .none,v,u,h,r=>by unfold Dt at h;subst h;cases r;exact⟨_,.none⟩
 | .bool b,v,u,h,r=>by unfold Dt at h;subst h;cases r;exact⟨_,.bool b⟩
 | .int i,v,u,h,r=>by unfold Dt at h;subst h;obtain⟨t,rfl⟩:=r;exact⟨_,.int i t⟩
 | .str x,v,u,h,r=>by unfold Dt at h;subst h;obtain⟨t,rfl⟩:=r;exact⟨_,.str x t⟩
 | .list ds,v,u,h,r=>by
  unfold Dt at h
  obtain⟨a,xs,rfl,hq,hd⟩:=h
  cases r
  obtain⟨its,rv,⟨o,n,ho,hc,_,hdd⟩,_⟩:=I.list hq
  obtain⟨as,ra⟩:=DtAll.reads I ds xs its hd rv
  exact⟨_,.list ho hc hdd (by simpa using ra)⟩
 | .tuple ds,v,u,h,r=>by
  unfold Dt at h
  obtain⟨a,xs,rfl,hq,hd⟩:=h
  cases r
  obtain⟨its,rv,⟨o,ho,hc,n,hdd⟩,_⟩:=I.tuple hq
  obtain⟨as,ra⟩:=DtAll.reads I ds xs its hd rv
  exact⟨_,.tuple ho hc hdd (by simpa using ra)⟩
 | .dict _,v,u,h,r=>by unfold Dt at h;exact h.elim
theorem DtAll.reads (I:Inv X pins σ H s):∀ (ds:List PyData) (xs:List V) (us:List Value),DtAll X.K H ds xs->Vals xs us->∃ as,ReadsAll s.heap us ds as
 | [],xs,us,h,r=>by unfold DtAll at h;subst h;cases r;exact⟨_,.nil⟩
 | d::ds,xs,us,h,r=>by
  unfold DtAll at h
  obtain⟨y,ys,rfl,h1,h2⟩:=h
  cases r with
  | cons q t =>
   obtain⟨as,ra⟩:=Dt.reads I d y _ h1 q
   obtain⟨bs,rb⟩:=DtAll.reads I ds ys _ h2 t
   exact⟨_,.cons ra rb⟩
end
end
mutual
theorem Dt.same {K:W.Frag}{H H':Hp}(hs:∀ b o,H b=some o->H' b=some o):∀ (d:PyData) (v:V),Dt K H d v->Dt K H' d v
 | .none,v,h=>by unfold Dt at h ⊢;exact h
 | .bool b,v,h=>by unfold Dt at h ⊢;exact h
 | .int i,v,h=>by unfold Dt at h ⊢;exact h
 | .str x,v,h=>by unfold Dt at h ⊢;exact h
 | .list ds,v,h=>by
  unfold Dt at h ⊢
  obtain⟨a,xs,rfl,hq,hd⟩:=h
  refine⟨a,xs,rfl,?_,DtAll.same hs ds xs hd⟩
  rcases hq with(h | ⟨o,h⟩) | h
  ·exact .inl (.inl (hs _ _ h))
  ·exact .inl (.inr ⟨o,hs _ _ h⟩)
  ·exact .inr h
 | .tuple ds,v,h=>by
  unfold Dt at h ⊢
  obtain⟨a,xs,rfl,hq,hd⟩:=h
  refine⟨a,xs,rfl,?_,DtAll.same hs ds xs hd⟩
  rcases hq with(h | ⟨o,h⟩) | h
  ·exact .inl (.inl (hs _ _ h))
  ·exact .inl (.inr ⟨o,hs _ _ h⟩)
  ·exact .inr h
 | .dict _,v,h=>by unfold Dt at h;exact h.elim
theorem DtAll.same {K:W.Frag}{H H':Hp}(hs:∀ b o,H b=some o->H' b=some o):∀ (ds:List PyData) (xs:List V),DtAll K H ds xs->DtAll K H' ds xs
 | [],xs,h=>by unfold DtAll at h ⊢;exact h
 | d::ds,xs,h=>by
  unfold DtAll at h ⊢
  obtain⟨y,ys,rfl,h1,h2⟩:=h
  exact⟨y,ys,rfl,Dt.same hs d y h1,DtAll.same hs ds ys h2⟩
end
def dP (k:List Int):PyData:=.tuple (k.map .int)
theorem DtAll.ints {K:W.Frag}{H:Hp}:∀ (k:List Int),DtAll K H (k.map PyData.int) (k.map V.int)
 | []=>by unfold DtAll;rfl
 | i::k=>by
  rw[List.map_cons,List.map_cons]
  unfold DtAll
  exact⟨_,_,rfl,by unfold Dt;rfl,DtAll.ints k⟩
theorem DtAll.tups {K:W.Frag}{H:Hp}:∀ {ys:List V} {ks:List (List Int)},Tups K H ys ks->DtAll K H (ks.map dP) ys
 | _,_,.nil=>by unfold DtAll;rfl
 | _,_,.cons r t=>by
  obtain⟨a,rfl,h⟩:=r
  rw[List.map_cons]
  unfold DtAll
  refine⟨_,_,rfl,?_,DtAll.tups t⟩
  unfold dP Dt
  exact⟨a,_,rfl,h,DtAll.ints _⟩
theorem lay_ints:∀ k:List Int,PyData.canLayAll0 (k.map .int)=true
 | []=>by simp[PyData.canLayAll0]
 | i::k=>by rw[List.map_cons];simp[PyData.canLayAll0,PyData.canLay0,lay_ints k]
theorem lay_pairs:∀ ks:List (List Int),PyData.canLayAll0 (ks.map dP)=true
 | []=>by simp[PyData.canLayAll0]
 | k::ks=>by rw[List.map_cons];simp[PyData.canLayAll0,PyData.canLay0,dP,lay_ints k,lay_pairs ks]
theorem eqv_ints:∀ k k':List Int,PyData.eqvAll (k.map .int) (k'.map .int)=decide (k=k')
 | [],[]=>by simp[PyData.eqvAll]
 | [],_::_=>by simp[PyData.eqvAll]
 | _::_,[]=>by simp[PyData.eqvAll]
 | i::k,j::k'=>by
  rw[List.map_cons,List.map_cons]
  simp only[PyData.eqvAll,PyData.eqv,eqv_ints k k']
  by_cases h:i=j
  ·subst h;simp
  ·simp[h]
theorem eqv_pairs:∀ ks ks':List (List Int),PyData.eqvAll (ks.map dP) (ks'.map dP)=decide (ks=ks')
 | [],[]=>by simp[PyData.eqvAll]
 | [],_::_=>by simp[PyData.eqvAll]
 | _::_,[]=>by simp[PyData.eqvAll]
 | k::ks,k'::ks'=>by
  rw[List.map_cons,List.map_cons]
  simp only[PyData.eqvAll,PyData.eqv,dP,eqv_ints k k']
  rw[eqv_pairs ks ks']
  by_cases h:k=k'
  ·subst h;simp
  ·simp[h]
theorem dep_ints:∀ k:List Int,PyData.depthAll (k.map .int)<=1
 | []=>by simp[PyData.depthAll]
 | i::k=>by
  have:=dep_ints k
  rw[List.map_cons]
  simp only[PyData.depthAll,PyData.depth]
  omega
theorem dep_pairs:∀ ks:List (List Int),PyData.depthAll (ks.map dP)<=2
 | []=>by simp[PyData.depthAll]
 | k::ks=>by
  have h1:=dep_ints k
  have h2:=dep_pairs ks
  rw[List.map_cons]
  simp only[PyData.depthAll,PyData.depth,dP]at h2 ⊢
  omega
section
variable {X:Cx}
def rEqD (K:W.Frag)(A:Around)(neg:Bool):R2:=fun x y H Q=>∃ dx dy,Dt K H dx x/\Dt K H dy y/\dx.canLay0=true/\dy.canLay0=true/\A.units+min dx.depth dy.depth<cLine/\Q (.bl (if neg then !PyData.eqv dx dy else PyData.eqv dx dy)) H
theorem op_eqD:OpR X (compareOp .Eq) (rEqD X.K X.A false):=by
 intro pins s σ H x y v u Q I rx ry h
 obtain⟨dx,dy,h1,h2,h3,h4,h5,q⟩:=h
 obtain⟨as,ra⟩:=h1.reads I dx x v rx
 obtain⟨bs,rb⟩:=h2.reads I dy y u ry
 exact SeqAt.compareEq_reads ra rb h3 h4 h5 ⟨.bl _,H,I,rfl,q⟩
def rInD (K:W.Frag)(A:Around)(neg:Bool):R2:=fun x y H Q=>∃ p xs dx ds,y=.ref p/\(SqL K H p xs\/SqT K H p xs)/\Dt K H dx x/\DtAll K H ds xs/\dx.canLay0=true/\PyData.canLayAll0 ds=true/\A.units+1+dx.depth<cLine /\
 Q (.bl (if neg then !ds.any (fun d=>PyData.eqv d dx) else ds.any (fun d=>PyData.eqv d dx))) H
open Classical in
noncomputable def eqTo (h:Heap)(dx:PyData)(v:Value):Bool:=if q:∃ d as,d.canLay0=true/\Reads h v d as then PyData.eqv (Classical.choose q) dx else false
theorem eqTo_eq {h:Heap}{dx d:PyData}{v:Value}{as:List Addr}(hl:d.canLay0=true)(r:Reads h v d as):eqTo h dx v=PyData.eqv d dx:=by
 unfold eqTo
 have q:∃ d as,d.canLay0=true/\Reads h v d as:=⟨d,as,hl,r⟩
 rw[dif_pos q]
 obtain⟨as',h1,h2⟩:=Classical.choose_spec q
 rw[SeqAt.Reads.unique _ _ _ _ _ h1 h2 r]
theorem any_of {h:Heap}{dx:PyData}:∀ {ds:List PyData} {us:List Value} {as:List Addr},PyData.canLayAll0 ds=true->ReadsAll h us ds as->us.any (eqTo h dx)=ds.any (fun d=>PyData.eqv d dx)
 | _,_,_,_,.nil=>rfl
 | d::ds,u::us,_,hl,.cons r t=>by
  have hl':d.canLay0=true/\PyData.canLayAll0 ds=true:=by simpa [PyData.canLayAll0] using hl
  rw[List.any_cons,List.any_cons,eqTo_eq hl'.1 r,any_of hl'.2 t]
theorem mem_reads {h:Heap}:∀ {ds:List PyData} {us:List Value} {as:List Addr} {u:Value},PyData.canLayAll0 ds=true->ReadsAll h us ds as->u∈us->∃ d as,d.canLay0=true/\Reads h u d as
 | _,_,_,_,_,.nil,hu=>by cases hu
 | d::ds,_::us,_,u,hl,.cons r t,hu=>by
  have hl':d.canLay0=true/\PyData.canLayAll0 ds=true:=by simpa [PyData.canLayAll0] using hl
  rcases List.mem_cons.mp hu with rfl | hu
  ·exact⟨d,_,hl'.1,r⟩
  ·exact mem_reads hl'.2 t hu
theorem op_inD:OpR X (compareOp .In) (rInD X.K X.A false):=by
 intro pins s σ H x y v u Q I rx ry h
 obtain⟨p,xs,dx,ds,rfl,hq,h1,h2,h3,h4,h5,q⟩:=h
 cases ry
 obtain⟨bs,rb⟩:=h1.reads I dx x v rx
 have he:∀ (its:List Value) (as:List Addr),ReadsAll s.heap its ds as->∀ y,y∈its.toArray->SeqAt.EqAt X.A.in1 s y v (eqTo s.heap dx y):=fun its as ra y hy=>by
  obtain⟨d,cs,hl,rd⟩:=mem_reads h4 ra (by simpa using hy)
  rw[eqTo_eq hl rd]
  refine SeqAt.eqAt_reads d dx X.A.in1 s y v cs bs rd rb hl h3 ?_
  show X.A.units+1+min d.depth dx.depth<cLine
  omega
 rcases hq with hq | hq
 ·obtain⟨its,rv,pl,hz⟩:=I.list hq
  obtain⟨as,ra⟩:=h2.reads I ds xs its rv
  refine SeqAt.in_listAt (eqTo s.heap dx) pl.isList (he its as ra) ⟨.bl _,H,I,rfl,?_⟩
  rw[List.any_toArray,any_of h4 ra]
  exact q
 ·obtain⟨its,rv,pl,hz⟩:=I.tuple hq
  obtain⟨as,ra⟩:=h2.reads I ds xs its rv
  refine SeqAt.in_tupleAt (eqTo s.heap dx) pl (he its as ra) ⟨.bl _,H,I,rfl,?_⟩
  rw[List.any_toArray,any_of h4 ra]
  exact q
theorem op_notInD:OpR X (compareOp .NotIn) (rInD X.K X.A true):=by
 intro pins s σ H x y v u Q I rx ry h
 obtain⟨p,xs,dx,ds,rfl,hq,h1,h2,h3,h4,h5,q⟩:=h
 cases ry
 obtain⟨bs,rb⟩:=h1.reads I dx x v rx
 have he:∀ (its:List Value) (as:List Addr),ReadsAll s.heap its ds as->∀ y,y∈its.toArray->SeqAt.EqAt X.A.in1 s y v (eqTo s.heap dx y):=fun its as ra y hy=>by
  obtain⟨d,cs,hl,rd⟩:=mem_reads h4 ra (by simpa using hy)
  rw[eqTo_eq hl rd]
  refine SeqAt.eqAt_reads d dx X.A.in1 s y v cs bs rd rb hl h3 ?_
  show X.A.units+1+min d.depth dx.depth<cLine
  omega
 rcases hq with hq | hq
 ·obtain⟨its,rv,pl,hz⟩:=I.list hq
  obtain⟨as,ra⟩:=h2.reads I ds xs its rv
  refine SeqAt.notIn_listAt (eqTo s.heap dx) pl.isList (he its as ra) ⟨.bl _,H,I,rfl,?_⟩
  rw[List.any_toArray,any_of h4 ra]
  exact q
 ·obtain⟨its,rv,pl,hz⟩:=I.tuple hq
  obtain⟨as,ra⟩:=h2.reads I ds xs its rv
  refine SeqAt.notIn_tupleAt (eqTo s.heap dx) pl (he its as ra) ⟨.bl _,H,I,rfl,?_⟩
  rw[List.any_toArray,any_of h4 ra]
  exact q
end
end L2
namespace L2
open PySem PySem.Spec PyProof.Rows
section
variable {X:Cx}
theorem call_sum (hc:X.calm=true):CallR X (.builtin "sum") (fun xs H Q=>∃ (p:Addr) (ns:List Int),xs=[.ref p]/\SqL X.K H p (ns.map V.int)/\Q (.int ns.sum) H):=by
 intro pins s σ H xs us Q I r h
 obtain⟨p,ns,rfl,hq,q⟩:=h
 obtain⟨u,rfl,rx⟩:=vals1 r
 cases rx
 obtain⟨its,r',pl,hz⟩:=I.list hq
 have hi:IntsAre its ns:=intsAre_of r'
 obtain⟨ys,e⟩:=hi.allInts.items
 refine sum_intListG (xs:=ys) (I.ok.hd hc) (by rw[<- e];exact pl.isList) fun h' tk t' hk=>⟨.int ns.sum,H,I.kept (t':=tk) hk,⟨t',?_⟩,q⟩
 have e2:numsOf (intItems ys).toList=ns:=by rw[<- e];exact hi.numsOf
 rw[nums_intItems]at e2
 rw[preSum_eq,List.take_of_length_le (by simp),e2]
theorem get_list:PGet X (rIxL X.K):=by
 intro pins s σ H o i ov iv Q I ro ri h
 obtain⟨p,xs,k,z,rfl,rfl,hq,he,q⟩:=h
 cases ro
 obtain⟨t,rfl⟩:=ri
 obtain⟨its,r,pl,hz⟩:=I.list hq
 obtain⟨j,h1,h2,h3,h4,h5⟩:=atI_get he
 obtain⟨w,ew,rw'⟩:=r.get h2
 have hl:=r.length
 have hn:=line63
 have fin:EP X pins σ Q w s:=⟨z,H,I,rw',q⟩
 by_cases h0:0<=k
 ·have hj:k.toNat=j:=by
   rw[seqIndex_of h0 h5]at h1
   exact Option.some.inj h1
  exact wpAny_getItem_list pl.isList h0 (by omega) (by rw[hj];simpa using ew) fin
 ·have hj:(k+(its.toArray.size:Int)).toNat=j:=by
   rw[seqIndex_neg (by omega) h4]at h1
   rw[List.size_toArray,<- hl]
   exact Option.some.inj h1
  exact wpAny_getItem_list_neg pl.isList (by omega) (by rw[List.size_toArray];omega) (by omega) (by rw[hj];simpa using ew) fin
end
section
variable {X:Cx}
end
def LkL (X:Cx)(scope:Scope)(cl:List (Str × Addr)):List Str->List (Option Nat)->Prop
 | [],[]=>True
 | _::N,none::lk=>LkL X scope cl N lk
 | x::N,some j::lk=>(X.N[j]?=some x/\(X.env.scope.names.lookup x=some .cell\/X.env.scope.names.lookup x=some .free)/\(cl.lookup x).isSome=true /\
  ((compEnvC scope cl 0 X.env).kindOf x=some .cell\/(compEnvC scope cl 0 X.env).kindOf x=some .free))/\LkL X scope cl N lk
 | _,_=>False
theorem LkL.len {X:Cx}{scope:Scope}{cl:List (Str × Addr)}:∀ {N:List Str} {lk:List (Option Nat)},LkL X scope cl N lk->lk.length=N.length
 | [],[],_=>rfl
 | _::N,none::lk,h=>congrArg (·+1) (LkL.len (N:=N) (lk:=lk) h)
 | _::N,some _::lk,h=>congrArg (·+1) (LkL.len (N:=N) (lk:=lk) h.2)
 | [],_::_,h=>h.elim
 | _::_,[],h=>h.elim
theorem LkL.get {X:Cx}{scope:Scope}{cl:List (Str × Addr)}:∀ {N:List Str} {lk:List (Option Nat)},LkL X scope cl N lk->∀ (i j:Nat) (x:Str),N[i]?=some x->lk[i]?=some (some j) ->
  X.N[j]?=some x/\(X.env.scope.names.lookup x=some .cell\/X.env.scope.names.lookup x=some .free)/\(cl.lookup x).isSome=true/\((compEnvC scope cl 0 X.env).kindOf x=some .cell\/(compEnvC scope cl 0 X.env).kindOf x=some .free)
 | [],[],_,i,j,x,h1,_=>by simp at h1
 | _::N,none::lk,h,0,j,x,h1,h2=>by simp at h2
 | _::N,none::lk,h,i+1,j,x,h1,h2=>LkL.get (N:=N) (lk:=lk) h i j x (by simpa using h1) (by simpa using h2)
 | y::N,some k::lk,h,0,j,x,h1,h2=>by
  simp at h1 h2
  subst h1 h2
  exact h.1
 | _::N,some _::lk,h,i+1,j,x,h1,h2=>LkL.get (N:=N) (lk:=lk) h.2 i j x (by simpa using h1) (by simpa using h2)
 | [],_::_,h,_,_,_,_,_=>h.elim
 | _::_,[],h,_,_,_,_,_=>h.elim
theorem LkL.ok {X:Cx}{scope:Scope}{cl:List (Str × Addr)}{N:List Str}{lk:List (Option Nat)}(h:LkL X scope cl N lk):LkOk X N lk scope cl:=⟨h.len,h.get⟩
theorem tTrue_if {σ:St}{H:Hp}{A B:Hp->Prop}(h:A H):tTrue σ H (fun b H3=>if b=true then A H3 else B H3):=by
 show if true=true then A H else B H
 exact iteT h
theorem gName_to {i:Nat}{v:V}{σ:St}{H:Hp}{Q:St->Hp->Prop}(h:Q (σ.set i (some v)) H):gName i v σ H Q:=h
theorem SqT.updL {K:W.Frag}{H:Hp}{a l:Addr}{xs:List V}{ys zs:List V}(h:SqT K H a ys)(hl:H l=some (.lst xs)):SqT K (upd H l (.lst zs)) a ys:=by
 rcases h with(h | ⟨o,h⟩) | h
 ·exact .inl (.inl (by rw[upd_ne (ne_of h hl (by intro z;cases z))];exact h))
 ·exact .inl (.inr ⟨o,by rw[upd_ne (ne_of h hl (by intro z;cases z))];exact h⟩)
 ·exact .inr h
theorem Tups.updL {K:W.Frag}{H:Hp}{l:Addr}{xs zs:List V}(hl:H l=some (.lst xs)):∀ {ys:List V} {ks:List (List Int)},Tups K H ys ks->Tups K (upd H l (.lst zs)) ys ks
 | _,_,.nil=>.nil
 | _,_,.cons r t=>by
  obtain⟨a,h1,h2⟩:=r
  exact .cons ⟨a,h1,h2.updL hl⟩ (Tups.updL hl t)
theorem Tups.one {K:W.Frag}{H:Hp}{a:Addr}{k:List Int}(h:SqT K H a (k.map V.int)):Tups K H [.ref a] [k]:=.cons ⟨a,rfl,h⟩ .nil
theorem Same.seqT {K:W.Frag}{H H':Hp}{a:Addr}{xs:List V}(e:Same H H')(h:SqT K H a xs):SqT K H' a xs:=by
 rcases h with(h | ⟨o,h⟩) | h
 ·exact .inl (.inl (e _ _ h))
 ·exact .inl (.inr ⟨o,e _ _ h⟩)
 ·exact .inr h
theorem Same.tups {K:W.Frag}{H H':Hp}{ys:List V}{ks:List (List Int)}(e:Same H H')(h:Tups K H ys ks):Tups K H' ys ks:=Tups.same e h
theorem Same.upd {H H':Hp}{l:Addr}{o:HO}(e:Same H H')(h:H l=none):Same H (upd H' l o):=fun b u q=>by
 rw[upd_ne (ne_of_none q h)]
 exact e b u q
end L2
namespace L2
open PySem
theorem gName_eq {i:Nat}{v v':V}{σ:St}{H:Hp}{Q:St->Hp->Prop}(e:v=v')(h:gName i v' σ H Q):gName i v σ H Q:=by
 rw[e]
 exact h
theorem cutV_from (xs:List V)(k:Nat):cutV xs (some (k:Int)) none=xs.drop k:=by
 unfold cutV
 rw[HT.sIx_nat,HT.sIx_none]
 rcases Nat.le_total k xs.length with h | h
 ·rw[Nat.min_eq_left h]
  exact List.take_of_length_le (by rw[List.length_drop];omega)
 ·rw[Nat.min_eq_right h,List.drop_eq_nil_of_le h,List.drop_eq_nil_of_le (Nat.le_refl _)]
  simp
theorem cutV_to (xs:List V)(k:Nat):cutV xs none (some (k:Int))=xs.take k:=by
 unfold cutV
 rw[HT.sIx_nat,HT.sIx_none,List.drop_zero,Nat.sub_zero]
 rcases Nat.le_total k xs.length with h | h
 ·rw[Nat.min_eq_left h]
 ·rw[Nat.min_eq_right h,List.take_of_length_le h,List.take_of_length_le (Nat.le_refl _)]
theorem un_lt1 {u d:Nat}(h:u+64<cLine)(hd:d<=60):u+1+d<cLine:=by omega
theorem un_lt {u d:Nat}(h:u+64<cLine)(hd:d<=64):u+d<cLine:=by omega
theorem Dt.mkInt {K:W.Frag}{H:Hp}{i:Int}:Dt K H (.int i) (.int i):=by unfold Dt;rfl
theorem Dt.mkL {K:W.Frag}{H:Hp}{a:Addr}{xs:List V}{ds:List PyData}(h:SqL K H a xs)(d:DtAll K H ds xs):Dt K H (.list ds) (.ref a):=by unfold Dt;exact⟨a,xs,rfl,h,d⟩
theorem Dt.mkT {K:W.Frag}{H:Hp}{a:Addr}{xs:List V}{ds:List PyData}(h:SqT K H a xs)(d:DtAll K H ds xs):Dt K H (.tuple ds) (.ref a):=by unfold Dt;exact⟨a,xs,rfl,h,d⟩
theorem DtAll.mkN {K:W.Frag}{H:Hp}:DtAll K H [] []:=by unfold DtAll;rfl
theorem DtAll.mkC {K:W.Frag}{H:Hp}{d:PyData}{x:V}{ds:List PyData}{xs:List V}(h:Dt K H d x)(t:DtAll K H ds xs):DtAll K H (d::ds) (x::xs):=by unfold DtAll;exact⟨x,xs,rfl,h,t⟩
theorem gName_int {i:Nat}{z:Int}{σ:St}{H:Hp}{Q:St->Hp->Prop}(h:∀ c:Int,c=z->gName i (.int c) σ H Q):gName i (.int z) σ H Q:=h z rfl
theorem int_at {ns:List Int}{i:Nat}{x:V}(h:(ns.map V.int)[i]?=some x):∃ z:Int,x=V.int z:=by
 rw[List.getElem?_map]at h
 cases e:ns[i]? with
 | none=>rw[e]at h;cases h
 | some z=>rw[e]at h;exact⟨z,(Option.some.inj h).symm⟩
theorem cutV_ints (ns:List Int)(lo hi:Option Int):∃ ms:List Int,cutV (ns.map V.int) lo hi=ms.map V.int/\ms.length<=ns.length:=by
 unfold cutV
 rw[<- List.map_drop,<- List.map_take]
 exact⟨_,rfl,by rw[List.length_take,List.length_drop];omega⟩
theorem ixN_nat {n j:Nat}(h:j<n):ixN n (j:Int)=some j:=by
 unfold ixN
 rw[if_pos (by omega),if_pos (by omega)]
 simp
theorem lay_li (k:List Int):(PyData.list (k.map .int)).canLay0=true:=by simp[PyData.canLay0,lay_ints]
theorem dep_li (k:List Int):(PyData.list (k.map .int)).depth<=2:=by
 have:=dep_ints k
 simp only[PyData.depth]
 omega
theorem eqv_li (a b:List Int):PyData.eqv (.list (a.map .int)) (.list (b.map .int))=decide (a=b):=by
 simp only[PyData.eqv]
 exact eqv_ints a b
theorem Dt.mkLi {K:W.Frag}{H:Hp}{a:Addr}{k:List Int}(h:SqL K H a (k.map V.int)):Dt K H (.list (k.map .int)) (.ref a):=Dt.mkL h (DtAll.ints k)
theorem Tups.dtAll {K:W.Frag}{H:Hp}{ys:List V}{ks:List (List Int)}(t:Tups K H ys ks):DtAll K H (ks.map dP) ys:=DtAll.tups t
def dW (n:Int)(ks:List (List Int)):PyData:=.tuple [.int n,.tuple (ks.map dP)]
theorem lay_W (n:Int)(ks:List (List Int)):(dW n ks).canLay0=true:=by simp[dW,PyData.canLay0,PyData.canLayAll0,lay_pairs]
theorem dep_W (n:Int)(ks:List (List Int)):(dW n ks).depth<=4:=by
 have:=dep_pairs ks
 simp only[dW,PyData.depth,PyData.depthAll]
 omega
theorem eqv_W (n m:Int)(ks ls:List (List Int)):PyData.eqv (dW n ks) (dW m ls)=(decide (n=m) && decide (ks=ls)):=by
 simp only[dW,PyData.eqv,PyData.eqvAll,eqv_pairs,Bool.and_true]
 by_cases h:n=m
 ·subst h;simp
 ·simp[h]
end L2
namespace Web
open PySem L2
def rowF (i m:Nat):List (List Int):=(List.range m).map fun(d:Nat)=>([(i:Int),(i:Int)+1+(d:Int)]:List Int)
def pairsN (n:Nat):List (List Int):=(List.range n).flatMap fun i=>rowF i (n - (i+1))
def Up (n:Nat)(k:List Int):Prop:=∃ i j:Nat,i<j/\j<n/\k=[(i:Int),(j:Int)]
theorem mem_pairs {n:Nat}{k:List Int}(h:k∈pairsN n):Up n k:=by
 unfold pairsN at h
 obtain⟨i,hi,hk⟩:=List.mem_flatMap.mp h
 unfold rowF at hk
 obtain⟨d,hd,rfl⟩:=List.mem_map.mp hk
 rw[List.mem_range]at hi hd
 exact⟨i,i+1+d,by omega,by omega,by simp⟩
def Asc (ks:List (List Int)):Prop:=ks.Pairwise fun a b=>Tim.lexB a b=true
theorem len_pairs:∀ n:Nat,n<=24->(pairsN n).length<=276:=by decide +kernel
theorem pairs_succ (n i:Nat):((List.range (i+1)).flatMap fun j=>rowF j (n - (j+1)))=((List.range i).flatMap fun j=>rowF j (n - (j+1)))++rowF i (n - (i+1)):=by
 rw[List.range_succ,List.flatMap_append]
 simp
theorem rowF_succ (i m:Nat):rowF i (m+1)=rowF i m++[[(i:Int),(i:Int)+1+(m:Int)]]:=by
 unfold rowF
 rw[List.range_succ,List.map_append]
 rfl
theorem len_part (n:Nat):∀ i:Nat,i<=n->((List.range i).flatMap fun j=>rowF j (n - (j+1))).length<=(pairsN n).length:=by
 intro i hi
 unfold pairsN
 obtain⟨d,rfl⟩:=Nat.exists_eq_add_of_le hi
 rw[List.range_add,List.flatMap_append,List.length_append]
 omega
theorem asc_nodup {ks:List (List Int)}(h:Asc ks):ks.Nodup:=by
 refine List.Pairwise.imp ?_ h
 intro a b hab e
 subst e
 rw[Tim.lexB_irr]at hab
 cases hab
theorem asc_uniq:∀ {ks ls:List (List Int)},Asc ks->ls.Perm ks->ls.Pairwise (fun a b=>Tim.lexB b a=false)->ls=ks
 | [],ls,_,p,_=>p.eq_nil
 | k::ks,[],_,p,_=>by
  have:=p.length_eq
  simp at this
 | k::ks,l::ls,h,p,q=>by
  have hkl:l=k:=by
   have h1:l∈k::ks:=p.mem_iff.mp List.mem_cons_self
   have h2:k∈l::ls:=p.mem_iff.mpr List.mem_cons_self
   rcases List.mem_cons.mp h1 with e | e
   ·exact e
   ·rcases List.mem_cons.mp h2 with e2 | e2
    ·exact e2.symm
    ·have a1:=(List.pairwise_cons.mp h).1 l e
     have a2:=(List.pairwise_cons.mp q).1 k e2
     rw[a1]at a2
     cases a2
  subst hkl
  rw[asc_uniq (List.pairwise_cons.mp h).2 ((List.perm_cons _).mp p) (List.pairwise_cons.mp q).2]
def up:List Int->List Int
 | [a,b]=>[if b<a then b else a,if b > a then b else a]
 | k=>k
theorem up_up {n:Nat}{k:List Int}(h:Up n k):up k=k:=by
 obtain⟨i,j,h1,h2,rfl⟩:=h
 show [if (j:Int)<i then (j:Int) else i,if (j:Int) > i then (j:Int) else i]=_
 rw[if_neg (by omega),if_pos (by omega)]
theorem Up.key {n:Nat}{k:List Int}(h:Up n k)(hn:n<=24):Sett.KeyOk k:=by
 obtain⟨i,j,h1,h2,rfl⟩:=h
 exact⟨i,j,by omega,by omega,rfl⟩
theorem Up.len {n:Nat}{k:List Int}(h:Up n k):k.length=2:=by
 obtain⟨i,j,h1,h2,rfl⟩:=h
 rfl
def Ends2 (n:Nat)(k:List Int):Prop:=∃ i j:Nat,i<n/\j<n/\i≠j/\k=[(i:Int),(j:Int)]
theorem Ends2.up {n:Nat}{k:List Int}(h:Ends2 n k):Up n (up k):=by
 obtain⟨i,j,h1,h2,h3,rfl⟩:=h
 show Up n [if (j:Int)<i then (j:Int) else i,if (j:Int) > i then (j:Int) else i]
 by_cases h:i<j
 ·rw[if_neg (by omega),if_pos (by omega)]
  exact⟨i,j,h,h2,rfl⟩
 ·rw[if_pos (by omega),if_neg (by omega)]
  exact⟨j,i,by omega,h1,rfl⟩
theorem Up.ends {n:Nat}{k:List Int}(h:Up n k):Ends2 n k:=by
 obtain⟨i,j,h1,h2,rfl⟩:=h
 exact⟨i,j,by omega,h2,by omega,rfl⟩
end Web
namespace L2
open PySem
def Room.around {k:Nat}{A:Around}(_:Room k A):Around:=A
theorem op_eqDK {X:Cx}(K:W.Frag)(A:Around)(hK:X.K=K)(hA:X.A=A):OpR X (compareOp .Eq) (rEqD K A false):=by subst hK hA;exact op_eqD
theorem op_inDK {X:Cx}(K:W.Frag)(A:Around)(hK:X.K=K)(hA:X.A=A):OpR X (compareOp .In) (rInD K A false):=by subst hK hA;exact op_inD
theorem op_notInDK {X:Cx}(K:W.Frag)(A:Around)(hK:X.K=K)(hA:X.A=A):OpR X (compareOp .NotIn) (rInD K A true):=by subst hK hA;exact op_notInD
end L2
namespace L2
open PySem PySem.Spec PyProof.Rows
section
variable {X:Cx} {o e:Expr} {es:List Expr} {to:TE} {t:TA} {name:Str} {apos cpos:Pos} {T id:String} {r:V->List V->Hp->VK->Prop}
theorem eqv_intP (p:Int):∀ k:List Int,(k.map PyData.int).any (fun d=>PyData.eqv d (.int p))=decide (p∈k)
 | []=>by simp
 | i::k=>by
  rw[List.map_cons,List.any_cons,eqv_intP p k]
  by_cases h:i=p
  ·subst h;simp[PyData.eqv]
  ·have h':p≠i:=fun e=>h e.symm
   simp[PyData.eqv,h,h']
end
section
variable {prog:Program} {w:World} {A:Around} {E:Value->Shared->Prop} {s:Shared}
theorem ints_of:∀ {vs:List Value} {n i:Nat},vs.length=n->(∀ j v,vs[j]?=some v->∃ t,v=Value.int (((i+j:Nat):Int)) t)->IntsAre vs ((List.range' i n).map fun k:Nat=>(k:Int))
 | [],n,i,e,_=>by subst e;exact .nil
 | v::vs,0,i,e,_=>by cases e
 | v::vs,n+1,i,e,h=>by
  obtain⟨t,rfl⟩:=h 0 v rfl
  rw[List.range'_succ,List.map_cons]
  refine .cons _ t (ints_of (by simpa using e) fun j v hv=>?_)
  obtain⟨t',e'⟩:=h (j+1) v (by simpa using hv)
  exact⟨t',by rw[e'];congr 2;omega⟩
theorem collect_rng {r:Addr}{n:Nat}{t u v:Tok}{Q:List Value->Shared->Prop}(hh:A.handled=none)(hr:IsRange s.heap r 0 n 1 t u v)(hn:n<=1000)
  (h:∀ h' tk vs,(∀ b o,s.heap.get? b=some o->h'.get? b=some o)->IntsAre vs ((List.range' 0 n).map fun k:Nat=>(k:Int))->Q vs { s with heap:=h',toks:=tk }) :
  wpAny (model prog w) A (collect (.ref r)) Q E s:=by
 unfold collect
 refine wpAny_bind (wpAny_runValue (codeAny_builtin F.entry_proto_collect ?_))
 rw[Around.under_plainId F.plain_proto_collect _]
 show wpAny _ A.in1 (newList [] >>= fun l=>again (.builtin "list.__iadd__" ⟨[l,.ref r],[]⟩)) _ _ s
 refine wpAny_bind (wpAny_newObj_type ?_)
 refine wpAny_pure ⟨plainId_quiet F.plain_list_iadd _,codeAny_builtin F.entry_list_iadd ?_⟩
 rw[Around.under_plainId F.plain_list_iadd _]
 show wpAny _ A.in1 (Builtin.List.listExtendWith (.ref s.heap.objs.size) (.ref r) (.ref s.heap.objs.size)) _ _ _
 have hS:(s.heap.push { cls:=.type "list",data:=.seq ([]:List Value).toArray }).get? s.heap.objs.size=some { cls:=.type "list",data:=.seq #[] }:=Heap.get?_push_size _ rfl
 have hrs:Builtin.Range.rangeSize 0 n 1=(n:Int):=by rw[rangeSize_one];split<;>omega
 refine wpAny_extend_range (R:=fun rr s'=>match rr with
  | .ok (.ret v)=>wpAny (model prog w) A (match v with
   | .ref a=>(do
    let o <- load a
    match o.data with
    | .seq xs _=>pure xs.toList
    | _=>unsupported "internal:collect")
   | _=>unsupported "internal:collect") Q E s'
  | .ok _=>False
  | .error e=>E e s') (s:={ s with heap:=s.heap.push { cls:=.type "list",data:=.seq ([]:List Value).toArray } }) (n:=n) hh (Heap.get?_push_of_some _ hr) (small_one (by omega) (by omega) (by omega) (by omega)) hrs (by omega) s.heap.objs.size _ 0 hS fun h' tk acc' c' hk hS' hacc=>?_
 show wpAny _ A (load s.heap.objs.size >>= _) _ _ _
 refine wpAny_bind (wpAny_load hS' ?_)
 refine wpAny_pure (h h' tk _ (fun b o e=>hk b o (Nat.ne_of_lt (Heap.lt_size e)) (Heap.get?_push_of_some _ e)) (ints_of (by rw[Array.length_toList];exact hacc.1) fun j v hj=>?_))
 obtain⟨t',e⟩:=hacc.2 j v (by rw[<- Array.getElem?_toList];exact hj)
 exact⟨t',by rw[e];congr 1;omega⟩
end
section
variable {X:Cx} {pins:List (Addr × Obj)} {σ:St} {H:Hp} {s:Shared} {A:Around} {E:Value->Shared->Prop}
theorem FpOk.to {H':Hp}{b:Addr}(f:FpOk X pins H b)(h:H' b=none):FpOk X pins H' b:=⟨h,f.2⟩
theorem Inv.turn {h':Heap}{t':Nat}{it:Addr}(I:Inv X pins σ H s)(f:FpOk X pins H it)(k:∀ b o,b≠it->s.heap.get? b=some o->h'.get? b=some o):Inv X pins σ H { s with heap:=h',toks:=t' }:=
 I.turned k f.1 f.2.1 f.2.2.2.1 f.2.2.2.2.1 f.2.2.2.2.2
theorem Inv.take {h':Heap}{t':Nat}{a:Addr}{o:HO}(I:Inv X pins σ H s)(f:FpOk X pins H a)(k:∀ b u,b≠a->s.heap.get? b=some u->h'.get? b=some u)(new:ObjOk X.prog X.w (upd H a o) h' a o):Inv X pins σ (upd H a o) { s with heap:=h',toks:=t' }:=by
 have hn:=f.1
 have ne:∀ b u,H b=some u->b≠a:=fun b u e=>ne_of_none e hn
 have kp:∀ b u,H b=some u->upd H a o b=some u:=fun b u e=>by rw[upd_ne (ne b u e)];exact e
 refine I.step (g':=s.gens) (d':=s.drawn) (ch:=[a]) (fun b hb=>?_) (fun b u _ _ hc e _=>k b u (fun z=>hc (by simp[z])) e) (fun b u _ _ hc e _=>⟨u.slots,k b u (fun z=>hc (by simp[z])) e⟩) (fun b u hc _ n=>by rw[upd_ne (fun z=>hc (by simp[z]))];exact n)
  (fun b u hc e=>⟨u,k b u (fun z=>hc (by simp[z])) e⟩) (fun b xs e=>kp b _ e) (fun b u xs e=>kp b _ e) (fun b ps e=>⟨#[],by rw[kp b _ e];simp⟩) (fun m hm=>?_) (fun b u e=>?_) I.bare
 ·have e:b=a:=by simpa using hb
  subst e
  exact⟨f.2.2.2.1,f.2.1,f.2.2.2.2.1,f.2.2.2.2.2⟩
 ·obtain⟨o',es,ep,ho,r⟩:=hm
  exact⟨o',es,ep,k _ o' (Ne.symm f.2.1) ho,r⟩
 ·by_cases hb:b=a
  ·subst hb
   rw[upd_same]at e
   cases e
   exact new
  ·rw[upd_ne hb]at e
   refine(I.hok b u e).stay (fun c v hc q=>k c v ?_ q) (fun c q=>?_) fun c xs q=>?_
   ·rcases hc with z | z
    ·rw[z];exact hb
    ·exact ne c _ z
   ·exact kp _ _ q
   ·exact kp _ _ q
end
section
variable {X:Cx} {pins:List (Addr × Obj)} {σ:St} {H:Hp} {s:Shared} {A:Around} {E:Value->Shared->Prop}
abbrev KeyTurn (X:Cx)(A:Around)(σ:St)(H:Hp)(f:Value)(key:Int->List Int)(z:Int):Prop:=∀ (t:Tok) (pins':List (Addr × Obj)) (s':Shared) (H':Hp),Inv X pins' σ H' s'->Same H H' ->
 wpAny (model X.prog X.w) A (call f [.int z t]) (fun u s''=>∃ k H'',u=.ref k/\H'' k=some (.tup ((key z).map V.int))/\Inv X pins' σ H'' s''/\Same H' H'') (fun _ _=>False) s'
abbrev KeyEnd (X:Cx)(pins:List (Addr × Obj))(σ:St)(H:Hp)(a:Addr)(zs:List Int)(key:Int->List Int)(P:PySem.Fin->Shared->Prop):Prop:=∀ (H':Hp) (s':Shared) (out:List Value) (zs':List Int) (c:Nat),Inv X pins σ H' s'->Same H H'->FpOk X pins H' a ->
 s'.heap.get? a=some (seqObj "list" out.toArray c)->IntsAre out zs'->zs'.Perm zs->zs'.Pairwise (fun x y=>Tim.lexB (key y) (key x)=false)->P (.done (.ret .none)) s'
theorem keys_zip {prog:Program}{w:World}{h:Heap}{key:Int->List Int}:∀ {ks vs:List Value} {zs:List Int},Paired (fun u k=>Tim.IsK prog w h k u) ks (zs.map key)->IntsAre vs zs ->
  (∀ p∈ks.zip vs,Tim.IsK prog w h (key (numOf p.2)) p.1)/\(ks.zip vs).map (fun p=>numOf p.2)=zs
 | _,_,[],.nil,.nil=>⟨fun p h=>(nomatch h),rfl⟩
 | _,_,z::zs,.cons r t,.cons _ t' q=>by
  obtain⟨h1,h2⟩:=keys_zip t q
  refine⟨fun p hp=>?_,by rw[List.zip_cons_cons,List.map_cons,h2];rfl⟩
  rw[List.zip_cons_cons]at hp
  rcases List.mem_cons.mp hp with rfl | hp
  ·exact r
  ·exact h1 p hp
theorem ints_nums:∀ {vs:List Value} {zs:List Int},IntsAre vs zs->∀ v∈vs,∃ t,v=.int (numOf v) t
 | _,_,.nil,v,h=>by cases h
 | _,_,.cons z t q,v,h=>by
  rcases List.mem_cons.mp h with rfl | h
  ·exact⟨t,rfl⟩
  ·exact ints_nums q v h
theorem ints_mk:∀ {vs:List Value},(∀ v∈vs,∃ t,v=.int (numOf v) t)->IntsAre vs (vs.map numOf)
 | [],_=>.nil
 | v::vs,h=>by
  obtain⟨t,e⟩:=h v List.mem_cons_self
  rw[List.map_cons]
  rw[e]
  exact .cons _ t (ints_mk fun v hv=>h v (List.mem_cons_of_mem _ hv))
set_option maxHeartbeats 2000000 in
theorem key_tail {a kS:Addr}{vs:List Value}{zs:List Int}{keys:Array Value}{e e1:Nat}{key:Int->List Int}{P:PySem.Fin->Shared->Prop}{st:SortSt}{H0:Hp}(I:Inv X pins σ H s)(hS:Same H0 H)(hk:s.heap.get? kS=some (seqObj "list" keys e))(ha:s.heap.get? a=some (seqObj "list" #[] e1))
  (fk:FpOk X pins H kS)(fa:FpOk X pins H a)(hka:kS≠a)(hz:vs.length<=1000)(hkl:keys.size=vs.length)(hi:IntsAre vs zs)
  (hK:Paired (fun u k=>Tim.IsK X.prog X.w s.heap k u) keys.toList (zs.map key))(hp:(arrOf st).Perm (keys.zip vs.toArray))(hf:failedOf st=none)
  (hs:(arrOf st).toList.Pairwise (Tim.le (Tim.Bf (O:=Tim.lexO) fun p=>Tim.keyAt X.prog X.w s.heap p.1)))(h:KeyEnd X pins σ H0 a zs key P) :
  wpAny (model X.prog X.w) A (ksk_tail a false e1 (.ref kS) st) P E s:=by
 obtain⟨k1,k2⟩:=keys_zip hK hi
 have hl:(arrOf st).toList.Perm (keys.toList.zip vs):=by rw[<- ksk_zip];exact Array.perm_iff_toList_perm.mp hp
 have hsz2:(arrOf st).size=vs.length:=by rw[hp.size_eq,Array.size_zip,hkl,List.size_toArray,Nat.min_self]
 have s1:=Heap.SameBut.update s.heap kS (Obj.mapSeq fun _=>(#[]:Array Value))
 have na1:(s.heap.update kS (Obj.mapSeq fun _=>(#[]:Array Value))).get? a=some (seqObj "list" #[] e1):=(s1.2 a hka.symm).trans ha
 have hout:((arrOf st).map (·.2)).size=vs.length:=by rw[Array.size_map];exact hsz2
 have hmem:∀ v∈(arrOf st).toList.map (·.2),∃ t,v=.int (numOf v) t:=fun v hv=>by
  obtain⟨p,hp',rfl⟩:=List.mem_map.mp hv
  exact ints_nums hi _ (List.of_mem_zip (hl.mem_iff.mp hp')).2
 unfold ksk_tail
 dsimp only
 refine wpAny_bind (listUpdate_at hk rfl ?_ (by rw[hkl,sizeLine_eq];omega) (Nat.zero_le _))
 refine wpAny_bind (wpAny_letGo ?_)
 refine wpAny_bind (seqEpoch_at na1 rfl ?_)
 refine wpAny_bind (listUpdate_at na1 rfl ?_ (Nat.zero_le _) (Nat.le_trans (Nat.le_of_eq hout) (by rw[sizeLine_eq];omega)))
 rw[hf]
 simp only[bne_self_eq_false,Bool.false_eq_true,if_false]
 have I1:Inv X pins σ H { s with heap:=s.heap.update kS (Obj.mapSeq fun _=>(#[]:Array Value)),toks:=s.toks }:=I.turn fk fun b o hb q=>(s1.2 b hb).trans q
 have s2:=Heap.SameBut.update (s.heap.update kS (Obj.mapSeq fun _=>(#[]:Array Value))) a (Obj.mapSeq fun _=>(arrOf st).map (·.2))
 have I2:Inv X pins σ H { s with heap:=(s.heap.update kS (Obj.mapSeq fun _=>(#[]:Array Value))).update a (Obj.mapSeq fun _=>(arrOf st).map (·.2)),toks:=s.toks }:=
  I1.turn (t':=s.toks) fa fun b o hb q=>(s2.2 b hb).trans q
 obtain⟨c2,hc2⟩:∃ c2,((s.heap.update kS (Obj.mapSeq fun _=>(#[]:Array Value))).update a (Obj.mapSeq fun _=>(arrOf st).map (·.2))).get? a=some (seqObj "list" ((arrOf st).map (·.2)) c2):=⟨_,get?_update_seq na1 fun _=>(arrOf st).map (·.2)⟩
 have eo:((arrOf st).toList.map (·.2)).toArray=(arrOf st).map (·.2):=by rw[<- Array.toList_map,Array.toArray_toList]
 refine wpAny_pure (h H _ ((arrOf st).toList.map (·.2)) (((arrOf st).toList.map (·.2)).map numOf) c2 I2 hS fa (by rw[eo];exact hc2) (ints_mk hmem) ?_ ?_)
 ·have:=hl.map fun p=>numOf p.2
  rw[k2]at this
  rw[List.map_map]
  exact this
 ·rw[List.map_map,List.pairwise_map]
  refine List.Pairwise.imp_of_mem ?_ hs
  intro x y hx hy hxy
  have ex:=Tim.keyAt_eq (k1 x (hl.mem_iff.mp hx))
  have ey:=Tim.keyAt_eq (k1 y (hl.mem_iff.mp hy))
  have hxy':Tim.lexB (Tim.keyAt X.prog X.w s.heap y.1) (Tim.keyAt X.prog X.w s.heap x.1)=false:=hxy
  rw[ex,ey]at hxy'
  exact hxy'
theorem ih_get:∀ {vs:List Value} {zs:List Int} {j:Nat} {x:Value},IntsAre vs zs->vs[j]?=some x->∃ z t,zs[j]?=some z/\x=.int z t
 | _,_,_,_,.nil,h=>by simp at h
 | _,_,0,_,.cons n t q,h=>by simp at h;exact⟨n,t,rfl,h.symm⟩
 | _,_,j+1,_,.cons n t q,h=>by
  obtain⟨z,t',h1,h2⟩:=ih_get q (by simpa using h)
  exact⟨z,t',by simpa using h1,h2⟩
theorem fp_pin {H':Hp}{s':Shared}{fp:List Addr}{h:Heap}{b:Addr}{o:Obj}(I:Inv X (pins++pinsAt fp h) σ H' s')(hb:b∈fp)(e:h.get? b=some o):s'.heap.get? b=some o/\H' b=none:=
 let p:=I.pin (b,o) (List.mem_append_right _ (List.mem_append_right _ (mem_pinsAt hb e)))
 ⟨p.1,p.2.1⟩
end
section
variable {X:Cx} {pins:List (Addr × Obj)} {σ:St} {H:Hp} {s:Shared} {A:Around} {E:Value->Shared->Prop}
end
abbrev lamEnv (qual:Str)(scope:Scope)(cl:List (Str × Addr))(f:Addr)(cv:Value)(s:Shared):Env:=PySem.W.envX qual scope s.heap.objs.size f cv cl
def lamCx (X:Cx)(A:Around)(qual:Str)(scope:Scope)(cl:List (Str × Addr))(N':List Str)(f:Addr)(cv:Value)(s:Shared)(H:Hp):Cx:=
 { X with A:=A.deeper (lamEnv qual scope cl f cv s),N:=N',s₀:=s,H₀:=H,env:=lamEnv qual scope cl f cv s,outer:=X.stack,stack:=List.cons (lamEnv qual scope cl f cv s) X.stack,ex:=[],fn:=fun _=>false,calm:=true,pn:=[],xe:=fun _ _=>False }
def LamLk (X:Cx)(N':List Str)(lk:List (Option Nat))(scope:Scope)(cl:List (Str × Addr)):Prop:=
 lk.length=N'.length/\∀ (i j:Nat) (x:Str),N'[i]?=some x->lk[i]?=some (some j)->X.N[j]?=some x/\(X.env.scope.names.lookup x=some .cell\/X.env.scope.names.lookup x=some .free)/\(cl.lookup x).isSome=true /\
  (scope.names.lookup x=some .cell\/scope.names.lookup x=some .free)
section
variable {X:Cx} {pins:List (Addr × Obj)} {σ:St} {H:Hp} {s:Shared} {A:Around}
theorem lam_start {h1:Heap}{tk:Nat}{qual p:Str}{scope:Scope}{cl:List (Str × Addr)}{N':List Str}{lk:List (Option Nat)}{f:Addr}{cv u:Value}{v:V}(I:Inv X pins σ H s)(hA:A.frames=some X.stack)(hh:A.handled=none)(hkind:scope.kind=.function)(hcl:ClOk X.env cl)(hfr:FrOk scope.names cl=true)(hlk:LamLk X N' lk scope cl)
  (hp:scope.names.lookup p=some .local)(rv:RelV v u)(hn:h1.Ns s.heap.objs.size (fun y=>[(p,u)].reverse.lookup y))(hk:∀ b o,s.heap.get? b=some o->h1.get? b=some o) :
  Inv (lamCx X A qual scope cl (p::N') f cv s H) [] (some v::capt lk σ) H { s with heap:=h1,toks:=tk }:=by
 have hC:H s.heap.objs.size=none:=I.hok.fresh (Nat.le_refl _)
 have hmem:∀ y∈scope.names,y.2≠.cell/\(y.2=.free->(cl.lookup y.1).isSome=true):=fun y hy=>by
  unfold FrOk at hfr
  rw[List.all_eq_true]at hfr
  have:=hfr y hy
  rw[Bool.and_eq_true]at this
  refine⟨by simpa using this.1,fun e=>?_⟩
  have h2:=this.2
  rw[e]at h2
  simpa using h2
 have hcell:∀ x c,cl.lookup x=some c->X.env.cells.lookup x=some c:=fun x c e=>hcl.get e
 have noE:∀ b:Addr,b∉([]:List Addr):=fun b z=>nomatch z
 refine⟨⟨I.ok.mod,hkind,rfl,rfl,Nat.le_refl _,fun x y c e1 e2=>I.ok.inj x y c (hcell x c e1) (hcell y c e2),fun x hx=>?_,(fun x c e=>by cases e),fun _=>hh,Around.frames_deeper hA,.inr ⟨rfl,rfl⟩,fun b z=>absurd z (noE b),fun b o e=>I.bs b o e,Nat.le_trans I.ok.bsz I.sz,fun b _ _=>noE b,fun b z=>absurd z (noE b),I.stack,I.stkFree⟩,
  rfl,I.bare,Un.kept hk,⟨_,hn,fun i x w e1 e2 e3=>?_⟩,fun x c e=>?_,hC,fun x c e=>I.freeC x c (hcell x c e),(fun q hq=>nomatch hq),I.hok.kept hk,?_⟩
 ·have hx':scope.names.lookup x=some .cell\/scope.names.lookup x=some .free:=hx
  rcases hx' with h | h
  ·exact absurd rfl (hmem _ (PySem.mem_of_lookup h)).1
  ·exact Option.isSome_iff_exists.mp ((hmem _ (PySem.mem_of_lookup h)).2 rfl)
 ·cases i with
  | zero =>
   have e1':p=x:=by simpa using (show (p::N')[0]?=some x from e1)
   have e2':v=w:=by simpa using (show (some v::capt lk σ)[0]?=some (some w) from e2)
   subst e1' e2'
   refine⟨u,rv,.inl ⟨hp,?_⟩⟩
   show [(p,u)].reverse.lookup p=some u
   simp[List.lookup]
  | succ i =>
   have e1':N'[i]?=some x:=by simpa using (show (p::N')[i+1]?=some x from e1)
   have e2':(capt lk σ)[i]?=some (some w):=by simpa using (show (some v::capt lk σ)[i+1]?=some (some w) from e2)
   unfold capt at e2'
   rw[List.getElem?_map]at e2'
   cases hq:lk[i]? with
   | none=>rw[hq]at e2';cases e2'
   | some o =>
    rw[hq]at e2'
    have e2'':(o.bind fun j=>(σ[j]?).join)=some w:=Option.some.inj e2'
    cases o with
    | none=>cases e2''
    | some j =>
     obtain⟨q1,q2,q3,q4⟩:=hlk.2 i j x e1' hq
     have hσ:σ[j]?=some (some w):=by
      have z:(σ[j]?).join=some w:=e2''
      cases hh:σ[j]? with
      | none=>rw[hh]at z;cases z
      | some o=>rw[hh]at z;rw[show o=some w from z]
     obtain⟨m,hnX,hl⟩:=I.loc
     obtain⟨u',r,lo⟩:=hl j x w q1 hσ (q2.elim (fun a=>.inr (.inl a)) (fun a=>.inr (.inr a)))
     refine⟨u',r,.inr ?_⟩
     obtain⟨c,hc⟩:=Option.isSome_iff_exists.mp q3
     refine⟨q4,c,hc,?_⟩
     have hcX:=hcell x c hc
     rcases lo with⟨k,_⟩ | ⟨_,c',hc',z⟩
     ·have k':X.env.scope.names.lookup x=some .local:=k
      rw[k']at q2
      rcases q2 with q2 | q2<;>cases q2
     ·rw[hcX]at hc'
      cases hc'
      obtain⟨o,ho,hd⟩:=z
      exact⟨o,hk c o ho,hd⟩
 ·obtain⟨w,o,ho,hd⟩:=I.cell x c (hcell x c e)
  exact⟨w,o,hk c o ho,hd⟩
 ·show (some v::capt lk σ).length=(p::N').length
  unfold capt
  rw[List.length_cons,List.length_map,List.length_cons,hlk.1]
theorem lam_call {name qual p:Str}{params:Arguments}{body:Expr}{scope:Scope}{cl:List (Str × Addr)}{N':List Str}{lk:List (Option Nat)}{f c':Addr}{pm ctv u:Value}{v:V}{te:TE}{Q:VK}(I:Inv X pins σ H s)(hA:A.frames=some X.stack)(hh:A.handled=none)(hroom:A.depth<recursionLimit)
  (ho:s.heap.get? f=some (PySem.W.kla_obj name qual params body scope cl pm c' ctv))(hcd:s.heap.CodeRec (.ref c') qual)(hbind:bindArgs (PySem.W.kla_fn name qual params body scope cl pm (.ref c') ctv) ⟨[u],[]⟩=pure [(p,u)])
  (hkind:scope.kind=.function)(hco:scope.isCoroutine=false)(hgen:scope.isGenerator=false)(hcl:ClOk X.env cl)(hfr:FrOk scope.names cl=true)(hlk:LamLk X N' lk scope cl)(hp:scope.names.lookup p=some .local)(rv:RelV v u)
  (he:PE (lamCx X A qual scope cl (p::N') f (.ref c') s H) body te)(ht:te (some v::capt lk σ) H Q) :
  wpAny (model X.prog X.w) A (call (.ref f) [u]) (fun u' s'=>∃ v' H',Inv X pins σ H' s'/\RelV v' u'/\Q v' H') (fun _ _=>False) s:=by
 have hcellN:∀ y∈scope.names,y.2≠.cell:=fun y hy=>by
  unfold FrOk at hfr
  rw[List.all_eq_true]at hfr
  have:=hfr y hy
  rw[Bool.and_eq_true]at this
  simpa using this.1
 refine wpAny_call (PySem.W.kla_callFunE hroom ho rfl hco hgen rfl hcd ?_)
 show wpAny _ _ (bindArgs (PySem.W.kla_fn name qual params body scope cl pm (.ref c') ctv) ⟨[u],[]⟩) _ _ s
 rw[hbind]
 refine wpAny_pure (wpAny_newFunctionEnv hcellN (fun y hy=>by rw[List.mem_singleton.mp hy];exact hp) (fun h1 hns hsb=>?_) hkind)
 have hk₁:∀ b o,s.heap.get? b=some o->h1.get? b=some o:=fun b o e=>hsb.extBut b o (Nat.ne_of_lt (Heap.lt_size e)) (Heap.get?_push_of_some _ e)
 refine⟨I.nolimit.keeps hk₁,?_⟩
 show codeAny _ _ (.expr body (PySem.W.envX qual scope s.heap.objs.size f (.ref c') cl)) _ _
 have I1:=lam_start (tk:=s.toks+[(p,u)].length) (qual:=qual) (f:=f) (cv:=.ref c') I hA hh hkind hcl hfr hlk hp rv hns hk₁
 refine PySem.W.kla_codeExpr (wpAny_mono (he [] _ _ H Q I1 ht) (fun u' s' hq=>?_) fun _ _ z=>False.elim z)
 obtain⟨v',H',J,r',q⟩:=hq
 exact⟨v',H',I.call' (ch:=[]) J.os J.base J.hok J.bare (fun b z=>nomatch z),r',q⟩
end
def CodeO (c:Addr)(qual:Str):HO:=.ext fun h=>h.CodeRec (.ref c) qual
def LamO (f:Addr)(o:Obj):HO:=.ext fun h=>h.get? f=some o
def TabOk (P:Addr)(pos:Pos)(qual:Str)(H:Hp):Prop:=∃ ps,H P=some (.tbl ps)/\TriplesOk ps.toList/\(codeAmong pos ps.toList=none\/∃ c',codeAmong pos ps.toList=some (.ref c')/\H c'=some (CodeO c' qual))
def Grow (P:Addr)(H H':Hp):Prop:=∀ b o,b≠P->H b=some o->H' b=some o
theorem Grow.refl (P:Addr)(H:Hp):Grow P H H:=fun _ _ _ h=>h
theorem Grow.trans {P:Addr}{H H1 H2:Hp}(a:Grow P H H1)(b:Grow P H1 H2):Grow P H H2:=fun c o n h=>b c o n (a c o n h)
theorem Same.grow {H H':Hp}(P:Addr)(h:Same H H'):Grow P H H':=fun b o _ q=>h b o q
theorem TabOk.same {P:Addr}{pos:Pos}{qual:Str}{H H':Hp}(t:TabOk P pos qual H)(h:Same H H'):TabOk P pos qual H':=by
 obtain⟨ps,h1,h2,h3⟩:=t
 refine⟨ps,h _ _ h1,h2,?_⟩
 rcases h3 with h3 | ⟨c',h3,h4⟩
 ·exact .inl h3
 ·exact .inr ⟨c',h3,h _ _ h4⟩
structure LamB (base:Heap) (mg:Str->Option Value) (c P:Addr):Prop where
 hd:PySem.W.CodeHd base c P
 blt:base.BuiltinsAt mg P
 ne:mainGlobals≠P
theorem among_hit {pos:Pos}{c:Value}{l:List Value}(h:TriplesOk l)(hn:codeAmong pos l=none):codeAmong pos (l++[rawInt pos.line,rawInt pos.col,c])=some c:=codeAmong_snoc l h hn
def tLam (P:Addr)(pos:Pos)(qual:Str)(params:Arguments)(body:Expr)(scope:Scope)(cl:List (Str × Addr))(pm:Value):TE:=fun σ H Q=>TabOk P pos qual H/\∀ f c' ctv H',Grow P H H'->TabOk P pos qual H'->H f=none ->
 H' f=some (LamO f (PySem.W.kla_obj "<lambda>" qual params body scope cl pm c' ctv))->H' c'=some (CodeO c' qual)->Q (.ref f) H'
section
variable {X:Cx}
theorem pe_lam {params:Arguments}{body:Expr}{scope:Scope}{pos:Pos}{c P:Addr}{cl:List (Str × Addr)}(B:LamB X.base X.mg c P)(hcode:X.env.code=.ref c)(hcl:closureFor scope X.env=pure cl)(hdef:defaultsOf params X.env=([],[])) :
  PE X (.Lambda params body scope pos) (tLam P pos (X.env.qual++"<lambda>") params body scope cl ((X.mg "__name__").getD .none)):=by
 intro pins s σ H Q I h
 obtain⟨⟨ps,hP,ht,hin⟩,q⟩:=h
 have hPh:s.heap.get? P=some (PySem.W.tabObj ps):=I.hok P _ hP
 have C:=B.hd.keeps I.bk
 have hb:s.heap.BuiltinsAt X.mg P:=by
  obtain⟨bm,ob,b1,b2,b3,b4,b5,b6⟩:=B.blt
  exact⟨bm,ob,b1,b2,b3,b4,I.bk _ _ b5,b6⟩
 refine PySem.W.kla_eval hdef ?_
 rcases hin with hnf | ⟨c',hf,hc'⟩
 ·refine PySem.W.kla_makeFunction hcl I.ok.glob (I.mod.glob.keeps I.bk) hcode C hPh ht hnf B.ne hb fun c' ctv h' tk hx hge hlt hrec htb=>?_
  have hPlt:P<s.heap.objs.size:=Heap.lt_size hPh
  have hsz:s.heap.objs.size<=h'.objs.size:=Nat.le_trans hge (Nat.le_of_lt hlt)
  have cP:P≠c':=Nat.ne_of_lt (Nat.lt_of_lt_of_le hPlt hge)
  have fP:P≠h'.objs.size:=Nat.ne_of_lt (Nat.lt_of_lt_of_le hPlt hsz)
  have fc:c'≠h'.objs.size:=Nat.ne_of_lt hlt
  have hcn:H c'=none:=I.hok.fresh hge
  have hfn:H h'.objs.size=none:=I.hok.fresh hsz
  have hfr:(PySem.W.kla_obj "<lambda>" (X.env.qual++"<lambda>") params body scope cl ((X.mg "__name__").getD .none) c' ctv).isFreed=false:=rfl
  generalize hobj:PySem.W.kla_obj "<lambda>" (X.env.qual++"<lambda>") params body scope cl ((X.mg "__name__").getD .none) c' ctv=ob at *
  generalize hps:ps++#[rawInt pos.line,rawInt pos.col,.ref c']=ps' at *
  have hps2:ps'.toList=ps.toList++[rawInt pos.line,rawInt pos.col,.ref c']:=by rw[<- hps];simp
  generalize hH1:upd (upd (upd H P (.tbl ps')) c' (CodeO c' (X.env.qual++"<lambda>"))) h'.objs.size (LamO h'.objs.size ob)=H1
  have v1:H1 h'.objs.size=some (LamO h'.objs.size ob):=by rw[<- hH1];exact upd_same
  have v2:H1 c'=some (CodeO c' (X.env.qual++"<lambda>")):=by rw[<- hH1,upd_ne fc];exact upd_same
  have v3:H1 P=some (.tbl ps'):=by rw[<- hH1,upd_ne fP,upd_ne cP];exact upd_same
  have v4:∀ b,b≠P->b≠c'->b≠h'.objs.size->H1 b=H b:=fun b n1 n2 n3=>by rw[<- hH1,upd_ne n3,upd_ne n2,upd_ne n1]
  have v5:∀ b u,b≠P->H b=some u->H1 b=some u:=fun b u n e=>by rw[v4 b n (ne_of_none e hcn) (ne_of_none e hfn)];exact e
  have k1:∀ b o,b≠P->s.heap.get? b=some o->(h'.push ob).get? b=some o:=fun b o n e=>Heap.get?_push_of_some _ (hx b o n e)
  have neP:∀ b,H b=none->b≠P:=fun b n z=>by rw[z,hP]at n;cases n
  have hPn:(h'.push ob).get? P=some (PySem.W.tabObj ps'):=Heap.get?_push_of_some _ htb
  have un:Un X.fs [] H H1 s.heap (h'.push ob):=by
   refine⟨fun b o e n _ _=>k1 b o (neP b n) e,fun b o e n _ _=>⟨o.slots,k1 b o (neP b n) e⟩,fun b o e n _=>?_,fun b o e _=>?_,fun b xs e=>v5 b _ (fun z=>by rw[z,hP]at e;cases e) e,fun b o u e=>v5 b _ (fun z=>by rw[z,hP]at e;cases e) e,fun b qs e=>?_⟩
   ·rw[v4 b (neP b n) (Nat.ne_of_lt (Nat.lt_of_lt_of_le (Heap.lt_size e) hge)) (Nat.ne_of_lt (Nat.lt_of_lt_of_le (Heap.lt_size e) hsz))]
    exact n
   ·by_cases hb:b=P
    ·rw[hb];exact⟨_,hPn⟩
    ·exact⟨o,k1 b o hb e⟩
   ·by_cases hb:b=P
    ·rw[hb,hP]at e
     cases e
     rw[hb]
     exact⟨#[rawInt pos.line,rawInt pos.col,.ref c'],by rw[v3,<- hps]⟩
    ·exact⟨#[],by rw[v5 b _ hb e];simp⟩
  have hok:HOk X.prog X.w H1 (h'.push ob):=by
   intro b u e
   by_cases hb1:b=h'.objs.size
   ·subst hb1
    rw[v1]at e
    cases e
    exact⟨Heap.get?_push_size _ hfr,⟨_,Heap.get?_push_size _ hfr⟩,fun h1 h2 q z=>z _ q⟩
   ·by_cases hb2:b=c'
    ·subst hb2
     rw[v2]at e
     cases e
     obtain⟨c2,oc,vs,tq,e1,e2,e3,e4⟩:=hrec
     cases e1
     exact⟨⟨_,oc,vs,tq,rfl,Heap.get?_push_of_some _ e2,e3,e4⟩,⟨oc,Heap.get?_push_of_some _ e2⟩,fun h1 h2 ⟨c3,o3,vs3,t3,q1,q2,q3,q4⟩ z=>by cases q1;exact⟨_,o3,vs3,t3,rfl,z _ q2,q3,q4⟩⟩
    ·by_cases hb3:b=P
     ·subst hb3
      rw[v3]at e
      cases e
      exact hPn
     ·rw[v4 b hb3 hb2 hb1]at e
      refine(I.hok b u e).stay (fun d v hd z=>k1 d v ?_ z) (fun d z=>v5 _ _ ?_ z) fun d xs z=>v5 _ _ ?_ z
      ·rcases hd with hd | hd
       ·rw[hd];exact hb3
       ·intro zz;rw[zz,hP]at hd;cases hd
      ·intro zz;rw[zz,hP]at z;cases z
      ·intro zz;rw[zz,hP]at z;cases z
  have I1:Inv X pins σ H1 { s with heap:=h'.push ob,toks:=tk }:=I.un un hok
  refine⟨.ref h'.objs.size,H1,I1,rfl,q _ c' ctv H1 (fun b o n e=>v5 b o n e) ⟨ps',v3,?_,.inr ⟨c',?_,v2⟩⟩ hfn ?_ v2⟩
  ·rw[hps2];exact TriplesOk_snoc _ _ _ _ ht
  ·rw[hps2];exact among_hit ht hnf
  ·rw[hobj];exact v1
 ·refine PySem.W.kla_makeFunctionHit hcl I.ok.glob (I.mod.glob.keeps I.bk) hcode C hPh ht hf hb fun ctv h' tk hk hsz=>?_
  have hfn:H h'.objs.size=none:=I.hok.fresh hsz
  have hfr:(PySem.W.kla_obj "<lambda>" (X.env.qual++"<lambda>") params body scope cl ((X.mg "__name__").getD .none) c' ctv).isFreed=false:=rfl
  generalize hobj:PySem.W.kla_obj "<lambda>" (X.env.qual++"<lambda>") params body scope cl ((X.mg "__name__").getD .none) c' ctv=ob at *
  have I1:Inv X pins σ (upd H h'.objs.size (LamO h'.objs.size ob)) { s with heap:=h'.push ob,toks:=tk }:=I.laid (fun b o e=>Heap.get?_push_of_some _ (hk b o e)) hsz ⟨Heap.get?_push_size _ hfr,⟨_,Heap.get?_push_size _ hfr⟩,fun h1 h2 q z=>z _ q⟩
  have sm:Same H (upd H h'.objs.size (LamO h'.objs.size ob)):=fun b o e=>by rw[upd_ne (ne_of_none e hfn)];exact e
  refine⟨.ref h'.objs.size,_,by rw[<- hobj]at I1;rw[<- hobj];exact I1,rfl,q _ c' ctv _ (sm.grow P) (TabOk.same ⟨ps,hP,ht,.inr ⟨c',hf,hc'⟩⟩ sm) hfn (by rw[hobj];exact upd_same) (sm _ _ hc')⟩
end
def tRngV (ta:TA):TE:=fun σ H Q=>ta σ H fun vs H1=>∃ n:Nat,vs=[.int n]/\n<=1000/\∀ r,H1 r=none->Q (.ref r) (upd H1 r (.rng 0 n))
section
variable {X:Cx}
theorem pe_rngV {a:Expr}{ta:TA}{p pos:Pos}(hg:Gl X "range")(hm:X.mg "range"=none)(ha:PA X [a] ta)(hs:starEach [a] X.env=[(false,eval a X.env)]:=by rfl):PE X (.Call (.Name "range" p) [a] [] pos) (tRngV ta):=by
 intro pins s σ H Q I h
 refine Call_ (ld_blt I hg hm boot_range (PyProof.Rows.callWith_type1 (thn (ha pos pins s σ H _ I h) fun us s1 ⟨vs,H1,I1,r1,q1⟩=>?_) hs rfl))
 obtain⟨n,e,hn,q⟩:=q1
 subst e
 cases r1 with
 | cons r rr =>
  cases rr
  obtain⟨t,rfl⟩:=r
  refine call_range_1 ?_
  have hf:H1 s1.heap.objs.size=none:=I1.hok.fresh (Nat.le_refl _)
  exact⟨.ref s1.heap.objs.size,upd H1 s1.heap.objs.size (.rng 0 n),I1.laid (fun b o e=>Heap.get?_push_of_some _ e) (Nat.le_refl _) ⟨_,_,_,Heap.get?_push_size _ rfl⟩,rfl,q _ hf⟩
end
theorem ObjOk.there {P:Program}{w:World}{H:Hp}{h:Heap}{a:Addr}{o:HO}(x:ObjOk P w H h a o):∃ ob,h.get? a=some ob:=by
 cases o with
 | lst xs=>obtain⟨_,_,_,_,e⟩:=x;exact⟨_,e⟩
 | tup xs=>obtain⟨_,_,_,ob,e,_⟩:=x;exact⟨_,e⟩
 | dK kvs=>obtain⟨_,_,_,_,o,_,_,e,_⟩:=x;exact⟨_,e⟩
 | dT kvs=>obtain⟨_,_,_,_,o,_,_,e,_⟩:=x;exact⟨_,e⟩
 | set S n=>obtain⟨o,_,_,_,e,_⟩:=x;exact⟨_,e⟩
 | ins C dx fs=>obtain⟨_,_,_,e,_⟩:=x;exact⟨_,e⟩
 | own y=>obtain⟨ob,e⟩:=x;exact⟨ob,e⟩
 | xd fs=>obtain⟨_,⟨_,_,_,e,_⟩,_⟩:=x;exact⟨_,e⟩
 | rng lo hi=>obtain⟨_,_,_,e⟩:=x;exact⟨_,e⟩
 | frz ob u=>obtain⟨e,_⟩:=x;exact⟨_,e⟩
 | tbl ps=>exact⟨_,(show h.get? a=some _ from x)⟩
 | met f y=>exact⟨_,(show h.get? a=some _ from x)⟩
 | ext φ=>obtain⟨_,⟨ob,e⟩,_⟩:=x;exact⟨ob,e⟩
theorem HOk.stays {P:Program} {w:World} {H:Hp} {h h':Heap} (ok:HOk P w H h) (k:∀ b o,h.get? b=some o->H b≠none->h'.get? b=some o):HOk P w H h':=fun a o e =>
 (ok a o e).stay (fun b u hb q => k b u q (by
  rcases hb with z | z
  ·rw[z,e];simp
  ·rw[z];simp)) (fun _ q=>q) fun _ _ q=>q
def Flies (outer:List Env)(x:Addr)(cls:Value)(h0:Heap)(H':Hp)(h':Heap):Prop:=
 ∃ (B:Heap) (a0:Value),Heap.FlyingW B outer x cls a0 h'/\∀ b o,h'.get? b=some o->(H' b≠none\/h0.get? b≠none)->b∉frs outer->B.get? b=some o
def CXE (P:Program)(w:World):CXT:=fun outer H s E e s' =>
 ∃ (x:Addr) (cls:Value) (H':Hp),e=.ref x/\s'.os=s.os/\AllBare s'.gens/\Un (frs outer) [] H H' s.heap s'.heap/\HOk P w H' s'.heap/\s.heap.get? x=none/\H' x=none/\Flies outer x cls s.heap H' s'.heap/\E cls none H'
theorem Un.onto {fs:List Addr}{H H':Hp}{h h' h'':Heap}(u:Un fs [] H H' h h')(stay:∀ b o,h'.get? b=some o->h.get? b≠none->b∉fs->h''.get? b=some o)
  (slots:∀ b o,h'.get? b=some o->h.get? b≠none->b∈fs->∃ sl,h''.get? b=some { o with slots:=sl }):Un fs [] H H' h h'' where
 keep:=fun b o e n hb hx=>stay b o (u.keep b o e n hb hx) (by rw[e];simp) hb
 slot:=fun b o e n hb hx=>by
  obtain⟨sl,e1⟩:=u.slot b o e n hb hx
  obtain⟨sl2,e2⟩:=slots b _ e1 (by rw[e];simp) hb
  exact⟨sl2,e2⟩
 free:=u.free
 there:=fun b o e hx=>by
  obtain⟨o',e1⟩:=u.there b o e hx
  by_cases hb:b∈fs
  ·obtain⟨sl,e2⟩:=slots b o' e1 (by rw[e];simp) hb
   exact⟨_,e2⟩
  ·exact⟨o',stay b o' e1 (by rw[e];simp) hb⟩
 tups:=u.tups
 frzs:=u.frzs
 tbls:=u.tbls
theorem some_of_ne {α:Type}{o:Option α}(h:o≠none):∃ x,o=some x:=by
 cases o with
 | none=>exact absurd rfl h
 | some x=>exact⟨x,rfl⟩
theorem frs_cons {env:Env}{outer:List Env}{L:Addr}(h:env.frame=some L):frs (env::outer)=L::frs outer:=by
 unfold frs
 rw[List.filterMap_cons,h]
section
variable {P:Program} {w:World} {K:W.Frag} {mg:Str->Option Value} {base:Heap} {N:List Str} {qual:Str} {scope:Scope} {f:Addr} {cd:Value} {A:Around} {outer:List Env} {s:Shared} {H:Hp} {E:XK}
 {pins:List (Addr × Obj)} {σ:St} {H1:Hp} {s1:Shared}
theorem xe_made {e:Addr}{cls:Value}{vs:List Value}{h2:Heap}(I:Inv (cxOf (CXE P w) P w K mg base N qual scope f cd A outer s H E) pins σ H1 s1)(hx:Heap.MadeExcOf s1.heap h2 e cls vs)(hE:E cls none H1) :
  (cxOf (CXE P w) P w K mg base N qual scope f cd A outer s H E).xe (.ref e) { s1 with heap:=h2 }:=by
 have hst:=I.stack
 have hfr:=I.ok.frames
 have hlt:=I.lt
 have hL:=I.free
 have hab:=I.ok.above
 have hbs:Un (frs outer) [] H H1 s.heap s1.heap:=I.base
 change s1.heap.FunFrames base (envOfC qual scope s.heap.objs.size f cd::outer) at hst
 change (A.deeper (envOfC qual scope s.heap.objs.size f cd)).frames=some (envOfC qual scope s.heap.objs.size f cd::outer) at hfr
 change H1 s.heap.objs.size=none at hL
 have hff:frs (envOfC qual scope s.heap.objs.size f cd::outer)=s.heap.objs.size::frs outer:=frs_cons rfl
 have hin:∀ env∈(envOfC qual scope s.heap.objs.size f cd::outer),∀ b,env.frame=some b->b∈frs (envOfC qual scope s.heap.objs.size f cd::outer):=fun env he b hb=>List.mem_filterMap.mpr ⟨env,he,hb⟩
 have old:∀ b,(H1 b≠none\/s.heap.get? b≠none)->b∉frs outer->∃ o,s1.heap.get? b=some o/\b∉frs (envOfC qual scope s.heap.objs.size f cd::outer):=fun b hb hno=>by
  have hne:b≠s.heap.objs.size:=by
   rcases hb with z | z
   ·intro q;rw[q]at z;exact z hL
   ·obtain⟨o,z⟩:=some_of_ne z
    exact Nat.ne_of_lt (Heap.lt_size z)
  have hex:∃ o,s1.heap.get? b=some o:=by
   rcases hb with z | z
   ·obtain⟨o,z⟩:=some_of_ne z
    exact(I.hok b o z).there
   ·obtain⟨o,z⟩:=some_of_ne z
    exact hbs.there b o z (by simp)
  obtain⟨o,ho⟩:=hex
  refine⟨o,ho,?_⟩
  rw[hff]
  intro hm
  rcases List.mem_cons.mp hm with q | q
  ·exact hne q
  ·exact hno q
 have eNew:s.heap.get? e=none:=by
  cases q:s.heap.get? e with
  | none=>rfl
  | some o =>
   obtain⟨o',z⟩:=hbs.there e o q (by simp)
   rw[hx.new]at z
   cases z
 have eFree:H1 e=none:=by
  cases q:H1 e with
  | none=>rfl
  | some o =>
   obtain⟨o',z⟩:=(I.hok e o q).there
   rw[hx.new]at z
   cases z
 refine wpAny_leaves_madeW (base:=PySem.W.hideAll s1.heap (frs (envOfC qual scope s.heap.objs.size f cd::outer))) hfr rfl (fun b o q=>PySem.W.of_hideAll _ q) (PySem.W.funFrames_hide hst hin) hx fun h' t x1 x2 x3 x4=>?_
 have stay:∀ b o,s1.heap.get? b=some o->(H1 b≠none\/s.heap.get? b≠none)->b∉frs outer->h'.get? b=some o:=fun b o ho hb hno=>by
  obtain⟨o',ho',hm⟩:=old b hb hno
  rw[ho]at ho'
  cases ho'
  exact x1.1 b o (PySem.W.hideAll_get _ ho hm)
 have frNone:∀ b∈frs outer,H1 b=none:=fun b hb=>I.stkFree b (by
  show b∈frs (envOfC qual scope s.heap.objs.size f cd::outer)
  rw[hff]
  exact List.mem_cons_of_mem _ hb)
 refine⟨e,cls,H1,rfl,I.os,I.bare,hbs.onto (fun b o ho hh hno=>stay b o ho (.inr hh) hno) (fun b o ho hh hm=>?_),I.hok.stays fun b o ho hh=>stay b o ho (.inl hh) fun hm=>hh (frNone b hm),eNew,eFree,⟨_,_,x1,fun b o ho hb hno=>?_⟩,hE⟩
 ·obtain⟨_,o',ho',hd⟩:=hst.mem (b:=b) (by
   show b∈frs (envOfC qual scope s.heap.objs.size f cd::outer)
   rw[hff]
   exact List.mem_cons_of_mem _ hm)
  rw[ho]at ho'
  cases ho'
  exact x4 b o (hx.keeps b o ho) hd
 ·obtain⟨o',ho',hm⟩:=old b hb hno
  have:=stay b o' ho' hb hno
  rw[ho]at this
  cases this
  exact PySem.W.hideAll_get _ ho' hm
theorem passE:Passes (CXE P w) (cxOf (CXE P w) P w K mg base N qual scope f cd A outer s H E) E:=by
 intro pins σ H1 s1 e s2 I hc
 obtain⟨x,cls,H2,rfl,hos,hb2,u,hok,new,hxn,⟨B,a0,fl,st⟩,hE⟩:=hc
 have hst:=I.stack
 have hfr:=I.ok.frames
 have hL:=I.free
 have hbs:Un (frs outer) [] H H1 s.heap s1.heap:=I.base
 change s1.heap.FunFrames base (envOfC qual scope s.heap.objs.size f cd::outer) at hst
 change (A.deeper (envOfC qual scope s.heap.objs.size f cd)).frames=some (envOfC qual scope s.heap.objs.size f cd::outer) at hfr
 change H1 s.heap.objs.size=none at hL
 change Un (frs (envOfC qual scope s.heap.objs.size f cd::outer)) [] H1 H2 s1.heap s2.heap at u
 change Heap.FlyingW B (envOfC qual scope s.heap.objs.size f cd::outer) x cls a0 s2.heap at fl
 have hff:frs (envOfC qual scope s.heap.objs.size f cd::outer)=s.heap.objs.size::frs outer:=frs_cons rfl
 have st':∀ b o,s2.heap.get? b=some o->(H2 b≠none\/s1.heap.get? b≠none)->b∉frs (envOfC qual scope s.heap.objs.size f cd::outer)->B.get? b=some o:=st
 rw[hff]at u st'
 have hLo:∃ o,s1.heap.get? s.heap.objs.size=some o:=by
  obtain⟨m,⟨o,_,_,ho,_⟩,_⟩:=I.loc
  exact⟨o,ho⟩
 have hL2:H2 s.heap.objs.size=none:=by
  obtain⟨o,ho⟩:=hLo
  exact u.free _ o ho hL (by simp)
 have old:∀ b,(H2 b≠none\/s.heap.get? b≠none)->b∉frs outer->∃ o,s2.heap.get? b=some o/\B.get? b=some o:=fun b hb hno=>by
  have hne:b≠s.heap.objs.size:=by
   rcases hb with z | z
   ·intro q;rw[q]at z;exact z hL2
   ·obtain⟨o,z⟩:=some_of_ne z
    exact Nat.ne_of_lt (Heap.lt_size z)
  have hm:b∉s.heap.objs.size::frs outer:=fun hm=>by
   rcases List.mem_cons.mp hm with q | q
   ·exact hne q
   ·exact hno q
  rcases hb with z | z
  ·obtain⟨o,z'⟩:=some_of_ne z
   obtain⟨o',ho⟩:=(hok b o z').there
   exact⟨o',ho,st' b o' ho (.inl z) hm⟩
  ·obtain⟨o,z⟩:=some_of_ne z
   obtain⟨o1,h1⟩:=hbs.there b o z (by simp)
   obtain⟨o2,h2⟩:=u.there b o1 h1 (by simp)
   exact⟨o2,h2,st' b o2 h2 (.inr (by rw[h1];simp)) hm⟩
 have u2:Un (frs outer) [] H H2 s.heap s2.heap:=by
  refine⟨fun b o e n hb hx=>?_,fun b o e n hb hx=>?_,fun b o e n hx=>?_,fun b o e hx=>?_,fun b xs e=>u.tups b xs (hbs.tups b xs e),fun b o v e=>u.frzs b o v (hbs.frzs b o v e),fun b ps e=>?_⟩
  ·refine u.keep b o (hbs.keep b o e n hb hx) (hbs.free b o e n hx) (fun hm=>?_) hx
   rcases List.mem_cons.mp hm with q | q
   ·exact Nat.ne_of_lt (Heap.lt_size e) q
   ·exact hb q
  ·obtain⟨sl,e1⟩:=hbs.slot b o e n hb hx
   obtain⟨sl2,e2⟩:=u.slot b _ e1 (hbs.free b o e n hx) (List.mem_cons_of_mem _ hb) hx
   exact⟨sl2,e2⟩
  ·obtain⟨o',e1⟩:=hbs.there b o e hx
   exact u.free b o' e1 (hbs.free b o e n hx) hx
  ·obtain⟨o',e1⟩:=hbs.there b o e hx
   exact u.there b o' e1 hx
  ·obtain⟨m1,e1⟩:=hbs.tbls b ps e
   obtain⟨m2,e2⟩:=u.tbls b _ e1
   exact⟨m1++m2,by rw[e2,Array.append_assoc]⟩
 have frNone:∀ b∈frs outer,H2 b=none:=fun b hb=>by
  have h1:=I.stkFree b (by
   show b∈frs (envOfC qual scope s.heap.objs.size f cd::outer)
   rw[hff]
   exact List.mem_cons_of_mem _ hb)
  obtain⟨_,o,ho,_⟩:=hst.mem (b:=b) (by
   show b∈frs (envOfC qual scope s.heap.objs.size f cd::outer)
   rw[hff]
   exact List.mem_cons_of_mem _ hb)
  exact u.free b o ho h1 (by simp)
 refine wpAny_leaves_onW hfr rfl fl fun h' x1 x2=>?_
 have stay:∀ b o,s2.heap.get? b=some o->(H2 b≠none\/s.heap.get? b≠none)->b∉frs outer->h'.get? b=some o:=fun b o ho hb hno=>by
  obtain⟨o',ho',hB⟩:=old b hb hno
  rw[ho]at ho'
  cases ho'
  exact x1.1 b o hB
 refine⟨x,cls,H2,rfl,hos.trans I.os,hb2,u2.onto (fun b o ho hh hno=>stay b o ho (.inr hh) hno) (fun b o ho hh hm=>?_),hok.stays fun b o ho hh=>stay b o ho (.inl hh) fun hm=>hh (frNone b hm),?_,hxn,⟨B,a0,x1,fun b o ho hb hno=>?_⟩,hE⟩
 ·obtain⟨_,o',ho',hd⟩:=fl.2.2.1.mem (b:=b) (by
   show b∈frs (envOfC qual scope s.heap.objs.size f cd::outer)
   rw[hff]
   exact List.mem_cons_of_mem _ hm)
  rw[ho]at ho'
  cases ho'
  exact x2 b o ho hd
 ·cases q:s.heap.get? x with
  | none=>rfl
  | some o =>
   obtain⟨o',z⟩:=hbs.there x o q (by simp)
   rw[new]at z
   cases z
 ·obtain⟨o',ho',hB⟩:=old b hb hno
  have:=stay b o' ho' hb hno
  rw[ho]at this
  cases this
  exact hB
end
theorem Fun.okX {P:Program} {w:World} {K:W.Frag} {mg:Str->Option Value} {base:Heap} {x qual:Str} {st:Stmt} {f:Addr} {fd:FuncData} {N ps:List Str} {k:Nat} {sp:Sp} (F:Fun K x qual st f fd) (S:FnScope N ps (defScope st)) (len:∀ vs H Q E,sp vs H Q E->vs.length=ps.length)
  (hbody : ∀ (cdv : Value) (A : Around) (outer : List Env) (s : Shared) (H : Hp) (vs : List V) (Q : VK) (E : XK), Room k (A.deeper (envOfC qual (defScope st) s.heap.objs.size f cdv)) -> sp vs H Q E ->
   ∃ t,PSs (cxOf (CXE P w) P w K mg base N qual (defScope st) f cdv A outer s H E) (defBody st) t/\t { nx:=fun _ H'=>Q .non H',rt:=Q } (start N vs) H):FnOk P w K mg base (CXE P w) (k+1) f fd ps sp:=by
 obtain⟨oc,od,kV,doc,pm,an,cdv,ct,osl,rfl,lk,hcd⟩:=F.ex
 exact fn_of lk hcd S len fun A outer s H vs Q E hr hsp=>hbody cdv A outer s H vs Q E hr hsp
theorem po_leave {P:Program}{w:World}{K:W.Frag}{mg:Str->Option Value}{base:Heap}{N:List Str}{qual:Str}{scope:Scope}{f:Addr}{cd:Value}{A:Around}{outer:List Env}{s:Shared}{H:Hp}{E:XK} :
  PassesOwn (model P w) (cxOf (CXE P w) P w K mg base N qual scope f cd A outer s H E).A (cxOf (CXE P w) P w K mg base N qual scope f cd A outer s H E).env (cxOf (CXE P w) P w K mg base N qual scope f cd A outer s H E).xe:=PassesOwn.leaving
structure ExcC (K:W.Frag) (C:Addr):Prop where
 q:PySem.W.excIn K C [.type "ValueError",.type "Exception",.type "BaseException",.type "object"] "ValueError.__new__"=true
abbrev bmV:List Value:=[.type "ValueError",.type "Exception",.type "BaseException",.type "object"]
theorem exc_at {K:W.Frag}{h:Heap}{C:Addr}(KI:K.In h)(c:ExcC K C):∃ bm N nm q bs hd sn sub ab col dd k0 k1 k2 k3 k5 mN,h.get? C=some (excClassObj nm q C N bs bm hd sn sub ab col dd k0 k1 k2 k3 k5 "ValueError.__new__") /\
  h.Ns N mN/\mN "__init__"=none/\OwnTail h bmV bm:=by
 have z:=c.q
 revert z
 unfold PySem.W.excIn
 split
 ·rename_i d1 c1 s1 hl
  split
  ·rename_i D bm y0 y1 y2 y3 nn y5 e1 e2
   intro z
   rw[Bool.and_eq_true,Bool.and_eq_true,Bool.and_eq_true,Bool.and_eq_true,Bool.and_eq_true]at z
   obtain⟨⟨⟨⟨⟨z1,z2⟩,z3⟩,z4⟩,z5⟩,z6⟩:=z
   have z1':D=C:=beq_iff_eq.mp z1
   have z2':nn="ValueError.__new__":=beq_iff_eq.mp z2
   have z6':=beq_iff_eq.mp z6
   subst z1' z2'
   obtain⟨w1,w2,w3,w4,w5,w6,w7,w8,w9,w10,w11⟩:=c1
   dsimp only at e1 z3 z5 z6'
   subst e1
   have z3':w11=false:=by simpa using z3
   subst z3'
   have e3:s1=#[y0,y1,y2,y3,some (.builtin "ValueError.__new__"),y5]:=by
    obtain⟨l1⟩:=s1
    exact congrArg Array.mk e2
   subst e3
   exact⟨bm,w4,w1,w5,w2,w6,w7,w8,w9,w10,d1,y0,y1,y2,y3,y5,_,KI _ _ hl,.of_isNs (PySem.W.isNs_of_in KI z5),PySem.W.nsMap_none_of_in KI z5 z6',PySem.W.tail_of_in KI z4⟩
  ·intro z;cases z
 ·intro z;cases z
section
variable {P:Program} {w:World} {K:W.Frag} {mg:Str->Option Value} {base:Heap} {N:List Str} {qual:Str} {scope:Scope} {f:Addr} {cd:Value} {A:Around} {outer:List Env} {s:Shared} {H:Hp} {E:XK}
def tRaise (E:XK)(C:Addr):TS:=fun _ _ H=>E (.ref C) none H
theorem ps_raise {x txt:Str}{C:Addr}{j:Nat}{np cp ep pos:Pos}(hg:Gl (cxOf (CXE P w) P w K mg base N qual scope f cd A outer s H E) x)(hm:mg x=some (.ref C))(c:ExcC K C)(hd:(x == ("__debug__":Str))=false:=by decide) :
  PS (cxOf (CXE P w) P w K mg base N qual scope f cd A outer s H E) (.Raise (some (.Call (.Name x np) [.Constant (.str txt) j cp] [] ep)) none pos) (tRaise E C):=by
 intro pins s1 σ H1 D I hE
 have hh:(cxOf (CXE P w) P w K mg base N qual scope f cd A outer s H E).A.handled=none:=I.ok.hd rfl
 obtain⟨bm,N',nm,q,bs,hdc,sn,sub,ab,col,dd,k0,k1,k2,k3,k5,mN,hC,hN,hni,T⟩:=exc_at I.kIn c
 refine wpAny_Raise_call_subT (C:=C) (nm:=nm) (q:=q) (N:=N') (bs:=bs) (bm:=bm) (hdct:=hdc) (sn:=sn) (sub:=sub) (ab:=ab) (col:=col) (dd:=dd) (k0:=k0) (k1:=k1) (k2:=k2) (k3:=k3) (k5:=k5)
  PySem.F.excBase_ValueError (mN:=mN) (T.hasType (by decide +kernel)) hh rfl hni (ld_glob I hg hm ⟨rfl,?_⟩ hd)
 refine Calls.evalArgs_plain ?_
 refine PyProof.Rows.spliced_more (Calls.Constant_str ?_)
 refine PyProof.Rows.spliced_none ⟨rfl,by show 1<=sizeLine;decide,hC,hN,T,fun h' e hx=>?_⟩
 exact xe_made (I.tok _) hx hE
end
def tryCx (X:Cx)(pins:List (Addr × Obj))(E:St->XK):Cx:={ X with pn:=X.pn++pins,xe:=fun e s'=>∃ σ H s,Inv X pins σ H s/\CXE X.prog X.w X.stack H s (E σ) e s' }
def hdCx (X:Cx)(v:Value):Cx:={ X with A:=X.A.mark (some v),calm:=false,xe:=fun _ _=>False }
section
variable {X:Cx} {pins pins':List (Addr × Obj)} {σ:St} {H:Hp} {s:Shared} {E:St->XK}
theorem Inv.toTry (I:Inv X pins σ H s):Inv (tryCx X pins E) [] σ H s:=
  ⟨⟨I.ok.mod, I.ok.kind, I.ok.glob, I.ok.blt, I.ok.above, I.ok.inj, I.ok.has, I.ok.cab, I.ok.hd, I.ok.frames, I.ok.stk, I.ok.exf, I.ok.bs, I.ok.bsz, I.ok.noex, I.ok.exfs, I.ok.funs, I.ok.frf⟩,
    I.os,I.bare,I.base,I.loc,I.cell,I.free,I.freeC,fun p hp=>I.pin p (by
      rcases List.mem_append.mp hp with z | z
      · exact z
      · cases z),I.hok,I.len⟩
theorem Inv.ofTry (I:Inv (tryCx X pins E) pins' σ H s):Inv X pins σ H s:=
  ⟨⟨I.ok.mod, I.ok.kind, I.ok.glob, I.ok.blt, I.ok.above, I.ok.inj, I.ok.has, I.ok.cab, I.ok.hd, I.ok.frames, I.ok.stk, I.ok.exf, I.ok.bs, I.ok.bsz, I.ok.noex, I.ok.exfs, I.ok.funs, I.ok.frf⟩,
    I.os,I.bare,I.base,I.loc,I.cell,I.free,I.freeC,fun p hp=>I.pin p (List.mem_append_left _ hp),I.hok,I.len⟩
theorem Inv.toHd (I:Inv X pins σ H s) (v:Value):Inv (hdCx X v) pins σ H s:=
  ⟨⟨I.ok.mod, I.ok.kind, I.ok.glob, I.ok.blt, I.ok.above, I.ok.inj, I.ok.has, I.ok.cab, (fun z => by cases z), I.ok.frames, I.ok.stk, I.ok.exf, I.ok.bs, I.ok.bsz, I.ok.noex, I.ok.exfs, I.ok.funs, I.ok.frf⟩,
    I.os,I.bare,I.base,I.loc,I.cell,I.free,I.freeC,I.pin,I.hok,I.len⟩
theorem Inv.ofHd {v:Value} (I:Inv (hdCx X v) pins σ H s) (hd:X.calm=true->X.A.handled=none):Inv X pins σ H s:=
  ⟨⟨I.ok.mod, I.ok.kind, I.ok.glob, I.ok.blt, I.ok.above, I.ok.inj, I.ok.has, I.ok.cab, hd, I.ok.frames, I.ok.stk, I.ok.exf, I.ok.bs, I.ok.bsz, I.ok.noex, I.ok.exfs, I.ok.funs, I.ok.frf⟩,
    I.os,I.bare,I.base,I.loc,I.cell,I.free,I.freeC,I.pin,I.hok,I.len⟩
end
section
variable {X:Cx} {CX:CXT} {k:Nat} {f:Addr} {fd:FuncData} {ps:List Str} {sp:Sp} {E:St->XK} {x:Str} {p pos:Pos} {e:Expr} {es:List Expr} {t:TA}
end
section
variable {X:Cx} {pins:List (Addr × Obj)} {σ:St} {H:Hp} {s:Shared}
end
end L2
set_option maxRecDepth 100000
namespace L2
open PySem PySem.Spec PyProof.Rows PySem.W
structure ExcK (K:W.Frag) (C:Addr):Prop where
 ga:findIn K (.ref C) "__getattribute__"=some (some (.builtin "BaseException.__getattribute__"))
 na:findIn K (.ref C) "__getattr__"=some none
 cl:findIn K (.ref C) "__class__"=some (some (.builtin "object.__class__"))
 sb:subIn K (.ref C) (.type "BaseException")=some true
 so:subIn K (.ref C) (.type "object")=some true
 cs:(clsIn K C).isSome=true
section
variable {prog:Program} {w:World} {A:Around} {E:Value->Shared->Prop} {h:Heap} {g:Array GenState} {d:Drawn} {t:Nat} {os:OsState} {a C:Addr} {o:Obj} {K:W.Frag}
end
section
variable {X:Cx}
end
end L2
namespace L2
open PySem PySem.Spec PyProof.Rows
theorem Fun.okXC {P:Program} {w:World} {K:W.Frag} {mg:Str->Option Value} {base:Heap} {x qual:Str} {st:Stmt} {f c:Addr} {fd:FuncData} {N ps:List Str} {k:Nat} {sp:Sp} (F:Fun K x qual st f fd) (hc:fd.code=.ref c) (S:FnScope N ps (defScope st)) (len:∀ vs H Q E,sp vs H Q E->vs.length=ps.length)
  (hbody : ∀ (A : Around) (outer : List Env) (s : Shared) (H : Hp) (vs : List V) (Q : VK) (E : XK), Room k (A.deeper (envOfC qual (defScope st) s.heap.objs.size f (.ref c))) -> sp vs H Q E ->
   ∃ t,PSs (cxOf (CXE P w) P w K mg base N qual (defScope st) f (.ref c) A outer s H E) (defBody st) t/\t { nx:=fun _ H'=>Q .non H',rt:=Q } (start N vs) H):FnOk P w K mg base (CXE P w) (k+1) f fd ps sp:=by
 obtain⟨oc,od,kV,doc,pm,an,cdv,ct,osl,rfl,lk,hcd⟩:=F.ex
 have hc':cdv=.ref c:=hc
 subst hc'
 exact fn_of lk hcd S len fun A outer s H vs Q E hr hsp=>hbody A outer s H vs Q E hr hsp
theorem tab_code {K:W.Frag}{x:Str}{c P f:Addr}{oc:Value}{od:Option Addr}{fd:FuncData}{sl:Array (Option Value)}(ht:PySem.W.tabIn K x=some (c,P))(hn:PySem.W.nsIn K mainGlobals x=some (some (.ref f)))(hl:K.lookup f=some ⟨oc,od,.func fd,sl⟩):fd.code=.ref c:=by
 unfold PySem.W.tabIn at ht
 rw[hn]at ht
 dsimp only at ht
 rw[hl]at ht
 dsimp only at ht
 split at ht
 ·rename_i c₂ hc
  split at ht
  ·split at ht
   ·cases ht;exact hc
   ·cases ht
  ·cases ht
 ·cases ht
theorem law_callT {P:Program}{w:World}{K:W.Frag}{mg mb:Str->Option Value}{CX:CXT}{k:Nat}{fa a:Addr}{fd:FuncData}{x:Str}{sp:Sp}{s₁:Shared}{vs:List Value}{ns:List Int}{ts:List (Addr × Addr)}(hT:PySem.W.TabsAt ts s₁.heap)(hK0:PySem.W.noTabs K=true)
  (hbm:∃ bm ob,mg "__builtins__"=some (.ref bm)/\bm≠builtinsNs/\s₁.heap.get? bm=some ob/\ob.cls=.type "module"/\ob.dict=some builtinsNs/\ob.data=.plain)
  (KX:K.In s₁.heap)(hns:s₁.heap.Ns mainGlobals mg)(hb:s₁.heap.Ns builtinsNs mb)(hbb:∀ x:Str,x≠"__name__"->mb x=bootBuiltins x)(hlim:s₁.heap.NoLimit)(hg:s₁.gens=#[])
  (ha:s₁.heap.get? a=some { cls:=.type "list",data:=.seq vs.toArray })(hi:IntsAre vs ns)(hl:ns.length<=sizeLine)(hr:Room k callerA)
  (F:∀ base:Heap,K.In base->base.Ns mainGlobals mg->(∀ q∈ts,LamB base mg q.1 q.2)->FnOk P w K mg base CX k fa fd [x] sp)(hbind:∀ (s:Shared) (u:Value),BindsTo s fd ⟨[u],[]⟩ [(x,u)])
  (hsp:∀ H:Hp,(∀ q∈ts,H q.2=some (.tbl #[]))->SqL K H a (ns.map V.int)->sp [.ref a] H (fun v _=>v=.bl true) fun _ _ _=>False)
  (hCX:∀ H e s',CX [] H s₁ (fun _ _ _=>False) e s'->False) :
  codeAny (model P w) callerA (.call (.ref fa) ⟨[.ref a],[]⟩) (fun r s'=>r=.ok (.ret (.bool true))/\OldK s₁.heap s'.heap/\s'.os=s₁.os/\AllBare s'.gens) s₁:=by
 have rv:=vals_ints hi
 have lenV:=hi.length
 have tabO:∀ b,b∈ts.map (·.2)->s₁.heap.get? b=some (PySem.W.tabObj #[]):=fun b hb=>by
  obtain⟨q,hq,rfl⟩:=List.mem_map.mp hb
  exact(hT q hq).2
 have aT:a∉ts.map (·.2):=fun z=>by
  have e:=tabO a z
  rw[ha]at e
  cases e
 have core:∀ H:Hp,(∀ b,b∈ts.map (·.2)->H b=some (.tbl #[]))->(∀ b,b∉ts.map (·.2)->H b=none\/∃ o xs,H b=some (.frz o (.lst xs)))->SqL K H a (ns.map V.int)->HOk P w H s₁.heap->(∀ b,H b≠none->b=a\/b∈ts.map (·.2))->(H a≠none->K.lookup a=none) ->
   codeAny (model P w) callerA (.call (.ref fa) ⟨[.ref a],[]⟩) (fun r s'=>r=.ok (.ret (.bool true))/\OldK s₁.heap s'.heap/\s'.os=s₁.os/\AllBare s'.gens) s₁:=by
  intro H hHt hO hS hok hA hK
  have base_of:∀ {b:Addr} {o:Obj},s₁.heap.get? b=some o->H b=none->(hidT s₁.heap H).get? b=some o:=fun e n=>hidT_get e n
  have free_of:∀ {b:Addr} {o:Obj},s₁.heap.get? b=some o->(∀ xs n,o≠{ cls:=.type "list",data:=.seq xs n })->o≠PySem.W.tabObj #[]->H b=none:=fun {b o} e n1 n2=>by
   cases q:H b with
   | none=>rfl
   | some u =>
    rcases hA b (by rw[q];simp) with e' | e'
    ·subst e'
     rw[ha]at e;cases e
     exact absurd rfl (n1 _ _)
    ·rw[tabO b e']at e;cases e
     exact absurd rfl n2
  have noA:∀ {b:Addr} {o:Obj} {es:Array DictEntry} {ep:Nat},s₁.heap.get? b=some o->o.data=.dict es ep->H b=none:=fun {b o es ep} e d=>free_of e (fun xs n z=>by subst z;cases d) (fun z=>by subst z;cases d)
  have nsK:∀ {b:Addr} {m:Str->Option Value},s₁.heap.Ns b m->(hidT s₁.heap H).Ns b m:=fun {b m} ⟨o,es,ep,e,d,r⟩=>⟨o,es,ep,base_of e (noA e d),d,r⟩
  have hKb:K.In (hidT s₁.heap H):=fun b o e=>base_of (KX b o e) (by
   cases q:H b with
   | none=>rfl
   | some u =>
    rcases hA b (by rw[q];simp) with e' | e'
    ·subst e'
     rw[hK (by rw[q];simp)]at e;cases e
    ·have e1:=KX b o e
     rw[tabO b e']at e1
     cases e1
     have h2:=List.all_eq_true.mp hK0 _ (PySem.W.mem_of_lookupK e)
     exact absurd (show false=true from h2) Bool.false_ne_true)
  have hM:Mod K mg (hidT s₁.heap H):=⟨hKb,nsK hns,⟨mb,nsK hb,hbb⟩,let ⟨mc,h1,h2⟩:=hlim;⟨mc,nsK h1,h2⟩⟩
  have hLB:∀ q∈ts,LamB (hidT s₁.heap H) mg q.1 q.2:=fun q hq=>by
   obtain⟨C,eP⟩:=hT q hq
   refine⟨?_,?_,?_⟩
   ·obtain⟨o,vs,file,tf,flags,tg,inF,text,tt,e1,r1,r2⟩:=C
    exact⟨o,vs,file,tf,flags,tg,inF,text,tt,base_of e1 (free_of e1 (fun xs n z=>by subst z;exact absurd (show Value.type "list"=Value.type "code" from r1) (by decide)) (fun z=>by subst z;cases r1)),r1,r2⟩
   ·obtain⟨bm,ob,b1,b2,b3,b4,b5,b6⟩:=hbm
    refine⟨bm,ob,b1,b2,fun z=>?_,fun z=>?_,base_of b3 (free_of b3 (fun xs n z=>by subst z;exact absurd (show Value.type "list"=Value.type "module" from b4) (by decide)) (fun z=>by subst z;cases b4)),b4,b5,b6⟩
    ·obtain⟨o,es,ep,e,d,_⟩:=hns
     rw[z,e]at b3;cases b3;rw[d]at b6;cases b6
    ·rw[z,eP]at b3;cases b3;cases b4
   ·intro z
    obtain⟨o,es,ep,e,d,_⟩:=hns
    rw[z,eP]at e;cases e;cases d
  have e0:Env0 P w K mg (hidT s₁.heap H) callerA [] s₁ H:=⟨rfl,hM,fun b o e=>of_hidT e,Nat.le_of_eq (hidT_size _ _),trivial,fun b hb=>absurd (show b∈([]:List Addr) from hb) (by simp),hok,.of_eq hg⟩
  refine codeAny_mono ((F _ hKb (nsK hns) hLB).run callerA [] s₁ H ⟨[.ref a],[]⟩ [.ref a] [.ref a] _ _ hr e0 (hbind s₁ (.ref a)) (.cons rfl .nil) (hsp H (fun q hq=>hHt _ (List.mem_map_of_mem hq)) hS)) fun r s' h=>?_
  cases r with
  | error e=>exact(hCX H e s' h).elim
  | ok fl =>
   cases fl with
   | next=>exact False.elim h
   | brk=>exact False.elim h
   | cont=>exact False.elim h
   | ret u =>
    obtain⟨v,H',os,bare,un,hok',r',q⟩:=h
    have q':v=.bl true:=q
    subst q'
    obtain rfl:u=Value.bool true:=r'
    have keep:∀ b o,b∉ts.map (·.2)->s₁.heap.get? b=some o->s'.heap.get? b=some o:=fun b o hb e=>by
     rcases hO b hb with z | ⟨ob,xs,z⟩
     ·exact un.keep b o e z (by intro z;exact absurd (show b∈([]:List Addr) from z) (by simp)) (by simp)
     ·have z2:=un.frzs b ob _ z
      obtain⟨e1,_⟩:=hok b _ z
      obtain⟨e2,_⟩:=hok' b _ z2
      rw[e]at e1;cases e1
      exact e2
    have grown:∀ b o,b∈ts.map (·.2)->s₁.heap.get? b=some o->isCodeTable s₁.heap b/\o=PySem.W.tabObj #[]/\∃ ps,s'.heap.get? b=some (PySem.W.tabObj ps):=fun b o hb e=>by
     obtain⟨ps,hp⟩:=un.tbls b #[] (hHt b hb)
     have e2:=tabO b hb
     rw[e]at e2
     obtain⟨q,hq,eq⟩:=List.mem_map.mp hb
     have e3:s'.heap.get? b=some (PySem.W.tabObj (#[]++ps)):=hok' b _ hp
     refine⟨?_,Option.some.inj e2,_,e3⟩
     rw[<- eq]
     exact((hT q hq).1.tab (hT q hq).2).isCodeTable
    refine⟨rfl,⟨fun b o e=>?_,fun b o e=>?_⟩,os,bare⟩
    ·by_cases hb:b∈ts.map (·.2)
     ·obtain⟨ht,rfl,ps,hP⟩:=grown b o hb e
      exact .inr (.inl ⟨ht,rfl,#[],ps,rfl,by rw[Array.empty_append];exact hP⟩)
     ·exact .inl (keep b o hb e)
    ·by_cases hb:b∈ts.map (·.2)
     ·obtain⟨_,_,ps,hP⟩:=grown b o hb e
      exact⟨_,hP⟩
     ·exact⟨o,keep b o hb e⟩
 cases hk:K.lookup a with
 | some o =>
  have e:=KX a o hk
  rw[ha]at e
  cases e
  refine core (fun b=>if b∈ts.map (·.2) then some (.tbl #[]) else none) (fun b hb=>if_pos hb) (fun b hb=>.inl (if_neg hb)) (.inr ⟨_,vs.toArray,_,hk,rfl,rfl,rfl,by rw[List.size_toArray,lenV];exact hl,by simpa using rv⟩) (fun b u z=>?_) (fun b z=>?_) fun z=>absurd (if_neg aT) z
  ·by_cases hb:b∈ts.map (·.2)
   ·have z':=(if_pos hb).symm.trans z
    cases z'
    exact tabO b hb
   ·have z':=(if_neg hb).symm.trans z
    cases z'
  ·by_cases hb:b∈ts.map (·.2)
   ·exact .inr hb
   ·exact absurd (if_neg hb) z
 | none =>
  have e1:∀ b,b∈ts.map (·.2)->(if b∈ts.map (·.2) then some (HO.tbl #[]) else if b=a then some (.frz { cls:=.type "list",data:=.seq vs.toArray } (.lst (ns.map V.int))) else none)=some (HO.tbl #[]):=fun b hb=>if_pos hb
  have e2:∀ b,b∉ts.map (·.2)->(if b∈ts.map (·.2) then some (HO.tbl #[]) else if b=a then some (.frz { cls:=.type "list",data:=.seq vs.toArray } (.lst (ns.map V.int))) else none)=(if b=a then some (.frz { cls:=.type "list",data:=.seq vs.toArray } (.lst (ns.map V.int))) else none):=fun b hb=>if_neg hb
  refine core (fun b=>if b∈ts.map (·.2) then some (HO.tbl #[]) else if b=a then some (.frz { cls:=.type "list",data:=.seq vs.toArray } (.lst (ns.map V.int))) else none) e1 (fun b hb=>?_) (.inl (.inr ⟨{ cls:=.type "list",data:=.seq vs.toArray },(e2 a aT).trans (if_pos rfl)⟩)) (fun b u z=>?_) (fun b z=>?_) fun _=>hk
  ·rw[e2 b hb]
   by_cases hba:b=a
   ·exact .inr ⟨_,_,if_pos hba⟩
   ·exact .inl (if_neg hba)
  ·by_cases hb:b∈ts.map (·.2)
   ·have z':=(e1 b hb).symm.trans z
    cases z'
    exact tabO b hb
   ·have z1:=(e2 b hb).symm.trans z
    by_cases hba:b=a
    ·have z':=(if_pos hba).symm.trans z1
     cases z'
     subst hba
     exact⟨ha,by rw[List.length_map];exact hl,vs,_,rv,ha⟩
    ·have z':=(if_neg hba).symm.trans z1
     cases z'
  ·by_cases hb:b∈ts.map (·.2)
   ·exact .inr hb
   ·by_cases hba:b=a
    ·exact .inl hba
    ·exact absurd ((e2 b hb).trans (if_neg hba)) z
theorem walk_ofT {l:PySem.W.OpenLaw} {n k:Nat} {q:Program} {loose:List Str} {XP:(Str->Option Value)->Heap->Prop} {YP:World->Heap->Prop} {d:DefRec} {K:Params->PySem.W.Frag} {CX:World->CXT} {sp:World->List (Addr × Addr)->Sp} {x:Str} {ts:World->List (Addr × Addr)}
  (hn:l.most=some n) (hn2:n<=sizeLine) (hdf:d.params.defaults=[]) (hr:Room k callerA)
  (hY:∀ (w:World) (h:Heap),YP w h->(K w.params).In h) (hK0:∀ w:World,PySem.W.noTabs (K w.params)=true)
  (hts:∀ (w:World) (loose:List Str) (mean:ExcName->Option Value) (mg mb:Str->Option Value) (h:Heap),Top q loose mean mg mb h->(K w.params).In h->PySem.W.TabsAt (ts w) h)
  (F : ∀ (w : World) (mg : Str -> Option Value) (fa : Addr) (h : Heap), (K w.params).In h -> h.Ns mainGlobals mg -> mg d.name = some (.ref fa) ->
   ∃ fd:FuncData,(∀ (s:Shared) (u:Value),BindsTo s fd ⟨[u],[]⟩ [(x,u)]) /\
    ∀ base:Heap,(K w.params).In base->base.Ns mainGlobals mg->(∀ q∈ts w,LamB base mg q.1 q.2)->FnOk l.prog w (K w.params) mg base (CX w) k fa fd [x] (sp w (ts w)))
  (hsp:∀ (w:World) (H:Hp) (a:Addr) (ns:List Int),ns.length<=n->(∀ q∈ts w,H q.2=some (.tbl #[]))->SqL (K w.params) H a (ns.map V.int)->sp w (ts w) [.ref a] H (fun v _=>v=.bl true) fun _ _ _=>False)
  (hCX:∀ (w:World) (H:Hp) (s:Shared) (e:Value) (s':Shared),CX w [] H s (fun _ _ _=>False) e s'->False) :
  PySem.W.WalkO q loose XP YP l.row.toRowW d [] (fun f vs=>PySem.call f vs):=by
 refine Att.attach_call hn hdf fun w s₀ s₁ mg mb fa o pm cd doc a vs ns G Y ho hd hcd hmg hobj hints hlen hg=>?_
 have KX:=hY w _ Y
 obtain⟨fd,hb,hF⟩:=F w mg fa _ KX G.T.g hmg
 exact law_callT (hts w _ _ _ _ _ G.T KX) (hK0 w) G.T.bmain KX G.T.g G.T.b G.T.builtins G.T.nolimit hg hobj hints (Nat.le_trans hlen hn2) hr hF hb (fun H hO hS=>hsp w H a ns hlen hO hS) fun H e s'=>hCX w H s₁ e s'
section
variable {X:Cx}
theorem call_ins {prog:Program}{w:World}{A:Around}{E:Value->Shared->Prop}{s:Shared}{l:Addr}{items:Array Value}{n:Nat}{x:Int}{t:Tok}{u:Value}{Q:Value->Shared->Prop}(e:s.heap.get? l=some { cls:=.type "list",data:=.seq items n })(hsz:items.size<=sizeLine)(h0:-(2 ^ 63)<=x)(h1:x<2 ^ 63)
  (h:Q .none { s with heap:=s.heap.update l (Obj.mapSeq fun xs=>have k:=if x<0 then (x+(xs.size:Int)).toNat else min x.toNat xs.size;(xs.extract 0 k).push u++xs.extract k),toks:=s.toks }) :
  wpAny (model prog w) A (call (.builtin "list.insert") [.ref l,.int x t,u]) Q E s :=
 call_meets F.slot_list_insert ⟨_,e,rfl⟩ F.entry_list_insert (F.args_list_insert_3 _ _ _) (PySem.AutoSeq1.list_insert_list_int_val_1 l items n x t u (by rw[show Builtin.List.listFitsIndex x=true from fitsIndex_both h0 h1];decide) hsz) ⟨e,h⟩
def rInsert:V->List V->Hp->VK->Prop:=fun x vs H Q=>∃ l xs y,∃ i:Nat,x=.ref l/\vs=[.int i,y]/\H l=some (.lst xs)/\i<=xs.length/\xs.length<1000/\Q .non (upd H l (.lst (xs.take i++[y]++xs.drop i)))
theorem mt_insert:MtM X "list.insert" rInsert:=by
 intro pins s σ H x vs v us Q I rx rv h
 obtain⟨l,xs,y,i,rfl,rfl,hH,hi,hz0,q⟩:=h
 cases rx
 cases rv with
 | cons r1 rr =>
  cases rr with
  | cons ru rr =>
   cases rr
   obtain⟨t,rfl⟩:=r1
   rename_i u
   obtain⟨z,its,n,r,hl,e⟩:=I.lstM hH
   have hsl:1000<sizeLine:=by decide
   have hsz:its.toArray.size<=sizeLine:=by rw[List.size_toArray];omega
   refine call_ins (x:=(i:Int)) e hsz (Int.le_trans (show (-(2 ^ 63):Int)<=0 by decide) (Int.natCast_nonneg i)) (Int.lt_trans (show (i:Int)<1000 by omega) (by decide)) ?_
   refine⟨.non,_,I.lset (its':=its.take i++[u]++its.drop i) hH e ?_ ((r.take i).append (.cons ru .nil) |>.append (r.drop i)) ?_,rfl,q⟩
   ·have hk:(if (i:Int)<0 then ((i:Int)+(its.toArray.size:Int)).toNat else min (i:Int).toNat its.toArray.size)=i:=by
     rw[if_neg (by omega),List.size_toArray,Int.toNat_natCast]
     omega
    show ((its.toArray.extract 0 (if (i:Int)<0 then ((i:Int)+(its.toArray.size:Int)).toNat else min (i:Int).toNat its.toArray.size)).push u++its.toArray.extract (if (i:Int)<0 then ((i:Int)+(its.toArray.size:Int)).toNat else min (i:Int).toNat its.toArray.size))=_
    rw[hk]
    apply Array.toList_inj.mp
    simp
    exact List.take_of_length_le (by rw[List.length_drop];omega)
   ·rw[List.length_append,List.length_append,List.length_take,List.length_drop,List.length_singleton]
    omega
end
def okey (ns:List Int)(z:Int):List Int:=[-(ns.getD z.toNat 0),z]
theorem okey_ne (ns:List Int)(z:Int):∃ i k,okey ns z=i::k:=⟨_,_,rfl⟩
def ole (ns:List Int)(x y:Int):Prop:=Tim.lexB (okey ns y) (okey ns x)=false
theorem ole_iff {ns:List Int}{x y:Int}:ole ns x y↔(ns.getD y.toNat 0<ns.getD x.toNat 0\/(ns.getD x.toNat 0=ns.getD y.toNat 0/\x<=y)):=by
 unfold ole okey Tim.lexB
 by_cases h:-(ns.getD y.toNat 0) = -(ns.getD x.toNat 0)
 ·rw[if_pos h]
  unfold Tim.lexB
  by_cases h2:y=x
  ·rw[if_pos h2]
   simp only[Tim.lexB,true_iff]
   exact .inr ⟨by omega,by omega⟩
  ·rw[if_neg h2,decide_eq_false_iff_not]
   constructor
   ·intro h3;exact .inr ⟨by omega,by omega⟩
   ·intro h3 h4;omega
 ·rw[if_neg h,decide_eq_false_iff_not]
  constructor
  ·intro h3;exact .inl (by omega)
  ·intro h3 h4;omega
theorem ole_anti {ns:List Int}{x y:Int}(h1:ole ns x y)(h2:ole ns y x):x=y:=by
 rw[ole_iff]at h1 h2
 omega
theorem ole_uniq {ns zs zs' l:List Int}(p1:zs.Perm l)(p2:zs'.Perm l)(s1:zs.Pairwise (ole ns))(s2:zs'.Pairwise (ole ns)):zs=zs':=
 (p1.trans p2.symm).eq_of_pairwise (fun x y _ _ h1 h2=>ole_anti h1 h2) s1 s2
end L2
namespace Web
open PySem L2
def cntP (ks:List (List Int))(p:Nat):Nat:=ks.countP fun k=>decide ((p:Int)∈k)
def tal (n:Nat)(ks:List (List Int)):List Int:=(List.range n).map fun p=>(cntP ks p:Int)
theorem tal_len (n:Nat)(ks:List (List Int)):(tal n ks).length=n:=by simp[tal]
theorem tal_get {n:Nat}{ks:List (List Int)}{p:Nat}(h:p<n):(tal n ks)[p]?=some (cntP ks p:Int):=by
 unfold tal
 rw[List.getElem?_map,List.getElem?_range h]
 rfl
theorem cntP_perm {ks ls:List (List Int)}(h:ks.Perm ls)(p:Nat):cntP ks p=cntP ls p:=h.countP_eq _
theorem tal_perm {ks ls:List (List Int)}(h:ks.Perm ls)(n:Nat):tal n ks=tal n ls:=by
 unfold tal
 exact List.map_congr_left fun p _=>by rw[cntP_perm h]
theorem cntP_app (ks ls:List (List Int))(p:Nat):cntP (ks++ls) p=cntP ks p+cntP ls p:=List.countP_append
theorem cntP_one (i j p:Nat):cntP [[(i:Int),(j:Int)]] p=if p=i\/p=j then 1 else 0:=by
 unfold cntP
 rw[List.countP_singleton]
 by_cases h:p=i\/p=j
 ·rw[if_pos h,if_pos]
  simp only[decide_eq_true_eq,List.mem_cons,List.not_mem_nil,or_false]
  omega
 ·rw[if_neg h,if_neg]
  simp only[decide_eq_true_eq,List.mem_cons,List.not_mem_nil,or_false]
  omega
theorem tal_nil (n:Nat):tal n []=List.replicate n 0:=by
 unfold tal cntP
 rw[List.eq_replicate_iff]
 simp
theorem tal_put {n i j:Nat}(hi:i<n)(hj:j<n)(h:i≠j)(ks:List (List Int))(z1 z2:Int)(e1:z1=cntP ks i)(e2:z2=cntP ks j) :
  ((tal n ks).set i (z1+1)).set j (z2+1)=tal n (ks++[[(i:Int),(j:Int)]]):=by
 subst e1 e2
 refine List.ext_getElem? fun p=>?_
 by_cases hp:p<n
 ·rw[tal_get hp,cntP_app,cntP_one,List.getElem?_set,List.getElem?_set,List.length_set,tal_len,tal_get hp]
  by_cases q1:j=p
  ·subst q1
   rw[if_pos rfl,if_pos hj,if_pos (.inr rfl)]
   simp
  ·rw[if_neg q1]
   by_cases q2:i=p
   ·subst q2
    rw[if_pos rfl,if_pos hi,if_pos (.inl rfl)]
    simp
   ·rw[if_neg q2,if_neg (by omega)]
    simp
 ·rw[List.getElem?_eq_none (by simp[tal_len];omega),List.getElem?_eq_none (by rw[tal_len];omega)]
end Web
namespace HT
open PySem PyProof.Rows
section
variable {prog:Program} {w:World} {A:Around} {E:Value->Shared->Prop} {s:Shared}
end
end HT
namespace L2
open PySem PySem.Spec PyProof.Rows
section
variable {X:Cx} {e st:Expr} {te ts:TE} {pos p2:Pos}
def tCut (t u:TS):TS:=fun D σ H=>∃ Mid:St->Hp->Prop,t { D with nx:=Mid } σ H/\∀ σ' H',Mid σ' H'->u D σ' H'
theorem pss_cut {stm:Stmt}{rest:List Stmt}{t u:TS}(h1:PS X stm t)(h2:PSs X rest u):PSs X (stm::rest) (tCut t u):=by
 intro pins s σ H D I ⟨Mid,h,k⟩
 refine wpAny_execs_cons (thn (h1 pins s σ H { D with nx:=Mid } I h) fun f s1 q=>?_)
 cases f with
 | next =>
  obtain⟨σ',H',I',q⟩:=q
  exact h2 pins s1 σ' H' D I' (k _ _ q)
 | ret v=>exact q
 | brk=>exact q
 | cont=>exact q
end
section
variable {X:Cx} {pins:List (Addr × Obj)} {σ:St} {H:Hp} {s:Shared} {A:Around} {E:Value->Shared->Prop}
theorem seq_obj (I:Inv X pins σ H s){p:Addr}{ns:List Int}(hq:SqL X.K H p (ns.map V.int)\/SqT X.K H p (ns.map V.int)):∃ (vs:List Value) (T:String) (o:Obj) (c:Nat),(T="list"\/T="tuple")/\s.heap.get? p=some o/\o.cls=.type T/\o.data=.seq vs.toArray c/\IntsAre vs ns:=by
 rcases hq with hq | hq
 ·obtain⟨its,r',pl,hz⟩:=I.list hq
  obtain⟨o,ho,hc,n,hd⟩:=pl.isList
  exact⟨its,"list",o,n,.inl rfl,ho,hc,hd,intsAre_of r'⟩
 ·obtain⟨its,r',pl,hz⟩:=I.tuple hq
  obtain⟨o,ho,hc,n,hd⟩:=pl
  exact⟨its,"tuple",o,n,.inr rfl,ho,hc,hd,intsAre_of r'⟩
theorem sorted_end (I:Inv X pins σ H s){h1:Heap}{vs:List Value}{out:Array Value}{zs:List Int}(kp:∀ b o',s.heap.get? b=some o'->h1.get? b=some o')(hi:IntsAre out.toList zs)(hz:zs.length<=1000) :
  H h1.objs.size=none/\Inv X pins σ (upd H h1.objs.size (.lst (zs.map V.int))) { s with heap:=sortedHeap (h1.push (seqObj "list" vs.toArray 0)) h1.objs.size vs out }:=by
 have I1:Inv X pins σ H { s with heap:=h1,toks:=s.toks }:=I.kept kp
 refine⟨I1.hok.fresh (Nat.le_refl _),?_⟩
 have hoL:(h1.push (seqObj "list" vs.toArray 0)).get? h1.objs.size=some (seqObj "list" vs.toArray 0):=Heap.get?_push_size _ rfl
 obtain⟨e,he⟩:=sortedHeap_at (out:=out) hoL
 refine I1.laid (t':=s.toks) (fun b o q=>?_) (Nat.le_refl _) ⟨by rw[List.length_map,sizeLine_eq];omega,out.toList,e,vals_ints hi,by rw[Array.toArray_toList];exact he⟩
 have hb:b<h1.objs.size:=Heap.lt_size q
 rw[sortedHeap_old (Nat.ne_of_lt hb) (by rw[size_push'];exact Nat.lt_succ_of_lt hb)]
 exact Heap.get?_push_of_some _ q
theorem sorted_seq_rev {p:Addr}{ns:List Int}{b:Bool}{Q:Value->Shared->Prop}(I:Inv X pins σ H s)(hq:SqL X.K H p (ns.map V.int)\/SqT X.K H p (ns.map V.int))(h64:ns.length<64)
  (h:∀ (s':Shared) (D:Addr) (zs:List Int),H D=none->zs.Perm ns->Ordered b zs->Inv X pins σ (upd H D (.lst (zs.map V.int))) s'->Q (.ref D) s') :
  wpAny (model X.prog X.w) A (call (.builtin "sorted") [.ref p] [(Str.ofString "reverse",.bool b)]) Q E s:=by
 obtain⟨vs,T,o,c,hT,ho,hc,hd,hI⟩:=seq_obj I hq
 have hlen:=hI.length
 refine call_function_entry_kw kind_sorted plain_sorted entry_sorted (args_sorted_rev _ _) ?_
 unfold Builtin.«sorted»
 refine wpAny_bind (m:=checkCount "sorted" 1 1 _) (wpAny_pure ?_)
 refine wpAny_bind (wpAny_collect_seq p hT ho hc hd (fun h1 kp=>?_) (by rw[List.size_toArray,sizeLine_eq];omega))
 rw[List.toList_toArray]
 refine wpAny_bind (wpAny_newList ?_ (by rw[sizeLine_eq];omega))
 have hoL:(h1.push (seqObj "list" vs.toArray 0)).get? h1.objs.size=some (seqObj "list" vs.toArray 0):=Heap.get?_push_size _ rfl
 refine wpAny_bind (wpAny_holding (wpAny_call_entry_kw slot_list_sort (s:={ s with heap:=h1.push (seqObj "list" vs.toArray 0) }) ⟨_,hoL,rfl⟩ entry_list_sort (list_sort_tree_rev (s:={ s with heap:=h1.push (seqObj "list" vs.toArray 0) }) hoL hI (by omega) fun out ns' a1 a2 a3=>⟨_,rfl,?_⟩) (args_list_sort_rev _ _)))
 obtain⟨e1,e2⟩:=sorted_end (vs:=vs) I kp a1 (by rw[a2.length_eq];omega)
 exact wpAny_pure ⟨_,rfl,h _ _ ns' e1 a2 a3 e2⟩
end
section
variable {X:Cx}
def tSortR (K:W.Frag)(tr:TA):TE:=fun σ H Q=>tr σ H fun vs H1=>∃ (p:Addr) (ns:List Int),vs=[.ref p]/\(SqL K H1 p (ns.map V.int)\/SqT K H1 p (ns.map V.int))/\ns.length<64 /\
 ∀ (l:Addr) (zs:List Int),H1 l=none->zs.Perm ns->zs.Pairwise (·≥·)->Q (.ref l) (upd H1 l (.lst (zs.map V.int)))
theorem pe_sortR {e:Expr}{np pos bpos kpos:Pos}{j:Nat}{tr:TA}(K:W.Frag)(hK:X.K=K)(hg:Gl X "sorted")(hm:X.mg "sorted"=none)(ha:PA X [e] tr)
  (hs:backTo pos (starEach [e] X.env)=(false,eval e X.env)::backTo pos (starEach [] X.env):=by rfl)
  (hpl:(backTo pos (starEach [e] X.env)).any (·.1)=false:=by rfl) :
  PE X (.Call (.Name "sorted" np) [e] [⟨some "reverse",.Constant (.bool true) j bpos,kpos⟩] pos) (tSortR K tr):=by
 subst hK
 intro pins s σ H Q I h
 refine wpAny_Call_Name_kw (ld_blt I hg hm (show bootBuiltins "sorted"=some (.builtin "sorted") from rfl) ?_ (by decide) (by decide))
 refine callWith_kw (thn (ha pos pins s σ H _ I h) fun us s1 ⟨vs,H1,I1,r1,q1⟩=>?_) hs hpl rfl rfl
 obtain⟨p,ns,rfl,hq,h64,q⟩:=q1
 have hk:PK X [⟨some "reverse",.Constant (.bool true) j bpos,kpos⟩] (tCons (tC (.bl true)) tNil):=pk_cons pe_bl pk_nil
 refine thn (hk pos pins s1 σ H1 (fun zs H2=>zs=[.bl true]/\H2=H1) I1 ⟨rfl,rfl⟩) fun ws s2 ⟨zs,H2,I2,r2,ez,eH⟩=>?_
 subst ez eH
 obtain⟨w,rfl,rw⟩:=vals1 r2
 obtain⟨u,rfl,ru⟩:=vals1 r1
 cases rw
 cases ru
 exact sorted_seq_rev (b:=true) I2 hq h64 fun s' D zs a1 a2 a3 I'=>⟨.ref D,_,I',rfl,q D zs a1 a2 a3⟩
end
section
variable {prog:Program} {w:World} {A:Around} {E:Value->Shared->Prop} {s:Shared}
theorem nextOf_tup_item {ip tp:Addr}{i:Nat}{ys:Array Value}{x:Value}{Q:Value->Shared->Prop}(hi:s.heap.IsTupleIter ip tp i)(ht:s.heap.IsTuple tp ys)(hx:ys[i]?=some x)
  (q:∀ h',h'.IsTupleIter ip tp (i+1)->Heap.SameBut ip s.heap h'->Q x { s with heap:=h' }):wpAny (model prog w) A (Builtin.SmallTypes.nextOf (.ref ip)) Q E s:=by
 obtain⟨u,hu,cu,du⟩:=id hi
 obtain⟨v,hv,_,nv,dv⟩:=ht
 unfold Builtin.SmallTypes.nextOf
 refine wpAny_bind (wpAny_callSpecial?_slot (name:=Str.ofString "__next__") hi.typeIs F.slot_tuple_iterator_next (wpAny_call_entry F.slot_tuple_iterator_next hi.typeIs F.entry_tuple_iterator_next ?_ (F.args_tuple_iterator_next_1 _)))
 show wpAny _ _ (field (.ref ip) 0 >>= _) _ _ s;refine wpAny_bind (wpAny_field hu du (x:=.ref tp) rfl ?_)
 show wpAny _ _ (if (Value.ref tp == Value.none)=true then _ else _) _ _ s;rw[if_neg (show ¬ ((Value.ref tp == Value.none)=true) from Bool.false_ne_true)]
 show wpAny _ _ (field (.ref ip) 1 >>= _) _ _ s;refine wpAny_bind (wpAny_field hu du (x:=.int i 0) rfl ?_)
 show wpAny _ _ (seqItems? (.ref tp) >>= _) _ _ s;refine wpAny_bind (wpAny_seqItems hv dv ?_)
 simp only[Int.toNat_natCast,hx]
 refine wpAny_bind (wpAny_setField hu du (by simp) (wpAny_pure ⟨x,rfl,wpAny_pure (q _ ?_ (Heap.SameBut.update ..))⟩))
 exact⟨_,Heap.get?_update_self _ hu (Obj.isFreed_of_fields (Obj.data_mapFields du _)),(Obj.cls_mapFields ..).trans cu,by rw[Obj.data_mapFields du];simp[rawInt]⟩
theorem nextOf_tup_end {ip tp:Addr}{i:Nat}{ys:Array Value}{Q:Value->Shared->Prop}(hh:A.handled=none)(hi:s.heap.IsTupleIter ip tp i)(ht:s.heap.IsTuple tp ys)(hx:ys[i]?=none)
  (q:∀ h' e,Heap.ExtBut ip s.heap h'->(∃ o,h'.get? e=some o/\o.cls=.type "StopIteration")->E (.ref e) { s with heap:=h' }):wpAny (model prog w) A (Builtin.SmallTypes.nextOf (.ref ip)) Q E s:=by
 obtain⟨u,hu,cu,du⟩:=id hi
 obtain⟨v,hv,_,nv,dv⟩:=ht
 unfold Builtin.SmallTypes.nextOf
 refine wpAny_bind (wpAny_callSpecial?_slot (name:=Str.ofString "__next__") hi.typeIs F.slot_tuple_iterator_next (wpAny_call_entry F.slot_tuple_iterator_next hi.typeIs F.entry_tuple_iterator_next ?_ (F.args_tuple_iterator_next_1 _)))
 show wpAny _ _ (field (.ref ip) 0 >>= _) _ _ s;refine wpAny_bind (wpAny_field hu du (x:=.ref tp) rfl ?_)
 show wpAny _ _ (if (Value.ref tp == Value.none)=true then _ else _) _ _ s;rw[if_neg (show ¬ ((Value.ref tp == Value.none)=true) from Bool.false_ne_true)]
 show wpAny _ _ (field (.ref ip) 1 >>= _) _ _ s;refine wpAny_bind (wpAny_field hu du (x:=.int i 0) rfl ?_)
 show wpAny _ _ (seqItems? (.ref tp) >>= _) _ _ s;refine wpAny_bind (wpAny_seqItems hv dv ?_)
 simp only[Int.toNat_natCast,hx]
 refine wpAny_bind (wpAny_rule (wpAny_bind (wpAny_setField hu du (by simp) ?_)))
 show wpAny _ _ (newExc (.type "StopIteration") [] >>= _) _ _ _;refine wpAny_bind ?_;simp only[newExc,newTuple]
 refine wpAny_bind (wpAny_newObj_type ?_ (by size_fits));refine wpAny_bind (m:=firstArgMember _ _) (wpAny_of_eq (a:=Value.none) (by first | rfl | (simp only[firstArgMember];rfl)) ?_)
 refine wpAny_newObj_type ?_ (by size_fits);simp only[raiseNew]
 refine wpAny_bind (wpAny_handled ?_);first | rw[show A.in1.handled=none from hh] | rw[hh]
 refine wpAny_bind (wpAny_pure (wpAny_throw ?_));exact q _ _ (((Heap.SameBut.update ..).extBut.push _).push _) ⟨_,Heap.get?_push_size _ rfl,rfl⟩
end
theorem draws_tup {prog:Program}{w:World}{A:Around}(hh:A.handled=none)(ip tp:Addr)(hne:tp≠ip)(ys:Array Value):Draws prog w A ip [ip,tp] ys.size (fun i v=>ys[i]?=some v) (fun i h=>h.IsTupleIter ip tp i/\h.IsTuple tp ys) where
 live:=fun _ _ z=>let ⟨o,ho,_⟩:=z.1;⟨o,ho⟩
 frame:=fun _ _ _ z k=>⟨z.1.at fun o e=>k ip (by simp) o e,z.2.at fun o e=>k tp (by simp) o e⟩
 item:=fun i s Q E hi z q=>nextOf_tup_item z.1 z.2 (x:=ys[i]) (by simp[hi]) fun h' a b=>q _ h' s.toks (by simp[hi]) ⟨a,z.2.extBut b.extBut hne⟩ b
 done:=fun s Q E z q=>nextOf_tup_end hh z.1 z.2 (by simp) q
open AutoSeq1 (wpAny_loadPart') in
set_option maxRecDepth 100000 in
theorem meets_enum_tup (tp:Addr)(ys:Array Value)(n:Nat)(dd:Option Addr)(ss:Array (Option Value)) :
  Meets (Builtin.«enumerate.__new__» ⟨[.type "enumerate",.ref tp],[]⟩) (fun _ R s=>s.heap.get? tp=some { cls:=.type "tuple",dict:=dd,data:=.seq ys n,slots:=ss } /\
   R (.ok (.ret (.ref (s.heap.push { cls:=.type "tuple_iterator",data:=.fields #[.ref tp,.int 0 0] }).objs.size)))
    { s with heap:=(s.heap.push { cls:=.type "tuple_iterator",data:=.fields #[.ref tp,.int 0 0] }).push { cls:=.type "enumerate",data:=.fields #[.none,.bool false,.ref s.heap.objs.size,rawInt 0,.none,.none] } }) :=
 .of_wp fun prog w A R s h=>by
  obtain⟨hp,g,d,tk,os⟩:=s;obtain⟨hl,h⟩:=h
  have hsub:=sub_enumerate
  have hT:Heap.IsTuple (Shared.heap ⟨hp,g,d,tk,os⟩) tp ys:=⟨_,hl,rfl,n,rfl⟩
  wp_walk using wpAny_loadPart' hl
  refine wpAny_stack_any fun st=>wpAny_pure ?_
  split
  ·rename_i c _ _ _ _ _
   cases (c == Value.type "enumerate")
   ·wp_walk using wpAny_loadPart' hl,wpAny_pyIter_tuple hT;exact⟨_,rfl,h⟩
   ·wp_walk using wpAny_loadPart' hl,wpAny_pyIter_tuple hT;exact⟨_,rfl,h⟩
  ·wp_walk using wpAny_loadPart' hl,wpAny_pyIter_tuple hT;exact⟨_,rfl,h⟩
section
variable {prog:Program} {w:World} {A:Around} {E:Value->Shared->Prop} {s:Shared}
theorem call_enum_tup {tp:Addr}{ys:Array Value}{Q:Value->Shared->Prop}(hT:s.heap.IsTuple tp ys)
  (q:∀ h',IsEnum h' (s.heap.objs.size+1) s.heap.objs.size 0 .none->h'.IsTupleIter s.heap.objs.size tp 0->h'.objs.size=s.heap.objs.size+2->(∀ b o,s.heap.get? b=some o->h'.get? b=some o)->Q (.ref (s.heap.objs.size+1)) { s with heap:=h' }) :
  wpAny (model prog w) A (call (.type "enumerate") [.ref tp]) Q E s:=by
 obtain⟨⟨c,dd,dt,ss⟩,hl,hc,n,hd⟩:=hT
 replace hc:c=.type "tuple":=hc
 replace hd:dt=.seq ys n:=hd
 subst hc hd
 refine callType_new F.called_enumerate (by decide) (F.typeCall_enumerate_1 _) (F.newCall_enumerate_1 _) (fun obj=>F.args_object_init_2 obj _) F.entry_enumerate_new (meets_enum_tup tp ys n dd ss) ⟨hl,?_⟩
 have hz:(s.heap.push { cls:=.type "tuple_iterator",data:=.fields #[.ref tp,.int 0 0] }).objs.size=s.heap.objs.size+1:=Heap.size_push ..
 show _/\_
 rw[hz]
 have he:IsEnum ((s.heap.push { cls:=.type "tuple_iterator",data:=.fields #[.ref tp,.int 0 0] }).push { cls:=.type "enumerate",data:=.fields #[.none,.bool false,.ref s.heap.objs.size,rawInt 0,.none,.none] }) (s.heap.objs.size+1) s.heap.objs.size 0 .none:=by
  have:=Heap.get?_push_size (s.heap.push { cls:=.type "tuple_iterator",data:=.fields #[.ref tp,.int 0 0] }) (o:={ cls:=.type "enumerate",data:=.fields #[.none,.bool false,.ref s.heap.objs.size,rawInt 0,.none,.none] }) rfl
  rw[hz]at this;exact this
 exact⟨⟨_,he,rfl⟩,q _ he ⟨_,Heap.get?_push_of_some _ (Heap.get?_push_size _ rfl),rfl,rfl⟩ (by rw[Heap.size_push,hz]) fun b o x=>Heap.get?_push_of_some _ (Heap.get?_push_of_some _ x)⟩
end
def Itm (K:W.Frag)(a:Addr):It:=
 ⟨fun i H=>∃ xs x,SqT K H a xs/\xs[i]?=some x,fun i H x H'=>∃ t v,H t=none/\x=.ref t/\(∀ xs,SqT K H a xs->xs[i]?=some v)/\H'=upd H t (.tup [.int i,v]),fun i H=>∃ xs,SqT K H a xs/\xs.length=i⟩
def iEnumT (K:W.Frag)(ta:TA):TI:=fun σ H R=>ta σ H fun vs H1=>∃ a,vs=[.ref a]/\(∃ xs,SqT K H1 a xs)/\R (Itm K a) H1
theorem turn_enumT {P:Program}{w:World}{K:W.Frag}{elts:List Expr}{x1:Nat}{pos:Pos}(a ip e:Addr)(hne:e≠ip):Turn P w K (.Tuple elts x1 pos) (Itm K a) [e,ip] e (fun i h=>(∃ old,IsEnum h e ip (i:Int) old)/\h.IsTupleIter ip a i) where
 mem:=by simp
 obj:=fun i h st b hb=>by
  obtain⟨⟨old,he⟩,o,ho,hc,hd⟩:=st
  rcases List.mem_cons.mp hb with rfl | hb
  ·exact⟨_,he,fun v z=>by cases z⟩
  ·obtain rfl:b=ip:=by simpa using hb
   exact⟨o,ho,fun v z=>by rw[hd]at z;cases z⟩
 keep:=fun i h h' st k=>⟨let ⟨old,he⟩:=st.1;⟨old,k e (by simp) _ he⟩,st.2.at fun o q=>k ip (by simp) o q⟩
 item:=by
  intro X hP hw hK hc i pins s σ H E I hf st hg
  subst hP hw hK
  obtain⟨xs,x,hq,hx⟩:=hg
  obtain⟨⟨old,he⟩,hit⟩:=st
  obtain⟨its,rv,p,hz⟩:=I.tuple hq
  obtain⟨u,hu,ru⟩:=rv.get hx
  obtain⟨f0,f1,f2,f3,f4,f5⟩:=hf e (by simp)
  obtain⟨g0,g1,g2,g3,g4,g5⟩:=hf ip (by simp)
  have pT:s.heap.IsTuple a its.toArray:=p
  have nai:a≠ip:=fun z=>by
   obtain⟨o1,h1,c1,_⟩:=id pT
   obtain⟨o2,h2,c2,_⟩:=id hit
   rw[z,h2]at h1;cases h1;rw[c2]at c1;injection c1 with c1;exact absurd c1 (by decide)
  have nae:a≠e:=fun z=>by
   obtain⟨o1,h1,c1,_⟩:=id pT
   rw[z,show s.heap.get? e=_ from he]at h1;cases h1;injection c1 with c1;exact absurd c1 (by decide)
  have ui:its.toArray[i]?=some u:=by simpa using hu
  have hlt':i<its.toArray.size:=by
   rcases Nat.lt_or_ge i its.toArray.size with h | h
   ·exact h
   ·rw[Array.getElem?_eq_none h]at ui;cases ui
  refine wpAny_pyNext_enum_itemD (draws_tup (A:=X.A.in1) (I.ok.hd hc) ip a nai its.toArray) he ⟨hit,pT⟩ hlt' hne (by simp[hne,Ne.symm nae]) fun v h1 tk hv heo st1 ht1 hz1 hk1=>?_
  have ev:v=u:=by have:=hv.symm.trans ui;cases this;rfl
  subst ev
  have hit1:=st1.1
  refine⟨_,rfl,?_⟩
  refine wpAny_letOwnedTupleGo_enum heo fun h2 he2 hs2=>?_
  have hlt:e<s.heap.objs.size:=Heap.lt_size he
  have hs2':Heap.SameBut e h1 h2:=hs2
  have ht2:h2.get? s.heap.objs.size=some { cls:=.type "tuple",data:=.seq #[.int i tk,v] }:=(hs2'.2 _ (Nat.ne_of_gt hlt)).trans ht1
  have kp:∀ b o,b≠e->b≠ip->s.heap.get? b=some o->h2.get? b=some o:=fun b o h1' h2' q=>(hs2'.2 b h1').trans (hk1 b o h1' h2' q)
  have hT:H s.heap.objs.size=none:=I.hok.fresh (Nat.le_refl _)
  have nH:∀ b,H b≠none->b≠e/\b≠ip:=fun b hb=>⟨fun z=>hb (z ▸ f0),fun z=>hb (z ▸ g0)⟩
  have keepH:∀ b o,H b=some o->upd H s.heap.objs.size (.tup [.int i,x]) b=some o:=fun b o q=>by rw[upd_ne (ne_of_none q hT)];exact q
  have hok2:HOk X.prog X.w (upd H s.heap.objs.size (.tup [.int i,x])) h2:=fun b o eb=>by
   by_cases hb:b=s.heap.objs.size
   ·subst hb
    rw[upd_same]at eb
    cases eb
    exact⟨by show 2<=sizeLine;decide,[.int i tk,v],.cons ⟨_,rfl⟩ (.cons ru .nil),⟨_,ht2,rfl,_,rfl⟩⟩
   ·rw[upd_ne hb]at eb
    refine(I.hok b o eb).stay (fun c v hcc q=>kp c v ?_ ?_ q) (fun c q=>keepH c _ q) fun c ys q=>keepH c _ q
    ·rcases hcc with z | z
     ·exact(nH c (by rw[z,eb];simp)).1
     ·exact(nH c (by rw[z];simp)).1
    ·rcases hcc with z | z
     ·exact(nH c (by rw[z,eb];simp)).2
     ·exact(nH c (by rw[z];simp)).2
  have I2:Inv X pins σ (upd H s.heap.objs.size (.tup [.int i,x])) { s with heap:=h2,toks:=tk+1 }:=by
   refine I.step (g':=s.gens) (d':=s.drawn) (t':=tk+1) (ch:=[e,ip]) (fun b hb=>?_) (fun b o _ _ hcc q _=>kp b o (fun z=>hcc (by simp[z])) (fun z=>hcc (by simp[z])) q) (fun b o _ _ hcc q _=>⟨o.slots,kp b o (fun z=>hcc (by simp[z])) (fun z=>hcc (by simp[z])) q⟩) (fun b o _ q n=>?_)
    (fun b o hcc q=>⟨o,kp b o (fun z=>hcc (by simp[z])) (fun z=>hcc (by simp[z])) q⟩) (fun b ys q=>keepH b _ q) (fun b o v q=>keepH b _ q) (fun b ps q=>⟨#[],by rw[keepH b _ q];simp⟩) (fun m hm=>?_) hok2 I.bare
   ·rcases List.mem_cons.mp hb with rfl | hb
    ·exact⟨f3,f1,f4,f5⟩
    ·obtain rfl:b=ip:=by simpa using hb
     exact⟨g3,g1,g4,g5⟩
   ·rw[upd_ne (Nat.ne_of_lt (Heap.lt_size q))]
    exact n
   ·obtain⟨o,es,ep,ho,r⟩:=hm
    exact⟨o,es,ep,kp _ o (Ne.symm f1) (Ne.symm g1) ho,r⟩
  have hilt:ip<s.heap.objs.size:=by
   obtain⟨o,ho,_⟩:=id hit
   exact Heap.lt_size ho
  refine⟨.ref s.heap.objs.size,_,I2,rfl,⟨s.heap.objs.size,x,hT,rfl,fun ys hy=>by rw[I.tuple_inj hy hq];exact hx,rfl⟩,⟨⟨v,?_⟩,?_⟩,fun b hb=>?_⟩
  ·have:=he2
   rw[show ((i:Int)+1)=(((i+1:Nat):Int)) by simp]at this
   exact this
  ·exact hit1.at fun o q=>(hs2'.2 ip (Ne.symm hne)).trans q
  ·rcases List.mem_cons.mp hb with rfl | hb
   ·rw[upd_ne (Nat.ne_of_lt hlt)];exact f0
   ·obtain rfl:b=ip:=by simpa using hb
    rw[upd_ne (Nat.ne_of_lt hilt)]
    exact g0
 done:=by
  intro X hP hw hK hc i pins s σ H E I hf st hg
  subst hP hw hK
  obtain⟨xs,hq,hx⟩:=hg
  obtain⟨⟨old,he⟩,hit⟩:=st
  obtain⟨its,rv,p,hz⟩:=I.tuple hq
  obtain⟨g0,g1,g2,g3,g4,g5⟩:=hf ip (by simp)
  have hl:=rv.length
  have pT:s.heap.IsTuple a its.toArray:=p
  have nai:a≠ip:=fun z=>by
   obtain⟨o1,h1,c1,_⟩:=id pT
   obtain⟨o2,h2,c2,_⟩:=id hit
   rw[z,h2]at h1;cases h1;rw[c2]at c1;injection c1 with c1;exact absurd c1 (by decide)
  have ei:i=its.toArray.size:=by rw[List.size_toArray];omega
  refine wpAny_pyNext_enum_endD (draws_tup (A:=X.A.in1) (I.ok.hd hc) ip a nai its.toArray) he ⟨by rw[<- ei];exact hit,pT⟩ fun h' eb=>⟨rfl,I.turned (t':=s.toks) (fun b o hb q=>eb b o hb q) g0 g1 g3 g4 g5⟩
 self:=fun _ _ _ _ _ st h=>let ⟨⟨old,he⟩,_⟩:=st;wpAny_pyIter_enum he h
section
variable {X:Cx}
theorem pi_enumT {a:Expr}{ta:TA}{elts:List Expr}{x1:Nat}{tpos p pos:Pos}(hg:Gl X "enumerate")(hm:X.mg "enumerate"=none)(ha:PA X [a] ta)(hv:bootBuiltins "enumerate"=some (.type "enumerate"):=by rfl)(hs:starEach [a] X.env=[(false,eval a X.env)]:=by rfl) :
  PI X (.Tuple elts x1 tpos) (.Call (.Name "enumerate" p) [a] [] pos) (iEnumT X.K ta):=by
 intro pins s σ H R I h
 refine Call_ (ld_blt I hg hm hv (PyProof.Rows.callWith_type1 (thn (ha pos pins s σ H _ I h) fun us s1 ⟨vs,H1,I1,r1,q1⟩=>?_) hs rfl))
 obtain⟨b,e,⟨xs,hq⟩,q⟩:=q1
 subst e
 obtain⟨u,rfl,rx⟩:=vals1 r1
 cases rx
 obtain⟨its,rv,pl,hz⟩:=I1.tuple hq
 refine call_enum_tup (show s1.heap.IsTuple b its.toArray from pl) fun h' he hit hsz kp=>?_
 refine wpAny_pyIter_enum he ?_
 have hne:s1.heap.objs.size+1≠s1.heap.objs.size:=Nat.succ_ne_self _
 refine⟨s1.heap.objs.size+1,[s1.heap.objs.size+1,s1.heap.objs.size],_,_,H1,rfl,I1.kept (t':=s1.toks) kp,turn_enumT b s1.heap.objs.size (s1.heap.objs.size+1) hne,⟨⟨_,he⟩,hit⟩,fun c hc=>?_,q⟩
 rcases List.mem_cons.mp hc with rfl | hc
 ·exact I1.fpOk (Nat.le_succ _) (I1.hok.fresh (Nat.le_succ _))
 ·obtain rfl:c=s1.heap.objs.size:=by simpa using hc
  exact I1.fpOk (Nat.le_refl _) (I1.hok.fresh (Nat.le_refl _))
theorem call_sumT (hc:X.calm=true):CallR X (.builtin "sum") (fun xs H Q=>∃ (p:Addr) (ns:List Int),xs=[.ref p]/\SqT X.K H p (ns.map V.int)/\Q (.int ns.sum) H):=by
 intro pins s σ H xs us Q I r h
 obtain⟨p,ns,rfl,hq,q⟩:=h
 obtain⟨u,rfl,rx⟩:=vals1 r
 cases rx
 obtain⟨its,r',pl,hz⟩:=I.tuple hq
 have hi:IntsAre its ns:=intsAre_of r'
 obtain⟨ys,e⟩:=hi.allInts.items
 refine PySem.W.ktm_sumG (xs:=ys) (I.ok.hd hc) (by rw[<- e];exact pl) fun h' tk t' hk=>⟨.int ns.sum,H,I.kept (t':=tk) hk,⟨t',?_⟩,q⟩
 have e2:numsOf (intItems ys).toList=ns:=by rw[<- e];exact hi.numsOf
 rw[nums_intItems]at e2
 rw[preSum_eq,List.take_of_length_le (by simp),e2]
end
end L2
namespace L2
open PySem PySem.Spec PyProof.Rows
section
variable {M:Model} {A:Around} {Er:Value->Shared->Prop} {s:Shared}
end
section
variable {P:Program} {w:World} {K:W.Frag} {mg:Str->Option Value} {base:Heap} {N:List Str} {qual:Str} {scope:Scope} {f:Addr} {cd:Value} {A:Around} {outer:List Env} {s:Shared} {H:Hp} {E:XK}
 {pins:List (Addr × Obj)} {σ:St} {H1:Hp} {s1:Shared}
end
section
variable {P:Program} {w:World} {K:W.Frag} {mg:Str->Option Value} {base:Heap} {N:List Str} {qual:Str} {scope:Scope} {f:Addr} {cd:Value} {A:Around} {outer:List Env} {s:Shared} {H:Hp} {E:XK}
 {pins:List (Addr × Obj)} {σ:St}
end
section
variable {P:Program} {w:World} {K:W.Frag} {mg:Str->Option Value} {base:Heap} {N:List Str} {qual:Str} {scope0:Scope} {f:Addr} {cd:Value} {A:Around} {outer:List Env} {s0:Shared} {H0:Hp} {E:XK} {X:Cx}
end
def tTryN (K:W.Frag)(CT:Addr)(tb:(St->XK)->TS)(th:TS):TS:=fun D σ H=>∃ E:St->XK,tb E D σ H/\∀ σ' cls H',E σ' cls none H'->PySem.W.exmOne K cls (.ref CT)=some true/\th D σ' H'
theorem ps_tryN {X:Cx}{body suite:List Stmt}{b0:Stmt}{tn:Str}{np pos hpos:Pos}{CT:Addr}{tb:(St->XK)->TS}{th:TS}
  (hg:Gl X tn)(hm:X.mg tn=some (.ref CT))(hst:X.stack=X.env::X.outer)(hfr:X.env.frame=some X.env.locals)(hbody:∀ pins E,PSs (tryCx X pins E) body (tb E))(hh:∀ v,PSs (hdCx X v) (b0::suite) th)
  (hd:(tn == ("__debug__":Str))=false:=by decide) :
  PS X (.Try body [.ExceptHandler (some (.Name tn np)) none (b0::suite) hpos] [] [] pos) (tTryN X.K CT tb th):=by
 intro pins s σ H D I hw
 obtain⟨E,hb,hcatch⟩:=hw
 refine wpAny_Try_except (wpAny_mono (hbody pins E [] s σ H D I.toTry hb) (fun fl s1 q=>?_) fun e s1 hx=>?_)
 ·cases fl with
  | next =>
   obtain⟨σ',H',I',q⟩:=q
   exact wpAny_execs_nil ⟨σ',H',I'.ofTry,q⟩
  | brk=>obtain⟨σ',H',I',q⟩:=q;exact⟨σ',H',I'.ofTry,q⟩
  | cont=>obtain⟨σ',H',I',q⟩:=q;exact⟨σ',H',I'.ofTry,q⟩
  | ret u=>obtain⟨v,σ',H',I',r,q⟩:=q;exact⟨v,σ',H',I'.ofTry,r,q⟩
 ·obtain⟨σ1,H1,s0,I1,x,cls,H2,rfl,hos,hbare,u,hok,new,hxn,⟨B,a0,fl,st⟩,hE⟩:=hx
  obtain⟨hmat,hth⟩:=hcatch σ1 cls H2 hE
  have hfl:Heap.FlyingW B (X.env::X.outer) x cls a0 s1.heap:=by rw[hst]at fl;exact fl
  have frNone:∀ b∈frs X.stack,H2 b=none:=fun b hb=>by
   obtain⟨_,o,ho,_⟩:=I1.stack.mem hb
   exact u.free b o ho (I1.stkFree b hb) (by simp)
  have step:∀ h',B.StaysIn h'->s1.heap.UpToSlots h'->Un (frs X.stack) [] H1 H2 s0.heap h'/\HOk X.prog X.w H2 h':=fun h' hB hu=>by
   refine⟨u.onto (fun b o ho hh hno=>hB b o (st b o ho (.inr hh) hno)) fun b o ho hh hm'=>?_,hok.stays fun b o ho hh=>hB b o (st b o ho (.inl hh) fun hm'=>hh (frNone b hm'))⟩
   obtain⟨_,o',ho',hdd⟩:=hfl.2.2.1.mem (b:=b) (by rw[hst]at hm';exact hm')
   rw[ho]at ho'
   cases ho'
   exact hu b o ho hdd
  have inv:∀ h',B.StaysIn h'->s1.heap.UpToSlots h'->Inv X pins σ1 H2 { s1 with heap:=h' }:=fun h' hB hu=>by
   obtain⟨un,ok⟩:=step h' hB hu
   exact I1.call' (s':={ s1 with heap:=h' }) (ch:=[]) hos un ok hbare fun b hb=>by cases hb
  have hfrm:X.A.frames=some (X.env::X.outer):=by rw[<- hst];exact I1.ok.frames
  refine wpAny_looks_onW hfrm hfr hfl fun h4 held4 up4=>?_
  refine wpAny_landsW held4 fun h5 fl5 up5=>?_
  have up15:=up4.trans up5
  have I5:=inv h5 fl5.1 up15
  refine wpAny_handleBy_cons (codeAny_handlers_test ?_) (by intro q;cases q)
  refine ld_glob (I5.toHd (.ref x)) hg hm ?_ hd
  have LT:PySem.W.Looks (model X.prog X.w) h5 (typeOf (.ref x)) cls:=by
   obtain⟨ob,hob,hc⟩:=fl5.there
   subst hc
   exact(PySem.W.Looks.ld hob).andThen .now
  refine(PySem.W.exm_one (M:=model X.prog X.w) I5.kIn LT hmat).here ?_
  refine codeAny_handlers_suite ?_
  refine lands_againW fl5 fun h6 fl6 up6=>?_
  have up16:=up15.trans up6
  have I7:=inv h6 fl6.1 up16
  refine wpAny_mono (hh (.ref x) pins { s1 with heap:=h6 } σ1 H2 D (I7.toHd _) hth) (fun fl' s9 q=>?_) (fun _ _ z=>False.elim z)
  have hdX:=I.ok.hd
  cases fl' with
  | next =>
   obtain⟨σ',H',I',q⟩:=q
   exact⟨σ',H',I'.ofHd hdX,q⟩
  | brk =>
   obtain⟨σ',H',I',q⟩:=q
   exact⟨σ',H',I'.ofHd hdX,q⟩
  | cont =>
   obtain⟨σ',H',I',q⟩:=q
   exact⟨σ',H',I'.ofHd hdX,q⟩
  | ret u' =>
   obtain⟨v,σ',H',I',r,q⟩:=q
   exact⟨v,σ',H',I'.ofHd hdX,r,q⟩
section
variable {X:Cx}
theorem comp_core {elt iter tg:Expr} {ifs:List Expr} {scope:Scope} {pos ipos:Pos} {cl:List (Str × Addr)} {N':List Str} {lk:List (Option Nat)} {wi:TI} {g:TG} {tt:TT} {te:TE} {use:Option (Value->Sem Unit)} {R:Value->Shared->Prop} {Q:VK} {pins:List (Addr × Obj)} {s:Shared} {σ:St} {H:Hp}
  (hc:X.calm=true) (hi:PI X tg iter wi) (hclos:closureFor scope X.env=pure cl) (hkind:scope.kind=.function)
  (hnames:∀ y∈scope.names,y.2=.local->scope.names.lookup y.1=some .local) (hcl:ClOk X.env cl) (hfr:FrOk scope.names cl=true) (hlk:LkOk X N' lk scope cl)
  (hg:∀ s3 H3 fp,PG (compCx X scope cl N' s3 H3 fp fun _ _=>False) tg g) (ht:∀ s3 H3 fp,PTs (compCx X scope cl N' s3 H3 fp fun _ _=>False) ifs tt) (he:∀ s3 H3 fp,PE (compCx X scope cl N' s3 H3 fp fun _ _=>False) elt te)
  (hs:∀ x,foldedSetIterable iter X.env x=pure x) (I:Inv X pins σ H s) (h:tComp wi lk g tt te σ H Q)
  (hend : ∀ (C D : Addr) (s' : Shared) (H' : Hp), Inv X pins σ H' s' -> Q (.ref D) H' -> H' C = none -> C ≠ X.env.locals -> X.s₀.heap.objs.size <= C -> (∀ x c, X.env.cells.lookup x = some c -> c ≠ C) -> (∀ p ∈ X.pn ++ pins, p.1 ≠ C) -> (∃ m, s'.heap.Ns C m) ->
   compPost (model X.prog X.w) X.A X.xe use R (.ref D) C (.ok .next) s') :
  wpAny (model X.prog X.w) X.A (comprehension (.ListComp elt [⟨tg,iter,ifs,0⟩] scope pos) scope X.env ipos (newList []) false (eval iter X.env) use) R X.xe s:=by
 have hcellN:∀ y∈scope.names,y.2≠.cell:=fun y hy=>by
  unfold FrOk at hfr
  rw[List.all_eq_true]at hfr
  have:=hfr y hy
  rw[Bool.and_eq_true]at this
  simpa using this.1
 refine wpAny_comprehension_free (use:=use) rfl hs hclos hkind hnames (thn (hi pins s σ H _ I h) fun v s1 h1=>thn h1 fun itv s2 h2=>?_)
 obtain⟨it,fp,tn,J,H2,e,I2,T,st2,f2,q⟩:=h2
 subst e
 refine wpAny_newList ?_ (Nat.zero_le _)
 have hD:H2 s2.heap.objs.size=none:=I2.hok.fresh (Nat.le_refl _)
 have I3:=I2.lnew (ys:=[]) (its:=[]) (t':=s2.toks) .nil (Nat.zero_le _)
 obtain⟨W,⟨m0,w0⟩,turn⟩:=q s2.heap.objs.size hD
 have fpl:∀ b∈fp,b<s2.heap.objs.size:=fun b hb=>by
  obtain⟨o,ho,_⟩:=T.obj 0 s2.heap st2 b hb
  exact Heap.lt_size ho
 refine wpAny_newFunctionEnv hcellN (by intro y hy;cases hy) (fun h1 hns1 hsb1=>?_) hkind
 dsimp only at hns1 hsb1 ⊢
 have e3:s2.heap.push { cls:=.type "list",dict:=none,data:=.seq ([]:List Value).toArray }=s2.heap.push { cls:=.type "list",data:=.seq ([]:List Value).toArray }:=rfl
 generalize hh3:s2.heap.push { cls:=.type "list",dict:=none,data:=.seq ([]:List Value).toArray }=h3 at *
 have I3':Inv X pins σ (upd H2 s2.heap.objs.size (.lst [])) { s2 with heap:=h3,toks:=s2.toks }:=I3
 have size3:h3.objs.size=s2.heap.objs.size+1:=by rw[<- hh3,Heap.size_push]
 have f3:∀ b∈fp,FpOk X pins (upd H2 s2.heap.objs.size (.lst [])) b:=fun b hb=>by
  obtain⟨f0,fr⟩:=f2 b hb
  exact⟨by rw[upd_ne (Nat.ne_of_lt (fpl b hb))];exact f0,fr⟩
 have up:∀ b u,h3.get? b=some u->h1.get? b=some u:=fun b u eb=>by
  rw[hsb1.2 b (Nat.ne_of_lt (Heap.lt_size eb))]
  exact Heap.get?_push_of_some _ eb
 have I4:Inv (compCx X scope cl N' { s2 with heap:=h3,toks:=s2.toks } (upd H2 s2.heap.objs.size (.lst [])) fp fun _ _=>False) [] (capt lk σ) (upd H2 s2.heap.objs.size (.lst [])) { s2 with heap:=h1,toks:=s2.toks+([]:List (Str × Value)).length }:=
  comp_start (s3:={ s2 with heap:=h3,toks:=s2.toks }) I3' f3 hkind hcl hfr hlk hns1 up fun b hb=>by show b<h3.objs.size;rw[size3];exact Nat.lt_succ_of_lt (fpl b hb)
 have st4:tn 0 h1:=T.keep 0 s2.heap h1 st2 fun b hb o eb=>up b o (by rw[<- hh3];exact Heap.get?_push_of_some _ eb)
 have hCs:h3.objs.size=(compEnvC scope cl h3.objs.size X.env).locals:=rfl
 have stat:∀ {H':Hp},(∀ b∈fp,H' b=none)->∀ b∈fp,FpOk (compCx X scope cl N' { s2 with heap:=h3,toks:=s2.toks } (upd H2 s2.heap.objs.size (.lst [])) fp fun _ _=>False) [] H' b:=fun {H'} hn b hb=>by
  obtain⟨f0,f1,f2',f3',f4,f5⟩:=f3 b hb
  refine⟨hn b hb,?_,fun z=>?_,.inl hb,fun x c ex=>f4 x c (hcl.get ex),fun p hp=>nomatch hp⟩
  ·show b≠h3.objs.size
   rw[size3]
   exact Nat.ne_of_lt (Nat.lt_succ_of_lt (fpl b hb))
  ·rcases List.mem_cons.mp (I3'.stkSub b z) with q | q
   ·exact f1 q
   ·exact f2' q
 have fin:∀ (s':Shared) (σ':St) (H':Hp),Inv (compCx X scope cl N' { s2 with heap:=h3,toks:=s2.toks } (upd H2 s2.heap.objs.size (.lst [])) fp fun _ _=>False) [] σ' H' s'->Q (.ref s2.heap.objs.size) H' ->
   compPost (model X.prog X.w) X.A X.xe use R (.ref s2.heap.objs.size) h3.objs.size (.ok .next) s':=fun s' σ' H' I' q'=>by
  obtain⟨m,hm,_⟩:=id I'.loc
  have I5:Inv X pins σ H' s':=I3'.call' (ch:=fp) I'.os I'.base I'.hok I'.bare fun b hb=>by
   obtain⟨f0,f1,f2',f3',f4,f5⟩:=f3 b hb
   exact⟨f3',f1,f4,f5⟩
  exact hend h3.objs.size s2.heap.objs.size s' H' I5 q' I'.free (Nat.ne_of_gt I3'.lt) I3'.sz (fun x c ex z=>by
   obtain⟨v',q2⟩:=I3'.cell x c ex
   exact absurd q2.lt (by rw[z];exact Nat.lt_irrefl _)) (fun p hp z=>absurd (Heap.lt_size (I3'.pin p hp).1) (by rw[z];exact Nat.lt_irrefl _)) ⟨m,hm⟩
 have loop:∀ s5:Shared,s5={ s2 with heap:=h1,toks:=s2.toks+([]:List (Str × Value)).length } ->
   codeAny (model X.prog X.w) X.A (.compLoop (.ListComp elt [⟨tg,iter,ifs,0⟩] scope pos) 0 (.ref it) (.ref s2.heap.objs.size) (compEnvC scope cl h3.objs.size X.env)) (compPost (model X.prog X.w) X.A X.xe use R (.ref s2.heap.objs.size) h3.objs.size) s5:=by
  rintro s5 rfl
  refine codeAny_loop rfl (fun n s'=>∃ i xs σ' H',Inv (compCx X scope cl N' { s2 with heap:=h3,toks:=s2.toks } (upd H2 s2.heap.objs.size (.lst [])) fp fun _ _=>False) [] σ' H' s'/\tn i s'.heap/\(∀ b∈fp,H' b=none)/\W i n xs σ' H')
   (fun n s6 hI=>?_) m0 ⟨0,[],capt lk σ,_,I4,st4,fun b hb=>(f3 b hb).1,w0⟩
  obtain⟨i,xs,σ6,H6,I6,st6,fr6,w6⟩:=hI
  show wpAny _ X.A ((compTurn (.ListComp elt [⟨tg,iter,ifs,0⟩] scope pos) 0 (.ref it) (.ref s2.heap.objs.size) (compEnvC scope cl h3.objs.size X.env)).onRaise (fun x=>do noteFrame x (compEnvC scope cl h3.objs.size X.env);theTreesLotGoes x)) _ _ s6
  refine wpAny_noted ?_
  rw[compTurn_list]
  refine wpAny_bind (wpAny_standAt (wpAny_bind ?_))
  obtain⟨hD6,hw⟩:=turn i n xs σ6 H6 w6
  rcases hw with⟨stop,qn⟩ | ⟨go,hlen,step⟩
  ·refine thn (T.done (compCx X scope cl N' { s2 with heap:=h3,toks:=s2.toks } (upd H2 s2.heap.objs.size (.lst [])) fp fun _ _=>False) rfl rfl rfl hc i [] s6 σ6 H6 _ I6 (stat fr6) st6 stop) fun r s7 ⟨hr,I7⟩=>?_
   subst hr
   exact wpAny_pure (fin s7 σ6 H6 I7 qn)
  ·refine thn (T.item (compCx X scope cl N' { s2 with heap:=h3,toks:=s2.toks } (upd H2 s2.heap.objs.size (.lst [])) fp fun _ _=>False) rfl rfl rfl hc i [] s6 σ6 H6 _ I6 (stat fr6) st6 go) fun r s7 ⟨u,hr,h7⟩=>?_
   subst hr
   refine wpAny_bind (thn h7 fun _ s8 ⟨x,H8,I8,r8,y8,st8,fr8⟩=>?_)
   have I8':=I8.pinned (stat fr8) (T.obj _ _ st8)
   refine wpAny_bind (wpAny_mono (hg _ _ _ _ s8 σ6 H8 x u _ I8' r8 (step x H8 y8)) (fun _ s9 ⟨σ9,H9,I9,q9⟩=>?_) (fun _ _ z=>False.elim z))
   refine wpAny_bind (wpAny_mono (ht _ _ _ _ s9 σ9 H9 _ I9 q9) (fun ok s10 ⟨H10,I10,q10⟩=>?_) (fun _ _ z=>False.elim z))
   have again:∀ {σ':St} {H':Hp} {ys:List V} {s':Shared},Inv (compCx X scope cl N' { s2 with heap:=h3,toks:=s2.toks } (upd H2 s2.heap.objs.size (.lst [])) fp fun _ _=>False) ([]++pinsAt fp s8.heap) σ' H' s'->(∃ m',m'<n/\W (i+1) m' ys σ' H') ->
     ∃ m',m'<n/\∃ i xs σ' H',Inv (compCx X scope cl N' { s2 with heap:=h3,toks:=s2.toks } (upd H2 s2.heap.objs.size (.lst [])) fp fun _ _=>False) [] σ' H' s'/\tn i s'.heap/\(∀ b∈fp,H' b=none)/\W i m' xs σ' H':=fun {σ' H' ys s'} I' ⟨m',hm,w'⟩=>by
    refine⟨m',hm,i+1,ys,σ',H',I'.unpinned,T.keep _ _ _ st8 fun b hb o eb=>(I'.pin (b,o) (List.mem_append_right _ (List.mem_append_right _ (mem_pinsAt hb eb)))).1,fun b hb=>?_,w'⟩
    obtain⟨o,eb,_⟩:=T.obj _ _ st8 b hb
    exact(I'.pin (b,o) (List.mem_append_right _ (List.mem_append_right _ (mem_pinsAt hb eb)))).2.1
   cases ok with
   | false =>
    have q10':∃ m',m'<n/\W (i+1) m' xs σ9 H10:=by simpa using q10
    exact wpAny_pure ⟨rfl,again I10 q10'⟩
   | true =>
    rw[if_pos rfl]at q10
    refine wpAny_bind (wpAny_bind (wpAny_mono (he _ _ _ _ s10 σ9 H10 _ I10 q10) (fun y s11 ⟨v11,H11,I11,r11,hD11,q11⟩=>?_) (fun _ _ z=>False.elim z)))
    refine wpAny_bind (wpAny_mono (mt_append (X:=compCx X scope cl N' { s2 with heap:=h3,toks:=s2.toks } (upd H2 s2.heap.objs.size (.lst [])) fp fun _ _=>False) _ s11 σ9 H11 (.ref s2.heap.objs.size) [v11] (.ref s2.heap.objs.size) [y] (fun _ H'=>∃ m',m'<n/\W (i+1) m' (xs++[v11]) σ9 H') I11 rfl (.cons r11 .nil) ⟨s2.heap.objs.size,xs,v11,rfl,rfl,hD11,hlen,q11⟩) (fun _ s12 ⟨_,H12,I12,_,q12⟩=>?_) (fun _ _ z=>False.elim z))
    exact wpAny_pure (wpAny_pure ⟨rfl,again I12 q12⟩)
 exact codeAny_compStart_list (loop _ rfl) (T.self X.A 0 _ _ _ st4 (loop _ rfl))
def tSetC (i:Nat)(t:TE):TS:=fun D σ H=>t σ H fun v H1=>D.nx (σ.set i (some v)) H1
theorem ps_setC {i:Nat}{y:Str}{py:Pos}{elt iter tg:Expr}{ifs:List Expr}{scope:Scope}{pos spos:Pos}{cl:List (Str × Addr)}{N':List Str}{lk:List (Option Nat)}{wi:TI}{g:TG}{tt:TT}{te:TE}
  (hN:X.N.Nodup)(hy:X.N[i]?=some y)(hyl:X.env.scope.names.lookup y=some .local)
  (hsw:swapsWith (.ListComp elt [⟨tg,iter,ifs,0⟩] scope pos) (some (.Name y py)) spos.line X.env=pure true)
  (hc:X.calm=true)(hi:PI X tg iter wi)(hclos:closureFor scope X.env=pure cl)(hkind:scope.kind=.function)
  (hnames:∀ y∈scope.names,y.2=.local->scope.names.lookup y.1=some .local)(hcl:ClOk X.env cl)(hfr:FrOk scope.names cl=true)(hlk:LkOk X N' lk scope cl)
  (hg:∀ s3 H3 fp,PG (compCx X scope cl N' s3 H3 fp fun _ _=>False) tg g)(ht:∀ s3 H3 fp,PTs (compCx X scope cl N' s3 H3 fp fun _ _=>False) ifs tt)(he:∀ s3 H3 fp,PE (compCx X scope cl N' s3 H3 fp fun _ _=>False) elt te)
  (hs:∀ x,foldedSetIterable iter X.env x=pure x:=by intro _;rfl):PS X (.Assign [.Name y py] (.ListComp elt [⟨tg,iter,ifs,0⟩] scope pos) spos) (tSetC i (tComp wi lk g tt te)):=by
 intro pins s σ H D I h
 rw[exec_Assign_Name_used _ _ _ _ hsw]
 refine wpAny_bind (wpAny_standAt (wpAny_bind ?_))
 show wpAny _ X.A (do let _ <- comprehension (.ListComp elt [⟨tg,iter,ifs,0⟩] scope pos) scope X.env _ (newList []) false (eval iter X.env) (some (assign (.Name y py) X.env))) _ _ s
 refine wpAny_bind (thn (comp_core (use:=some (assign (.Name y py) X.env)) (R:=fun _ s'=>SP X pins D .next s') hc hi hclos hkind hnames hcl hfr hlk hg ht he hs I h
  fun C Dd s' H' I' q' hC hCL hCs hCc hCp ⟨m,hm⟩=>?_) fun _ s' hq=>wpAny_pure (wpAny_pure hq))
 show wpAny _ X.A (assign (.Name y py) X.env (.ref Dd)) _ _ s'
 refine wpAny_assign_Name (store_ok2 (v:=.ref Dd) I' hN hy (.inl hyl) rfl (fun s2 I2 ⟨a,hsb,ha⟩=>?_) (.inr hyl))
 have hCa:C≠a:=by
  rcases ha with z | z
  ·rw[z];exact hCL
  ·exact(hCc y a z).symm
 refine⟨m,hm.sameBut hsb hCa,fun h' hs'=>?_⟩
 obtain⟨h0,g0,d0,t0,o0⟩:=s2
 exact⟨_,H',I2.turned (t':=t0) (it:=C) (fun b o hb eb=>(hs'.2 b hb).trans eb) hC hCL (.inr hCs) hCc hCp,q'⟩
end
end L2
namespace Grf
def S:Nat->(Nat->Int)->Int
 | 0,_=>0
 | n+1,f=>S n f+f n
theorem S_congr {f g:Nat->Int}:∀ {n:Nat},(∀ i,i<n->f i=g i)->S n f=S n g
 | 0,_=>rfl
 | n+1,h=>by
  show S n f+f n=S n g+g n
  rw[S_congr fun i hi=>h i (by omega),h n (by omega)]
theorem S_le {f g:Nat->Int}:∀ {n:Nat},(∀ i,i<n->f i<=g i)->S n f<=S n g
 | 0,_=>Int.le_refl _
 | n+1,h=>by
  have h1:=S_le (n:=n) fun i hi=>h i (by omega)
  have h2:=h n (by omega)
  show S n f+f n<=S n g+g n
  omega
theorem S_add (f g:Nat->Int):∀ n:Nat,S n (fun i=>f i+g i)=S n f+S n g
 | 0=>rfl
 | n+1=>by
  show S n (fun i=>f i+g i)+(f n+g n)=S n f+f n+(S n g+g n)
  rw[S_add f g n]
  omega
theorem S_sub (f g:Nat->Int):∀ n:Nat,S n (fun i=>f i - g i)=S n f - S n g
 | 0=>rfl
 | n+1=>by
  show S n (fun i=>f i - g i)+(f n - g n)=S n f+f n - (S n g+g n)
  rw[S_sub f g n]
  omega
theorem S_zero:∀ n:Nat,S n (fun _=>0)=0
 | 0=>rfl
 | n+1=>by
  show S n (fun _=>0)+0=0
  rw[S_zero n];rfl
theorem S_const (c:Int):∀ n:Nat,S n (fun _=>c)=(n:Int)*c
 | 0=>by simp[S]
 | n+1=>by
  show S n (fun _=>c)+c=((n+1:Nat):Int)*c
  rw[S_const c n,show ((n+1:Nat):Int)=(n:Int)+1 by omega,Int.add_mul,Int.one_mul]
theorem S_mul (c:Int)(f:Nat->Int):∀ n:Nat,S n (fun i=>c*f i)=c*S n f
 | 0=>by simp[S]
 | n+1=>by
  show S n (fun i=>c*f i)+c*f n=c*(S n f+f n)
  rw[S_mul c f n,Int.mul_add]
theorem S_nonneg {f:Nat->Int}{n:Nat}(h:∀ i,i<n->0<=f i):0<=S n f:=by
 have:=S_le (f:=fun _=>0) (g:=f) (n:=n) h
 rw[S_zero]at this
 exact this
theorem S_swap (f:Nat->Nat->Int)(m:Nat):∀ n:Nat,S n (fun i=>S m (fun j=>f i j))=S m (fun j=>S n (fun i=>f i j))
 | 0=>(S_zero m).symm
 | n+1=>by
  show S n (fun i=>S m (fun j=>f i j))+S m (fun j=>f n j)=S m (fun j=>S n (fun i=>f i j)+f n j)
  rw[S_swap f m n,<- S_add]
theorem S_one {n j:Nat}(c:Int)(h:j<n):S n (fun i=>if i=j then c else 0)=c:=by
 induction n with
 | zero=>omega
 | succ n ih =>
  show S n (fun i=>if i=j then c else 0)+(if n=j then c else 0)=c
  by_cases e:n=j
  ·rw[if_pos e,S_congr (g:=fun _=>0) fun i hi=>if_neg (by omega),S_zero];omega
  ·rw[if_neg e,ih (by omega)];omega
theorem S_pick {n j:Nat}{f g:Nat->Int}(h:j<n)(hf:∀ i,i<n->i≠j->f i=g i):S n f=S n g+(f j - g j):=by
 have:S n f=S n (fun i=>g i+(if i=j then f j - g j else 0)):=S_congr fun i hi=>by
  by_cases e:i=j
  ·rw[if_pos e,e];omega
  ·rw[if_neg e,hf i hi e];omega
 rw[this,S_add,S_one _ h]
theorem S_ge {n j:Nat}{f:Nat->Int}(h:j<n)(hf:∀ i,i<n->0<=f i):f j<=S n f:=by
 have h1:=S_pick (f:=f) (g:=fun i=>if i=j then 0 else f i) h (fun i _ e=>by rw[if_neg e])
 have h2:0<=S n (fun i=>if i=j then 0 else f i):=S_nonneg fun i hi=>by
  by_cases e:i=j
  ·rw[if_pos e];exact Int.le_refl _
  ·rw[if_neg e];exact hf i hi
 rw[if_pos rfl]at h1
 omega
theorem S_lt {n:Nat}{f g:Nat->Int}(h:S n f<S n g):∃ i,i<n/\f i<g i:=by
 induction n with
 | zero=>exact absurd h (Int.lt_irrefl _)
 | succ n ih =>
  by_cases e:f n<g n
  ·exact⟨n,by omega,e⟩
  ·have h':S n f+f n<S n g+g n:=h
   obtain⟨i,hi,h2⟩:=ih (by omega)
   exact⟨i,by omega,h2⟩
def b2 (b:Bool):Int:=if b then 1 else 0
theorem b2_t:b2 true=1:=rfl
theorem b2_f:b2 false=0:=rfl
theorem b2_nonneg (b:Bool):0<=b2 b:=by cases b<;>decide
theorem b2_le (b:Bool):b2 b<=1:=by cases b<;>decide
structure Gph (g:Nat->Nat->Bool):Prop where
 sym:∀ i j,g i j=g j i
 irr:∀ i,g i i=false
def deg (n:Nat)(g:Nat->Nat->Bool)(i:Nat):Int:=S n fun j=>b2 (g i j)
def setE (g:Nat->Nat->Bool)(a b:Nat)(v:Bool):Nat->Nat->Bool:=fun i j=>if (i=a/\j=b)\/(i=b/\j=a) then v else g i j
theorem setE_gph {g:Nat->Nat->Bool}{a b:Nat}{v:Bool}(h:Gph g)(hab:a≠b):Gph (setE g a b v) where
 sym:=fun i j=>by
  unfold setE
  by_cases e:(i=a/\j=b)\/(i=b/\j=a)
  ·rw[if_pos e,if_pos (by omega)]
  ·rw[if_neg e,if_neg (by omega)];exact h.sym i j
 irr:=fun i=>by
  unfold setE
  rw[if_neg (by omega)];exact h.irr i
theorem setE_ne {g:Nat->Nat->Bool}{a b i j:Nat}{v:Bool}(e:¬ ((i=a/\j=b)\/(i=b/\j=a))):setE g a b v i j=g i j:=if_neg e
theorem setE_at {g:Nat->Nat->Bool}{a b:Nat}{v:Bool}:setE g a b v a b=v:=if_pos (.inl ⟨rfl,rfl⟩)
theorem deg_setE {n:Nat}{g:Nat->Nat->Bool}{a b:Nat}{v:Bool}(h:Gph g)(hab:a≠b)(ha:a<n)(hb:b<n)(i:Nat):deg n (setE g a b v) i=deg n g i+(if i=a\/i=b then b2 v - b2 (g a b) else 0):=by
 unfold deg
 by_cases e1:i=a
 ·subst e1
  rw[if_pos (.inl rfl),S_pick (g:=fun j=>b2 (g i j)) hb (fun j _ hj=>by show b2 _=_;rw[setE_ne (by omega)])]
  show _+(b2 (setE g i b v i b) - _)=_
  rw[setE_at]
 ·by_cases e2:i=b
  ·subst e2
   rw[if_pos (.inr rfl),S_pick (g:=fun j=>b2 (g i j)) ha (fun j _ hj=>by show b2 _=_;rw[setE_ne (by omega)])]
   show _+(b2 (setE g a i v i a) - _)=_
   have:setE g a i v i a=v:=if_pos (.inr ⟨rfl,rfl⟩)
   rw[this,h.sym i a]
  ·rw[if_neg (by omega),S_congr (g:=fun j=>b2 (g i j)) fun j _=>by show b2 _=_;rw[setE_ne (by omega)]]
   omega
end Grf
namespace Grf
theorem deg_out {n:Nat}{g:Nat->Nat->Bool}{x y:Nat}(h:Gph g)(hy:y<n)(hxy:x≠y):S n (fun z=>if z=x\/z=y then 0 else b2 (g x z))=deg n g x - b2 (g x y):=by
 unfold deg
 rw[S_pick (f:=fun z=>if z=x\/z=y then 0 else b2 (g x z)) (g:=fun z=>b2 (g x z)) hy (fun i _ hi=>?_)]
 ·show _+((if y=x\/y=y then (0:Int) else _) - _)=_
  rw[if_pos (.inr rfl)];omega
 ·show (if i=x\/i=y then (0:Int) else _)=_
  by_cases e:i=x
  ·rw[if_pos (.inl e),e,h.irr];rfl
  ·rw[if_neg (by omega)]
theorem find2 {n:Nat}{g:Nat->Nat->Bool}{x y:Nat}(h:Gph g)(hx:x<n)(hy:y<n)(hxy:x≠y)(hd:deg n g y<deg n g x):∃ z,z<n/\z≠x/\z≠y/\g x z=true/\g y z=false:=by
 have h1:=deg_out h hy hxy
 have h2:=deg_out h hx (Ne.symm hxy)
 have h3:S n (fun z=>if z=y\/z=x then 0 else b2 (g y z))<S n (fun z=>if z=x\/z=y then 0 else b2 (g x z)):=by
  rw[h1,h2,h.sym y x];omega
 obtain⟨z,hz,hlt⟩:=S_lt h3
 by_cases e:z=x\/z=y
 ·rw[if_pos (show z=y\/z=x by omega),if_pos e]at hlt
  exact absurd hlt (Int.lt_irrefl _)
 ·rw[if_neg (show ¬ (z=y\/z=x) by omega),if_neg e]at hlt
  refine⟨z,hz,by omega,by omega,?_⟩
  cases h4:g x z<;>cases h5:g y z<;>rw[h4,h5]at hlt<;>simp_all [b2]
theorem find3 {n:Nat}{g:Nat->Nat->Bool}{x y v:Nat}(h:Gph g)(hx:x<n)(hy:y<n)(hv:v<n)(hxy:x≠y)(hxv:x≠v)(hyv:y≠v)(hd:deg n g y<=deg n g x)(h1:g y v=true)(h2:g x v=false) :
  ∃ z,z<n/\z≠x/\z≠y/\z≠v/\g x z=true/\g y z=false:=by
 have e1:=deg_out h hy hxy
 have e2:=deg_out h hx (Ne.symm hxy)
 have f1:=S_pick (f:=fun z=>if z=v then 0 else (if z=x\/z=y then 0 else b2 (g x z))) (g:=fun z=>if z=x\/z=y then 0 else b2 (g x z)) hv (fun i _ hi=>by show (if i=v then (0:Int) else _)=_;rw[if_neg hi])
 have f2:=S_pick (f:=fun z=>if z=v then 0 else (if z=y\/z=x then 0 else b2 (g y z))) (g:=fun z=>if z=y\/z=x then 0 else b2 (g y z)) hv (fun i _ hi=>by show (if i=v then (0:Int) else _)=_;rw[if_neg hi])
 have g1:(if v=v then (0:Int) else (if v=x\/v=y then 0 else b2 (g x v))) - (if v=x\/v=y then 0 else b2 (g x v))=0:=by
  rw[if_pos rfl,if_neg (by omega),h2];rfl
 have g2:(if v=v then (0:Int) else (if v=y\/v=x then 0 else b2 (g y v))) - (if v=y\/v=x then 0 else b2 (g y v)) = -1:=by
  rw[if_pos rfl,if_neg (by omega),h1];rfl
 rw[g1,e1]at f1
 rw[g2,e2,h.sym y x]at f2
 have h3:S n (fun z=>if z=v then 0 else (if z=y\/z=x then 0 else b2 (g y z)))<S n (fun z=>if z=v then 0 else (if z=x\/z=y then 0 else b2 (g x z))):=by
  rw[f1,f2];omega
 obtain⟨z,hz,hlt⟩:=S_lt h3
 by_cases ev:z=v
 ·rw[if_pos ev,if_pos ev]at hlt
  exact absurd hlt (Int.lt_irrefl _)
 ·rw[if_neg ev,if_neg ev]at hlt
  by_cases e:z=x\/z=y
  ·rw[if_pos (show z=y\/z=x by omega),if_pos e]at hlt
   exact absurd hlt (Int.lt_irrefl _)
  ·rw[if_neg (show ¬ (z=y\/z=x) by omega),if_neg e]at hlt
   refine⟨z,hz,by omega,by omega,ev,?_⟩
   cases h4:g x z<;>cases h5:g y z<;>rw[h4,h5]at hlt<;>simp_all [b2]
def exch (g:Nat->Nat->Bool)(a b c d:Nat):Nat->Nat->Bool:=setE (setE (setE (setE g a b false) c d false) a d true) c b true
structure Ex (g:Nat->Nat->Bool) (a b c d:Nat):Prop where
 ab:a≠b
 ac:a≠c
 ad:a≠d
 bc:b≠c
 bd:b≠d
 cd:c≠d
 t1:g a b=true
 t2:g c d=true
 n1:g a d=false
 n2:g c b=false
theorem exch_gph {g:Nat->Nat->Bool}{a b c d:Nat}(h:Gph g)(x:Ex g a b c d):Gph (exch g a b c d):=
 setE_gph (setE_gph (setE_gph (setE_gph h x.ab) x.cd) x.ad) (Ne.symm x.bc)
theorem exch_deg {n:Nat}{g:Nat->Nat->Bool}{a b c d:Nat}(h:Gph g)(x:Ex g a b c d)(ha:a<n)(hb:b<n)(hc:c<n)(hd:d<n)(i:Nat):deg n (exch g a b c d) i=deg n g i:=by
 obtain⟨ab,ac,ad,bc,bd,cd,t1,t2,n1,n2⟩:=x
 unfold exch
 have h1:=setE_gph (v:=false) h ab
 have h2:=setE_gph (v:=false) h1 cd
 have h3:=setE_gph (v:=true) h2 ad
 rw[deg_setE h3 (Ne.symm bc) hc hb,deg_setE h2 ad ha hd,deg_setE h1 cd hc hd,deg_setE h ab ha hb]
 have v1:setE g a b false c d=true:=by rw[setE_ne (by omega)];exact t2
 have v2:setE (setE g a b false) c d false a d=false:=by rw[setE_ne (by omega),setE_ne (by omega)];exact n1
 have v3:setE (setE (setE g a b false) c d false) a d true c b=false:=by rw[setE_ne (by omega),setE_ne (by omega),setE_ne (by omega)];exact n2
 rw[t1,v1,v2,v3,b2_t,b2_f]
 by_cases ea:i=a
 ·subst ea
  rw[if_pos (.inl rfl),if_neg (by omega),if_pos (.inl rfl),if_neg (by omega)];omega
 ·by_cases eb:i=b
  ·subst eb
   rw[if_pos (.inr rfl),if_neg (by omega),if_neg (by omega),if_pos (.inr rfl)];omega
  ·by_cases ec:i=c
   ·subst ec
    rw[if_neg (by omega),if_pos (.inl rfl),if_neg (by omega),if_pos (.inl rfl)];omega
   ·by_cases ed:i=d
    ·subst ed
     rw[if_neg (by omega),if_pos (.inr rfl),if_pos (.inr rfl),if_neg (by omega)];omega
    ·rw[if_neg (by omega),if_neg (by omega),if_neg (by omega),if_neg (by omega)];omega
theorem exch_row {g:Nat->Nat->Bool}{a b c d:Nat}(x:Ex g a b c d)(j:Nat):exch g a b c d a j=if j=b then false else if j=d then true else g a j:=by
 obtain⟨ab,ac,ad,bc,bd,cd,t1,t2,n1,n2⟩:=x
 unfold exch
 rw[setE_ne (by omega)]
 by_cases e:j=d
 ·subst e
  rw[setE_at,if_neg (by omega),if_pos rfl]
 ·rw[setE_ne (by omega),setE_ne (by omega),if_neg e]
  by_cases e2:j=b
  ·subst e2
   rw[setE_at,if_pos rfl]
  ·rw[setE_ne (by omega),if_neg e2]
theorem hh_sw {n v:Nat}{N:Nat->Bool}(hv:v<n)(hNv:N v=false):∀ (m:Nat) (g:Nat->Nat->Bool),Gph g->S n (fun j=>b2 (N j))=deg n g v ->
  (∀ x y,x<n->y<n->N x=true->N y=false->y≠v->deg n g y<=deg n g x)->S n (fun j=>b2 (N j && !g v j))=(m:Int) ->
  ∃ g',Gph g'/\(∀ i,i<n->deg n g' i=deg n g i)/\∀ j,j<n->g' v j=N j:=by
 intro m
 induction m with
 | zero =>
  intro g h hs hd hm
  refine⟨g,h,fun _ _=>rfl,fun j hj=>?_⟩
  have all:∀ j,j<n->N j=true->g v j=true:=fun j hj hN=>by
   have:=S_ge (f:=fun j=>b2 (N j && !g v j)) hj (fun i _=>b2_nonneg _)
   rw[hm]at this
   cases hg:g v j with
   | true=>rfl
   | false =>
    have e:b2 (N j && !g v j)=1:=by rw[hN,hg];rfl
    have t:b2 (N j && !g v j)<=0:=this
    omega
  have dif:S n (fun j=>b2 (g v j) - b2 (N j))=0:=by rw[S_sub];unfold deg at hs;omega
  have pos:∀ i,i<n->0<=b2 (g v i) - b2 (N i):=fun i hi=>by
   cases hN:N i with
   | true=>rw[all i hi hN];decide
   | false=>have:=b2_nonneg (g v i);rw[b2_f];omega
  have:=S_ge (f:=fun j=>b2 (g v j) - b2 (N j)) hj pos
  rw[dif]at this
  have p:=pos j hj
  cases hN:N j with
  | true=>exact all j hj hN
  | false =>
   cases hg:g v j with
   | false=>rfl
   | true =>
    have t:b2 (g v j) - b2 (N j)<=0:=this
    rw[hN,hg,b2_t,b2_f]at t
    omega
 | succ m ih =>
  intro g h hs hd hm
  obtain⟨x,hx,hlt⟩:∃ x,x<n/\(fun _=>(0:Int)) x<b2 (N x && !g v x):=S_lt (f:=fun _=>0) (g:=fun j=>b2 (N j && !g v j)) (by rw[S_zero,hm];omega)
  have hNx:N x=true/\g v x=false:=by
   cases h1:N x<;>cases h2:g v x<;>rw[h1,h2]at hlt<;>simp_all [b2]
  obtain⟨y,hy,hlt2⟩:∃ y,y<n/\b2 (N y)<b2 (g v y):=by
   by_cases hc:∃ y,y<n/\b2 (N y)<b2 (g v y)
   ·exact hc
   ·have pos:∀ i,i<n->0<=b2 (N i) - b2 (g v i):=fun i hi=>by
     have:¬ b2 (N i)<b2 (g v i):=fun z=>hc ⟨i,hi,z⟩
     omega
    have t:=S_ge (f:=fun j=>b2 (N j) - b2 (g v j)) hx pos
    have e:S n (fun j=>b2 (N j) - b2 (g v j))=0:=by rw[S_sub];unfold deg at hs;omega
    rw[e,show b2 (N x) - b2 (g v x)=1 by rw[hNx.1,hNx.2];rfl]at t
    omega
  have hNy:N y=false/\g v y=true:=by
   cases h1:N y<;>cases h2:g v y<;>rw[h1,h2]at hlt2<;>simp_all [b2]
  have xv:x≠v:=fun e=>by rw[e,hNv]at hNx;exact absurd hNx.1 (by decide)
  have yv:y≠v:=fun e=>by rw[e,h.irr]at hNy;exact absurd hNy.2 (by decide)
  have xy:x≠y:=fun e=>by rw[e,hNy.1]at hNx;exact absurd hNx.1 (by decide)
  obtain⟨z,hz,zx,zy,zv,h1,h2⟩:=find3 h hx hy hv xy xv yv (hd x y hx hy hNx.1 hNy.1 yv) (by rw[h.sym];exact hNy.2) (by rw[h.sym];exact hNx.2)
  have ex:Ex g v y z x:=⟨Ne.symm yv,Ne.symm zv,Ne.symm xv,Ne.symm zy,Ne.symm xy,zx,hNy.2,by rw[h.sym];exact h1,hNx.2,by rw[h.sym];exact h2⟩
  have dg:=exch_deg h ex hv hy hz hx
  obtain⟨g',k1,k2,k3⟩:=ih (exch g v y z x) (exch_gph h ex) (by rw[dg];exact hs) (fun a b ha hb n1 n2 n3=>by rw[dg,dg];exact hd a b ha hb n1 n2 n3) (by
   have:=S_pick (f:=fun j=>b2 (N j && !exch g v y z x v j)) (g:=fun j=>b2 (N j && !g v j)) hx (fun j _ hj=>by
    show b2 (N j && !exch g v y z x v j)=_
    rw[exch_row ex]
    by_cases e:j=y
    ·rw[if_pos e,e,hNy.1];rfl
    ·rw[if_neg e,if_neg hj])
   rw[this,hm]
   have e1:exch g v y z x v x=true:=by rw[exch_row ex,if_neg xy,if_pos rfl]
   show _+(b2 (N x && !exch g v y z x v x) - b2 (N x && !g v x))=_
   rw[e1,hNx.1,hNx.2]
   show ((m+1:Nat):Int)+(0 - 1)=_
   omega)
  exact⟨g',k1,fun i hi=>by rw[k2 i hi,dg],k3⟩
end Grf
namespace Grf
def cnt (n:Nat)(a:Nat->Bool):Int:=S n fun i=>b2 (a i)
def sm (n:Nat)(a:Nat->Bool)(d:Nat->Int):Int:=S n fun i=>if a i=true then d i else 0
def put (a:Nat->Bool)(j:Nat)(v:Bool):Nat->Bool:=fun i=>if i=j then v else a i
theorem put_at {a:Nat->Bool}{j:Nat}{v:Bool}:put a j v j=v:=if_pos rfl
theorem put_ne {a:Nat->Bool}{i j:Nat}{v:Bool}(h:i≠j):put a j v i=a i:=if_neg h
theorem cnt_put {n j:Nat}{a:Nat->Bool}{v:Bool}(h:j<n):cnt n (put a j v)=cnt n a+(b2 v - b2 (a j)):=by
 unfold cnt
 rw[S_pick (g:=fun i=>b2 (a i)) h (fun i _ hi=>by show b2 (put a j v i)=_;rw[put_ne hi])]
 show _+(b2 (put a j v j) - _)=_
 rw[put_at]
theorem sm_put {n j:Nat}{a:Nat->Bool}{v:Bool}{d:Nat->Int}(h:j<n):sm n (put a j v) d=sm n a d+((if v=true then d j else 0) - (if a j=true then d j else 0)):=by
 unfold sm
 rw[S_pick (g:=fun i=>if a i=true then d i else 0) h (fun i _ hi=>by show (if put a j v i=true then d i else 0)=_;rw[put_ne hi])]
 show _+((if put a j v j=true then d j else 0) - _)=_
 rw[put_at]
theorem cnt_nonneg (n:Nat)(a:Nat->Bool):0<=cnt n a:=S_nonneg fun i _=>b2_nonneg _
theorem cnt_two {n:Nat}{a b:Nat->Bool}(h:∀ i,a i=true->b i=false):cnt n a+cnt n b<=n:=by
 unfold cnt
 rw[<- S_add]
 have:=S_le (f:=fun i=>b2 (a i)+b2 (b i)) (g:=fun _=>1) (n:=n) (fun i _=>by
  show b2 (a i)+b2 (b i)<=1
  cases ha:a i with
  | true=>rw[h i ha];decide
  | false=>have:=b2_le (b i);rw[b2_f];omega)
 rw[S_const]at this
 omega
theorem cnt_out {n j:Nat}{a b:Nat->Bool}(h:∀ i,a i=true->b i=false)(hj:j<n)(ha:a j=false)(hb:b j=false):cnt n a+cnt n b+1<=n:=by
 have:=cnt_two (n:=n) (a:=put a j true) (b:=b) (fun i hi=>by
  by_cases e:i=j
  ·rw[e];exact hb
  ·rw[put_ne e]at hi;exact h i hi)
 rw[cnt_put hj,ha,b2_t,b2_f]at this
 omega
theorem cnt_zero {n:Nat}{a:Nat->Bool}(h:∀ i,i<n->a i=false):cnt n a=0:=by
 unfold cnt
 rw[S_congr (g:=fun _=>0) fun i hi=>by rw[h i hi];rfl]
 exact S_zero n
theorem sm_zero {n:Nat}{a:Nat->Bool}{d:Nat->Int}(h:∀ i,i<n->a i=false):sm n a d=0:=by
 unfold sm
 rw[S_congr (g:=fun _=>0) fun i hi=>by rw[h i hi];rfl]
 exact S_zero n
theorem sm_ge {n j:Nat}{a:Nat->Bool}{d:Nat->Int}(hd:∀ i,i<n->0<=d i)(hj:j<n)(ha:a j=true):d j<=sm n a d:=by
 have:=S_ge (f:=fun i=>if a i=true then d i else 0) hj (fun i hi=>by
  cases a i with
  | true=>exact hd i hi
  | false=>exact Int.le_refl _)
 have e:(if a j=true then d j else 0)=d j:=if_pos ha
 unfold sm
 show d j<=_
 rw[<- e]
 exact this
theorem sm_nonneg {n:Nat}{a:Nat->Bool}{d:Nat->Int}(hd:∀ i,i<n->0<=d i):0<=sm n a d:=S_nonneg fun i hi=>by
 cases a i with
 | true=>exact hd i hi
 | false=>exact Int.le_refl _
theorem sm_ge2 {n i j:Nat}{a:Nat->Bool}{d:Nat->Int}(hd:∀ i,i<n->0<=d i)(hi:i<n)(hj:j<n)(hij:i≠j)(h1:a i=true)(h2:a j=true):d i+d j<=sm n a d:=by
 have e:=sm_put (d:=d) (a:=a) (v:=false) hi
 rw[h1,if_pos rfl,if_neg (by decide)]at e
 have:=sm_ge (a:=put a i false) hd hj (by rw[put_ne (Ne.symm hij)];exact h2)
 omega
theorem sm_le {n:Nat}{a:Nat->Bool}{d:Nat->Int}{m:Int}(h:∀ i,i<n->a i=true->d i<=m):sm n a d<=cnt n a*m:=by
 have e:cnt n a*m=S n (fun i=>m*b2 (a i)):=by rw[S_mul,Int.mul_comm];rfl
 rw[e]
 refine S_le fun i hi=>?_
 cases ha:a i with
 | true=>rw[if_pos rfl,b2_t,Int.mul_one];exact h i hi ha
 | false=>rw[if_neg (by decide),b2_f,Int.mul_zero];exact Int.le_refl _
theorem sm_eq {n:Nat}{a:Nat->Bool}{d:Nat->Int}{m:Int}(h:∀ i,i<n->a i=true->d i=m):sm n a d=cnt n a*m:=by
 have e:cnt n a*m=S n (fun i=>m*b2 (a i)):=by rw[S_mul,Int.mul_comm];rfl
 rw[e]
 refine S_congr fun i hi=>?_
 cases ha:a i with
 | true=>rw[if_pos rfl,b2_t,Int.mul_one];exact h i hi ha
 | false=>rw[if_neg (by decide),b2_f,Int.mul_zero]
theorem cnt_pos {n:Nat}{a:Nat->Bool}(h:cnt n a≠0):∃ i,i<n/\a i=true:=by
 by_cases hc:∃ i,i<n/\a i=true
 ·exact hc
 ·exact absurd (cnt_zero fun i hi=>by
   cases ha:a i with
   | false=>rfl
   | true=>exact absurd ⟨i,hi,ha⟩ hc) h
theorem cover {n:Nat}{a b:Nat->Bool}{d:Nat->Int}(h:∀ i,a i=true->b i=false)(hc:cnt n a+cnt n b=n):sm n a d+sm n b d=S n d:=by
 unfold sm
 rw[<- S_add]
 refine S_congr fun i hi=>?_
 cases ha:a i with
 | true=>rw[h i ha,if_pos rfl,if_neg (by decide)];omega
 | false =>
  cases hb:b i with
  | true=>rw[if_neg (by decide),if_pos rfl];omega
  | false=>have:=cnt_out h hi ha hb;omega
def Koren (n:Nat)(d:Nat->Int):Prop:=∀ a b:Nat->Bool,(∀ i,a i=true->b i=false)->sm n a d<=cnt n a*((n:Int) - 1 - cnt n b)+sm n b d
theorem even_kk (k:Int):∃ q,k*(k - 1)=2*q:=by
 rcases Int.emod_two_eq k with h | h
 ·exact⟨(k / 2)*(k - 1),by
   have:k=2*(k / 2):=by omega
   rw[<- Int.mul_assoc,<- this]⟩
 ·exact⟨k*((k - 1) / 2),by
   have:k - 1=2*((k - 1) / 2):=by omega
   rw[Int.mul_left_comm,<- this]⟩
theorem disj_put {a b:Nat->Bool}(h:∀ i,a i=true->b i=false)(x y:Nat):∀ i,put a x false i=true->put b y false i=false:=fun i hi=>by
 by_cases e:i=x
 ·rw[e,put_at]at hi;cases hi
 ·rw[put_ne e]at hi
  by_cases e2:i=y
  ·rw[e2,put_at]
  ·rw[put_ne e2];exact h i hi
theorem kor_step {n t u:Nat}{d:Nat->Int}(K:Koren n d)(hd:∀ i,i<n->0<=d i)(ev:∃ q,S n d=2*q)(ht:t<n)(hu:u<n)(htu:t≠u)(hup:0<d u)(hmax:∀ i,i<n->d i<=d t)(hmin:∀ i,i<n->0<d i->d u<=d i) :
  Koren n (fun i=>d i - (if i=t then 1 else 0) - (if i=u then 1 else 0)):=by
 intro a b hab
 have hdt:d u<=d t:=hmax u hu
 have lower:∀ c:Nat->Bool,sm n c (fun i=>d i - (if i=t then 1 else 0) - (if i=u then 1 else 0))=sm n c d - b2 (c t) - b2 (c u):=fun c=>by
  have e:sm n c (fun i=>d i - (if i=t then 1 else 0) - (if i=u then 1 else 0))=S n (fun i=>(if c i=true then d i else 0) - (if i=t then b2 (c t) else 0) - (if i=u then b2 (c u) else 0)):=S_congr fun i hi=>by
   show (if c i=true then (d i - (if i=t then 1 else 0) - (if i=u then 1 else 0)) else 0)=_
   by_cases e1:i=t
   ·subst e1
    rw[if_pos rfl,if_pos rfl,if_neg htu,if_neg htu]
    cases c i with
    | true=>rfl
    | false=>rfl
   ·rw[if_neg e1,if_neg e1]
    by_cases e2:i=u
    ·subst e2
     rw[if_pos rfl,if_pos rfl]
     cases c i with
     | true=>rfl
     | false=>rfl
    ·rw[if_neg e2,if_neg e2]
     cases c i with
     | true=>rw[if_pos rfl,if_pos rfl]
     | false=>rw[if_neg (by decide),if_neg (by decide)];omega
  rw[e,S_sub,S_sub,S_one _ ht,S_one _ hu]
  rfl
 rw[lower a,lower b]
 have K0:=K a b hab
 have ka:=cnt_nonneg n a
 have kb:=cnt_nonneg n b
 have kr:=cnt_two (n:=n) hab
 have sb:=sm_nonneg (a:=b) hd
 have ba:=fun x=>b2_nonneg (a x)
 have ab:=fun x=>b2_le (a x)
 generalize hk:cnt n a=k at *
 generalize hl:cnt n b=l at *
 have pq:k*((n:Int) - 1 - l)=k*(n:Int) - k - k*l:=by rw[Int.mul_sub,Int.mul_sub,Int.mul_one]
 have rem:∀ s,s<n->a s=true->b t=true->sm n a d+((n:Int) - k - l)+d t - d s<=k*((n:Int) - 1 - l)+sm n b d:=fun s hs has hbt=>by
  have:=K (put a s false) (put b t false) (disj_put hab s t)
  rw[sm_put hs,sm_put ht,cnt_put hs,cnt_put ht,has,hbt,hk,hl]at this
  simp only[if_true,b2_t,b2_f,Bool.false_eq_true,if_false]at this
  have e:(k+(0 - 1))*((n:Int) - 1 - (l+(0 - 1)))=k*((n:Int) - 1 - l)+k - (n:Int)+l:=by grind
  rw[e]at this
  omega
 have mov:b t=true->a t=false->sm n a d+d t<=(k+1)*((n:Int) - l)+sm n b d - d t:=fun hbt hat=>by
  have dj:∀ i,put a t true i=true->put b t false i=false:=fun i hi=>by
   by_cases e:i=t
   ·rw[e,put_at]
   ·rw[put_ne e]at hi;rw[put_ne e];exact hab i hi
  have:=K (put a t true) (put b t false) dj
  rw[sm_put ht,sm_put ht,cnt_put ht,cnt_put ht,hat,hbt,hk,hl]at this
  simp only[if_true,b2_t,b2_f,Bool.false_eq_true,if_false]at this
  have e:(k+(1 - 0))*((n:Int) - 1 - (l+(0 - 1)))=(k+1)*((n:Int) - l):=by grind
  rw[e]at this
  omega
 have nota:∀ i,b i=true->a i=false:=fun i hi=>by
  cases h:a i with
  | false=>rfl
  | true=>rw[hab i h]at hi;cases hi
 have empty:k=0->sm n a d=0:=fun hk0=>sm_zero fun i hi=>by
  cases h:a i with
  | false=>rfl
  | true =>
   have:=S_ge (f:=fun i=>b2 (a i)) hi (fun i _=>b2_nonneg _)
   have e:b2 (a i)=1:=by rw[h];rfl
   unfold cnt at hk
   have t:b2 (a i)<=S n (fun i=>b2 (a i)):=this
   omega
 cases hbt:b t with
 | false =>
  cases hbu:b u with
  | false=>have h1:=ba t;have h2:=ba u;rw[b2_f];omega
  | true =>
   rw[b2_t,b2_f]
   cases hat:a t with
   | true=>have h2:=ba u;rw[b2_t];omega
   | false =>
    rw[nota u hbu,b2_f]
    have dub:=sm_ge hd hu hbu
    have out:=cnt_out hab ht hat hbt
    rw[hk,hl]at out
    by_cases c1:k+1<=d u
    ·have:=K a (put b u false) (fun i hi=>by
      by_cases e:i=u
      ·rw[e,put_at]
      ·rw[put_ne e];exact hab i hi)
     rw[sm_put hu,cnt_put hu,hbu,hk,hl]at this
     simp only[if_true,b2_t,b2_f,Bool.false_eq_true,if_false]at this
     have e:k*((n:Int) - 1 - (l+(0 - 1)))=k*((n:Int) - 1 - l)+k:=by grind
     rw[e]at this
     omega
    ·by_cases c2:(n:Int) - l<=d t
     ·have:=K (put a t true) b (fun i hi=>by
       by_cases e:i=t
       ·rw[e];exact hbt
       ·rw[put_ne e]at hi;exact hab i hi)
      rw[sm_put ht,cnt_put ht,hat,hk,hl]at this
      simp only[if_true,b2_t,b2_f,Bool.false_eq_true,if_false]at this
      have e:(k+(1 - 0))*((n:Int) - 1 - l)=k*((n:Int) - 1 - l)+((n:Int) - 1 - l):=by grind
      rw[e]at this
      omega
     ·have h1:=sm_le (a:=a) (d:=d) (m:=(n:Int) - 1 - l) (n:=n) (fun i hi _=>by have:=hmax i hi;omega)
      rw[hk]at h1
      omega
 | true =>
  have hat:=nota t hbt
  rw[hat,b2_t,b2_f]
  cases hbu:b u with
  | false =>
   rw[b2_f]
   cases hau:a u with
   | true=>rw[b2_t];omega
   | false =>
    rw[b2_f]
    have out:=cnt_out hab hu hau hbu
    rw[hk,hl]at out
    by_cases k0:k=0
    ·have h1:=empty k0
     have h2:=sm_ge hd ht hbt
     rw[h1,k0,Int.zero_mul]
     omega
    ·obtain⟨s,hs,has⟩:=cnt_pos (n:=n) (a:=a) (by rw[hk];exact k0)
     have h1:=rem s hs has hbt
     have h2:=hmax s hs
     omega
  | true =>
   rw[nota u hbu,b2_t,b2_f]
   have two:=sm_ge2 hd ht hu htu hbt hbu
   by_cases k0:k=0
   ·have h1:=empty k0
    rw[h1,k0,Int.zero_mul]
    omega
   ·-- slack even where there is no place besides
    have par:(n:Int) - k - l=0->sm n a d<k*((n:Int) - 1 - l)+sm n b d->sm n a d+2<=k*((n:Int) - 1 - l)+sm n b d:=fun r0 hlt=>by
     obtain⟨q,hq⟩:=ev
     have cv:=cover (d:=d) hab (by rw[hk,hl];omega)
     obtain⟨q2,hq2⟩:=even_kk k
     have e:k*((n:Int) - 1 - l)=k*(k - 1):=by rw[show (n:Int) - 1 - l=k - 1 by omega]
     rw[e]at hlt ⊢
     omega
    by_cases hex:∃ s,s<n/\a s=true/\d s<d t
    ·obtain⟨s,hs,has,hlt⟩:=hex
     have h1:=rem s hs has hbt
     by_cases r0:(n:Int) - k - l=0
     ·have:=par r0 (by omega);omega
     ·omega
    ·have all:∀ i,i<n->a i=true->d i=d t:=fun i hi hai=>by
      have h1:=hmax i hi
      have h2:¬ d i<d t:=fun z=>hex ⟨i,hi,hai,z⟩
      omega
     obtain⟨s,hs,has⟩:=cnt_pos (n:=n) (a:=a) (by rw[hk];exact k0)
     have h1:=rem s hs has hbt
     have h2:=all s hs has
     have mv:=mov hbt hat
     have sa:=sm_eq (a:=a) (d:=d) (n:=n) all
     rw[hk]at sa
     generalize d t=m at *
     by_cases r2:2<=(n:Int) - k - l
     ·omega
     ·by_cases r1:(n:Int) - k - l=1
      ·have e1:(n:Int) - 1 - l=k:=by omega
       have e2:(n:Int) - l=k+1:=by omega
       rw[e1]
       rw[e2,sa]at mv
       rw[sa]
       have x1:(k+1)*(k+1)=k*k+2*k+1:=by grind
       rw[x1]at mv
       by_cases c1:m<=k
       ·have:=Int.mul_le_mul_of_nonneg_left c1 ka
        omega
       ·by_cases c2:m=k+1
        ·rw[c2,Int.mul_add,Int.mul_one];omega
        ·omega
      ·have r0:(n:Int) - k - l=0:=by omega
       have e1:(n:Int) - 1 - l=k - 1:=by omega
       have e2:(n:Int) - l=k:=by omega
       have pr:=par r0
       rw[e1]at pr ⊢
       rw[e2,sa]at mv
       rw[sa]at pr ⊢
       have x1:(k+1)*k=k*k+k:=by grind
       have x2:k*(k - 1)=k*k - k:=by grind
       rw[x1]at mv
       rw[x2]at pr ⊢
       by_cases c1:m<=k - 1
       ·have:=Int.mul_le_mul_of_nonneg_left c1 ka
        rw[x2]at this
        omega
       ·by_cases c2:m=k
        ·subst c2
         have:=pr (by omega)
         omega
        ·omega
end Grf
namespace Grf
theorem argmin {p:Nat->Prop}{f:Nat->Int}:∀ {n:Nat},(∃ i,i<n/\p i)->∃ u,u<n/\p u/\∀ i,i<n->p i->f u<=f i:=by
 intro n
 induction n with
 | zero=>rintro⟨i,h,_⟩;omega
 | succ n ih =>
  rintro⟨i,hi,pi⟩
  by_cases h:∃ i,i<n/\p i
  ·obtain⟨u,hu,pu,hm⟩:=ih h
   by_cases c:p n/\f n<f u
   ·refine⟨n,by omega,c.1,fun j hj pj=>?_⟩
    by_cases e:j=n
    ·rw[e];exact Int.le_refl _
    ·have:=hm j (by omega) pj;have:=c.2;omega
   ·refine⟨u,by omega,pu,fun j hj pj=>?_⟩
    by_cases e:j=n
    ·subst e
     have:¬ f j<f u:=fun z=>c ⟨pj,z⟩
     omega
    ·exact hm j (by omega) pj
  ·have e:i=n:=by
    by_cases e:i=n
    ·exact e
    ·exact absurd ⟨i,by omega,pi⟩ h
   subst e
   refine⟨i,by omega,pi,fun j hj pj=>?_⟩
   by_cases e:j=i
   ·rw[e];exact Int.le_refl _
   ·exact absurd ⟨j,by omega,pj⟩ h
theorem argmax {p:Nat->Prop}{f:Nat->Int}{n:Nat}(h:∃ i,i<n/\p i):∃ u,u<n/\p u/\∀ i,i<n->p i->f i<=f u:=by
 obtain⟨u,h1,h2,h3⟩:=argmin (f:=fun i=>-f i) h
 exact⟨u,h1,h2,fun i hi pi=>by have:=h3 i hi pi;omega⟩
theorem graph_is:∀ (m n:Nat) (d:Nat->Int),(∀ i,i<n->0<=d i)->Koren n d->S n d=2*(m:Int)->∃ g,Gph g/\∀ i,i<n->deg n g i=d i:=by
 intro m
 induction m with
 | zero =>
  intro n d hd K hs
  refine⟨fun _ _=>false,⟨fun _ _=>rfl,fun _=>rfl⟩,fun i hi=>?_⟩
  have h1:=S_ge hi hd
  have h2:=hd i hi
  have h3:deg n (fun _ _=>false) i=0:=S_zero n
  rw[h3]
  have:S n d=0:=by rw[hs];rfl
  omega
 | succ m ih =>
  intro n d hd K hs
  have hpos:∃ i,i<n/\0<d i:=by
   have:=S_lt (f:=fun _=>0) (g:=d) (n:=n) (by rw[S_zero,hs];omega)
   exact this
  obtain⟨t,ht,htp,hmax0⟩:=argmax (p:=fun i=>0<d i) (f:=d) hpos
  have hmax:∀ i,i<n->d i<=d t:=fun i hi=>by
   by_cases c:0<d i
   ·exact hmax0 i hi c
   ·omega
  have cb:cnt n (fun i=>decide (i≠t/\d i<=0))+cnt n (fun i=>decide (i≠t/\0<d i))+1=n:=by
   unfold cnt
   have e:=S_one (n:=n) (j:=t) 1 ht
   rw[<- S_add]
   have:S n (fun i=>(b2 (decide (i≠t/\d i<=0))+b2 (decide (i≠t/\0<d i)))+(if i=t then 1 else 0))=(n:Int)*1:=by
    rw[<- S_const]
    refine S_congr fun i hi=>?_
    by_cases e1:i=t
    ·subst e1;simp[b2]
    ·by_cases c:0<d i
     ·have c':¬ d i<=0:=by omega
      simp[b2,e1,c,c']
     ·have c':d i<=0:=by omega
      simp[b2,e1,c,c']
   rw[S_add,e]at this
   show S n (fun i=>b2 (decide (i≠t/\d i<=0))+b2 (decide (i≠t/\0<d i)))+1=_
   omega
  have ca:cnt n (fun i=>decide (i=t))=1:=by
   unfold cnt
   rw[S_congr (g:=fun i=>if i=t then 1 else 0) fun i _=>by by_cases e:i=t<;>simp[b2,e]]
   exact S_one 1 ht
  have sa:sm n (fun i=>decide (i=t)) d=d t:=by
   unfold sm
   rw[S_congr (g:=fun i=>if i=t then d t else 0) fun i _=>by by_cases e:i=t<;>simp[e]]
   exact S_one _ ht
  have sb:sm n (fun i=>decide (i≠t/\d i<=0)) d=0:=by
   unfold sm
   rw[S_congr (g:=fun _=>0) fun i hi=>by
    by_cases e:i≠t/\d i<=0
    ·have:=hd i hi
     rw[if_pos (decide_eq_true e)]
     have:=e.2
     omega
    ·rw[if_neg (show ¬ decide (i≠t/\d i<=0)=true by rw[decide_eq_false e];decide)]]
   exact S_zero n
  have kt:=K (fun i=>decide (i=t)) (fun i=>decide (i≠t/\d i<=0)) (fun i hi=>by
   have:i=t:=of_decide_eq_true hi
   exact decide_eq_false fun z=>z.1 this)
  rw[ca,sa,sb,Int.one_mul]at kt
  have hoth:∃ i,i<n/\(i≠t/\0<d i):=by
   obtain⟨i,hi,h⟩:=cnt_pos (n:=n) (a:=fun i=>decide (i≠t/\0<d i)) (by omega)
   exact⟨i,hi,of_decide_eq_true h⟩
  obtain⟨u,hu,⟨hut,hup⟩,hmin0⟩:=argmin (p:=fun i=>i≠t/\0<d i) (f:=d) hoth
  have hmin:∀ i,i<n->0<d i->d u<=d i:=fun i hi hp=>by
   by_cases e:i=t
   ·rw[e];exact hmax u hu
   ·exact hmin0 i hi ⟨e,hp⟩
  have htu:t≠u:=Ne.symm hut
  have K':=kor_step K hd ⟨_,hs⟩ ht hu htu hup hmax hmin
  obtain⟨g,hg,dg⟩:=ih n _ (fun i hi=>by
   show 0<=d i - (if i=t then 1 else 0) - (if i=u then 1 else 0)
   by_cases e1:i=t
   ·subst e1;rw[if_pos rfl,if_neg htu];omega
   ·by_cases e2:i=u
    ·subst e2;rw[if_neg e1,if_pos rfl];omega
    ·rw[if_neg e1,if_neg e2];have:=hd i hi;omega) K' (by
   rw[S_sub,S_sub,S_one _ ht,S_one _ hu,hs];omega)
  cases hgu:g t u with
  | false =>
   refine⟨setE g t u true,setE_gph hg htu,fun i hi=>?_⟩
   rw[deg_setE hg htu ht hu,dg i hi,hgu,b2_t,b2_f]
   show d i - (if i=t then 1 else 0) - (if i=u then 1 else 0)+_=_
   by_cases e1:i=t
   ·subst e1;rw[if_pos rfl,if_neg htu,if_pos (.inl rfl)];omega
   ·by_cases e2:i=u
    ·subst e2;rw[if_neg e1,if_pos rfl,if_pos (.inr rfl)];omega
    ·rw[if_neg e1,if_neg e2,if_neg (by omega)];omega
  | true =>
   obtain⟨s,hs1,hst,hsp,hgs⟩:∃ s,s<n/\s≠t/\0<d s/\g t s=false:=by
    by_cases hc:∃ s,s<n/\s≠t/\0<d s/\g t s=false
    ·exact hc
    ·have le:cnt n (fun i=>decide (i≠t/\0<d i))<=deg n g t:=S_le fun i hi=>by
      show b2 (decide (i≠t/\0<d i))<=b2 (g t i)
      by_cases e:i≠t/\0<d i
      ·have:g t i=true:=by
        cases h:g t i with
        | true=>rfl
        | false=>exact absurd ⟨i,hi,e.1,e.2,h⟩ hc
       rw[this,decide_eq_true e];exact Int.le_refl _
      ·rw[decide_eq_false e];exact b2_nonneg _
     have dt:=dg t ht
     have dt':deg n g t=d t - 1 - 0:=by
      rw[dt]
      show d t - (if t=t then 1 else 0) - (if t=u then 1 else 0)=_
      rw[if_pos rfl,if_neg htu]
     omega
   have su:s≠u:=fun e=>by rw[e,hgu]at hgs;cases hgs
   have ds:deg n g s=d s:=by
    rw[dg s hs1]
    show d s - (if s=t then 1 else 0) - (if s=u then 1 else 0)=_
    rw[if_neg hst,if_neg su];omega
   have du:deg n g u=d u - 1:=by
    rw[dg u hu]
    show d u - (if u=t then 1 else 0) - (if u=u then 1 else 0)=_
    rw[if_neg hut,if_pos rfl];omega
   obtain⟨z,hz,zs,zu,h1,h2⟩:=find2 hg hs1 hu su (by have:=hmin s hs1 hsp;omega)
   have zt:z≠t:=fun e=>by rw[e,hg.sym,hgs]at h1;cases h1
   have g1:=setE_gph (v:=false) hg (Ne.symm zs)
   have g2:=setE_gph (v:=true) g1 (Ne.symm hst)
   refine⟨setE (setE (setE g s z false) t s true) u z true,setE_gph g2 (Ne.symm zu),fun i hi=>?_⟩
   rw[deg_setE g2 (Ne.symm zu) hu hz,deg_setE g1 (Ne.symm hst) ht hs1,deg_setE hg (Ne.symm zs) hs1 hz,dg i hi]
   have v1:setE g s z false t s=false:=by rw[setE_ne (by omega)];exact hgs
   have v2:setE (setE g s z false) t s true u z=false:=by rw[setE_ne (by omega),setE_ne (by omega)];exact h2
   rw[h1,v1,v2,b2_t,b2_f]
   show d i - (if i=t then 1 else 0) - (if i=u then 1 else 0)+_+_+_=_
   by_cases e1:i=t
   ·subst e1;rw[if_pos rfl,if_neg htu,if_neg (by omega),if_pos (.inl rfl),if_neg (by omega)];omega
   ·by_cases e2:i=u
    ·subst e2;rw[if_neg e1,if_pos rfl,if_neg (by omega),if_neg (by omega),if_pos (.inl rfl)];omega
    ·rw[if_neg e1,if_neg e2]
     by_cases e3:i=s
     ·subst e3;rw[if_pos (.inl rfl),if_pos (.inr rfl),if_neg (by omega)];omega
     ·by_cases e4:i=z
      ·subst e4;rw[if_pos (.inr rfl),if_neg (by omega),if_pos (.inr rfl)];omega
      ·rw[if_neg (by omega),if_neg (by omega),if_neg (by omega)];omega
theorem koren_of {n:Nat}{g:Nat->Nat->Bool}{d:Nat->Int}(hg:Gph g)(dg:∀ i,i<n->deg n g i=d i):Koren n d:=by
 intro a b hab
 have e1:sm n a d=S n (fun i=>S n (fun j=>if a i=true then (if b j=true then b2 (g i j) else 0) else 0))+S n (fun i=>S n (fun j=>if a i=true then (if b j=true then 0 else b2 (g i j)) else 0)):=by
  rw[<- S_add]
  refine S_congr fun i hi=>?_
  rw[<- S_add]
  cases a i with
  | true =>
   rw[if_pos rfl,<- dg i hi]
   refine S_congr fun j _=>?_
   cases b j with
   | true=>simp
   | false=>simp
  | false =>
   rw[if_neg (by decide),S_congr (g:=fun _=>0) fun j _=>by simp,S_zero]
 have e2:S n (fun i=>S n (fun j=>if a i=true then (if b j=true then b2 (g i j) else 0) else 0))<=sm n b d:=by
  rw[S_swap]
  refine S_le fun j hj=>?_
  cases hb:b j with
  | true =>
   rw[if_pos rfl,<- dg j hj]
   refine S_le fun i _=>?_
   show (if a i=true then (if true=true then b2 (g i j) else 0) else 0)<=b2 (g j i)
   rw[if_pos rfl,hg.sym j i]
   cases a i with
   | true=>rw[if_pos rfl];exact Int.le_refl _
   | false=>rw[if_neg (by decide)];exact b2_nonneg _
  | false =>
   rw[if_neg (by decide)]
   have:S n (fun i=>if a i=true then (if false=true then b2 (g i j) else 0) else 0)=0:=by
    rw[S_congr (g:=fun _=>0) fun i _=>by simp]
    exact S_zero n
   rw[this]
   exact Int.le_refl _
 have e3:S n (fun i=>S n (fun j=>if a i=true then (if b j=true then 0 else b2 (g i j)) else 0))<=cnt n a*((n:Int) - 1 - cnt n b):=by
  have:cnt n a*((n:Int) - 1 - cnt n b)=S n (fun i=>((n:Int) - 1 - cnt n b)*b2 (a i)):=by rw[S_mul,Int.mul_comm];rfl
  rw[this]
  refine S_le fun i hi=>?_
  cases ha:a i with
  | true =>
   rw[b2_t,Int.mul_one]
   have hbi:=hab i ha
   have t:S n (fun j=>if true=true then (if b j=true then 0 else b2 (g i j)) else 0)<=S n (fun j=>(1 - b2 (b j)) - (if j=i then 1 else 0)):=S_le fun j hj=>by
    show (if true=true then (if b j=true then 0 else b2 (g i j)) else 0)<=_
    rw[if_pos rfl]
    by_cases e:j=i
    ·subst e
     rw[hbi,if_neg (by decide),hg.irr,if_pos rfl];decide
    ·rw[if_neg e]
     cases b j with
     | true=>rw[if_pos rfl];decide
     | false=>rw[if_neg (by decide)];have:=b2_le (g i j);rw[b2_f];omega
   rw[S_sub,S_sub,S_one _ hi,S_const,Int.mul_one]at t
   unfold cnt
   omega
  | false =>
   rw[b2_f,Int.mul_zero,S_congr (g:=fun _=>0) fun j _=>by simp,S_zero]
   exact Int.le_refl _
 omega
end Grf
namespace Grf
def mnf (r x:Int):Int:=if r<x then r else x
theorem mnf_le1 (r x:Int):mnf r x<=x:=by unfold mnf;split<;>omega
theorem mnf_le2 (r x:Int):mnf r x<=r:=by unfold mnf;split<;>omega
theorem mnf_mono {r x y:Int}(h:x<=y):mnf r x<=mnf r y:=by unfold mnf;split<;>split<;>omega
def roomF (n:Nat)(d:Nat->Int)(A:Nat->Bool):Int:=cnt n A*(cnt n A - 1)+S n (fun i=>if A i=true then 0 else mnf (cnt n A) (d i)) - sm n A d
def Top (n:Nat)(d:Nat->Int)(A:Nat->Bool):Prop:=∀ i j,i<n->j<n->A i=true->A j=false->d j<=d i
theorem top_most {n:Nat}{d:Nat->Int}{A a:Nat->Bool}{φ:Int->Int}(hφ:∀ x y,x<=y->φ x<=φ y)(ht:Top n d A)(hc:cnt n a=cnt n A):sm n a (fun i=>φ (d i))<=sm n A (fun i=>φ (d i)):=by
 by_cases h0:cnt n A=0
 ·have za:∀ i,i<n->a i=false:=fun i hi=>by
   cases h:a i with
   | false=>rfl
   | true =>
    have:=S_ge (f:=fun i=>b2 (a i)) hi (fun i _=>b2_nonneg _)
    have e:b2 (a i)=1:=by rw[h];rfl
    have t:b2 (a i)<=cnt n a:=this
    omega
  have zA:∀ i,i<n->A i=false:=fun i hi=>by
   cases h:A i with
   | false=>rfl
   | true =>
    have:=S_ge (f:=fun i=>b2 (A i)) hi (fun i _=>b2_nonneg _)
    have e:b2 (A i)=1:=by rw[h];rfl
    have t:b2 (A i)<=cnt n A:=this
    omega
  rw[sm_zero za,sm_zero zA]
  exact Int.le_refl _
 ·obtain⟨m,hm,hAm,hmin⟩:=argmin (p:=fun i=>A i=true) (f:=d) (cnt_pos h0)
  have key:S n (fun i=>(if a i=true then φ (d i) else 0) - (if A i=true then φ (d i) else 0))<=S n (fun i=>φ (d m)*b2 (a i) - φ (d m)*b2 (A i)):=S_le fun i hi=>by
   cases ha:a i with
   | true =>
    cases hA:A i with
    | true=>rw[if_pos rfl];omega
    | false =>
     rw[if_pos rfl,if_neg (by decide),b2_t,b2_f,Int.mul_one,Int.mul_zero]
     have:=hφ _ _ (ht m i hm hi hAm hA)
     omega
   | false =>
    cases hA:A i with
    | true =>
     rw[if_pos rfl,if_neg (by decide),b2_t,b2_f,Int.mul_one,Int.mul_zero]
     have:=hφ _ _ (hmin i hi hA)
     omega
    | false=>rw[if_neg (by decide)];omega
  rw[S_sub,S_sub,S_mul,S_mul]at key
  have e:φ (d m)*S n (fun i=>b2 (a i))=φ (d m)*S n (fun i=>b2 (A i)):=by
   show φ (d m)*cnt n a=φ (d m)*cnt n A
   rw[hc]
  show S n (fun i=>if a i=true then φ (d i) else 0)<=S n (fun i=>if A i=true then φ (d i) else 0)
  omega
theorem koren_room {n:Nat}{d:Nat->Int}(hd:∀ i,i<n->0<=d i)(h:∀ r:Nat,1<=r->r<=n->∃ A,cnt n A=r/\Top n d A/\0<=roomF n d A):Koren n d:=by
 intro a b hab
 have k0:=cnt_nonneg n a
 have kr:=cnt_two (n:=n) hab
 have kb:=cnt_nonneg n b
 by_cases hz:cnt n a=0
 ·have za:∀ i,i<n->a i=false:=fun i hi=>by
   cases h:a i with
   | false=>rfl
   | true =>
    have:=S_ge (f:=fun i=>b2 (a i)) hi (fun i _=>b2_nonneg _)
    have e:b2 (a i)=1:=by rw[h];rfl
    have t:b2 (a i)<=cnt n a:=this
    omega
  have:=sm_nonneg (a:=b) hd
  rw[sm_zero za,hz,Int.zero_mul]
  omega
 ·obtain⟨A,hc,ht,r1⟩:=h (cnt n a).toNat (by omega) (by omega)
  have hcA:cnt n A=cnt n a:=by omega
  have r2:=top_most (φ:=fun x=>x+mnf (cnt n a) x) (fun x y hxy=>by have:=mnf_mono (r:=cnt n a) hxy;omega) ht hcA.symm
  have sp:∀ c:Nat->Bool,sm n c (fun i=>d i+mnf (cnt n a) (d i))=sm n c d+S n (fun i=>mnf (cnt n a) (d i)) - S n (fun i=>if c i=true then 0 else mnf (cnt n a) (d i)):=fun c=>by
   unfold sm
   rw[<- S_add,<- S_sub]
   refine S_congr fun i _=>?_
   show (if c i=true then d i+mnf (cnt n a) (d i) else 0)=(if c i=true then d i else 0)+mnf (cnt n a) (d i) - (if c i=true then 0 else mnf (cnt n a) (d i))
   cases c i with
   | true=>rw[if_pos rfl,if_pos rfl,if_pos rfl];omega
   | false=>rw[if_neg (by decide),if_neg (by decide),if_neg (by decide)];omega
  rw[sp a,sp A]at r2
  unfold roomF at r1
  rw[hcA]at r1
  have low:S n (fun i=>if a i=true then 0 else mnf (cnt n a) (d i))<=sm n b d+cnt n a*((n:Int) - cnt n a - cnt n b):=by
   have e:cnt n a*((n:Int) - cnt n a - cnt n b)=S n (fun i=>cnt n a*(1 - b2 (a i) - b2 (b i))):=by
    rw[S_mul,S_sub,S_sub,S_const,Int.mul_one];rfl
   rw[e]
   unfold sm
   rw[<- S_add]
   refine S_le fun i hi=>?_
   cases ha:a i with
   | true =>
    have hb:=hab i ha
    rw[if_pos rfl,hb,if_neg (by decide),b2_t,b2_f]
    simp
   | false =>
    rw[if_neg (by decide),b2_f]
    cases b i with
    | true =>
     rw[if_pos rfl,b2_t]
     have:=mnf_le1 (cnt n a) (d i)
     simp
     exact this
    | false =>
     rw[if_neg (by decide),b2_f]
     have:=mnf_le2 (cnt n a) (d i)
     simp
     exact this
  have x:cnt n a*((n:Int) - 1 - cnt n b)=cnt n a*(cnt n a - 1)+cnt n a*((n:Int) - cnt n a - cnt n b):=by grind
  rw[x]
  omega
theorem room_koren {n:Nat}{d:Nat->Int}(K:Koren n d)(A:Nat->Bool):0<=roomF n d A:=by
 have k:=K A (fun i=>!A i && decide (d i<cnt n A)) (fun i hi=>by simp[hi])
 have e:S n (fun i=>if A i=true then 0 else mnf (cnt n A) (d i))=sm n (fun i=>!A i && decide (d i<cnt n A)) d+cnt n A*((n:Int) - cnt n A - cnt n (fun i=>!A i && decide (d i<cnt n A))):=by
  have e1:cnt n A*((n:Int) - cnt n A - cnt n (fun i=>!A i && decide (d i<cnt n A)))=S n (fun i=>cnt n A*(1 - b2 (A i) - b2 (!A i && decide (d i<cnt n A)))):=by
   rw[S_mul,S_sub,S_sub,S_const,Int.mul_one];rfl
  rw[e1]
  unfold sm
  rw[<- S_add]
  refine S_congr fun i hi=>?_
  show (if A i=true then 0 else mnf (cnt n A) (d i))=(if (!A i && decide (d i<cnt n A))=true then d i else 0)+cnt n A*(1 - b2 (A i) - b2 (!A i && decide (d i<cnt n A)))
  cases hA:A i with
  | true=>simp[b2]
  | false =>
   generalize cnt n A=r
   by_cases c:d i<r
   ·rw[decide_eq_true c]
    simp[b2,mnf]
    omega
   ·rw[decide_eq_false c]
    simp[b2,mnf]
    omega
 unfold roomF
 rw[e]
 have x:cnt n A*((n:Int) - 1 - cnt n (fun i=>!A i && decide (d i<cnt n A)))=cnt n A*(cnt n A - 1)+cnt n A*((n:Int) - cnt n A - cnt n (fun i=>!A i && decide (d i<cnt n A))):=by grind
 rw[x]at k
 omega
theorem deg_even {g:Nat->Nat->Bool}(hg:Gph g):∀ n:Nat,∃ q,S n (deg n g)=2*q:=by
 intro n
 induction n with
 | zero=>exact⟨0,rfl⟩
 | succ n ih =>
  obtain⟨q,hq⟩:=ih
  refine⟨q+S n (fun i=>b2 (g i n)),?_⟩
  show S n (deg (n+1) g)+deg (n+1) g n=_
  have e1:S n (deg (n+1) g)=S n (deg n g)+S n (fun i=>b2 (g i n)):=by rw[<- S_add];rfl
  have e2:deg (n+1) g n=S n (fun i=>b2 (g i n)):=by
   show S n (fun j=>b2 (g n j))+b2 (g n n)=_
   rw[hg.irr,b2_f,S_congr (g:=fun i=>b2 (g i n)) fun i _=>by rw[hg.sym]]
   omega
  rw[e1,e2,hq]
  omega
end Grf
namespace Web
def mn (r x:Int):Int:=if r<x then r else x
theorem sum_app:∀ a b:List Int,(a++b).sum=a.sum+b.sum
 | [],b=>by simp
 | x::a,b=>by rw[List.cons_append,List.sum_cons,List.sum_cons,sum_app a b,Int.add_assoc]
theorem sum_rev:∀ a:List Int,a.reverse.sum=a.sum
 | []=>rfl
 | x::a=>by rw[List.reverse_cons,sum_app,sum_rev a,List.sum_cons,List.sum_cons,List.sum_nil];omega
def up2 (ns:List Int):List Int:=PySem.W.sortI ns
theorem up2_len (ns:List Int):(up2 ns).length=ns.length:=(PySem.W.sortI_perm ns).length_eq
theorem fall_eq {zs ns:List Int}(hp:zs.Perm ns)(hs:zs.Pairwise (·≥·)):zs=(up2 ns).reverse:=by
 have h:zs.reverse=up2 ns:=PySem.W.eq_sortI ((List.reverse_perm zs).trans hp) (by rw[List.pairwise_reverse];exact hs)
 rw[<- h,List.reverse_reverse]
def part (m:Nat)(r:Int)(g:List Int):Int:=((g.take m).map (mn r)).sum - (g.drop m).sum
def roomN (ns:List Int)(r:Nat):Int:=(r:Int)*((r:Int) - 1)+part (ns.length - r) r (up2 ns)
theorem room_among {ns zs:List Int}{r:Nat}(e:zs=(up2 ns).reverse):(r:Int)*((r:Int) - 1)+((zs.drop r).map (mn r)).sum - (zs.take r).sum=roomN ns r:=by
 unfold roomN part
 rw[e,List.drop_reverse,List.take_reverse,List.map_reverse,sum_rev,sum_rev,up2_len]
 omega
end Web
namespace Web
inductive Wl where
 | below (p:Nat) | odd | wall (r:Nat) | free
 deriving DecidableEq
def AllP (ns:List Int):Prop:=∀ (j:Nat) (x:Int),ns[j]?=some x->0<=x
def IsWl (ns:List Int):Wl->Prop
 | .below p=>(∃ x,ns[p]?=some x/\x<0)/\∀ (j:Nat) (x:Int),j<p->ns[j]?=some x->0<=x
 | .odd=>AllP ns/\ns.sum % 2=1
 | .wall r=>AllP ns/\¬ ns.sum % 2=1/\1<=r/\r<=ns.length/\roomN ns r<0/\∀ k,1<=k->k<r->0<=roomN ns k
 | .free=>AllP ns/\¬ ns.sum % 2=1/\∀ k,1<=k->k<=ns.length->0<=roomN ns k
theorem wl_uniq {ns:List Int}{w u:Wl}(h:IsWl ns w)(g:IsWl ns u):w=u:=by
 cases w with
 | below p =>
  obtain⟨⟨x,hx,hx0⟩,hp⟩:=h
  have no:¬ AllP ns:=fun a=>by have:=a p x hx;omega
  cases u with
  | below q =>
   obtain⟨⟨y,hy,hy0⟩,hq⟩:=g
   rcases Nat.lt_trichotomy p q with l | l | l
   ·have:=hq p x l hx;omega
   ·rw[l]
   ·have:=hp q y l hy;omega
  | odd=>exact absurd g.1 no
  | wall r=>exact absurd g.1 no
  | free=>exact absurd g.1 no
 | odd =>
  cases u with
  | below q =>
   obtain⟨⟨y,hy,hy0⟩,hq⟩:=g
   have:=h.1 q y hy;omega
  | odd=>rfl
  | wall r=>exact absurd h.2 g.2.1
  | free=>exact absurd h.2 g.2.1
 | wall r =>
  obtain⟨a,b,r1,r2,r3,r4⟩:=h
  cases u with
  | below q =>
   obtain⟨⟨y,hy,hy0⟩,hq⟩:=g
   have:=a q y hy;omega
  | odd=>exact absurd g.2 b
  | wall s =>
   obtain⟨_,_,s1,s2,s3,s4⟩:=g
   rcases Nat.lt_trichotomy r s with l | l | l
   ·have:=s4 r r1 l;omega
   ·rw[l]
   ·have:=r4 s s1 l;omega
  | free=>have:=g.2.2 r r1 r2;omega
 | free =>
  cases u with
  | below q =>
   obtain⟨⟨y,hy,hy0⟩,hq⟩:=g
   have:=h.1 q y hy;omega
  | odd=>exact absurd g.2 h.2.1
  | wall s =>
   obtain⟨_,_,s1,s2,s3,s4⟩:=g
   have:=h.2.2 s s1 s2;omega
  | free=>rfl
end Web
namespace Web
open L2
def rng (n:Nat):List Int:=(List.range' 0 n).map fun k:Nat=>(k:Int)
theorem rng_mem {n:Nat}{x:Int}:x∈rng n↔0<=x/\x<n:=by
 unfold rng
 constructor
 ·intro h
  obtain⟨k,hk,rfl⟩:=List.mem_map.mp h
  have:=List.mem_range'_1.mp hk
  omega
 ·intro h
  exact List.mem_map.mpr ⟨x.toNat,List.mem_range'_1.mpr ⟨by omega,by omega⟩,by omega⟩
theorem rng_len (n:Nat):(rng n).length=n:=by unfold rng;rw[List.length_map,List.length_range']
theorem rng_nodup (n:Nat):(rng n).Nodup:=by
 unfold rng
 refine List.Pairwise.map _ (fun a b h=>?_) (List.nodup_range' (step:=1) (by decide))
 intro e
 exact h (by omega)
def rest (zs:List Int)(p:Int):List Int:=zs.filter fun x=>decide (x≠p)
theorem rest_mem {zs:List Int}{p x:Int}:x∈rest zs p↔x∈zs/\x≠p:=by unfold rest;rw[List.mem_filter,decide_eq_true_iff]
theorem rest_len {n:Nat}{zs:List Int}{p:Int}(hp:zs.Perm (rng n))(h0:0<=p)(h1:p<n):(rest zs p).length=n - 1:=by
 have nd:zs.Nodup:=hp.nodup_iff.mpr (rng_nodup n)
 have hm:p∈zs:=hp.mem_iff.mpr (rng_mem.mpr ⟨h0,h1⟩)
 have e:rest zs p=zs.erase p:=by
  unfold rest
  rw[nd.erase_eq_filter]
  congr 1
  funext x
  by_cases h:x=p<;>simp[h]
 rw[e,List.length_erase_of_mem hm,hp.length_eq,rng_len]
def less1 (ns es:List Int)(i:Nat):Int:=if (i:Int)∈es then ns.getD i 0 - 1 else ns.getD i 0
def leftL (ns:List Int)(p:Nat)(es:List Int):List Int:=((List.range ns.length).filter fun i=>decide (i≠p)).map (less1 ns es)
open Grf (S b2 Gph deg cnt sm Top roomF)
theorem S_range (f:Nat->Int):∀ n:Nat,S n f=((List.range n).map f).sum
 | 0=>rfl
 | n+1=>by
  rw[List.range_succ,List.map_append,sum_app,<- S_range f n]
  show S n f+f n=_+(f n+0)
  omega
theorem map_getD (φ:Int->Int)(xs:List Int):(List.range xs.length).map (fun i=>φ (xs.getD i 0))=xs.map φ:=by
 refine List.ext_getElem? fun i=>?_
 rw[List.getElem?_map,List.getElem?_map]
 rcases Nat.lt_or_ge i xs.length with h | h
 ·rw[List.getElem?_range h,List.getElem?_eq_getElem h]
  show some (φ (xs.getD i 0))=some (φ xs[i])
  rw[List.getD_eq_getElem?_getD,List.getElem?_eq_getElem h]
  rfl
 ·rw[List.getElem?_eq_none h,List.getElem?_eq_none (by rw[List.length_range];exact h)]
  rfl
theorem S_list (φ:Int->Int)(xs:List Int):S xs.length (fun i=>φ (xs.getD i 0))=(xs.map φ).sum:=by rw[S_range,map_getD]
theorem S_sum (xs:List Int):S xs.length (fun i=>xs.getD i 0)=xs.sum:=by
 have:=S_list (fun x=>x) xs
 rw[List.map_id']at this
 exact this
theorem S_in {n:Nat}{f:Nat->Int}:∀ {L:List Int},L.Nodup->(∀ z∈L,0<=z/\z<n)->S n (fun i=>if (i:Int)∈L then f i else 0)=(L.map fun z=>f z.toNat).sum
 | [],_,_=>by
  rw[Grf.S_congr (g:=fun _=>0) fun i _=>by simp]
  exact Grf.S_zero n
 | z::L,nd,h=>by
  obtain⟨h1,h2⟩:=List.nodup_cons.mp nd
  obtain⟨z0,z1⟩:=h z List.mem_cons_self
  rw[List.map_cons,List.sum_cons,<- S_in h2 fun y hy=>h y (List.mem_cons_of_mem _ hy)]
  rw[Grf.S_pick (j:=z.toNat) (f:=fun i=>if (i:Int)∈z::L then f i else 0) (g:=fun i=>if (i:Int)∈L then f i else 0) (by omega) (fun i _ hi=>by
   show (if (i:Int)∈z::L then f i else 0)=if (i:Int)∈L then f i else 0
   by_cases e:(i:Int)∈L
   ·rw[if_pos e,if_pos (List.mem_cons_of_mem _ e)]
   ·rw[if_neg e,if_neg (fun c=>by
     rcases List.mem_cons.mp c with c | c
     ·exact hi (by omega)
     ·exact e c)])]
  show _+((if ((z.toNat:Nat):Int)∈z::L then f z.toNat else 0) - (if ((z.toNat:Nat):Int)∈L then f z.toNat else 0))=_
  have ez:((z.toNat:Nat):Int)=z:=by omega
  rw[ez,if_pos List.mem_cons_self,if_neg h1]
  omega
theorem rng_map (ns:List Int):(rng ns.length).map (fun z=>ns.getD z.toNat 0)=ns:=by
 unfold rng
 rw[List.map_map,<- List.range_eq_range']
 have:=map_getD (fun x=>x) ns
 rw[List.map_id']at this
 exact this
theorem order_fall {ns zs:List Int}(hp:zs.Perm (rng ns.length))(hs:zs.Pairwise (ole ns)):zs.map (fun z=>ns.getD z.toNat 0)=(up2 ns).reverse:=by
 refine fall_eq ?_ ?_
 ·have:=hp.map (fun z:Int=>ns.getD z.toNat 0)
  rw[rng_map]at this
  exact this
 ·refine List.Pairwise.map _ (fun a b h=>?_) hs
  have:=ole_iff.mp h
  show ns.getD b.toNat 0<=ns.getD a.toNat 0
  omega
theorem order_top {ns zs:List Int}(hp:zs.Perm (rng ns.length))(hs:zs.Pairwise (ole ns)){r:Nat}(hr:r<=ns.length) :
  cnt ns.length (fun i=>decide ((i:Int)∈zs.take r))=r/\Top ns.length (fun i=>ns.getD i 0) (fun i=>decide ((i:Int)∈zs.take r))/\roomF ns.length (fun i=>ns.getD i 0) (fun i=>decide ((i:Int)∈zs.take r))=roomN ns r:=by
 have nd:zs.Nodup:=hp.nodup_iff.mpr (rng_nodup _)
 have hzl:zs.length=ns.length:=by rw[hp.length_eq,rng_len]
 have hin:∀ z∈zs,0<=z/\z<(ns.length:Int):=fun z hz=>rng_mem.mp (hp.mem_iff.mp hz)
 have ndA:(zs.take r).Nodup:=nd.sublist (List.take_sublist r zs)
 have ndB:(zs.drop r).Nodup:=nd.sublist (List.drop_sublist r zs)
 have inA:∀ z∈zs.take r,0<=z/\z<(ns.length:Int):=fun z hz=>hin z (List.mem_of_mem_take hz)
 have inB:∀ z∈zs.drop r,0<=z/\z<(ns.length:Int):=fun z hz=>hin z (List.mem_of_mem_drop hz)
 have app:=nd
 rw[<- List.take_append_drop r zs]at app
 have cross:=(List.nodup_append.mp app).2.2
 have mem_or:∀ i:Nat,i<ns.length->(i:Int)∈zs.take r\/(i:Int)∈zs.drop r:=fun i hi=>by
  have:(i:Int)∈zs:=hp.mem_iff.mpr (rng_mem.mpr ⟨by omega,by omega⟩)
  rw[<- List.take_append_drop r zs]at this
  exact List.mem_append.mp this
 have hc:cnt ns.length (fun i=>decide ((i:Int)∈zs.take r))=r:=by
  have:=S_in (n:=ns.length) (f:=fun _=>1) ndA inA
  have e:cnt ns.length (fun i=>decide ((i:Int)∈zs.take r))=S ns.length (fun i=>if (i:Int)∈zs.take r then 1 else 0):=Grf.S_congr fun i _=>by
   by_cases c:(i:Int)∈zs.take r
   ·rw[if_pos c];simp[b2,c]
   ·rw[if_neg c];simp[b2,c]
  rw[e,this]
  have l:(zs.take r).length=r:=by rw[List.length_take];omega
  have:∀ L:List Int,(L.map fun _=>(1:Int)).sum=L.length:=fun L=>by
   induction L with
   | nil=>rfl
   | cons a L ih=>rw[List.map_cons,List.sum_cons,ih,List.length_cons];omega
  rw[this,l]
 refine⟨hc,fun i j hi hj h1 h2=>?_,?_⟩
 ·have a1:(i:Int)∈zs.take r:=of_decide_eq_true h1
  have a2:(j:Int)∈zs.drop r:=(mem_or j hj).resolve_left (of_decide_eq_false h2)
  have pw:=hs
  rw[<- List.take_append_drop r zs]at pw
  have:=ole_iff.mp ((List.pairwise_append.mp pw).2.2 _ a1 _ a2)
  rw[Int.toNat_natCast,Int.toNat_natCast]at this
  show ns.getD j 0<=ns.getD i 0
  omega
 ·have of:=order_fall hp hs
  have rm:=room_among (ns:=ns) (r:=r) of
  unfold roomF
  rw[hc,<- rm,<- List.map_drop,<- List.map_take,List.map_map]
  have s1:sm ns.length (fun i=>decide ((i:Int)∈zs.take r)) (fun i=>ns.getD i 0)=((zs.take r).map fun z=>ns.getD z.toNat 0).sum:=by
   rw[<- S_in (n:=ns.length) (f:=fun i=>ns.getD i 0) ndA inA]
   refine Grf.S_congr fun i _=>?_
   show (if decide ((i:Int)∈zs.take r)=true then ns.getD i 0 else 0)=_
   by_cases c:(i:Int)∈zs.take r
   ·rw[if_pos c,decide_eq_true c,if_pos rfl]
   ·rw[if_neg c,decide_eq_false c,if_neg (by decide)]
  have s2:S ns.length (fun i=>if decide ((i:Int)∈zs.take r)=true then 0 else Grf.mnf r (ns.getD i 0))=((zs.drop r).map (mn r ∘ fun z=>ns.getD z.toNat 0)).sum:=by
   have:=S_in (n:=ns.length) (f:=fun i=>mn r (ns.getD i 0)) ndB inB
   show _=((zs.drop r).map fun z=>mn r (ns.getD z.toNat 0)).sum
   rw[<- this]
   refine Grf.S_congr fun i hi=>?_
   by_cases c:(i:Int)∈zs.take r
   ·rw[decide_eq_true c,if_pos rfl,if_neg (fun z=>cross _ c _ z rfl)]
   ·rw[decide_eq_false c,if_neg (by decide),if_pos ((mem_or i hi).resolve_left c)]
    rfl
  rw[s1,s2]
theorem ord_is (ns:List Int):∃ zs:List Int,zs.Perm (rng ns.length)/\zs.Pairwise (ole ns):=by
 let le:Int->Int->Bool:=fun x y=>decide (ns.getD y.toNat 0<ns.getD x.toNat 0\/(ns.getD x.toNat 0=ns.getD y.toNat 0/\x<=y))
 refine⟨(rng ns.length).mergeSort le,List.mergeSort_perm _ _,?_⟩
 have:=List.pairwise_mergeSort (le:=le) (fun a b c h1 h2=>?_) (fun a b=>?_) (rng ns.length)
 ·exact this.imp fun h=>ole_iff.mpr (of_decide_eq_true h)
 ·have g1:=of_decide_eq_true h1
  have g2:=of_decide_eq_true h2
  exact decide_eq_true (by omega)
 ·rw[Bool.or_eq_true]
  by_cases h:ns.getD b.toNat 0<ns.getD a.toNat 0\/(ns.getD a.toNat 0=ns.getD b.toNat 0/\a<=b)
  ·exact .inl (decide_eq_true h)
  ·exact .inr (decide_eq_true (by omega))
def Gr (ns:List Int):Prop:=∃ g,Gph g/\∀ i,i<ns.length->deg ns.length g i=ns.getD i 0
theorem allp_get {ns:List Int}(h:AllP ns){i:Nat}(hi:i<ns.length):0<=ns.getD i 0:=by
 rw[List.getD_eq_getElem?_getD,List.getElem?_eq_getElem hi]
 exact h i _ (List.getElem?_eq_getElem hi)
theorem free_gr {ns:List Int}(h:IsWl ns .free):Gr ns:=by
 obtain⟨h1,h2,h3⟩:=h
 obtain⟨zs,hp,hs⟩:=ord_is ns
 have hd:∀ i,i<ns.length->0<=ns.getD i 0:=fun i hi=>allp_get h1 hi
 have K:=Grf.koren_room (d:=fun i=>ns.getD i 0) hd fun r r1 r2=>by
  obtain⟨a1,a2,a3⟩:=order_top hp hs r2
  exact⟨_,a1,a2,by rw[a3];exact h3 r r1 r2⟩
 have s0:0<=ns.sum:=by rw[<- S_sum];exact Grf.S_nonneg hd
 obtain⟨g,hg,dg⟩:=Grf.graph_is (ns.sum / 2).toNat ns.length (fun i=>ns.getD i 0) hd K (by rw[S_sum];omega)
 exact⟨g,hg,dg⟩
theorem gr_pos {ns:List Int}(h:Gr ns):AllP ns:=by
 obtain⟨g,hg,dg⟩:=h
 intro j x hx
 have hj:j<ns.length:=by
  rcases Nat.lt_or_ge j ns.length with h | h
  ·exact h
  ·rw[List.getElem?_eq_none h]at hx;cases hx
 have:=dg j hj
 rw[List.getD_eq_getElem?_getD,hx]at this
 have e:deg ns.length g j=x:=this
 rw[<- e]
 exact Grf.S_nonneg fun i _=>Grf.b2_nonneg _
theorem gr_free {ns:List Int}(h:Gr ns):IsWl ns .free:=by
 have pos:=gr_pos h
 obtain⟨g,hg,dg⟩:=h
 refine⟨pos,?_,fun k k1 k2=>?_⟩
 ·obtain⟨q,hq⟩:=Grf.deg_even hg ns.length
  rw[Grf.S_congr (g:=fun i=>ns.getD i 0) fun i hi=>dg i hi,S_sum]at hq
  omega
 ·obtain⟨zs,hp,hs⟩:=ord_is ns
  obtain⟨_,_,a3⟩:=order_top hp hs k2
  rw[<- a3]
  exact Grf.room_koren (Grf.koren_of hg dg) _
end Web
namespace Web
open L2
open Grf (S b2 Gph deg setE)
def gW (ks:List (List Int))(i j:Nat):Bool:=decide ([(i:Int),(j:Int)]∈ks) || decide ([(j:Int),(i:Int)]∈ks)
theorem gW_cons {a b:Nat}{ks:List (List Int)}:gW ([(a:Int),(b:Int)]::ks)=setE (gW ks) a b true:=by
 funext i j
 unfold gW setE
 have e1:([(i:Int),(j:Int)]=[(a:Int),(b:Int)])↔(i=a/\j=b):=by
  constructor
  ·intro h;injection h with h1 h2;injection h2 with h2;omega
  ·rintro⟨rfl,rfl⟩;rfl
 have e2:([(j:Int),(i:Int)]=[(a:Int),(b:Int)])↔(i=b/\j=a):=by
  constructor
  ·intro h;injection h with h1 h2;injection h2 with h2;omega
  ·rintro⟨rfl,rfl⟩;rfl
 by_cases c:(i=a/\j=b)\/(i=b/\j=a)
 ·rw[if_pos c]
  rcases c with c | c
  ·simp[e1.mpr c]
  ·simp[e2.mpr c]
 ·rw[if_neg c]
  have c1:¬ [(i:Int),(j:Int)]=[(a:Int),(b:Int)]:=fun z=>c (.inl (e1.mp z))
  have c2:¬ [(j:Int),(i:Int)]=[(a:Int),(b:Int)]:=fun z=>c (.inr (e2.mp z))
  simp only[List.mem_cons,c1,c2,false_or]
theorem gW_gph {n:Nat}{ks:List (List Int)}(h:∀ k∈ks,Up n k):Gph (gW ks) where
 sym:=fun i j=>by unfold gW;rw[Bool.or_comm]
 irr:=fun i=>by
  have:¬ [(i:Int),(i:Int)]∈ks:=fun z=>by
   obtain⟨a,b,h1,h2,e⟩:=h _ z
   injection e with e1 e2
   injection e2 with e2
   omega
  unfold gW
  rw[decide_eq_false this];rfl
theorem gW_deg {n:Nat}:∀ {ks:List (List Int)},ks.Nodup->(∀ k∈ks,Up n k)->∀ i,deg n (gW ks) i=(cntP ks i:Int)
 | [],_,_,i=>by
  have:deg n (gW []) i=S n (fun _=>0):=Grf.S_congr fun j _=>by simp[gW,b2]
  rw[this,Grf.S_zero]
  rfl
 | k::ks,nd,h,i=>by
  obtain⟨n1,n2⟩:=List.nodup_cons.mp nd
  obtain⟨a,b,h1,h2,e⟩:=h k List.mem_cons_self
  subst e
  have hk:∀ k∈ks,Up n k:=fun k hk=>h k (List.mem_cons_of_mem _ hk)
  have hf:gW ks a b=false:=by
   have:¬ [(b:Int),(a:Int)]∈ks:=fun z=>by
    obtain⟨x,y,u1,u2,e⟩:=hk _ z
    injection e with e1 e2
    injection e2 with e2
    omega
   unfold gW
   rw[decide_eq_false n1,decide_eq_false this];rfl
  rw[gW_cons,Grf.deg_setE (gW_gph hk) (by omega) (by omega) h2,gW_deg n2 hk i,hf]
  have ec:cntP ([(a:Int),(b:Int)]::ks) i=cntP ks i+(if i=a\/i=b then 1 else 0):=by
   show List.countP _ _=List.countP _ _+_
   rw[List.countP_cons]
   congr 1
   have:decide ((i:Int)∈[(a:Int),(b:Int)])=decide (i=a\/i=b):=by
    congr 1
    rw[List.mem_cons,List.mem_singleton]
    exact propext ⟨fun z=>by omega,fun z=>by omega⟩
   rw[this]
   by_cases c:i=a\/i=b
   ·rw[decide_eq_true c,if_pos rfl,if_pos c]
   ·rw[decide_eq_false c,if_neg (by decide),if_neg c]
  rw[ec]
  by_cases c:i=a\/i=b
  ·rw[if_pos c,if_pos c];simp[b2]
  ·rw[if_neg c,if_neg c];simp
theorem tal_getD {n i:Nat}{ks:List (List Int)}(h:i<n):(tal n ks).getD i 0=(cntP ks i:Int):=by
 rw[List.getD_eq_getElem?_getD,tal_get h];rfl
theorem web_gr {n:Nat}{ks:List (List Int)}(nd:ks.Nodup)(h:∀ k∈ks,Up n k):Gr (tal n ks):=by
 refine⟨gW ks,gW_gph h,fun i hi=>?_⟩
 rw[tal_len]at hi ⊢
 rw[gW_deg nd h,tal_getD hi]
theorem pair_in {n i j:Nat}(h1:i<j)(h2:j<n):[(i:Int),(j:Int)]∈pairsN n:=by
 unfold pairsN
 refine List.mem_flatMap.mpr ⟨i,List.mem_range.mpr (by omega),?_⟩
 unfold rowF
 exact List.mem_map.mpr ⟨j - (i+1),List.mem_range.mpr (by omega),by
  rw[show ((j - (i+1):Nat):Int)=(j:Int) - ((i:Int)+1) by omega]
  rw[show (i:Int)+1+((j:Int) - ((i:Int)+1))=(j:Int) by omega]⟩
end Web
namespace Web
open L2
open Grf (S b2 Gph deg cnt sm Top roomF)
def sk (p i:Nat):Nat:=if i<p then i else i+1
theorem sk_ne (p i:Nat):sk p i≠p:=by unfold sk;split<;>omega
theorem sk_lt {p i n:Nat}(h:i<n - 1)(hp:p<n):sk p i<n:=by unfold sk;split<;>omega
theorem S_skip {p:Nat}(f:Nat->Int):∀ {n:Nat},p<n->S n f=S (n - 1) (fun j=>f (sk p j))+f p
 | n+1,h=>by
  show S n f+f n=S n (fun j=>f (sk p j))+f p
  by_cases e:p=n
  ·subst e
   rw[Grf.S_congr (g:=fun j=>f (sk p j)) fun i hi=>by show f i=f (sk p i);unfold sk;rw[if_pos hi]]
  ·have hp:p<n:=by omega
   rw[S_skip f hp]
   obtain⟨m,rfl⟩:∃ m,n=m+1:=⟨n - 1,by omega⟩
   have e1:sk p m=m+1:=by unfold sk;rw[if_neg (by omega)]
   show S m (fun j=>f (sk p j))+f p+f (m+1)=S m (fun j=>f (sk p j))+f (sk p m)+f p
   rw[e1]
   omega
theorem filter_skip {p:Nat}:∀ {n:Nat},p<n->(List.range n).filter (fun i=>decide (i≠p))=(List.range (n - 1)).map (sk p)
 | n+1,h=>by
  rw[List.range_succ,List.filter_append,Nat.add_sub_cancel]
  by_cases e:p=n
  ·subst e
   have e1:[p].filter (fun i=>decide (i≠p))=[]:=by simp
   rw[e1,List.append_nil,List.filter_eq_self.mpr fun a ha=>decide_eq_true (by have:=List.mem_range.mp ha;omega)]
   conv=>lhs;rw[<- List.map_id (List.range p)]
   exact List.map_congr_left fun a ha=>by
    show a=sk p a
    unfold sk;rw[if_pos (List.mem_range.mp ha)]
  ·have hp:p<n:=by omega
   have e1:[n].filter (fun i=>decide (i≠p))=[n]:=by
    rw[List.filter_cons,if_pos (decide_eq_true (Ne.symm e))];rfl
   rw[e1,filter_skip hp]
   obtain⟨m,rfl⟩:∃ m,n=m+1:=⟨n - 1,by omega⟩
   have e2:sk p m=m+1:=by unfold sk;rw[if_neg (by omega)]
   rw[Nat.add_sub_cancel,List.range_succ (n:=m),List.map_append,List.map_singleton,e2]
theorem leftL_eq {ns es:List Int}{p:Nat}(h:p<ns.length):leftL ns p es=(List.range (ns.length - 1)).map fun i=>less1 ns es (sk p i):=by
 unfold leftL
 rw[filter_skip h,List.map_map]
 rfl
theorem leftL_len {ns es:List Int}{p:Nat}(h:p<ns.length):(leftL ns p es).length=ns.length - 1:=by rw[leftL_eq h,List.length_map,List.length_range]
theorem leftL_get {ns es:List Int}{p i:Nat}(h:p<ns.length)(hi:i<ns.length - 1):(leftL ns p es).getD i 0=less1 ns es (sk p i):=by
 rw[leftL_eq h,List.getD_eq_getElem?_getD,List.getElem?_map,List.getElem?_range hi]
 rfl
theorem gr_lt {ns:List Int}(h:Gr ns){i:Nat}(hi:i<ns.length):ns.getD i 0<ns.length:=by
 obtain⟨g,hg,hd⟩:=h
 rw[<- hd i hi]
 unfold deg
 rw[S_skip (p:=i) _ hi,hg.irr]
 have h1:S (ns.length - 1) (fun j=>b2 (g i (sk i j)))<=S (ns.length - 1) (fun _=>1):=Grf.S_le fun j _=>Grf.b2_le _
 rw[Grf.S_const]at h1
 have:b2 false=0:=rfl
 omega
theorem gr_take {ns es:List Int} {p:Nat} (h:Gr ns) (hp:p<ns.length) (nd:es.Nodup) (he:∀ z∈es,0<=z/\z<ns.length/\z≠p) (hl:(es.length:Int)=ns.getD p 0)
  (ht:∀ x∈es,∀ y:Nat,y<ns.length->(y:Int)∉es->y≠p->ns.getD y 0<=ns.getD x.toNat 0):Gr (leftL ns p es):=by
 obtain⟨g,hg,hd⟩:=h
 have hs:S ns.length (fun j=>b2 (decide ((j:Int)∈es)))=(es.length:Int):=by
  rw[Grf.S_congr (g:=fun i=>if (i:Int)∈es then 1 else 0) fun i _=>by
   by_cases e:(i:Int)∈es
   ·rw[decide_eq_true e,if_pos e];rfl
   ·rw[decide_eq_false e,if_neg e];rfl]
  rw[S_in (f:=fun _=>1) nd fun z hz=>⟨(he z hz).1,(he z hz).2.1⟩]
  clear he hl ht nd
  induction es with
  | nil=>rfl
  | cons a es ih=>rw[List.map_cons,List.sum_cons,ih,List.length_cons];omega
 have hNp:decide ((p:Int)∈es)=false:=decide_eq_false fun m=>(he _ m).2.2 rfl
 have hm:0<=S ns.length (fun j=>b2 (decide ((j:Int)∈es) && !g p j)):=Grf.S_nonneg fun i _=>Grf.b2_nonneg _
 obtain⟨g',k1,k2,k3⟩:=Grf.hh_sw (N:=fun j=>decide ((j:Int)∈es)) hp hNp (S ns.length (fun j=>b2 (decide ((j:Int)∈es) && !g p j))).toNat g hg (by rw[hs,hl,hd p hp])
  (fun x y hx hy hNx hNy hyp => by
   rw[hd x hx,hd y hy]
   have:=ht x (of_decide_eq_true hNx) y hy (of_decide_eq_false hNy) hyp
   rw[Int.toNat_natCast]at this
   exact this) (by omega)
 refine⟨fun i j=>g' (sk p i) (sk p j),⟨fun i j=>k1.sym _ _,fun i=>k1.irr _⟩,fun i hi=>?_⟩
 rw[leftL_len hp]at hi ⊢
 rw[leftL_get hp hi]
 have hsk:=sk_lt (p:=p) hi hp
 have e1:=k2 _ hsk
 rw[hd _ hsk]at e1
 have e2:deg ns.length g' (sk p i)=S (ns.length - 1) (fun j=>b2 (g' (sk p i) (sk p j)))+b2 (g' (sk p i) p):=S_skip (p:=p) _ hp
 rw[e2,k1.sym (sk p i) p,k3 _ hsk]at e1
 show S (ns.length - 1) (fun j=>b2 (g' (sk p i) (sk p j)))=_
 generalize S (ns.length - 1) (fun j=>b2 (g' (sk p i) (sk p j)))=q at e1
 unfold less1
 by_cases e:((sk p i:Nat):Int)∈es
 ·rw[decide_eq_true e]at e1
  rw[if_pos e]
  have:b2 true=1:=rfl
  omega
 ·rw[decide_eq_false e]at e1
  rw[if_neg e]
  have:b2 false=0:=rfl
  omega
theorem gr_first {ns zs:List Int}{p:Nat}(h:Gr ns)(hp:p<ns.length)(hz:zs.Perm (rng ns.length))(hs:zs.Pairwise (ole ns)):Gr (leftL ns p ((rest zs p).take (ns.getD p 0).toNat)):=by
 have nz:(rest zs p).Nodup:=(hz.nodup_iff.mpr (rng_nodup ns.length)).filter _
 have srt:(rest zs p).Pairwise (ole ns):=hs.filter _
 have h1:=gr_lt h hp
 have h0:=allp_get (gr_pos h) hp
 have hl:=rest_len hz (p:=p) (by omega) (by omega)
 refine gr_take h hp (nz.sublist (List.take_sublist _ _)) (fun z m=>?_) ?_ (fun x hx y hy hny hyp=>?_)
 ·obtain⟨m1,m2⟩:=rest_mem.mp (List.mem_of_mem_take m)
  obtain⟨c0,c1⟩:=rng_mem.mp (hz.mem_iff.mp m1)
  exact⟨c0,c1,m2⟩
 ·rw[List.length_take]
  omega
 ·have hyr:(y:Int)∈rest zs p:=rest_mem.mpr ⟨hz.mem_iff.mpr (rng_mem.mpr ⟨by omega,by omega⟩),by omega⟩
  have e:=List.take_append_drop (ns.getD p 0).toNat (rest zs p)
  rw[<- e]at hyr srt
  rcases List.mem_append.mp hyr with m | m
  ·exact absurd m hny
  ·have:=(List.pairwise_append.mp srt).2.2 x hx y m
   rcases ole_iff.mp this with t | t
   ·rw[Int.toNat_natCast]at t;omega
   ·rw[Int.toNat_natCast]at t;omega
end Web
namespace Web
open L2
theorem up_eq {a b c d:Int}(h:up [a,b]=up [c,d]):(a=c/\b=d)\/(a=d/\b=c):=by
 unfold up at h
 injection h with h1 h2
 injection h2 with h2 _
 split at h1<;>split at h1<;>split at h2<;>split at h2<;>omega
def star (a:Int)(bs:List Int):List (List Int):=bs.map fun b=>[a,b]
theorem cnt_star {a:Int}{q:Nat}:∀ {bs:List Int},a∉bs->cntP (star a bs) q=if (q:Int)=a then bs.length else bs.count (q:Int)
 | [],_=>by
  split<;>rfl
 | b::bs,h=>by
  have hb:a≠b:=fun e=>h (e ▸ List.mem_cons_self)
  have hbs:a∉bs:=fun m=>h (List.mem_cons_of_mem _ m)
  have ih:=cnt_star (q:=q) hbs
  unfold star cntP at ih ⊢
  rw[List.map_cons,List.countP_cons,ih,List.count_cons,List.length_cons]
  by_cases e:(q:Int)=a
  ·rw[if_pos e,if_pos e,if_pos (decide_eq_true (by rw[e];exact List.mem_cons_self))]
  ·rw[if_neg e,if_neg e]
   by_cases e2:(q:Int)=b
   ·rw[if_pos (decide_eq_true (by rw[e2];exact List.mem_cons_of_mem _ List.mem_cons_self)),if_pos (by rw[e2];exact beq_self_eq_true b)]
   ·rw[if_neg (by
     intro z
     have:=of_decide_eq_true z
     rcases List.mem_cons.mp this with t | t
     ·exact e t
     ·exact e2 (List.mem_singleton.mp t)),if_neg (by rw[beq_iff_eq];exact fun z=>e2 z.symm)]
theorem count_one {q:Int}:∀ {bs:List Int},bs.Nodup->bs.count q=if q∈bs then 1 else 0
 | [],_=>by rw[if_neg (by simp)];rfl
 | b::bs,nd=>by
  obtain⟨h1,h2⟩:=List.nodup_cons.mp nd
  rw[List.count_cons,count_one h2]
  by_cases e:b=q
  ·subst e
   rw[if_neg h1,if_pos List.mem_cons_self,if_pos (beq_self_eq_true b)]
  ·rw[show (b == q)=false from beq_eq_false_iff_ne.mpr e]
   by_cases m:q∈bs
   ·rw[if_pos m,if_pos (List.mem_cons_of_mem _ m)];rfl
   ·have m2:¬ q∈b::bs:=fun z=>by
     rcases List.mem_cons.mp z with t | t
     ·exact e t.symm
     ·exact m t
    rw[if_neg m,if_neg m2];rfl
structure LayI (ns ps left:List Int) (ks:List (List Int)):Prop where
 len:left.length=ps.length
 nd:ps.Nodup
 inn:∀ q∈ps,0<=q/\q<ns.length
 ends:∀ k∈ks,Ends2 ns.length k
 nodup:(ks.map up).Nodup
 out:∀ a b:Int,[a,b]∈ks->¬ (a∈ps/\b∈ps)
 cnt:∀ i q:Nat,ps[i]?=some (q:Int)->(cntP ks q:Int)+left.getD i 0=ns.getD q 0
 done:∀ q:Nat,q<ns.length->(q:Int)∉ps->(cntP ks q:Int)=ns.getD q 0
theorem nd_ix {ps:List Int}(nd:ps.Nodup){i j:Nat}{a:Int}(h1:ps[i]?=some a)(h2:ps[j]?=some a):i=j:=by
 have hi:i<ps.length:=by
  rcases Nat.lt_or_ge i ps.length with h | h
  ·exact h
  ·rw[List.getElem?_eq_none h]at h1;cases h1
 exact(List.getElem?_inj hi nd).mp (h1.trans h2.symm)
theorem getD_of {ps:List Int}{i:Nat}{a:Int}(h:ps[i]?=some a):ps.getD i 0=a:=by rw[List.getD_eq_getElem?_getD,h];rfl
theorem get_of {ps:List Int}{i:Nat}(h:i<ps.length):ps[i]?=some (ps.getD i 0):=by
 rw[List.getD_eq_getElem?_getD,List.getElem?_eq_getElem h];rfl
theorem LayI.step {ns ps left ps' es:List Int}{ks:List (List Int)}{j:Nat}{a:Int}(h:LayI ns ps left ks)(hj:ps[j]?=some a)(sub:ps'.Sublist ps)(hl:ps'.length=ps.length - 1)(hix:∀ i,i<ps.length - 1->ps'[i]?=ps[sk j i]?)
  (ne:es.Nodup)(he:∀ z∈es,0<=z/\z<ps.length/\z≠j)(hn:(es.length:Int)=left.getD j 0) :
  LayI ns ps' (leftL left j es) (ks++star a (es.map fun z=>ps.getD z.toNat 0)):=by
 have hjl:j<ps.length:=by
  rcases Nat.lt_or_ge j ps.length with h | h
  ·exact h
  ·rw[List.getElem?_eq_none h]at hj;cases hj
 have hjl':j<left.length:=by rw[h.len];exact hjl
 have haps:a∈ps:=List.mem_of_getElem? hj
 have bget:∀ z∈es,ps[z.toNat]?=some (ps.getD z.toNat 0):=fun z hz=>get_of (by have:=he z hz;omega)
 have bmem:∀ b∈es.map (fun z=>ps.getD z.toNat 0),b∈ps:=fun b hb=>by
  obtain⟨z,hz,rfl⟩:=List.mem_map.mp hb
  exact List.mem_of_getElem? (bget z hz)
 have anb:a∉es.map (fun z=>ps.getD z.toNat 0):=fun m=>by
  obtain⟨z,hz,e⟩:=List.mem_map.mp m
  have h1:=bget z hz
  rw[e]at h1
  have:=nd_ix h.nd h1 hj
  have:=he z hz
  omega
 have ndb:(es.map (fun z=>ps.getD z.toNat 0)).Nodup:=by
  refine List.nodup_iff_pairwise_ne.mpr ?_
  rw[List.pairwise_map]
  refine List.Pairwise.imp_of_mem ?_ (List.nodup_iff_pairwise_ne.mp ne)
  intro x y hx hy hxy e
  have h1:=bget x hx
  rw[e]at h1
  have:=nd_ix h.nd h1 (bget y hy)
  have:=he x hx
  have:=he y hy
  exact hxy (by omega)
 have ap:a∉ps':=fun m=>by
  obtain⟨i,hi⟩:=List.mem_iff_getElem?.mp m
  have hil:i<ps.length - 1:=by
   rcases Nat.lt_or_ge i ps'.length with h | h
   ·omega
   ·rw[List.getElem?_eq_none h]at hi;cases hi
  rw[hix i hil]at hi
  exact sk_ne j i (nd_ix h.nd hi hj)
 have bin:∀ (i q:Nat),ps[i]?=some (q:Int)->((q:Int)∈es.map (fun z=>ps.getD z.toNat 0)↔(i:Int)∈es):=fun i q hi=>by
  constructor
  ·intro m
   obtain⟨z,hz,e⟩:=List.mem_map.mp m
   have h1:=bget z hz
   rw[e]at h1
   have:=nd_ix h.nd h1 hi
   have:=he z hz
   rwa [show (i:Int)=z by omega]
  ·intro m
   refine List.mem_map.mpr ⟨i,m,?_⟩
   rw[Int.toNat_natCast]
   exact getD_of hi
 refine⟨by rw[leftL_len hjl',hl,h.len],h.nd.sublist sub,fun q hq=>h.inn q (sub.subset hq),fun k hk=>?_,?_,fun c d hk=>?_,fun i q hi=>?_,fun q hq hnq=>?_⟩
 ·rcases List.mem_append.mp hk with hk | hk
  ·exact h.ends k hk
  ·obtain⟨b,hb,rfl⟩:=List.mem_map.mp hk
   have h1:=h.inn a haps
   have h2:=h.inn b (bmem b hb)
   have h3:a≠b:=fun e=>anb (e ▸ hb)
   exact⟨a.toNat,b.toNat,by omega,by omega,by omega,by rw[Int.toNat_of_nonneg h1.1,Int.toNat_of_nonneg h2.1]⟩
 ·rw[List.map_append,List.nodup_append]
  refine⟨h.nodup,?_,fun x hx y hy e=>?_⟩
  ·unfold star
   rw[List.map_map]
   refine List.nodup_iff_pairwise_ne.mpr ?_
   rw[List.pairwise_map]
   refine List.Pairwise.imp_of_mem ?_ (List.nodup_iff_pairwise_ne.mp ndb)
   intro x y hx hy hxy e
   rcases up_eq e with t | t
   ·exact hxy t.2
   ·exact anb (t.1 ▸ hy)
  ·obtain⟨k,hk,rfl⟩:=List.mem_map.mp hx
   obtain⟨k2,hk2,rfl⟩:=List.mem_map.mp hy
   obtain⟨b,hb,rfl⟩:=List.mem_map.mp hk2
   obtain⟨u,v,_,_,_,rfl⟩:=h.ends k hk
   refine h.out _ _ hk ?_
   rcases up_eq e with t | t
   ·rw[t.1,t.2];exact⟨haps,bmem b hb⟩
   ·rw[t.1,t.2];exact⟨bmem b hb,haps⟩
 ·rcases List.mem_append.mp hk with hk | hk
  ·exact fun z=>h.out c d hk ⟨sub.subset z.1,sub.subset z.2⟩
  ·obtain⟨b,hb,e⟩:=List.mem_map.mp hk
   injection e with e1 _
   intro z
   exact ap (e1 ▸ z.1)
 ·have hil:i<ps.length - 1:=by
   rcases Nat.lt_or_ge i ps'.length with h | h
   ·omega
   ·rw[List.getElem?_eq_none h]at hi;cases hi
  rw[hix i hil]at hi
  have hc:=h.cnt _ q hi
  have hqa:¬ (q:Int)=a:=fun e=>by
   rw[e]at hi
   exact sk_ne j i (nd_ix h.nd hi hj)
  rw[leftL_get hjl' (by rw[h.len];exact hil),cntP_app,cnt_star anb,if_neg hqa,count_one ndb]
  unfold less1
  by_cases m:((sk j i:Nat):Int)∈es
  ·rw[if_pos ((bin _ q hi).mpr m),if_pos m];omega
  ·rw[if_neg (fun z=>m ((bin _ q hi).mp z)),if_neg m];omega
 ·rw[cntP_app,cnt_star anb]
  by_cases e:(q:Int)=a
  ·have hc:=h.cnt j q (by rw[e];exact hj)
   rw[if_pos e,List.length_map]
   omega
  ·rw[if_neg e,count_one ndb]
   have hq':(q:Int)∉ps:=fun m=>by
    obtain⟨m',hm'⟩:=List.mem_iff_getElem?.mp m
    have hml:m'<ps.length:=by
     rcases Nat.lt_or_ge m' ps.length with h | h
     ·exact h
     ·rw[List.getElem?_eq_none h]at hm';cases hm'
    have hmj:m'≠j:=fun z=>by rw[z,hj]at hm';injection hm' with hm';exact e hm'.symm
    obtain⟨i,hi,hik⟩:∃ i,i<ps.length - 1/\sk j i=m':=by
     rcases Nat.lt_or_ge m' j with t | t
     ·exact⟨m',by omega,by unfold sk;rw[if_pos t]⟩
     ·exact⟨m' - 1,by omega,by unfold sk;rw[if_neg (by omega)];omega⟩
    have:=hix i hi
    rw[hik,hm']at this
    exact hnq (List.mem_of_getElem? this)
   rw[if_neg (fun m=>hq' (bmem _ m)),h.done q hq hq' |>.symm]
   omega
theorem LayI.last {ns left:List Int}{ks:List (List Int)}(h:LayI ns [] left ks):tal ns.length ks=ns:=by
 apply List.ext_getElem?
 intro i
 rcases Nat.lt_or_ge i ns.length with hi | hi
 ·rw[tal_get hi,h.done i hi (by simp),get_of hi]
 ·rw[List.getElem?_eq_none (by rw[tal_len];exact hi),List.getElem?_eq_none hi]
theorem rng_at {n i:Nat}(h:i<n):(rng n)[i]?=some (i:Int):=by
 unfold rng
 rw[List.getElem?_map,List.getElem?_range' h]
 simp
theorem LayI.first (ns:List Int):LayI ns (rng ns.length) ns [] where
 len:=(rng_len _).symm
 nd:=rng_nodup _
 inn:=fun q hq=>rng_mem.mp hq
 ends:=fun k hk=>absurd hk (by simp)
 nodup:=by simp
 out:=fun a b hk=>absurd hk (by simp)
 cnt:=fun i q hi=>by
  have hil:i<ns.length:=by
   rcases Nat.lt_or_ge i (rng ns.length).length with h | h
   ·rw[rng_len]at h;exact h
   ·rw[List.getElem?_eq_none h]at hi;cases hi
  rw[rng_at hil]at hi
  injection hi with hi
  rw[show q=i by omega]
  show (0:Int)+_=_
  omega
 done:=fun q hq hn=>absurd (rng_mem.mpr ⟨by omega,by omega⟩) hn
theorem ole_uniq {ns:List Int}:∀ {xs ys:List Int},xs.Perm ys->xs.Pairwise (ole ns)->ys.Pairwise (ole ns)->xs=ys
 | [],ys,p,_,_=>p.symm.eq_nil.symm
 | x::xs,[],p,_,_=>by
  have:=p.length_eq
  simp at this
 | x::xs,y::ys,p,h,q=>by
  have hxy:x=y:=by
   have h1:x∈y::ys:=p.mem_iff.mp List.mem_cons_self
   have h2:y∈x::xs:=p.mem_iff.mpr List.mem_cons_self
   rcases List.mem_cons.mp h1 with e | e
   ·exact e
   ·rcases List.mem_cons.mp h2 with e2 | e2
    ·exact e2.symm
    ·exact ole_anti ((List.pairwise_cons.mp h).1 y e2) ((List.pairwise_cons.mp q).1 x e)
  subst hxy
  rw[ole_uniq ((List.perm_cons x).mp p) (List.pairwise_cons.mp h).2 (List.pairwise_cons.mp q).2]
theorem nodup_le:∀ {l m:List (List Int)},l.Nodup->(∀ x∈l,x∈m)->l.length<=m.length
 | [],m,_,_=>Nat.zero_le _
 | x::l,m,nd,h=>by
  have h1:=List.nodup_cons.mp nd
  have hm:=h x List.mem_cons_self
  have h2:∀ y∈l,y∈m.erase x:=fun y hy=>by
   have hne:y≠x:=fun e=>h1.1 (e ▸ hy)
   exact(List.mem_erase_of_ne hne).mpr (h y (List.mem_cons_of_mem _ hy))
  have h3:=nodup_le h1.2 h2
  rw[List.length_erase_of_mem hm]at h3
  have h4:0<m.length:=List.length_pos_of_mem hm
  simp only[List.length_cons]
  omega
theorem cnt_up {n q:Nat}:∀ {ks:List (List Int)},(∀ k∈ks,Ends2 n k)->cntP (ks.map up) q=cntP ks q
 | [],_=>rfl
 | k::ks,h=>by
  have ih:=cnt_up (q:=q) fun k hk=>h k (List.mem_cons_of_mem _ hk)
  unfold cntP at ih ⊢
  rw[List.map_cons,List.countP_cons,List.countP_cons,ih]
  congr 1
  obtain⟨i,j,_,_,_,rfl⟩:=h k List.mem_cons_self
  have e:((q:Int)∈up [(i:Int),(j:Int)])↔(q:Int)∈[(i:Int),(j:Int)]:=by
   unfold up
   simp only[List.mem_cons,List.not_mem_nil,or_false]
   split<;>split<;>omega
  by_cases z:(q:Int)∈[(i:Int),(j:Int)]
  ·rw[decide_eq_true z,decide_eq_true (e.mpr z)]
  ·rw[decide_eq_false z,decide_eq_false (fun t=>z (e.mp t))]
theorem tal_up {n:Nat}{ks:List (List Int)}(h:∀ k∈ks,Ends2 n k):tal n (ks.map up)=tal n ks:=by
 unfold tal
 refine List.map_congr_left fun p _=>?_
 rw[cnt_up h]
noncomputable def ordF (ns:List Int):List Int:=Classical.choose (ord_is ns)
theorem ordF_perm (ns:List Int):(ordF ns).Perm (rng ns.length):=(Classical.choose_spec (ord_is ns)).1
theorem ordF_sort (ns:List Int):(ordF ns).Pairwise (ole ns):=(Classical.choose_spec (ord_is ns)).2
theorem ordF_eq {ns zs:List Int}(hp:zs.Perm (rng ns.length))(hs:zs.Pairwise (ole ns)):zs=ordF ns:=ole_uniq (hp.trans (ordF_perm ns).symm) hs (ordF_sort ns)
noncomputable def chF (ns:List Int)(p:Nat):List Int:=(rest (ordF ns) p).take (ns.getD p 0).toNat
theorem chF_nd (ns:List Int)(p:Nat):(chF ns p).Nodup:=(((ordF_perm ns).nodup_iff.mpr (rng_nodup ns.length)).filter _).sublist (List.take_sublist _ _)
theorem chF_in {ns:List Int}{p:Nat}{z:Int}(h:z∈chF ns p):0<=z/\z<ns.length/\z≠p:=by
 obtain⟨m1,m2⟩:=rest_mem.mp (List.mem_of_mem_take h)
 obtain⟨c0,c1⟩:=rng_mem.mp ((ordF_perm ns).mem_iff.mp m1)
 exact⟨c0,c1,m2⟩
theorem chF_len {ns:List Int}{p:Nat}(h:Gr ns)(hp:p<ns.length):((chF ns p).length:Int)=ns.getD p 0:=by
 have h1:=gr_lt h hp
 have h0:=allp_get (gr_pos h) hp
 have hl:=rest_len (ordF_perm ns) (p:=(p:Int)) (by omega) (by omega)
 unfold chF
 rw[List.length_take]
 omega
theorem chF_gr {ns:List Int}{p:Nat}(h:Gr ns)(hp:p<ns.length):Gr (leftL ns p (chF ns p)):=gr_first h hp (ordF_perm ns) (ordF_sort ns)
noncomputable def laidF:Nat->List Int->List Int->List (List Int)
 | 0,_,_=>[]
 | m+1,left,ps=>star (ps.getD 0 0) ((chF left 0).map fun z=>ps.getD z.toNat 0)++laidF m (leftL left 0 (chF left 0)) (ps.drop 1)
theorem LayI.go {ns ps left:List Int}{ks:List (List Int)}(h:LayI ns ps left ks)(hg:Gr left)(h0:0<left.length) :
  LayI ns (ps.drop 1) (leftL left 0 (chF left 0)) (ks++star (ps.getD 0 0) ((chF left 0).map fun z=>ps.getD z.toNat 0)):=by
 have hl:=h.len
 refine h.step (get_of (by omega)) (List.drop_sublist 1 ps) (by rw[List.length_drop]) (fun i hi=>?_) (chF_nd left 0) (fun z hz=>?_) (chF_len hg h0)
 ·rw[List.getElem?_drop]
  congr 1
  unfold sk
  rw[if_neg (by omega)]
  omega
 ·have:=chF_in hz
  omega
def keptN (n p:Nat):List Int:=((List.range n).filter fun i=>decide (i≠p)).map fun i:Nat=>(i:Int)
theorem LayI.start {ns es:List Int}{p:Nat}(hp:p<ns.length)(ne:es.Nodup)(he:∀ z∈es,0<=z/\z<ns.length/\z≠p)(hn:(es.length:Int)=ns.getD p 0):LayI ns (keptN ns.length p) (leftL ns p es) (star p es):=by
 have:=(LayI.first ns).step (j:=p) (a:=(p:Int)) (ps':=keptN ns.length p) (es:=es) (rng_at hp) ?_ ?_ ?_ ne (fun z hz=>by rw[rng_len];exact he z hz) hn
 ·have e:es.map (fun z=>(rng ns.length).getD z.toNat 0)=es:=by
   conv=>rhs;rw[<- List.map_id es]
   refine List.map_congr_left fun z hz=>?_
   have:=he z hz
   rw[getD_of (rng_at (n:=ns.length) (i:=z.toNat) (by omega))]
   show ((z.toNat:Nat):Int)=z
   omega
  rw[e,List.nil_append]at this
  exact this
 ·unfold keptN rng
  rw[<- List.range_eq_range']
  exact List.Sublist.map _ List.filter_sublist
 ·unfold keptN
  rw[filter_skip hp,List.length_map,List.length_map,List.length_range,rng_len]
 ·intro i hi
  rw[rng_len]at hi
  unfold keptN
  rw[filter_skip hp,List.getElem?_map,List.getElem?_map,List.getElem?_range hi,rng_at (sk_lt hi hp)]
  rfl
end Web
set_option Elab.async false
set_option maxRecDepth 100000
namespace L2
open PySem PySem.Spec PyProof.Rows
section
variable (P:Program) (w:World)
end
section
variable {P:Program} {w:World} {H H':Hp} {h h':Heap} {a:Addr} {o:HO}
end
section
variable {P:Program} {w:World} {H:Hp} {h h':Heap} {x e:Addr} {o':HO}
end
section
variable {fs fs' ex ex':List Addr} {H H1 H2:Hp} {h h1 h2 h':Heap} {a x e:Addr} {o:HO}
end
section
variable {X:Cx} {pins:List (Addr × Obj)} {σ:List (Option V)} {H H':Hp} {s:Shared} {h':Heap}
end
section
variable {X:Cx}
variable {a b:Expr} {ta tb:TE} {pos:Pos}
variable {tA tB':TT} {rest:List Expr}
end
section
variable {X:Cx} {pins:List (Addr × Obj)} {σ:St} {H:Hp} {s:Shared} {a:Addr} {xs ys:List V}
end
section
variable {X:Cx} {pins:List (Addr × Obj)} {σ:St} {H:Hp} {s:Shared} {E:Value->Shared->Prop}
end
section
variable {X:Cx} {st:Stmt} {rest:List Stmt} {t u:TS} {e:Expr} {te:TE} {pos:Pos}
end
section
variable {X:Cx} {pos:Pos}
end
section
variable {X:Cx} {pos:Pos}
end
section
variable {X:Cx} {tg:Expr}
end
section
variable {X:Cx} {a b c:Expr} {ta tb tc:TE} {pos:Pos}
end
section
variable {X:Cx} {a b c:Expr} {ta tb tc:TE} {pos:Pos}
end
section
variable {prog:Program} {w:World} {A:Around} {E:Value->Shared->Prop} {s:Shared} {K:W.Frag} {x dx C f:Addr} {mA:Str->Option Value} {name:Str} {v:Value}
end
section
variable {P:Program} {w:World} {H H':Hp} {h h':Heap} {a C dx:Addr} {fs fs':List (Str × V)}
end
section
variable {X:Cx} {pins:List (Addr × Obj)} {σ:St} {H:Hp} {s:Shared} {a C dx:Addr} {fs:List (Str × V)} {f:Str} {v:V} {A:Around} {E:Value->Shared->Prop}
end
section
variable {X:Cx} {o e value:Expr} {f:Str} {pos pos' tpos:Pos} {ta tv:TE}
end
section
variable {X:Cx} {pins:List (Addr × Obj)} {σ:St} {H:Hp} {s:Shared} {A:Around} {E:Value->Shared->Prop} {Q:Value->Shared->Prop} {c:Value} {b:Bool}
end
section
variable {X:Cx} {e:Expr} {es:List Expr} {te:TE} {t:TA} {pos:Pos}
end
section
variable {X:Cx} {pins:List (Addr × Obj)} {σ:St} {H:Hp} {s s':Shared}
end
section
variable {X:Cx} {CX:CXT} {k:Nat} {f C:Addr} {fd:FuncData} {ps:List Str} {sp:Sp} {dvs:List V} {ds:List Value} {E:XK} {x m:Str} {p pos apos:Pos} {e o:Expr} {es:List Expr} {ta:TE} {t:TA}
end
section
variable {X:Cx} {CX:CXT} {k:Nat} {f C:Addr} {fd:FuncData} {ps ks:List Str} {sp:Sp} {E:XK} {x m:Str} {p pos apos kpos:Pos} {e o:Expr} {es:List Expr} {kws:List Keyword} {te ta:TE} {t tk:TA} {nm:Option Str}
variable {g:List Value->List Value->List Value} {gV:List V->List V->List V}
end
section
variable {X:Cx} {x:Str} {p pos:Pos} {e:Expr} {es:List Expr} {t:TA} {id T:String} {r:List V->Hp->VK->Prop}
end
section
variable {κ:Type} [DecidableEq κ]
def valV (kvs:List (κ × V))(k:κ):Option V:=(kvs.find? fun kv=>decide (kv.1=k)).map (·.2)
def putK (kvs:List (κ × V))(k:κ)(v:V):List (κ × V):=
 if (kvs.any fun kv=>decide (kv.1=k))=true then kvs.map (fun kv=>if kv.1=k then (kv.1,v) else kv) else kvs++[(k,v)]
theorem valV_pos {p:κ × V}{r:List (κ × V)}{k:κ}(e:p.1=k):valV (p::r) k=some p.2:=by simp[valV,List.find?_cons,e]
theorem valV_neg {p:κ × V}{r:List (κ × V)}{k:κ}(e:¬ p.1=k):valV (p::r) k=valV r k:=by simp[valV,List.find?_cons,e]
theorem valV_any (k:κ):∀ kvs:List (κ × V),(kvs.any fun kv=>decide (kv.1=k))=(valV kvs k).isSome
 | []=>rfl
 | p::r=>by
  rw[List.any_cons]
  by_cases e:p.1=k
  ·simp only[valV_pos e,decide_eq_true e,Bool.true_or,Option.isSome_some]
  ·rw[valV_neg e,decide_eq_false e,Bool.false_or];exact valV_any k r
theorem valV_map (k j:κ)(y:V):∀ kvs:List (κ × V),valV (kvs.map fun kv=>if kv.1=k then (kv.1,y) else kv) j=(valV kvs j).map fun x=>if j=k then y else x
 | []=>rfl
 | p::r=>by
  have ih:=valV_map k j y r
  rw[List.map_cons]
  by_cases h:p.1=k
  ·rw[if_pos h]
   by_cases e:p.1=j
   ·rw[valV_pos (p:=(p.1,y)) e,valV_pos e,Option.map_some,if_pos (e.symm.trans h)]
   ·rw[valV_neg (p:=(p.1,y)) e,valV_neg e,ih]
  ·rw[if_neg h]
   by_cases e:p.1=j
   ·rw[valV_pos (p:=p) e,valV_pos e,Option.map_some,if_neg (fun z=>h (e.trans z))]
   ·rw[valV_neg (p:=p) e,valV_neg e,ih]
theorem valV_snoc (k j:κ)(y:V):∀ kvs:List (κ × V),valV kvs k=none->valV (kvs++[(k,y)]) j=if j=k then some y else valV kvs j
 | [],_=>by
  by_cases e:k=j
  ·rw[if_pos e.symm];exact valV_pos (p:=(k,y)) e
  ·rw[if_neg (fun z=>e z.symm)];exact valV_neg (p:=(k,y)) e
 | p::r,hn=>by
  rw[List.cons_append]
  have hk:¬ p.1=k:=fun z=>by rw[valV_pos z]at hn;cases hn
  rw[valV_neg hk]at hn
  have ih:=valV_snoc k j y r hn
  by_cases e:p.1=j
  ·rw[valV_pos e,valV_pos e,if_neg (fun z=>hk (e.trans z))]
  ·rw[valV_neg e,valV_neg e,ih]
theorem valV_put (kvs:List (κ × V))(k j:κ)(y:V):valV (putK kvs k y) j=if j=k then some y else valV kvs j:=by
 unfold putK
 by_cases a:(kvs.any fun kv=>decide (kv.1=k))=true
 ·rw[if_pos a,valV_map]
  rw[valV_any]at a
  by_cases e:j=k
  ·obtain⟨x,hx⟩:=Option.isSome_iff_exists.mp a
   rw[if_pos e,e,hx,Option.map_some,if_pos rfl]
  ·rw[if_neg e]
   cases valV kvs j with
   | none=>rfl
   | some x=>rw[Option.map_some,if_neg e]
 ·rw[if_neg a]
  refine valV_snoc k j y kvs ?_
  rw[valV_any]at a
  cases q:valV kvs k with
  | none=>rfl
  | some x=>rw[q]at a;exact(a rfl).elim
theorem length_putK (kvs:List (κ × V))(k:κ)(v:V):(putK kvs k v).length<=kvs.length+1:=by
 unfold putK
 split
 ·rw[List.length_map];omega
 ·rw[List.length_append,List.length_cons,List.length_nil];omega
theorem RelO.isSome_eq {o:Option V}{u:Option Value}(r:RelO o u):o.isSome=u.isSome:=by
 cases o with
 | none=>cases u with
  | none=>rfl
  | some _=>exact(show False from r).elim
 | some _=>cases u with
  | none=>exact(show False from r).elim
  | some _=>rfl
theorem KV.val {kvs:List (κ × V)}{vs:List (κ × Value)}(r:KV kvs vs)(k:κ):RelO (valV kvs k) (valueAt vs k):=by
 unfold KV at r
 induction r with
 | nil=>exact True.intro
 | @cons p q ps qs h t ih =>
  obtain⟨h1,h2⟩:=h
  by_cases e:p.1=k
  ·have e':q.1=k:=h1.symm.trans e
   have b:valueAt (q::qs) k=some q.2:=by simp[valueAt,List.find?_cons,e']
   rw[valV_pos e,b];exact h2
  ·have e':¬ q.1=k:=fun z=>e (h1.trans z)
   have b:valueAt (q::qs) k=valueAt qs k:=by simp[valueAt,List.find?_cons,e']
   rw[valV_neg e,b];exact ih
theorem KV.any {kvs:List (κ × V)}{vs:List (κ × Value)}(r:KV kvs vs)(k:κ):(kvs.any fun kv=>decide (kv.1=k))=vs.any fun kv=>decide (kv.1=k):=by
 unfold KV at r
 induction r with
 | nil=>rfl
 | cons h t ih=>rw[List.any_cons,List.any_cons,ih,h.1]
theorem KV.repl {kvs:List (κ × V)}{vs:List (κ × Value)}(r:KV kvs vs)(k:κ){y:V}{u:Value}(ry:RelV y u) :
  KV (kvs.map fun kv=>if kv.1=k then (kv.1,y) else kv) (vs.map fun kv=>if kv.1=k then (kv.1,u) else kv):=by
 unfold KV at r ⊢
 induction r with
 | nil=>exact .nil
 | @cons p q ps qs h t ih =>
  rw[List.map_cons,List.map_cons]
  refine .cons ?_ ih
  obtain⟨h1,h2⟩:=h
  by_cases e:p.1=k
  ·rw[if_pos e,if_pos (h1.symm.trans e)];exact⟨h1,ry⟩
  ·rw[if_neg e,if_neg (fun z=>e (h1.trans z))];exact⟨h1,h2⟩
theorem KV.put {kvs:List (κ × V)}{vs:List (κ × Value)}(r:KV kvs vs)(k:κ){y:V}{u:Value}(ry:RelV y u):KV (putK kvs k y) (stored vs k u):=by
 unfold putK stored
 rw[r.any k]
 by_cases e:(vs.any fun kv=>decide (kv.1=k))=true
 ·rw[if_pos e,if_pos e];exact r.repl k ry
 ·rw[if_neg e,if_neg e];exact Paired.snoc r ⟨rfl,ry⟩
theorem KV.length {kvs:List (κ × V)}{vs:List (κ × Value)}(r:KV kvs vs):kvs.length=vs.length:=Paired.length r
end
theorem kV_is {P:Program}{w:World}{k:Key}{u:Value}(r:RelV (kV k) u):(mixKind P w).is k u=true:=by
 cases k with
 | inl i=>obtain⟨t,e⟩:=(show ∃ t,u=Value.int i t from r);subst e;exact mixKind_int P w i t
 | inr x=>obtain⟨t,e⟩:=(show ∃ t,u=Value.str x t from r);subst e;exact mixKind_str P w x t
theorem items_are {P:Program}{w:World}:∀ {ks:List Key} {us:List Value},Vals (ks.map kV) us->ItemsAre (mixKind P w) ks us
 | [],_,r=>by rw[List.map_nil]at r;cases r;exact .nil
 | k::ks,_,r=>by
  rw[List.map_cons]at r
  cases r with
  | cons h t=>exact .cons (kV_is h) (items_are t)
abbrev KT (H:Hp):List (List Key × V)->List (List Key × Addr × Value)->Prop:=Paired fun p q=>p.1=q.1/\H q.2.1=some (.tup (p.1.map kV))/\RelV p.2 q.2.2
theorem KT.val {H:Hp}{kvs:List (List Key × V)}{xs:List (List Key × Addr × Value)}(r:KT H kvs xs)(k:List Key):RelO (valV kvs k) ((atKey xs k).map (·.2)):=by
 induction r with
 | nil=>exact True.intro
 | @cons p q ps qs h t ih =>
  obtain⟨h1,_,h2⟩:=h
  by_cases e:p.1=k
  ·have e':q.1=k:=h1.symm.trans e
   have b:atKey (q::qs) k=some q.2:=by simp[atKey,List.find?_cons,e']
   rw[valV_pos e,b];exact h2
  ·have e':¬ q.1=k:=fun z=>e (h1.trans z)
   have b:atKey (q::qs) k=atKey qs k:=by simp[atKey,List.find?_cons,e']
   rw[valV_neg e,b];exact ih
theorem KT.repl {H:Hp}{kvs:List (List Key × V)}{xs:List (List Key × Addr × Value)}(r:KT H kvs xs)(k:List Key){y:V}{u:Value}(ry:RelV y u) :
  KT H (kvs.map fun kv=>if kv.1=k then (kv.1,y) else kv) (xs.map (putAt k u)):=by
 induction r with
 | nil=>exact .nil
 | @cons p q ps qs h t ih =>
  rw[List.map_cons,List.map_cons]
  refine .cons ?_ ih
  obtain⟨h1,h2,h3⟩:=h
  unfold putAt
  by_cases e:p.1=k
  ·rw[if_pos e,if_pos (h1.symm.trans e)];exact⟨h1,h2,ry⟩
  ·rw[if_neg e,if_neg (fun z=>e (h1.trans z))];exact⟨h1,h2,h3⟩
theorem KT.put {H:Hp}{kvs:List (List Key × V)}{xs:List (List Key × Addr × Value)}(r:KT H kvs xs)(k:List Key){b:Addr}{y:V}{u:Value}(hb:H b=some (.tup (k.map kV)))(ry:RelV y u) :
  KT H (putK kvs k y) (storedH xs k b u):=by
 have e:(kvs.any fun kv=>decide (kv.1=k))=(atKey xs k).isSome:=by
  rw[valV_any,(r.val k).isSome_eq,Option.isSome_map]
 unfold putK storedH
 rw[e]
 by_cases q:(atKey xs k).isSome=true
 ·rw[if_pos q,if_pos q];exact r.repl k ry
 ·rw[if_neg q,if_neg q];exact Paired.snoc r ⟨rfl,hb,ry⟩
theorem KT.keeps {H H':Hp}{kvs:List (List Key × V)}{xs:List (List Key × Addr × Value)}(r:KT H kvs xs)(ht:∀ b ys,H b=some (.tup ys)->H' b=some (.tup ys)):KT H' kvs xs:=
 Paired.mapP r fun _ _ z=>⟨z.1,ht _ _ z.2.1,z.2.2⟩
section
variable {P:Program} {w:World} {H:Hp} {h:Heap} {a:Addr}
theorem rd_of {u:HO}(ok:HOk P w H h)(e:Rd H a u):ObjOk P w H h a u:=e.ok ok
theorem dk_rd {kvs:List (Key × V)}(ok:HOk P w H h)(e:Rd H a (.dK kvs)):kvs.length<=sizeLine/\(a == sysModules)=false/\∃ vs,KV kvs vs/\h.DictOf (mixKind P w) a vs:=
 show ObjOk P w H h a (.dK kvs) from rd_of ok e
theorem dk_of {kvs:List (Key × V)}(ok:HOk P w H h)(e:H a=some (.dK kvs)):kvs.length<=sizeLine/\(a == sysModules)=false/\∃ vs,KV kvs vs/\h.DictOf (mixKind P w) a vs:=dk_rd ok (.inl e)
theorem key_of {ks:List Key}(ok:HOk P w H h)(e:H a=some (.tup (ks.map kV))):(tupleKind (mixKind P w)).is h ks a:=by
 obtain⟨_,its,r,o,h1,h2,n,h3⟩:=(show ObjOk P w H h a (.tup (ks.map kV)) from ok a _ e)
 exact⟨o,its.toArray,n,h1,h2,h3,by simpa using items_are r⟩
theorem dt_rd {kvs:List (List Key × V)}(ok:HOk P w H h)(e:Rd H a (.dT kvs)):kvs.length<=sizeLine/\(a == sysModules)=false /\
  ∃ xs,KT H kvs xs/\h.DictOfH (tupleKind (mixKind P w)) a xs:=by
 obtain⟨z,y,xs,r,o,es,ep,h1,h2,h3,h4,h5⟩:=(show ObjOk P w H h a (.dT kvs) from rd_of ok e)
 refine⟨z,y,xs,r,o,es,ep,h1,h2,h3,h4,fun x hx=>?_,h5⟩
 have all:∀ {l:List (List Key × V)} {m:List (List Key × Addr × Value)},KT H l m->∀ x∈m,(tupleKind (mixKind P w)).is h x.1 x.2.1:=by
  intro l m q
  induction q with
  | nil=>intro x hx;exact nomatch hx
  | @cons p q ps qs hq t ih =>
   intro x hx
   rcases List.mem_cons.mp hx with e | hx
   ·subst e
    exact key_of ok (by rw[<- hq.1];exact hq.2.1)
   ·exact ih x hx
 exact all r x hx
theorem dt_of {kvs:List (List Key × V)}(ok:HOk P w H h)(e:H a=some (.dT kvs)):kvs.length<=sizeLine/\(a == sysModules)=false /\
  ∃ xs,KT H kvs xs/\h.DictOfH (tupleKind (mixKind P w)) a xs:=dt_rd ok (.inl e)
end
def DGet (H:Hp)(a:Addr)(y:V)(r:Option V):Prop:=
 (∃ kvs k,Rd H a (.dK kvs)/\y=kV k/\r=valV kvs k)\/∃ kvs k b,Rd H a (.dT kvs)/\y=.ref b/\H b=some (.tup (k.map kV))/\r=valV kvs k
def DPut (H:Hp)(a:Addr)(y v:V)(H':Hp):Prop:=
 (∃ kvs k,H a=some (.dK kvs)/\y=kV k/\kvs.length<sizeLine/\H'=upd H a (.dK (putK kvs k v))) \/
 ∃ kvs k b,H a=some (.dT kvs)/\y=.ref b/\H b=some (.tup (k.map kV))/\kvs.length<sizeLine/\H'=upd H a (.dT (putK kvs k v))
theorem DGet.t {H:Hp}{a b:Addr}{kvs:List (List Key × V)}{k:List Key}(e:H a=some (.dT kvs))(eb:H b=some (.tup (k.map kV))):DGet H a (.ref b) (valV kvs k):=.inr ⟨kvs,k,b,.inl e,rfl,eb,rfl⟩
theorem DPut.t {H:Hp}{a b:Addr}{kvs:List (List Key × V)}{k:List Key}{v:V}(e:H a=some (.dT kvs))(eb:H b=some (.tup (k.map kV)))(hl:kvs.length<sizeLine) :
  DPut H a (.ref b) v (upd H a (.dT (putK kvs k v))):=.inr ⟨kvs,k,b,e,rfl,eb,hl,rfl⟩
section
variable {X:Cx} {pins:List (Addr × Obj)} {σ:St} {H:Hp} {s:Shared} {a:Addr} {y v:V} {u r:Value} {o:Option V} {A:Around} {E:Value->Shared->Prop}
theorem Inv.big (I:Inv X pins σ H s):sysModules<s.heap.objs.size:=by
 have h:mainGlobals<s.heap.objs.size:=(I.mod.glob.keeps I.bk).lt
 exact Nat.lt_trans (by decide) h
theorem d_getItem {Q:Value->Shared->Prop}(hu:A.units+1<cLine)(I:Inv X pins σ H s)(g:DGet H a y (some v))(ry:RelV y u)(h:∀ w' s',Inv X pins σ H s'->RelV v w'->Q w' s') :
  wpAny (model X.prog X.w) A (getItem (.ref a) u) Q E s:=by
 rcases g with⟨kvs,k,e,ey,l⟩ | ⟨kvs,k,b,e,ey,eb,l⟩
 ·subst ey
  obtain⟨z,hd,vs,rel,dd⟩:=dk_rd I.hok e
  obtain⟨w',hw,rw'⟩:=RelO.some_of (v:=v) (o:=valueAt vs k) (by rw[l];exact rel.val k)
  exact wpAny_getItem_of (kV_is ry) dd.mapOf hw (h w' _ (I.tok _) rw')
 ·subst ey
  cases (show u=Value.ref b from ry)
  obtain⟨z,hd,xs,rel,dd⟩:=dt_rd I.hok e
  obtain⟨w',hw,rw'⟩:=RelO.some_of (v:=v) (o:=(atKey xs k).map (·.2)) (by rw[l];exact rel.val k)
  obtain⟨p,hp,hp2⟩:=Option.map_eq_some_iff.mp hw
  refine wpAny_getItem_heap (tupleKind_room_in1 hu) (key_of I.hok eb) dd hp ?_
  rw[hp2]
  exact h w' _ (I.tok _) rw'
theorem d_notIn {Q:Value->Shared->Prop}(hu:A.units+1<cLine)(I:Inv X pins σ H s)(g:DGet H a y o)(ry:RelV y u)(h:∀ s',Inv X pins σ H s'->Q (.bool (!o.isSome)) s') :
  wpAny (model X.prog X.w) A (compareOp .NotIn u (.ref a)) Q E s:=by
 rcases g with⟨kvs,k,e,ey,l⟩ | ⟨kvs,k,b,e,ey,eb,l⟩
 ·subst ey
  obtain⟨z,hd,vs,rel,dd⟩:=dk_rd I.hok e
  refine wpAny_notIn_of (kV_is ry) hd dd.mapOf ?_
  rw[<- (rel.val k).isSome_eq,<- l]
  exact h _ (I.tok _)
 ·subst ey
  cases (show u=Value.ref b from ry)
  obtain⟨z,hd,xs,rel,dd⟩:=dt_rd I.hok e
  refine wpAny_notIn_heap (tupleKind_room_in1 hu) (key_of I.hok eb) hd dd ?_
  have q:=(rel.val k).isSome_eq
  rw[Option.isSome_map]at q
  rw[<- q,<- l]
  exact h _ (I.tok _)
theorem d_write {h':Heap}{t':Nat}{ob:HO}(I:Inv X pins σ H s)(mu:Mut (H a))(hs:Heap.SameBut a s.heap h')(he:∃ q,h'.get? a=some q)(new:ObjOk X.prog X.w (upd H a ob) h' a ob) :
  Inv X pins σ (upd H a ob) { s with heap:=h',toks:=t' }:=
 I.write (x:=a) (e:=a) mu (.inl rfl) (fun b q hb z=>(hs.2 b hb).trans z) he new
theorem dk_new {P:Program}{w:World}{H':Hp}{h':Heap}{kvs:List (Key × V)}{vs:List (Key × Value)}(z:kvs.length<=sizeLine)(hd:(a == sysModules)=false)(rel:KV kvs vs)(dd:h'.DictOf (mixKind P w) a vs) :
  ObjOk P w H' h' a (.dK kvs):=⟨z,hd,vs,rel,dd⟩
theorem d_setItem {H':Hp}{Q:Unit->Shared->Prop}(hu:A.units+1<cLine)(I:Inv X pins σ H s)(g:DPut H a y v H')(ry:RelV y u)(rv:RelV v r)(h:∀ s',Inv X pins σ H' s'->Q () s') :
  wpAny (model X.prog X.w) A (setItem (.ref a) u r) Q E s:=by
 rcases g with⟨kvs,k,e,ey,l,eH⟩ | ⟨kvs,k,b,e,ey,eb,l,eH⟩
 ·subst ey eH
  obtain⟨z,hd,vs,rel,dd⟩:=dk_of I.hok e
  have hz:vs.length<=sizeLine:=by rw[<- rel.length];exact z
  have hl:(putK kvs k v).length<=sizeLine:=by have:=length_putK kvs k v;omega
  refine wpAny_setItem_pairs (hsz:=hz) (kV_is ry) dd fun h' dd' hs=>h _ ?_
  have he:∃ q,h'.get? a=some q:=let ⟨q,_,_,hq,_⟩:=dd';⟨q,hq⟩
  exact d_write I (by rw[e];exact True.intro) hs he (dk_new hl hd (rel.put k rv) dd')
 ·subst ey eH
  cases (show u=Value.ref b from ry)
  obtain⟨z,hd,xs,rel,dd⟩:=dt_of I.hok e
  have hz:xs.length<=sizeLine:=by rw[<- Paired.length rel];exact z
  have hl:(putK kvs k v).length<=sizeLine:=by have:=length_putK kvs k v;omega
  refine wpAny_setItem_heap (hsz:=hz) (tupleKind_room_in1 hu) (key_of I.hok eb) dd fun h' dd' hs=>h _ ?_
  obtain⟨q,es,ep,hq,h2,h3,h4,_,h5⟩:=dd'
  refine d_write I (by rw[e];exact True.intro) hs ⟨q,hq⟩ ⟨hl,hd,_,(rel.put k eb rv).keeps fun c ys ec=>?_,q,es,ep,hq,h2,h3,h4,h5⟩
  rw[upd_ne (ne_of ec e (fun z=>nomatch z))]
  exact ec
end
section
variable {X:Cx} {pins:List (Addr × Obj)} {σ:St} {H:Hp} {s:Shared} {a:Addr} {kvs:List (Key × V)} {k:Key} {u:Value} {A:Around} {E:Value->Shared->Prop}
end
def NoSl (i:Expr):Prop:=∀ ov iv,subscripted i false ov iv=operate [ov,iv] (getItem ov iv)
theorem subD_of {prog:Program}{w:World}{A:Around}{E:Value->Shared->Prop}{s:Shared}{env:Env}{value slice:Expr}{pos:Pos}{T id:String}{Q:Value->Shared->Prop}
  (hl:typeLookup (.type T) "__getitem__"=pure (some (.builtin id)))(hs:NoSl slice)
  (h:wpAny (model prog w) A (eval value env) (fun o s₁=>wpAny (model prog w) A (eval slice env) (fun i s₂=>s₂.TypeIs o T/\wpAny (model prog w) A (getItem o i) Q E s₂) E s₁) E s) :
  wpAny (model prog w) A (eval (.Subscript value slice pos) env) Q E s:=by
 refine Subscript_ (wpAny_mono h (fun o s₁ h₁=>wpAny_mono h₁ (fun i s₂ h₂=>?_) fun _ _ x=>x) fun _ _ x=>x)
 obtain⟨hT,h₂⟩:=h₂
 unfold subscriptTail
 refine wpAny_bind ?_
 rw[getitemInPython_of_ne hT.not_modules]
 refine wpAny_bind (wpAny_specialOf hT hl ?_)
 have fin:wpAny (model prog w) A (subscripted slice false o i) (fun r s₃=>wpAny (model prog w) A (letTemporaryGo value o r >>= fun _=>pure r) Q E s₃) E s₂:=by
  rw[hs o i]
  exact wpAny_operating (wpAny_mono h₂ (fun r s₃ h₃=>wpAny_bind (wpAny_letTemporaryGo (wpAny_pure h₃))) fun _ _ x=>x)
 first
  | exact wpAny_pure (wpAny_bind fin)
  | exact wpAny_bind (wpAny_pure (wpAny_bind fin))
  | exact wpAny_bind fin
theorem dict_typeIs {X:Cx}{pins:List (Addr × Obj)}{σ:St}{H:Hp}{s:Shared}{a:Addr}{y:V}{o:Option V}(I:Inv X pins σ H s)(g:DGet H a y o):s.TypeIs (.ref a) "dict":=by
 rcases g with⟨kvs,k,e,_,_⟩ | ⟨kvs,k,b,e,_,_,_⟩
 ·obtain⟨_,_,vs,_,dd⟩:=dk_rd I.hok e
  exact dd.typeIs
 ·obtain⟨_,_,xs,_,dd⟩:=dt_rd I.hok e
  exact dd.typeIs
def tDGet (td ty:TE):TE:=fun σ H Q=>td σ H fun x H1=>ty σ H1 fun y H2=>∃ a v,x=.ref a/\DGet H2 a y (some v)/\Q v H2
def tDNotIn (ty td:TE):TE:=fun σ H Q=>ty σ H fun y H1=>td σ H1 fun x H2=>∃ a o,x=.ref a/\DGet H2 a y o/\Q (.bl (!o.isSome)) H2
def sDPut (td ty tv:TE):TS:=fun D σ H=>tv σ H fun v H1=>td σ H1 fun x H2=>ty σ H2 fun y H3=>∃ a H4,x=.ref a/\DPut H3 a y v H4/\D.nx σ H4
section
variable {X:Cx} {o i e value:Expr} {pos pos' tpos:Pos} {td ty tv:TE}
theorem pe_dget (hu:X.A.units+1<cLine)(ho:PE X o td)(hi:PE X i ty)(hs:NoSl i):PE X (.Subscript o i pos) (tDGet td ty):=by
 intro pins s σ H Q I h
 refine subD_of PySem.F.slot_dict_getitem.lookup hs (thn (ho pins s σ H _ I h) fun u s1 ⟨x,H1,I1,rx,q1⟩=>thn (hi pins s1 σ H1 _ I1 q1) fun iv s2 ⟨y,H2,I2,ry,a,v,ex,g,q2⟩=>?_)
 subst ex
 obtain rfl:u=Value.ref a:=rx
 exact⟨dict_typeIs I2 g,d_getItem hu I2 g ry fun w' s3 I3 rw'=>⟨v,H2,I3,rw',q2⟩⟩
theorem pc_dnotin (hu:X.A.units+1<cLine)(hi:PE X i ty)(ho:PE X o td):PC X .NotIn i o (tDNotIn ty td):=by
 intro pins s σ H Q I h
 refine thn (hi pins s σ H _ I h) fun iv s1 ⟨y,H1,I1,ry,q1⟩=>thn (ho pins s1 σ H1 _ I1 q1) fun u s2 ⟨x,H2,I2,rx,a,ov,ex,g,q2⟩=>?_
 subst ex
 obtain rfl:u=Value.ref a:=rx
 exact d_notIn hu I2 g ry fun s3 I3=>⟨.bl (!ov.isSome),H2,I3,rfl,q2⟩
theorem ps_dput (hu:X.A.units+1<cLine)(ho:PE X o td)(hi:PE X i ty)(hv:PE X value tv)(hs:swapsWith value (some (.Subscript o i pos')) pos.line X.env=pure false) :
  PS X (.Assign [.Subscript o i pos'] value pos) (sDPut td ty tv):=by
 intro pins s σ H D I h
 refine wpAny_Assign_Subscript (thn (hv pins s σ H _ I h) fun r s1 ⟨v,H1,I1,rv,q1⟩=>thn (ho pins s1 σ H1 _ I1 q1) fun u s2 ⟨x,H2,I2,rx,q2⟩=>thn (hi pins s2 σ H2 _ I2 q2) fun iv s3 ⟨y,H3,I3,ry,a,H4,ex,g,q3⟩=>?_) hs
 subst ex
 obtain rfl:u=Value.ref a:=rx
 exact d_setItem hu I3 g ry rv fun s4 I4=>⟨σ,H4,I4,q3⟩
end
theorem dt_empty {P:Program}{w:World}{H:Hp}(h:Heap)(hb:sysModules<h.objs.size):ObjOk P w H (h.push { cls:=.type "dict",data:=.dict #[] }) h.objs.size (.dT []) :=
 ⟨Nat.zero_le _,beq_eq_false_iff_ne.mpr (Ne.symm (Nat.ne_of_lt hb)),[],.nil,_,#[],0,Heap.get?_push_size _ rfl,⟨rfl,rfl,rfl⟩,rfl,rfl,List.nodup_nil⟩
def tDNewT:TE:=fun _ H Q=>∀ p,H p=none->Q (.ref p) (upd H p (.dT []))
section
variable {X:Cx} {pos:Pos}
theorem pe_dnewT:PE X (.Dict [] [] pos) tDNewT:=fun pins s σ H Q I h =>
 wpAny_Dict_empty ⟨.ref s.heap.objs.size,_,I.laid (a:=s.heap.objs.size) (o:=.dT []) (t':=s.toks) (fun _ _ q=>Heap.get?_push_of_some _ q) (Nat.le_refl _) (dt_empty s.heap I.big),rfl,h _ (I.hok.fresh (Nat.le_refl _))⟩
end
structure M1 (X:Cx) (o:Expr) (m:Str) (apos:Pos) (e:Expr) (cpos:Pos):Prop where
 base:attributeBase o m X.env (eval o X.env)=eval o X.env
 few:((backTo cpos (starEach [e] X.env)).all (fun x=>!x.1) && (backToKw cpos (keywordEach [] X.env)).all (fun x=>x.1.isSome)
  && decide (([e]:List Expr).length+([]:List Keyword).length+(if ([]:List Keyword).isEmpty then 0 else 1)<30))=true
 line:(apos.endLine == cpos.line)=true
 trees:backTo cpos (starEach [e] X.env)=[(false,eval e X.env)]
structure M2 (X:Cx) (o:Expr) (m:Str) (apos:Pos) (e f:Expr) (cpos:Pos):Prop where
 base:attributeBase o m X.env (eval o X.env)=eval o X.env
 few:((backTo cpos (starEach [e,f] X.env)).all (fun x=>!x.1) && (backToKw cpos (keywordEach [] X.env)).all (fun x=>x.1.isSome)
  && decide (([e,f]:List Expr).length+([]:List Keyword).length+(if ([]:List Keyword).isEmpty then 0 else 1)<30))=true
 line:(apos.endLine == cpos.line)=true
 trees:backTo cpos (starEach [e,f] X.env)=[(false,eval e X.env),(false,eval f X.env)]
section
variable {X:Cx} {pins:List (Addr × Obj)} {σ:St} {H:Hp} {s:Shared} {a:Addr} {y d:V} {u r:Value} {o:Option V} {A:Around} {E:Value->Shared->Prop}
end
section
variable {X:Cx} {o e f:Expr} {apos cpos:Pos} {td ty tx:TE}
end
section
variable {X:Cx} {pins:List (Addr × Obj)} {σ:St} {H:Hp} {s:Shared} {a:Addr} {kvs:List (Key × V)} {A:Around} {E:Value->Shared->Prop}
end
section
variable {X:Cx} {pins:List (Addr × Obj)} {σ:St} {H:Hp} {s:Shared} {a:Addr} {y:V} {u:Value} {A:Around} {E:Value->Shared->Prop}
end
end L2
namespace Att
open PySem PySem.W PySem.Calls PyProof.Rows
section
variable {prog:Program} {w:World} {A:Around} {E:Value->Shared->Prop} {s:Shared} {K:Frag}
end
end Att
namespace L2
open PySem PySem.Spec PyProof.Rows
section
variable {P:Program} {w:World} {K:W.Frag} {mg:Str->Option Value} {base:Heap}
end
section
variable {X:Cx}
end
section
variable {κ:Type} [DecidableEq κ]
end
section
variable {X:Cx}
theorem pi_or {tg it:Expr}{w1 w2:TI}(h1:PI X tg it w1)(h2:PI X tg it w2):PI X tg it (fun σ H R=>w1 σ H R\/w2 σ H R):=
 fun pins s σ H R I h=>h.elim (h1 pins s σ H R I) (h2 pins s σ H R I)
theorem call_sumS (hc:X.calm=true):CallR X (.builtin "sum") (fun xs H Q=>∃ (p:Addr) (ns:List Int),xs=[.ref p]/\(SqL X.K H p (ns.map V.int)\/SqT X.K H p (ns.map V.int))/\Q (.int ns.sum) H) :=
 fun pins s σ H xs us Q I r ⟨p,ns,e,hq,q⟩=>hq.elim (fun h=>call_sum hc pins s σ H xs us Q I r ⟨p,ns,e,h,q⟩) fun h=>call_sumT hc pins s σ H xs us Q I r ⟨p,ns,e,h,q⟩
end
theorem comp_enumG {D:Addr}{J:It}{S:Hp->Prop}{ys:List V}{g:TG}{tt:TT}{te:TE}{Qd:Hp->Prop}{σ0:St}{H0:Hp}
  (hst:∀ i H,S H->ys.length=i->J.stop i H)(hgo:∀ i H,S H->i<ys.length->J.go i H)(hy:∀ i H x H'',S H->J.yld i H x H''->∃ (t:Addr) (v:V),H t=none/\x=.ref t/\ys[i]?=some v/\H''=upd H t (.tup [.int i,v]))
  (Pv:Nat->List V->St->Hp->Prop)(h0:Pv 0 [] σ0 H0)(hz:ys.length<=sizeLine)(hl:∀ i xs σ H,i<=ys.length->Pv i xs σ H->S H/\H D=some (.lst xs)/\xs.length<=i)
  (hs:∀ i xs x t σ H (N:List V->St->Hp->Prop),(∀ xs' σ' H',Pv (i+1) xs' σ' H'->N xs' σ' H')->ys[i]?=some x->Pv i xs σ H->H t=none->g (.ref t) σ (upd H t (.tup [.int i,x])) fun σ2 H2=>tt σ2 H2 fun b H3=>if b=true then te σ2 H3 fun v H4=>H4 D=some (.lst xs)/\N (xs++[v]) σ2 (upd H4 D (.lst (xs++[v]))) else N xs σ2 H3)
  (hd:∀ xs σ H,Pv ys.length xs σ H->Qd H) :
  ∃ W:Nat->Nat->List V->St->Hp->Prop,(∃ m,W 0 m [] σ0 H0)/\∀ i m xs σ' H',W i m xs σ' H'->H' D=some (.lst xs)/\((J.stop i H'/\Qd H')\/(J.go i H'/\xs.length<sizeLine/\∀ x H'',J.yld i H' x H''->g x σ' H'' fun σ2 H2=>tt σ2 H2 fun b H3 =>
   if b=true then te σ2 H3 fun v H4=>H4 D=some (.lst xs)/\∃ m',m'<m/\W (i+1) m' (xs++[v]) σ2 (upd H4 D (.lst (xs++[v]))) else ∃ m',m'<m/\W (i+1) m' xs σ2 H3)):=by
 refine⟨fun i m xs σ H=>m=ys.length - i/\i<=ys.length/\Pv i xs σ H,⟨ys.length,by simp,Nat.zero_le _,h0⟩,?_⟩
 rintro i m xs σ H ⟨rfl,hi,p⟩
 obtain⟨q,hD,hx⟩:=hl i xs σ H hi p
 refine⟨hD,?_⟩
 by_cases hlt:i<ys.length
 ·refine .inr ⟨hgo i H q hlt,by omega,fun x H'' y=>?_⟩
  obtain⟨t,v,ht,e,hv,e'⟩:=hy i H x H'' q y
  subst e e'
  exact hs i xs v t σ _ (fun zs σ' H'=>∃ m',m'<ys.length - i/\m'=ys.length - (i+1)/\i+1<=ys.length/\Pv (i+1) zs σ' H') (fun zs σ' H' r=>⟨_,by omega,rfl,hlt,r⟩) hv p ht
 ·have e:i=ys.length:=by omega
  subst e
  exact .inl ⟨hst _ H q rfl,hd xs σ H p⟩
theorem itn_st {K:W.Frag}{a:Addr}{ys:List V}(i:Nat)(H:Hp)(q:SqL K H a ys)(h:ys.length=i):(Itn K a).stop i H:=⟨ys,q,Nat.le_of_eq h⟩
theorem itn_go {K:W.Frag}{a:Addr}{ys:List V}(i:Nat)(H:Hp)(q:SqL K H a ys)(h:i<ys.length):(Itn K a).go i H:=⟨ys,ys[i],q,by simp[h]⟩
theorem itn_y {K:W.Frag}{a:Addr}{ys:List V}(i:Nat)(H:Hp)(x:V)(H'':Hp)(q:SqL K H a ys)(y:(Itn K a).yld i H x H''):∃ (t:Addr) (v:V),H t=none/\x=.ref t/\ys[i]?=some v/\H''=upd H t (.tup [.int i,v]):=by
 obtain⟨t,v,ht,e,hv,e'⟩:=y
 exact⟨t,v,ht,e,hv ys q,e'⟩
theorem itm_st {K:W.Frag}{a:Addr}{ys:List V}(i:Nat)(H:Hp)(q:SqT K H a ys)(h:ys.length=i):(Itm K a).stop i H:=⟨ys,q,h⟩
theorem itm_go {K:W.Frag}{a:Addr}{ys:List V}(i:Nat)(H:Hp)(q:SqT K H a ys)(h:i<ys.length):(Itm K a).go i H:=⟨ys,ys[i],q,by simp[h]⟩
theorem itm_y {K:W.Frag}{a:Addr}{ys:List V}(i:Nat)(H:Hp)(x:V)(H'':Hp)(q:SqT K H a ys)(y:(Itm K a).yld i H x H''):∃ (t:Addr) (v:V),H t=none/\x=.ref t/\ys[i]?=some v/\H''=upd H t (.tup [.int i,v]):=by
 obtain⟨t,v,ht,e,hv,e'⟩:=y
 exact⟨t,v,ht,e,hv ys q,e'⟩
theorem comp_enumS {K:W.Frag} {a:Addr} {ys:List V} {g:TG} {tt:TT} {te:TE} {Qd:Addr->Hp->Prop} {σ0:St} {H:Hp} (hS:SqL K H a ys\/SqT K H a ys) (hz:ys.length<=sizeLine)
  (Pv:Addr->Nat->List V->St->Hp->Prop) (h0:∀ D,H D=none->Pv D 0 [] σ0 (upd H D (.lst []))) (hl:∀ D i xs σ H',H D=none->i<=ys.length->Pv D i xs σ H'->Same H H'/\H' D=some (.lst xs)/\xs.length<=i)
  (hs:∀ D i xs x t σ H' (N:List V->St->Hp->Prop),H D=none->(∀ xs' σ' H'',Pv D (i+1) xs' σ' H''->N xs' σ' H'')->ys[i]?=some x->Pv D i xs σ H'->H' t=none->g (.ref t) σ (upd H' t (.tup [.int i,x])) fun σ2 H2=>tt σ2 H2 fun b H3=>if b=true then te σ2 H3 fun v H4=>H4 D=some (.lst xs)/\N (xs++[v]) σ2 (upd H4 D (.lst (xs++[v]))) else N xs σ2 H3)
  (hd:∀ D xs σ H',H D=none->Pv D ys.length xs σ H'->Qd D H') :
  (∃ b, [V.ref a] = [V.ref b] /\ (∃ xs, SqL K H b xs) /\ ∀ D, H D = none -> ∃ W : Nat -> Nat -> List V -> St -> Hp -> Prop, (∃ m, W 0 m [] σ0 (upd H D (.lst []))) /\ ∀ i m xs σ' H', W i m xs σ' H' -> H' D = some (.lst xs) /\ (((Itn K b).stop i H' /\ Qd D H') \/ ((Itn K b).go i H' /\ xs.length < sizeLine /\ ∀ x H'', (Itn K b).yld i H' x H'' -> g x σ' H'' fun σ2 H2 => tt σ2 H2 fun b H3 =>
   if b=true then te σ2 H3 fun v H4=>H4 D=some (.lst xs)/\∃ m',m'<m/\W (i+1) m' (xs++[v]) σ2 (upd H4 D (.lst (xs++[v]))) else ∃ m',m'<m/\W (i+1) m' xs σ2 H3))) \/
  (∃ b, [V.ref a] = [V.ref b] /\ (∃ xs, SqT K H b xs) /\ ∀ D, H D = none -> ∃ W : Nat -> Nat -> List V -> St -> Hp -> Prop, (∃ m, W 0 m [] σ0 (upd H D (.lst []))) /\ ∀ i m xs σ' H', W i m xs σ' H' -> H' D = some (.lst xs) /\ (((Itm K b).stop i H' /\ Qd D H') \/ ((Itm K b).go i H' /\ xs.length < sizeLine /\ ∀ x H'', (Itm K b).yld i H' x H'' -> g x σ' H'' fun σ2 H2 => tt σ2 H2 fun b H3 =>
   if b=true then te σ2 H3 fun v H4=>H4 D=some (.lst xs)/\∃ m',m'<m/\W (i+1) m' (xs++[v]) σ2 (upd H4 D (.lst (xs++[v]))) else ∃ m',m'<m/\W (i+1) m' xs σ2 H3))):=by
 rcases hS with hS | hS
 ·exact .inl ⟨a,rfl,⟨_,hS⟩,fun D hD=>comp_enumG (S:=fun H'=>SqL K H' a ys) itn_st itn_go itn_y (Pv D) (h0 D hD) hz (fun i xs σ H' hi p=>let ⟨s,g,l⟩:=hl D i xs σ H' hD hi p;⟨s.seq hS,g,l⟩) (fun i xs x t σ H' N kN hx p ht=>hs D i xs x t σ H' N hD kN hx p ht) (fun xs σ H' p=>hd D xs σ H' hD p)⟩
 ·exact .inr ⟨a,rfl,⟨_,hS⟩,fun D hD=>comp_enumG (S:=fun H'=>SqT K H' a ys) itm_st itm_go itm_y (Pv D) (h0 D hD) hz (fun i xs σ H' hi p=>let ⟨s,g,l⟩:=hl D i xs σ H' hD hi p;⟨s.seqT hS,g,l⟩) (fun i xs x t σ H' N kN hx p ht=>hs D i xs x t σ H' N hD kN hx p ht) (fun xs σ H' p=>hd D xs σ H' hD p)⟩
theorem pg_tupK {X:Cx}(K:W.Frag)(hK:X.K=K){es:List Expr}{k:Nat}{pos:Pos}{t:TGs}{n:Nat}(hc:X.calm=true)(h:PGs X es t)
  (hn:(assignEach es X.env).length=n:=by rfl)(hst:(assignEach es X.env).findIdx? (·.1)=none:=by rfl):PG X (.Tuple es k pos) (gTup K n t):=by
 subst hK
 exact pg_tup hc h hn hst
section
variable {X:Cx}
theorem op_isnotB:OpR X (compareOp .IsNot) (fun x y H Q=>∃ i j,x=.bl i/\y=.bl j/\Q (.bl (!decide (i=j))) H):=by
 intro pins s σ H x y v u Q I rx ry h
 obtain⟨i,j,rfl,rfl,q⟩:=h
 cases rx
 cases ry
 exact isnot_bool (fin_bl I q (by cases i<;>cases j<;>rfl))
end
def rngI (i:Int)(n:Nat):List Int:=(List.range' 0 n).map fun k:Nat=>i+(k:Int)
theorem intsA_of (a:Int):∀ {vs:List Value} {n i:Nat},vs.length=n->(∀ j v,vs[j]?=some v->∃ t,v=Value.int (a+((i+j:Nat):Int)) t)->IntsAre vs ((List.range' i n).map fun k:Nat=>a+(k:Int))
 | [],n,i,e,_=>by subst e;exact .nil
 | v::vs,0,i,e,_=>by cases e
 | v::vs,n+1,i,e,h=>by
  obtain⟨t,rfl⟩:=h 0 v rfl
  rw[List.range'_succ,List.map_cons]
  refine .cons _ t (intsA_of a (by simpa using e) fun j v hv=>?_)
  obtain⟨t',e'⟩:=h (j+1) v (by simpa using hv)
  exact⟨t',by rw[e'];congr 2;omega⟩
section
variable {X:Cx}
def tRng2 (ta:TA):TE:=fun σ H Q=>ta σ H fun vs H1=>∃ i j:Int,vs=[.int i,.int j]/\∀ r,H1 r=none->Q (.ref r) (upd H1 r (.rng i j))
theorem pe_rng2 {a b:Expr}{ta:TA}{p pos:Pos}(hg:Gl X "range")(hm:X.mg "range"=none)(ha:PA X [a,b] ta)(hs:starEach [a,b] X.env=[(false,eval a X.env),(false,eval b X.env)]:=by rfl)(hs2:starEach [b] X.env=[(false,eval b X.env)]:=by rfl) :
  PE X (.Call (.Name "range" p) [a,b] [] pos) (tRng2 ta):=by
 intro pins s σ H Q I h
 refine Call_ (ld_blt I hg hm boot_range (PyProof.Rows.callWith_type1 (thn (ha pos pins s σ H _ I h) fun us s1 ⟨vs,H1,I1,r1,q1⟩=>?_) (by rw[hs,hs2]) (by rw[hs2];rfl)))
 obtain⟨i,j,e,q⟩:=q1
 subst e
 cases r1 with
 | cons r rr =>
  cases rr with
  | cons r' rr =>
   cases rr
   obtain⟨t,rfl⟩:=r
   obtain⟨t',rfl⟩:=r'
   refine call_range_2 ?_
   have hf:H1 s1.heap.objs.size=none:=I1.hok.fresh (Nat.le_refl _)
   exact⟨.ref s1.heap.objs.size,upd H1 s1.heap.objs.size (.rng i j),I1.laid (fun b o e=>Heap.get?_push_of_some _ e) (Nat.le_refl _) ⟨_,_,_,Heap.get?_push_size _ rfl⟩,rfl,q _ hf⟩
theorem call_list_rng (hc:X.calm=true):CallR X (.type "list") (fun xs H Q=>∃ (r:Addr) (i j:Int) (n:Nat),xs=[.ref r]/\H r=some (.rng i j)/\j - i=n/\n<=1000 /\ -1000<=i/\i<=1000/\∀ l,H l=none->Q (.ref l) (upd H l (.lst ((rngI i n).map V.int)))):=by
 intro pins s σ H xs us Q I r h
 obtain⟨p,i,j,n,rfl,hq,hn,hn1,hi1,hi2,q⟩:=h
 obtain⟨u,rfl,rx⟩:=vals1 r
 cases rx
 obtain⟨t1,t2,t3,hr⟩:=I.hok p _ hq
 refine call_list_range (a:=i) (b:=j) (c:=1) (n:=n) (I.ok.hd hc) hr (small_one (by omega) (by omega) (by omega) (by omega)) (by rw[rangeSize_one];split<;>omega) (by omega) fun h' tk acc c' kp e hacc=>?_
 have hi:IntsAre acc.toList (rngI i n):=intsA_of i (by rw[Array.length_toList];exact hacc.1) fun k v hk=>by
  obtain⟨t',e⟩:=hacc.2 k v (by rw[<- Array.getElem?_toList];exact hk)
  exact⟨t',by rw[e];simp⟩
 have hl:(rngI i n).length=n:=by unfold rngI;rw[List.length_map,List.length_range']
 exact⟨.ref s.heap.objs.size,_,I.laid (t':=tk) kp (Nat.le_refl _) (show ObjOk X.prog X.w _ h' _ (.lst ((rngI i n).map V.int)) from ⟨by rw[List.length_map,hl,sizeLine_eq];omega,acc.toList,c',vals_ints hi,by rw[Array.toArray_toList];exact e⟩),rfl,q _ (I.hok.fresh (Nat.le_refl _))⟩
end
theorem comp_range {lo:Int}{n:Nat}{D:Addr}{g:TG}{tt:TT}{te:TE}{Qd:Hp->Prop}{σ0:St}{H0:Hp}(Pv:Nat->List V->St->Hp->Prop)(h0:Pv 0 [] σ0 H0)(hz:n<=sizeLine)(hl:∀ i xs σ H,i<=n->Pv i xs σ H->H D=some (.lst xs)/\xs.length<=i)
  (hs:∀ i xs σ H (N:List V->St->Hp->Prop),(∀ xs' σ' H',Pv (i+1) xs' σ' H'->N xs' σ' H')->i<n->Pv i xs σ H->g (.int (lo+i)) σ H fun σ2 H2=>tt σ2 H2 fun b H3=>if b=true then te σ2 H3 fun v H4=>H4 D=some (.lst xs)/\N (xs++[v]) σ2 (upd H4 D (.lst (xs++[v]))) else N xs σ2 H3)
  (hd:∀ xs σ H,Pv n xs σ H->Qd H) :
  ∃ W:Nat->Nat->List V->St->Hp->Prop,(∃ m,W 0 m [] σ0 H0)/\∀ i m xs σ' H',W i m xs σ' H'->H' D=some (.lst xs)/\(((Itr lo n).stop i H'/\Qd H')\/((Itr lo n).go i H'/\xs.length<sizeLine/\∀ x H'',(Itr lo n).yld i H' x H''->g x σ' H'' fun σ2 H2=>tt σ2 H2 fun b H3 =>
   if b=true then te σ2 H3 fun v H4=>H4 D=some (.lst xs)/\∃ m',m'<m/\W (i+1) m' (xs++[v]) σ2 (upd H4 D (.lst (xs++[v]))) else ∃ m',m'<m/\W (i+1) m' xs σ2 H3)):=by
 refine⟨fun i m xs σ H=>m=n - i/\i<=n/\Pv i xs σ H,⟨n,by simp,Nat.zero_le _,h0⟩,?_⟩
 rintro i m xs σ H ⟨rfl,hi,p⟩
 obtain⟨hD,hx⟩:=hl i xs σ H hi p
 refine⟨hD,?_⟩
 by_cases hlt:i<n
 ·refine .inr ⟨hlt,by omega,fun x H'' y=>?_⟩
  obtain⟨e,y⟩:=y
  subst e y
  exact hs i xs σ _ (fun zs σ' H'=>∃ m',m'<n - i/\m'=n - (i+1)/\i+1<=n/\Pv (i+1) zs σ' H') (fun zs σ' H' r=>⟨_,by omega,rfl,hlt,r⟩) hlt p
 ·obtain rfl:i=n:=by omega
  exact .inl ⟨Nat.le_refl _,hd xs σ H p⟩
end L2
namespace Web
open L2
def chs:List Int->Int->List (List Int)
 | [],m=>if m=0 then [[]] else []
 | p::ps,m=>if m=0 then [[]] else (chs ps (m - 1)).map (p::·)++chs ps m
theorem chs_zero (ps:List Int):chs ps 0=[[]]:=by cases ps<;>rfl
theorem chs_neg:∀ {ps:List Int} {m:Int},m<0->chs ps m=[]
 | [],m,h=>by unfold chs;rw[if_neg (by omega)]
 | p::ps,m,h=>by unfold chs;rw[if_neg (by omega),chs_neg (by omega),chs_neg h];rfl
theorem chs_cons (p:Int)(ps:List Int)(m:Int):chs (p::ps) m=(chs ps (m - 1)).map (p::·)++chs ps m:=by
 by_cases h:m=0
 ·subst h
  rw[chs_zero,chs_neg (by decide),chs_zero];rfl
 ·show (if m=0 then _ else _)=_
  rw[if_neg h]
theorem chs_len:∀ (ps:List Int) (m:Int),(chs ps m).length<=2 ^ ps.length
 | [],m=>by
  unfold chs
  split<;>decide
 | p::ps,m=>by
  rw[chs_cons,List.length_append,List.length_map,List.length_cons,Nat.pow_succ]
  have h1:=chs_len ps (m - 1)
  have h2:=chs_len ps m
  omega
theorem chs_sub:∀ {ps:List Int} {m:Int} {E:List Int},E∈chs ps m->∀ x∈E,x∈ps
 | [],m,E,h,x,hx=>by
  unfold chs at h
  split at h
  ·rw[List.mem_singleton.mp h]at hx;exact absurd hx List.not_mem_nil
  ·exact absurd h List.not_mem_nil
 | p::ps,m,E,h,x,hx=>by
  rw[chs_cons]at h
  rcases List.mem_append.mp h with h | h
  ·obtain⟨E',h1,rfl⟩:=List.mem_map.mp h
   rcases List.mem_cons.mp hx with rfl | hx
   ·exact List.mem_cons_self
   ·exact List.mem_cons_of_mem _ (chs_sub h1 x hx)
  ·exact List.mem_cons_of_mem _ (chs_sub h x hx)
theorem chs_many:∀ {ps:List Int} {m:Int} {E:List Int},E∈chs ps m->(E.length:Int)=m
 | [],m,E,h=>by
  unfold chs at h
  split at h
  ·next e=>rw[List.mem_singleton.mp h,e];rfl
  ·exact absurd h List.not_mem_nil
 | p::ps,m,E,h=>by
  rw[chs_cons]at h
  rcases List.mem_append.mp h with h | h
  ·obtain⟨E',h1,rfl⟩:=List.mem_map.mp h
   have:=chs_many h1
   rw[List.length_cons]
   omega
  ·exact chs_many h
def acL (ps:List Int)(m:Int)(i:Nat):List (List Int):=(List.range i).flatMap fun j=>(chs (ps.drop (j+1)) (m - 1)).map (ps.getD j 0::·)
theorem acL_succ (ps:List Int)(m:Int)(i:Nat):acL ps m (i+1)=acL ps m i++(chs (ps.drop (i+1)) (m - 1)).map (ps.getD i 0::·):=by
 unfold acL
 rw[List.range_succ,List.flatMap_append,List.flatMap_cons,List.flatMap_nil,List.append_nil]
theorem acL_all:∀ (ps:List Int) {m:Int},m≠0->acL ps m ps.length=chs ps m
 | [],m,h=>by unfold chs;rw[if_neg h];rfl
 | p::ps,m,h=>by
  rw[chs_cons,<- acL_all ps h]
  unfold acL
  rw[List.length_cons,List.range_succ_eq_map,List.flatMap_cons,List.flatMap_map]
  rfl
theorem acL_len (ps:List Int)(m:Int):∀ i,i<=ps.length->(acL ps m i).length<=i*2 ^ ps.length
 | 0,_=>by show 0<=_;exact Nat.zero_le _
 | i+1,h=>by
  rw[acL_succ,List.length_append,List.length_map,Nat.succ_mul]
  have h1:=acL_len ps m i (by omega)
  have h2:=chs_len (ps.drop (i+1)) (m - 1)
  have h3:2 ^ (ps.drop (i+1)).length<=2 ^ ps.length:=Nat.pow_le_pow_right (by decide) (by rw[List.length_drop];omega)
  omega
def Ws (f:List Int->Nat):List Int->Int->Nat
 | [],a=>if a=0 then f [] else 0
 | x::c,a=>Ws (fun l=>f ((x - 1)::l)) c (a - 1)+Ws (fun l=>f (x::l)) c a
theorem Ws_congr:∀ {c:List Int} {f g:List Int->Nat} {a:Int},(∀ l,l.length=c.length->f l=g l)->Ws f c a=Ws g c a
 | [],f,g,a,h=>by unfold Ws;rw[h [] rfl]
 | x::c,f,g,a,h=>by
  unfold Ws
  rw[Ws_congr (c:=c) (f:=fun l=>f ((x - 1)::l)) (g:=fun l=>g ((x - 1)::l)) (fun l hl=>h _ (by rw[List.length_cons,List.length_cons,hl])),Ws_congr (c:=c) (f:=fun l=>f (x::l)) (g:=fun l=>g (x::l)) (fun l hl=>h _ (by rw[List.length_cons,List.length_cons,hl]))]
theorem Ws_add:∀ {c:List Int} {f g:List Int->Nat} {a:Int},Ws (fun l=>f l+g l) c a=Ws f c a+Ws g c a
 | [],f,g,a=>by unfold Ws;split<;>rfl
 | x::c,f,g,a=>by
  unfold Ws
  rw[Ws_add (c:=c) (f:=fun l=>f ((x - 1)::l)) (g:=fun l=>g ((x - 1)::l)),Ws_add (c:=c) (f:=fun l=>f (x::l)) (g:=fun l=>g (x::l))]
  omega
def PI (f:List Int->Nat):Prop:=∀ l m:List Int,l.Perm m->f l=f m
theorem PI.cons {f:List Int->Nat}(h:PI f)(x:Int):PI fun l=>f (x::l):=fun l m p=>h _ _ (p.cons x)
theorem Ws_perm {c d:List Int}(p:c.Perm d):∀ {f:List Int->Nat},PI f->∀ a,Ws f c a=Ws f d a:=by
 induction p with
 | nil=>intro f _ a;rfl
 | cons x _ ih =>
  intro f h a
  unfold Ws
  rw[ih (h.cons _),ih (h.cons _)]
 | swap x y l =>
  intro f h a
  unfold Ws
  unfold Ws
  have sw:∀ u v:Int,(fun l=>f (u::v::l))=fun l=>f (v::u::l):=fun u v=>funext fun l=>h _ _ (List.Perm.swap v u l)
  rw[sw (y - 1) (x - 1),sw (y - 1) x,sw y (x - 1),sw y x]
  omega
 | trans _ _ h1 h2=>intro f h a;rw[h1 h,h2 h]
theorem Ws_comm:∀ {c:List Int} {f:List Int->Nat} {a b:Int},Ws (fun l=>Ws f l b) c a=Ws (fun l=>Ws f l a) c b
 | [],f,a,b=>by
  unfold Ws
  unfold Ws
  split<;>split<;>rfl
 | x::c,f,a,b=>by
  show Ws (fun l=>Ws f ((x - 1)::l) b) c (a - 1)+Ws (fun l=>Ws f (x::l) b) c a=Ws (fun l=>Ws f ((x - 1)::l) a) c (b - 1)+Ws (fun l=>Ws f (x::l) a) c b
  have e:∀ (y:Int) (u:Int),(fun l=>Ws f (y::l) u)=fun l=>Ws (fun m=>f ((y - 1)::m)) l (u - 1)+Ws (fun m=>f (y::m)) l u:=fun y u=>rfl
  rw[e,e,e,e,Ws_add,Ws_add,Ws_add,Ws_add]
  rw[Ws_comm (c:=c) (f:=fun m=>f ((x - 1 - 1)::m)) (a:=a - 1) (b:=b - 1),Ws_comm (c:=c) (f:=fun m=>f ((x - 1)::m)) (a:=a - 1) (b:=b),Ws_comm (c:=c) (f:=fun m=>f ((x - 1)::m)) (a:=a) (b:=b - 1),Ws_comm (c:=c) (f:=fun m=>f (x::m)) (a:=a) (b:=b)]
  omega
def cntF:Nat->List Int->Nat
 | 0,_=>1
 | n+1,[]=>1
 | n+1,a::c=>Ws (cntF n) c a
def cnt (d:List Int):Nat:=cntF d.length d
theorem cnt_cons (a:Int)(c:List Int):cnt (a::c)=Ws cnt c a:=by
 show Ws (cntF c.length) c a=_
 exact Ws_congr fun l hl=>by unfold cnt;rw[hl]
theorem cntw2 (a b:Int)(c:List Int):cnt (a::b::c)=Ws (fun l=>Ws cnt l (b - 1)) c (a - 1)+Ws (fun l=>Ws cnt l b) c a:=by
 rw[cnt_cons]
 show Ws (fun l=>cnt ((b - 1)::l)) c (a - 1)+Ws (fun l=>cnt (b::l)) c a=_
 rw[Ws_congr (fun l _=>cnt_cons (b - 1) l),Ws_congr (c:=c) (a:=a) (fun l _=>cnt_cons b l)]
theorem cnt_perm:∀ (n:Nat) {c d:List Int},c.length=n->c.Perm d->cnt c=cnt d:=by
 intro n
 induction n with
 | zero =>
  intro c d h p
  have:c=[]:=List.length_eq_zero_iff.mp h
  subst this
  rw[List.nil_perm.mp p]
 | succ n ih =>
  have ihP:∀ {c d:List Int},c.length=n->c.Perm d->∀ a,cnt (a::c)=cnt (a::d):=fun {c d} hc p a=>by
   rw[cnt_cons,cnt_cons]
   have ext:∀ l m:List Int,l.Perm m->(fun l:List Int=>if l.length=n then cnt l else 0) l=(fun l:List Int=>if l.length=n then cnt l else 0) m:=fun l m q=>by
    show (if l.length=n then cnt l else 0)=if m.length=n then cnt m else 0
    by_cases h:l.length=n
    ·rw[if_pos h,if_pos (by rw[<- q.length_eq];exact h),ih h q]
    ·rw[if_neg h,if_neg (by rw[<- q.length_eq];exact h)]
   have e1:Ws cnt c a=Ws (fun l:List Int=>if l.length=n then cnt l else 0) c a:=Ws_congr fun l hl=>by rw[if_pos (by rw[hl];exact hc)]
   have e2:Ws cnt d a=Ws (fun l:List Int=>if l.length=n then cnt l else 0) d a:=Ws_congr fun l hl=>by rw[if_pos (by rw[hl,<- p.length_eq];exact hc)]
   rw[e1,e2]
   exact Ws_perm p ext a
  intro c d h p
  induction p with
  | nil=>rfl
  | cons x q _=>exact ihP (by rw[List.length_cons]at h;omega) q x
  | swap x y l =>
   rw[cntw2,cntw2,Ws_comm (b:=x - 1),Ws_comm (b:=x)]
  | trans p1 p2 h1 h2=>rw[h1 h,h2 (by rw[<- p1.length_eq];exact h)]
theorem cnt_pi:PI cnt:=fun l m p=>cnt_perm l.length rfl p
def two (a b:Int)(c:List Int):Nat:=Ws (fun l=>cnt ((b - 1)::l)) c (a - 1)
def decP (s:Int)(E:List Int):List Int->List Int
 | []=>[]
 | x::c=>(if s∈E then x - 1 else x)::decP (s+1) E c
theorem decP_len (E:List Int):∀ (s:Int) (c:List Int),(decP s E c).length=c.length
 | _,[]=>rfl
 | s,x::c=>by show (decP (s+1) E c).length+1=_;rw[decP_len E];rfl
theorem rngI_succ (s:Int)(n:Nat):rngI s (n+1)=s::rngI (s+1) n:=by
 unfold rngI
 rw[List.range'_succ,List.map_cons]
 refine congr (congrArg List.cons (by omega)) ?_
 rw[<- List.map_add_range' (a:=1) 0 n,List.map_map]
 refine List.map_congr_left fun k _=>?_
 show s+((1+k:Nat):Int)=_
 omega
theorem rngI_ge {s x:Int}{n:Nat}(h:x∈rngI s n):s<=x:=by
 unfold rngI at h
 obtain⟨k,_,rfl⟩:=List.mem_map.mp h
 omega
theorem decP_skip {s p:Int}{E:List Int}:∀ {c:List Int} {s:Int},p<s->decP s (p::E) c=decP s E c
 | [],s,_=>rfl
 | x::c,s,h=>by
  show (if s∈p::E then x - 1 else x)::decP (s+1) (p::E) c=_
  rw[decP_skip (s:=s+1) (by omega)]
  have:(s∈p::E)↔s∈E:=⟨fun z=>(List.mem_cons.mp z).resolve_left (by omega),List.mem_cons_of_mem _⟩
  by_cases hs:s∈E
  ·rw[if_pos (this.mpr hs)]
   show _=(if s∈E then x - 1 else x)::_
   rw[if_pos hs]
  ·rw[if_neg fun z=>hs (this.mp z)]
   show _=(if s∈E then x - 1 else x)::_
   rw[if_neg hs]
theorem chs_sum:∀ {c:List Int} {f:List Int->Nat} {a s:Int},((chs (rngI s c.length) a).map fun E=>f (decP s E c)).sum=Ws f c a
 | [],f,a,s=>by
  unfold Ws
  show ((chs [] a).map fun E=>f []).sum=_
  unfold chs
  split<;>rfl
 | x::c,f,a,s=>by
  rw[List.length_cons,rngI_succ,chs_cons,List.map_append,List.sum_append,List.map_map]
  unfold Ws
  rw[<- chs_sum (c:=c) (f:=fun l=>f ((x - 1)::l)) (a:=a - 1) (s:=s+1),<- chs_sum (c:=c) (f:=fun l=>f (x::l)) (a:=a) (s:=s+1)]
  congr 1
  ·refine congrArg List.sum (List.map_congr_left fun E hE=>?_)
   show f ((if s∈s::E then x - 1 else x)::decP (s+1) (s::E) c)=_
   rw[if_pos List.mem_cons_self,decP_skip (s:=s+1) (by omega)]
  ·refine congrArg List.sum (List.map_congr_left fun E hE=>?_)
   show f ((if s∈E then x - 1 else x)::decP (s+1) E c)=_
   rw[if_neg fun z=>by have:=rngI_ge (chs_sub hE s z);omega]
theorem chs_sum1 {b a s:Int}{c:List Int}{f:List Int->Nat}:(((chs (rngI s (c.length+1)) a).filter fun E=>decide (s∈E)).map fun E=>f (decP s E (b::c))).sum=Ws (fun l=>f ((b - 1)::l)) c (a - 1):=by
 rw[rngI_succ,chs_cons,List.filter_append,List.map_append,List.sum_append]
 have h1:((chs (rngI (s+1) c.length) (a - 1)).map (s::·)).filter (fun E=>decide (s∈E))=(chs (rngI (s+1) c.length) (a - 1)).map (s::·):=List.filter_eq_self.mpr fun E hE=>by
  obtain⟨E',_,rfl⟩:=List.mem_map.mp hE
  exact decide_eq_true List.mem_cons_self
 have h2:(chs (rngI (s+1) c.length) a).filter (fun E=>decide (s∈E))=[]:=List.filter_eq_nil_iff.mpr fun E hE z=>by
  have:=rngI_ge (chs_sub hE s (of_decide_eq_true z))
  omega
 rw[h1,h2,List.map_map,List.map_nil,List.sum_nil,Nat.add_zero,<- chs_sum (c:=c) (f:=fun l=>f ((b - 1)::l)) (a:=a - 1) (s:=s+1)]
 refine congrArg List.sum (List.map_congr_left fun E hE=>?_)
 show f ((if s∈s::E then b - 1 else b)::decP (s+1) (s::E) c)=_
 rw[if_pos List.mem_cons_self,decP_skip (s:=s+1) (by omega)]
theorem decP_map (E:List Int):∀ (c:List Int) (s:Int),decP s E c=(List.range c.length).map fun i:Nat=>if s+(i:Int)∈E then c.getD i 0 - 1 else c.getD i 0
 | [],s=>rfl
 | x::c,s=>by
  rw[List.length_cons,List.range_succ_eq_map,List.map_cons,List.map_map]
  show (if s∈E then x - 1 else x)::decP (s+1) E c=_
  rw[decP_map E c (s+1)]
  refine congr (congrArg List.cons ?_) (List.map_congr_left fun i _=>?_)
  ·show _=if s+((0:Nat):Int)∈E then x - 1 else x
   rw[show s+((0:Nat):Int)=s by omega]
  ·show _=if s+((i+1:Nat):Int)∈E then c.getD i 0 - 1 else c.getD i 0
   rw[show s+((i+1:Nat):Int)=s+1+(i:Int) by omega]
theorem left_dec (a:Int)(c E:List Int):leftL (a::c) 0 E=decP 1 E c:=by
 unfold leftL
 rw[List.length_cons,List.range_succ_eq_map,List.filter_cons_of_neg (by simp),decP_map]
 have:(List.map Nat.succ (List.range c.length)).filter (fun i=>decide (i≠0))=List.map Nat.succ (List.range c.length):=List.filter_eq_self.mpr fun i hi=>by
  obtain⟨j,_,rfl⟩:=List.mem_map.mp hi
  simp
 rw[this,List.map_map]
 refine List.map_congr_left fun i _=>?_
 show (if ((i+1:Nat):Int)∈E then c.getD i 0 - 1 else c.getD i 0)=_
 rw[show ((i+1:Nat):Int)=1+(i:Int) by omega]
end Web
namespace Tim
open PySem PyProof.Rows
theorem minRun_is:∀ n:Nat,n<64->minRun' n n 0=n:=by decide +kernel
section
variable {prog:Program} {w:World} {A:Around} {E:Value->Shared->Prop} {s:Shared} {κ:SortKind} {a₀:Array Keyed} {p:Array (Nat × Nat × Nat)} {O:KeyOrd} {f:Keyed->O.α}
theorem wpS_sortS (C:CmpA prog w A E s κ a₀ f){st:SortSt}{Q:Unit->SortSt->Prop}(d:O.α)(h3:a₀.size<64)(hp:(arrOf st).Perm a₀)(hk:kindOf st=κ)(hf:failedOf st=none)(hpe:pendingOf st=#[])
  (h:∀ st',(arrOf st').Perm a₀->failedOf st'=none->(arrOf st').toList.Pairwise (le (Bf f))->Q () st'):wpS (model prog w) A E s sortRuns' Q st:=by
 have hsz:(arrOf st).size=a₀.size:=hp.size_eq
 rw[sortRuns'_eq]
 refine wpS_bind (wpS_get ?_)
 dsimp only
 rw[hsz]
 have hmr:=minRun_is a₀.size h3
 generalize minRun' a₀.size a₀.size 0=mr at hmr ⊢
 refine wpS_bind (wpS_mono (wpS_forRange
  (I:=fun x c st'=>(c=(none,0)/\x=0/\SI a₀ κ #[] st')\/(c=(none,a₀.size)/\SI a₀ κ #[(0,a₀.size,0)] st'/\SortedF f d 0 (arrOf st') a₀.size))
  (Q:=fun c st'=>c=(none,a₀.size)/\failedOf st'=none/\(arrOf st').Perm a₀/\(pendingOf st').size<=1/\SortedF f d 0 (arrOf st') a₀.size) ?step ?fin
  (.inl ⟨rfl,rfl,hp,hk,hf,hpe⟩)) ?post)
 case fin =>
  rintro c st' (⟨rfl,hx,I⟩ | ⟨rfl,I,hs⟩)
  ·have e0:a₀.size=0:=by omega
   refine⟨by rw[e0],I.failed,I.perm,by rw[I.pend];exact Nat.zero_le _,fun i j _ hj=>?_⟩
   omega
  ·exact⟨rfl,I.failed,I.perm,by rw[I.pend];exact Nat.le_refl _,hs⟩
 case step =>
  rintro x c st1 _ hx (⟨rfl,rfl,I⟩ | ⟨rfl,I,hs⟩)
  ·dsimp only
   have hpos:0<a₀.size:=by omega
   rw[if_neg (by omega)]
   refine wpS_bind (wpS_countRun C d (p:=#[]) (by omega) (by omega) I fun n st2 hB2 hp2 hn1 hn2 hs2=>?_)
   dsimp only
   by_cases hlt:n<mr
   ·rw[if_pos hlt]
    refine wpS_bind (wpS_rule ?_)
    refine wpS_bind (wpS_binarySort' C d (by omega) (by omega) hB2 hs2 fun st3 hB3 hp3 hs3=>?_)
    simp only[Bool.not_true,Bool.false_eq_true,if_false]
    have e:min (a₀.size - 0) mr=a₀.size:=by omega
    rw[e]at hs3 ⊢
    refine wpS_bind (wpS_get ?_)
    rw[hB3.pend]
    show wpS _ _ _ _ (do modify fun s=>setPending s ((pendingOf s).push (0,a₀.size,0));pure (ForInStep.yield (none,0+a₀.size))) _ _
    refine wpS_bind (wpS_modify (wpS_pure (.inr ⟨by rw[Nat.zero_add],⟨hB3.perm,hB3.kind,hB3.failed,?_⟩,hs3⟩)))
    show (pendingOf st3).push (0,a₀.size,0)=_
    rw[hB3.pend]
    rfl
   ·rw[if_neg hlt]
    have e:n=a₀.size:=by omega
    subst e
    refine wpS_bind (wpS_get ?_)
    rw[hB2.pend]
    show wpS _ _ _ _ (do modify fun s=>setPending s ((pendingOf s).push (0,a₀.size,0));pure (ForInStep.yield (none,0+a₀.size))) _ _
    refine wpS_bind (wpS_modify (wpS_pure (.inr ⟨by rw[Nat.zero_add],⟨hB2.perm,hB2.kind,hB2.failed,?_⟩,hs2⟩)))
    show (pendingOf st2).push (0,a₀.size,0)=_
    rw[hB2.pend]
    rfl
  ·dsimp only
   rw[if_pos (Nat.le_refl _)]
   exact wpS_pure ⟨rfl,I.failed,I.perm,by rw[I.pend];exact Nat.le_refl _,hs⟩
 case post =>
  rintro c st1 ⟨rfl,I1,I2,I3,I4⟩
  try dsimp only
  refine wpS_bind (wpS_mono (wpS_forRange
   (I:=fun x c st'=>c=(none,())/\st'=st1)
   (Q:=fun c st'=>c=(none,())/\st'=st1) ?fstep (fun _ _ q=>q) ⟨rfl,rfl⟩) ?fpost)
  case fstep =>
   rintro x c st2 _ hx ⟨rfl,rfl⟩
   refine wpS_bind (wpS_get ?_)
   try dsimp only
   rw[if_pos I3]
   exact wpS_pure ⟨rfl,rfl⟩
  case fpost =>
   rintro c st2 ⟨rfl,rfl⟩
   refine wpS_pure (h st2 I2 I1 ?_)
   have:=(run_of I4 (by rw[I2.size_eq];omega)).1
   rw[List.drop_zero,List.take_of_length_le (by rw[Array.length_toList,I2.size_eq];exact Nat.le_refl _)]at this
   exact this
end
section
variable {prog:Program} {w:World} {A:Around} {E:Value->Shared->Prop} {s:Shared}
theorem sort_listS {a:Addr}{vs:List Value}{n:Nat}{P:PySem.Fin->Shared->Prop}(ho:s.heap.get? a=some (seqObj "list" vs.toArray n))(hz:vs.length<=sizeLine)(h64:vs.length<64)
  (hv:∀ v∈vs,∃ i k,IsK prog w s.heap (i::k) v)(hna:∀ v∈vs,v≠.ref a)
  (h:∀ out:List Value,out.Perm vs->out.Pairwise (fun x y=>lexB (keyAt prog w s.heap y) (keyAt prog w s.heap x)=false)->P (.done (.ret .none)) { s with heap:=sortedHeap s.heap a vs out.toArray }) :
  wpAny (model prog w) A (Builtin.«list.sort» ⟨[.ref a],[]⟩) P E s:=by
 rw[list_sort_plain]
 have ha:a<s.heap.objs.size:=Heap.lt_size ho
 refine wpAny_bind (listItems_at ho rfl ?_)
 refine wpAny_bind (listUpdate_at ho rfl ?_ (by rw[List.size_toArray];exact hz) (Nat.zero_le _))
 obtain⟨e1,ho1⟩:∃ e1,(s.heap.update a (Obj.mapSeq fun _=>#[])).get? a=some (seqObj "list" #[] e1):=⟨_,get?_update_seq ho (fun _=>#[])⟩
 refine wpAny_bind (seqEpoch_at ho1 rfl ?_)
 refine wpAny_bind (wpAny_newTuple ?_ (by show vs.length<=_;exact hz))
 refine wpAny_bind (wpAny_newList ?_ (Nat.zero_le _))
 refine wpAny_holding ?_
 generalize hH:((s.heap.update a (Obj.mapSeq fun _=>#[])).push (seqObj "tuple" vs.toArray 0)).push (seqObj "list" #[] 0)=h6
 have ho6:h6.get? a=some (seqObj "list" #[] e1):=by rw[<- hH];exact Heap.get?_push_of_some _ (Heap.get?_push_of_some _ ho1)
 have keep:∀ b o,b≠a->s.heap.get? b=some o->h6.get? b=some o:=fun b o hb e=>by
  rw[<- hH]
  exact Heap.get?_push_of_some _ (Heap.get?_push_of_some _ ((Heap.get?_update_other s.heap _ (Ne.symm hb)).trans e))
 have up:∀ v∈vs,∀ k,IsK prog w s.heap k v->IsK prog w h6 k v:=fun v hv' k hk=>by
  obtain⟨c,rfl,o,items,n,h2,h3⟩:=hk
  exact⟨c,rfl,o,items,n,keep c o (fun z=>hna _ hv' (by rw[z])) h2,h3⟩
 have fin:∀ st':SortSt,(arrOf st').Perm (pairsOf vs)->(arrOf st').toList.Pairwise (le (Bf (O:=lexO) fun p=>keyAt prog w s.heap p.1))->P (.done (.ret .none)) { s with heap:=sortedHeap s.heap a vs ((arrOf st').map (·.2)) }:=fun st' hp hs=>by
  have hl:(arrOf st').toList.Perm (vs.zip vs):=by rw[<- pairsOf_toList];exact Array.perm_iff_toList_perm.mp hp
  have hm:((arrOf st').map (·.2)).toList=(arrOf st').toList.map (·.2):=Array.toList_map ..
  have hz2:(vs.zip vs).map (·.2)=vs:=List.map_snd_zip (Nat.le_refl _)
  have:=h ((arrOf st').toList.map (·.2)) (by have:=hl.map (·.2);rw[hz2]at this;exact this) ?_
  ·rw[show (arrOf st').map (·.2)=((arrOf st').toList.map (·.2)).toArray by rw[<- hm]]
   exact this
  ·rw[List.pairwise_map]
   refine List.Pairwise.imp_of_mem ?_ hs
   intro x y hx hy hxy
   have ex:=(mem_zip_self (hl.mem_iff.mp hx)).1
   have ey:=(mem_zip_self (hl.mem_iff.mp hy)).1
   rw[<- ex,<- ey]
   exact hxy
 have out:∀ st':SortSt,(arrOf st').Perm (pairsOf vs)->failedOf st'=none->(arrOf st').toList.Pairwise (le (Bf (O:=lexO) fun p=>keyAt prog w s.heap p.1)) ->
   wpAny (model prog w) A (do
    let sorted:=(arrOf st').map (·.2)
    let touched:=(<- seqEpoch a) != e1
    Builtin.List.listUpdate (.ref a) fun _=>sorted
    if let some e:=failedOf st' then rule "list.sort.comparison-raised";throw e
    if touched then rule "list.sort.modified";raiseError "ValueError" "list modified during sort"
    ret .none) P E { s with heap:=h6 }:=fun st' hp hf hs=>by
  dsimp only
  refine wpAny_bind (seqEpoch_at (s:={ s with heap:=h6 }) ho6 rfl ?_)
  refine wpAny_bind (listUpdate_at (s:={ s with heap:=h6 }) ho6 rfl ?_ (Nat.zero_le _) (by refine Nat.le_trans (Nat.le_of_eq ((Array.size_map ..).trans (hp.size_eq.trans (pairsOf_size _)))) ?_;omega))
  rw[hf]
  simp only[bne_self_eq_false,Bool.false_eq_true,if_false]
  refine wpAny_pure ?_
  have:=fin st' hp hs
  unfold sortedHeap at this
  rw[hH]at this
  exact this
 show wpAny (model prog w) A _ P E { s with heap:=h6 }
 dsimp only
 by_cases h2:vs.toArray.size<2
 ·rw[if_pos h2,if_pos h2]
  refine wpAny_bind (wpAny_pure ?_)
  rw[StateT.run_pure]
  refine wpAny_bind (wpAny_pure ?_)
  refine out (SortSt.mk' general' (vs.toArray.zip vs.toArray) #[] 7 none) (Array.Perm.refl _) rfl ?_
  show (pairsOf vs).toList.Pairwise _
  rw[List.pairwise_iff_getElem]
  intro i j hi hj hij
  rw[Array.length_toList,pairsOf_size]at hj
  rw[List.size_toArray]at h2
  omega
 ·rw[if_neg h2,if_neg h2]
  rw[List.size_toArray]at h2
  refine wpAny_bind (kind_pairs (s:={ s with heap:=h6 }) (by omega) (fun v hv'=>?_) ?_)
  ·obtain⟨i,k,hk⟩:=hv v hv'
   exact⟨i,k,up v hv' _ hk⟩
  refine wpAny_bind (wpAny_mono (wpS_sortS (s:={ s with heap:=h6 }) (a₀:=pairsOf vs) (κ:=tuples' true) (O:=lexO) (f:=fun p=>keyAt prog w s.heap p.1) (st:=SortSt.mk' (tuples' true) (vs.toArray.zip vs.toArray) #[] 7 none)
   (Q:=fun _ st'=>(arrOf st').Perm (pairsOf vs)/\failedOf st'=none/\(arrOf st').toList.Pairwise (le (Bf (O:=lexO) fun p=>keyAt prog w s.heap p.1))) ?_ ([]:List Int) (by rw[pairsOf_size];exact h64) (Array.Perm.refl _) rfl rfl rfl fun st' a1 a2 a3=>⟨a1,a2,a3⟩) ?_ fun _ _ e=>e)
  ·intro x y hx hy Q hq
   rw[pairsOf_toList]at hx hy
   obtain⟨i,k,hk⟩:=hv x.1 (mem_zip_self hx).2
   obtain⟨j,k',hk'⟩:=hv y.1 (mem_zip_self hy).2
   refine lt_pairs (s:={ s with heap:=h6 }) (up _ (mem_zip_self hx).2 _ hk) (up _ (mem_zip_self hy).2 _ hk') ?_
   rw[<- keyAt_eq hk,<- keyAt_eq hk']
   exact hq
  ·rintro⟨⟨⟩,st'⟩ s' ⟨rfl,hp,hf,hs⟩
   exact out st' hp hf hs
theorem sorted_tuplesS {l:Addr} {vs:List Value} {Q:Value->Shared->Prop} (hl:s.heap.IsList l vs.toArray) (hz:vs.length<=sizeLine) (h64:vs.length<64) (hv:∀ v∈vs,∃ i k,IsK prog w s.heap (i::k) v)
  (h : ∀ (out : List Value) (h' : Heap) (n : Nat), out.Perm vs -> out.Pairwise (fun x y => lexB (keyAt prog w s.heap y) (keyAt prog w s.heap x) = false) -> (∀ b o, s.heap.get? b = some o -> h'.get? b = some o) ->
   h'.get? (s.heap.objs.size+1)=some { cls:=.type "list",data:=.seq out.toArray n }->Q (.ref (s.heap.objs.size+1)) { s with heap:=h' }) :
  wpAny (model prog w) A (call (.builtin "sorted") [.ref l]) Q E s:=by
 refine Calls.call_function_entry kind_sorted plain_sorted entry_sorted (args_sorted1 _) ?_
 unfold Builtin.«sorted»
 refine wpAny_bind (m:=checkCount "sorted" 1 1 _) (wpAny_pure ?_)
 refine wpAny_bind (collect_list hl ?_ hz)
 refine wpAny_bind (wpAny_newList ?_ hz)
 have hsz:((s.heap.push (seqObj "list" #[] 0)).update s.heap.objs.size (Obj.mapSeq (·++vs.toArray))).objs.size=s.heap.objs.size+1:=by
  rw[Heap.size_update,size_push']
 generalize hH:((s.heap.push (seqObj "list" #[] 0)).update s.heap.objs.size (Obj.mapSeq (·++vs.toArray))).push (seqObj "list" vs.toArray 0)=h2
 have hoL:h2.get? (s.heap.objs.size+1)=some (seqObj "list" vs.toArray 0):=by
  rw[<- hH,<- hsz];exact Heap.get?_push_size _ rfl
 have keep:∀ b o,s.heap.get? b=some o->h2.get? b=some o:=fun b o e=>by
  rw[<- hH]
  refine Heap.get?_push_of_some _ ((Heap.get?_update_other _ _ ?_).trans (Heap.get?_push_of_some _ e))
  exact Ne.symm (Nat.ne_of_lt (Heap.lt_size e))
 have hsz2:h2.objs.size=s.heap.objs.size+2:=by rw[<- hH,size_push',hsz]
 rw[hsz]
 have up:∀ v k,IsK prog w s.heap k v->IsK prog w h2 k v:=fun v k hk=>hk.up keep
 have kA:∀ v∈vs,keyAt prog w h2 v=keyAt prog w s.heap v:=fun v hv'=>by
  obtain⟨i,k,hk⟩:=hv v hv'
  rw[keyAt_eq hk,keyAt_eq (up v _ hk)]
 refine wpAny_bind (wpAny_holding (wpAny_call_entry slot_list_sort (s:={ s with heap:=h2 }) ⟨_,hoL,rfl⟩ entry_list_sort (sort_listS (s:={ s with heap:=h2 }) hoL hz h64 (fun v hv'=>?_) (fun v hv' z=>?_) fun out a1 a2=>⟨_,rfl,?_⟩) (args_list_sort _)))
 ·obtain⟨i,k,hk⟩:=hv v hv'
  exact⟨i,k,up v _ hk⟩
 ·obtain⟨i,k,a,rfl,o,items,n,ho,_⟩:=hv v hv'
  cases z
  exact absurd (Heap.lt_size ho) (Nat.not_lt.mpr (Nat.le_succ _))
 ·have hlast:∃ n,(sortedHeap h2 (s.heap.objs.size+1) vs out.toArray).get? (s.heap.objs.size+1)=some (seqObj "list" out.toArray n):=by
   unfold sortedHeap
   have g1:=get?_update_seq hoL (fun _=>(#[]:Array Value))
   have g2:(((h2.update (s.heap.objs.size+1) (Obj.mapSeq fun _=>#[])).push (seqObj "tuple" vs.toArray 0)).push (seqObj "list" #[] 0)).get? (s.heap.objs.size+1)=_:=Heap.get?_push_of_some _ (Heap.get?_push_of_some _ g1)
   exact⟨_,get?_update_seq g2 (fun _=>out.toArray)⟩
  obtain⟨n,hn⟩:=hlast
  refine wpAny_pure ⟨_,rfl,h out _ n a1 ?_ (fun b o e=>?_) hn⟩
  ·refine List.Pairwise.imp_of_mem ?_ a2
   intro x y hx hy hxy
   rw[kA x (a1.mem_iff.mp hx),kA y (a1.mem_iff.mp hy)]at hxy
   exact hxy
  ·have hb:b≠s.heap.objs.size+1:=Nat.ne_of_lt (Nat.lt_succ_of_lt (Heap.lt_size e))
   unfold sortedHeap
   refine(Heap.get?_update_other _ _ (Ne.symm hb)).trans (Heap.get?_push_of_some _ (Heap.get?_push_of_some _ ((Heap.get?_update_other _ _ (Ne.symm hb)).trans (keep b o e))))
end
end Tim
namespace L2
open PySem PySem.Spec PyProof.Rows
section
variable {X:Cx}
theorem call_sortedS:CallR X (.builtin "sorted") (fun xs H Q=>∃ p ys ks,xs=[.ref p]/\SqL X.K H p ys/\Tups X.K H ys ks/\(∀ k∈ks,k≠[])/\ks.length<64 /\
  ∀ l zs ks',H l=none->ks'.Perm ks->ks'.Pairwise (fun a b=>Tim.lexB b a=false)->Tups X.K (upd H l (.lst zs)) zs ks'->Q (.ref l) (upd H l (.lst zs))):=by
 intro pins s σ H xs us Q I r h
 obtain⟨p,ys,ks,rfl,hq,ht,hne,h64,q⟩:=h
 obtain⟨u,rfl,rx⟩:=vals1 r
 cases rx
 obtain⟨its,r',pl,hz⟩:=I.list hq
 have hlen:=r'.length
 have hk:=tups_vals I ht r'
 have hv:∀ v∈its,∃ i k,Tim.IsK X.prog X.w s.heap (i::k) v:=fun v hv=>by
  obtain⟨j,hj⟩:=List.mem_iff_getElem?.mp hv
  obtain⟨k,h1,a,rfl,h2⟩:=paired_get hk hj
  cases k with
  | nil=>exact absurd rfl (hne [] (List.mem_of_getElem? h1))
  | cons i k=>exact⟨i,k,a,rfl,h2⟩
 refine Tim.sorted_tuplesS pl.isList (by omega) (by have:=hk.length;omega) hv fun out h' n hp hs kp e=>?_
 obtain⟨zs,pz,rz⟩:=paired_perm hp (paired_flip r')
 have rz':Vals zs out:=paired_flip rz
 have hzl:zs.length<=sizeLine:=by rw[pz.length_eq];exact hz
 have hfr:H (s.heap.objs.size+1)=none:=I.hok.fresh (Nat.le_succ _)
 have keepS:∀ b o,H b=some o->upd H (s.heap.objs.size+1) (.lst zs) b=some o:=fun b o e=>by rw[upd_ne (ne_of_none e hfr)];exact e
 refine⟨.ref (s.heap.objs.size+1),upd H (s.heap.objs.size+1) (.lst zs),I.laid (t':=s.toks) kp (Nat.le_succ _) (show ObjOk X.prog X.w _ h' _ (.lst zs) from ⟨hzl,out,n,rz',e⟩),rfl,?_⟩
 obtain⟨ks',pk,hk'⟩:=paired_perm pz (show Paired (fun y k=>∃ a,y=V.ref a/\SqT X.K H a (k.map V.int)) ys ks from ht)
 refine q _ zs ks' hfr pk ?_ (Tups.same keepS hk')
 have hko:=tups_vals I (show Tups X.K H zs ks' from hk') rz'
 have eq:ks'=out.map (Tim.keyAt X.prog X.w s.heap):=by
  clear hs hp rz rz' hk' pk e
  induction hko with
  | nil=>rfl
  | cons r t ih =>
   obtain⟨a,rfl,hka⟩:=r
   rw[List.map_cons,Tim.keyAt_eq ⟨a,rfl,hka⟩,<- ih]
 rw[eq,List.pairwise_map]
 exact hs
end
section
variable {X:Cx} {pins:List (Addr × Obj)} {σ:St} {H:Hp} {s:Shared} {A:Around} {E:Value->Shared->Prop}
theorem key_endS {a kS:Addr}{vs:List Value}{zs:List Int}{keys:Array Value}{e e1:Nat}{key:Int->List Int}{P:PySem.Fin->Shared->Prop}{H0:Hp}(I:Inv X pins σ H s)(hS:Same H0 H)(hk:s.heap.get? kS=some (seqObj "list" keys e))(ha:s.heap.get? a=some (seqObj "list" #[] e1))
  (fk:FpOk X pins H kS)(fa:FpOk X pins H a)(hka:kS≠a)(hz:vs.length<=63)(hkl:keys.size=vs.length)(hi:IntsAre vs zs)
  (hK:Paired (fun u k=>Tim.IsK X.prog X.w s.heap k u) keys.toList (zs.map key))(hne:∀ z,∃ i k,key z=i::k)(h:KeyEnd X pins σ H0 a zs key P) :
  wpAny (model X.prog X.w) A (ksk_end a false vs.toArray e1 (.ref kS) keys) P E s:=by
 obtain⟨k1,k2⟩:=keys_zip hK hi
 have hzt:=ksk_zip keys vs
 unfold ksk_end
 dsimp only
 simp only[Bool.false_eq_true,if_false]
 by_cases h2:vs.toArray.size<2
 ·rw[if_pos h2,if_pos h2]
  refine wpAny_bind (wpAny_pure ?_)
  rw[StateT.run_pure]
  refine wpAny_bind (wpAny_pure ?_)
  refine key_tail (st:=SortSt.mk' general' (keys.zip vs.toArray) #[] 7 none) I hS hk ha fk fa hka (by omega) hkl hi hK (Array.Perm.refl _) rfl ?_ h
  show (keys.zip vs.toArray).toList.Pairwise _
  rw[List.pairwise_iff_getElem]
  intro i j hi hj hij
  rw[Array.length_toList,Array.size_zip,hkl]at hj
  rw[List.size_toArray]at h2 hj
  omega
 ·rw[if_neg h2,if_neg h2]
  rw[List.size_toArray]at h2
  have hmemK:∀ v∈keys.toList,∃ i k,Tim.IsK X.prog X.w s.heap (i::k) v:=fun v hv=>by
   obtain⟨j,hj⟩:=List.mem_iff_getElem?.mp hv
   obtain⟨k,q1,q2⟩:=paired_get hK hj
   obtain⟨z,_,rfl⟩:=List.mem_map.mp (List.mem_of_getElem? q1)
   obtain⟨i,k',ek⟩:=hne z
   rw[ek]at q2
   exact⟨i,k',q2⟩
  have kk:keyKind' keys=keyKind' keys.toList.toArray:=by rw[Array.toArray_toList]
  rw[kk]
  refine wpAny_bind (Tim.kind_pairs (vs:=keys.toList) (by rw[Array.length_toList,hkl];omega) hmemK ?_)
  refine wpAny_bind (wpAny_mono (Tim.wpS_sortS (a₀:=keys.zip vs.toArray) (κ:=tuples' true) (O:=Tim.lexO) (f:=fun p=>Tim.keyAt X.prog X.w s.heap p.1) (st:=SortSt.mk' (tuples' true) (keys.zip vs.toArray) #[] 7 none)
   (Q:=fun _ st'=>(arrOf st').Perm (keys.zip vs.toArray)/\failedOf st'=none/\(arrOf st').toList.Pairwise (Tim.le (Tim.Bf (O:=Tim.lexO) fun p=>Tim.keyAt X.prog X.w s.heap p.1))) ?_ ([]:List Int) (by rw[Array.size_zip,hkl,List.size_toArray];omega) (Array.Perm.refl _) rfl rfl rfl fun st' a1 a2 a3=>⟨a1,a2,a3⟩) ?_ fun _ _ e=>e)
  ·intro x y hx hy Q hq
   rw[hzt]at hx hy
   refine Tim.lt_pairs (k1 x hx) (k1 y hy) ?_
   rw[<- Tim.keyAt_eq (k1 x hx),<- Tim.keyAt_eq (k1 y hy)]
   exact hq
  ·rintro⟨⟨⟩,st'⟩ s' ⟨rfl,hp,hf,hs⟩
   exact key_tail I hS hk ha fk fa hka (by omega) hkl hi hK hp hf hs h
theorem key_restS {a kS:Addr}{f:Value}{vs:List Value}{zs:List Int}{e1:Nat}{key:Int->List Int}{P:PySem.Fin->Shared->Prop}(I:Inv X pins σ H s)(hk:s.heap.get? kS=some (seqObj "list" #[] 0))(ha:s.heap.get? a=some (seqObj "list" #[] e1))
  (fk:FpOk X pins H kS)(fa:FpOk X pins H a)(hka:kS≠a)(hz:vs.length<=63)(hi:IntsAre vs zs)(hne:∀ z,∃ i k,key z=i::k)(turn:∀ z∈zs,KeyTurn X A σ H f key z)(h:KeyEnd X pins σ H a zs key P) :
  wpAny (model X.prog X.w) A (ksk_rest a f false vs.toArray e1 (.ref kS)) P E s:=by
 have hlen:=hi.length
 unfold ksk_rest
 refine wpAny_bind (wpAny_rule ?_)
 first
  | rw[List.forIn_toArray]
  | (rw[<- Array.forIn_toList];simp only[List.toList_toArray])
  | rw[<- Array.forIn_toList]
 refine wpAny_bind (ksk_fold (fun i s'=>∃ (kA:Array Value) (e:Nat) (H':Hp) (ys:List V),Inv X pins σ H' s'/\Same H H'/\s'.heap.get? kS=some (seqObj "list" kA e)/\s'.heap.get? a=some (seqObj "list" #[] e1)/\FpOk X pins H' kS/\FpOk X pins H' a /\
   Vals ys kA.toList/\Tups X.K H' ys ((zs.take i).map key)) vs 0 s ⟨#[],0,H,[],I,Same.refl H,hk,ha,fk,fa,.nil,.nil⟩ ?step ?done)
 case step =>
  rintro j x s' hx ⟨kA,e,H',ys,I',hS,hk',ha',fk',fa',hv,ht⟩
  simp only[Nat.zero_add]at ht ⊢
  have hj:j<vs.length:=(List.getElem?_eq_some_iff.mp hx).1
  obtain⟨z,t,hzj,rfl⟩:=ih_get hi hx
  have hzA:kA.size<=vs.length:=by
   have h1:ys.length=kA.size:=by rw[<- Array.length_toList];exact hv.length
   have h2:=ht.len
   rw[List.length_map,List.length_take]at h2
   omega
  have Ip:=I'.pinned (fp:=[kS,a]) (fun b hb=>by
   rcases List.mem_cons.mp hb with rfl | hb
   ·exact fk'
   ·rw[List.mem_singleton.mp hb];exact fa') (fun b hb=>by
   rcases List.mem_cons.mp hb with rfl | hb
   ·exact⟨_,hk',fun v q=>by cases q⟩
   ·rw[List.mem_singleton.mp hb];exact⟨_,ha',fun v q=>by cases q⟩)
  refine wpAny_bind (wpAny_attempt (wpAny_mono (turn z (List.mem_of_getElem? hzj) t _ s' H' Ip hS) (fun v s'' he=>?_) fun _ _ hF=>hF.elim))
  obtain⟨k,H'',rfl,hk'',I'',hS'⟩:=he
  obtain⟨nk,fk0⟩:=fp_pin I'' List.mem_cons_self hk'
  obtain⟨na,fa0⟩:=fp_pin I'' (List.mem_cons_of_mem _ List.mem_cons_self) ha'
  have Iu:=I''.unpinned
  have fk'':FpOk X pins H'' kS:=fk'.to fk0
  have fa'':FpOk X pins H'' a:=fa'.to fa0
  have s1:=Heap.SameBut.update s''.heap kS (Obj.mapSeq (·.push (.ref k)))
  obtain⟨c2,hc2⟩:∃ c2,(s''.heap.update kS (Obj.mapSeq (·.push (Value.ref k)))).get? kS=some (seqObj "list" (kA.push (.ref k)) c2):=⟨_,get?_update_seq nk (·.push (.ref k))⟩
  have ea:(kA.push (Value.ref k)).toList=kA.toList++[Value.ref k]:=by simp
  have ek:zs.take (j+1)=zs.take j++[z]:=by rw[List.take_add_one,hzj];simp
  refine wpAny_bind (listUpdate_at nk rfl ?_ (by rw[sizeLine_eq];omega) (Nat.le_trans (Nat.le_of_eq (Array.size_push ..)) (by rw[sizeLine_eq];omega)))
  refine wpAny_pure ⟨rfl,kA.push (.ref k),c2,H'',ys++[.ref k],?_,hS.trans hS',hc2,(s1.2 a hka.symm).trans na,fk'',fa'',?_,?_⟩
  ·exact Iu.turn (t':=s''.toks) fk'' fun b o hb q=>(s1.2 b hb).trans q
  ·rw[ea]
   exact hv.append (.cons rfl .nil)
  ·rw[ek,List.map_append]
   exact Tups.append (Tups.same hS' ht) (.cons ⟨k,rfl,.of hk''⟩ .nil)
 case done =>
  rintro s' ⟨kA,e,H',ys,I',hS,hk',ha',fk',fa',hv,ht⟩
  have e3:zs.take (0+vs.length)=zs:=List.take_of_length_le (by omega)
  rw[e3]at ht
  refine wpAny_bind (listItems_at hk' rfl ?_)
  have h1:ys.length=kA.size:=by rw[<- Array.length_toList];exact hv.length
  have h2:=ht.len
  rw[List.length_map]at h2
  have hK:=tups_vals I' ht hv
  exact key_endS I' hS hk' ha' fk' fa' hka hz (by omega) hi (paired_imp (fun u k q=>q) hK) hne h
theorem key_treeS {a:Addr}{f:Value}{vs:List Value}{zs:List Int}{n:Nat}{key:Int->List Int}{P:PySem.Fin->Shared->Prop}(I:Inv X pins σ H s)(ha:s.heap.get? a=some (seqObj "list" vs.toArray n))
  (fa:FpOk X pins H a)(hz:vs.length<=63)(hi:IntsAre vs zs)(hne:∀ z,∃ i k,key z=i::k)(turn:∀ z∈zs,KeyTurn X A σ H f key z)(h:KeyEnd X pins σ H a zs key P) :
  wpAny (model X.prog X.w) A (ksk_tree a f false) P E s:=by
 have hlt:a<s.heap.objs.size:=Heap.lt_size ha
 have s1:=Heap.SameBut.update s.heap a (Obj.mapSeq fun _=>(#[]:Array Value))
 obtain⟨e1,ho1⟩:∃ e1,(s.heap.update a (Obj.mapSeq fun _=>(#[]:Array Value))).get? a=some (seqObj "list" #[] e1):=⟨_,get?_update_seq ha fun _=>#[]⟩
 have I1:Inv X pins σ H { s with heap:=s.heap.update a (Obj.mapSeq fun _=>(#[]:Array Value)),toks:=s.toks }:=I.turn fa fun b o hb q=>(s1.2 b hb).trans q
 unfold ksk_tree
 refine wpAny_bind (listItems_at ha rfl ?_)
 refine wpAny_bind (listUpdate_at ha rfl ?_ (by rw[List.size_toArray,sizeLine_eq];omega) (Nat.zero_le _))
 refine wpAny_bind (seqEpoch_at ho1 rfl ?_)
 refine wpAny_bind (wpAny_newTuple ?_ (by show vs.length<=_;rw[sizeLine_eq];omega))
 refine wpAny_bind (wpAny_newList ?_ (Nat.zero_le _))
 refine wpAny_holding ?_
 generalize hh2:(s.heap.update a (Obj.mapSeq fun _=>(#[]:Array Value))).push (seqObj "tuple" vs.toArray 0)=h2
 have hsz:h2.objs.size=s.heap.objs.size+1:=by rw[<- hh2,size_push',Heap.size_update]
 have I2:Inv X pins σ H { s with heap:=h2,toks:=s.toks }:=I1.kept (t':=s.toks) fun b o q=>by rw[<- hh2];exact Heap.get?_push_of_some _ q
 have I3:Inv X pins σ H { s with heap:=h2.push (seqObj "list" #[] 0),toks:=s.toks }:=I2.kept (t':=s.toks) fun b o q=>Heap.get?_push_of_some _ q
 have fk:FpOk X pins H h2.objs.size:=I2.fpOk (Nat.le_refl _) (I2.hok.fresh (Nat.le_refl _))
 refine key_restS (s:={ s with heap:=h2.push (seqObj "list" #[] 0),toks:=s.toks }) (kS:=h2.objs.size) (e1:=e1) I3 (Heap.get?_push_size _ rfl) ?_ fk fa (by rw[hsz];exact Nat.ne_of_gt (Nat.lt_succ_of_lt hlt)) hz hi hne turn h
 refine Heap.get?_push_of_some _ ?_
 rw[<- hh2]
 exact Heap.get?_push_of_some _ ho1
theorem sorted_keyS {r q:Addr}{n:Nat}{key:Int->List Int}{Q:Value->Shared->Prop}(I:Inv X pins σ H s)(hh:A.handled=none)(hr:∃ t u v,IsRange s.heap r 0 n 1 t u v)(hn:n<=63)(hne:∀ z,∃ i k,key z=i::k)
  (turn:∀ z∈(List.range' 0 n).map (fun k:Nat=>(k:Int)),KeyTurn X A.in1.in1 σ H (.ref q) key z)
  (h:∀ (H':Hp) (s':Shared) (D:Addr) (zs:List Int),Same H H'->H' D=none->zs.Perm ((List.range' 0 n).map fun k:Nat=>(k:Int))->zs.Pairwise (fun x y=>Tim.lexB (key y) (key x)=false)->Inv X pins σ (upd H' D (.lst (zs.map V.int))) s'->Q (.ref D) s') :
  wpAny (model X.prog X.w) A (call (.builtin "sorted") [.ref r] [(Str.ofString "key",.ref q)]) Q E s:=by
 obtain⟨t,u,v,hr⟩:=hr
 refine call_function_entry_kw kind_sorted plain_sorted entry_sorted (ksk_s1 _ _) ?_
 unfold Builtin.«sorted»
 refine wpAny_bind (m:=checkCount "sorted" 1 1 _) (wpAny_pure ?_)
 refine wpAny_bind (collect_rng (A:=A.in1) hh hr (Nat.le_trans hn (by decide)) fun h1 tk vs kp hi=>?_)
 have hlen:=hi.length
 rw[List.length_map,List.length_range']at hlen
 have I1:Inv X pins σ H { s with heap:=h1,toks:=tk }:=I.kept kp
 refine wpAny_bind (wpAny_newList ?_ (by rw[sizeLine_eq];omega))
 have fD:FpOk X pins H h1.objs.size:=I1.fpOk (Nat.le_refl _) (I1.hok.fresh (Nat.le_refl _))
 have I2:Inv X pins σ H { s with heap:=h1.push (seqObj "list" vs.toArray 0),toks:=tk }:=I1.kept (t':=tk) fun b o q=>Heap.get?_push_of_some _ q
 have hoL:(h1.push (seqObj "list" vs.toArray 0)).get? h1.objs.size=some (seqObj "list" vs.toArray 0):=Heap.get?_push_size _ rfl
 refine wpAny_bind (wpAny_holding (wpAny_call_entry_kw slot_list_sort (s:={ s with heap:=h1.push (seqObj "list" vs.toArray 0),toks:=tk }) ⟨_,hoL,rfl⟩ entry_list_sort ?body (ksk_l1 _ _)))
 show wpAny (model X.prog X.w) A.in1.in1 (Builtin.«list.sort» ⟨[.ref h1.objs.size],[(Str.ofString "key",.ref q)]⟩) _ _ _
 rw[ksk_t1]
 refine key_treeS I2 hoL fD (by omega) hi hne turn fun H' s' out zs' c I' hS fa' hout hi' hp hs=>⟨_,rfl,?_⟩
 have hl2:zs'.length<=63:=by rw[hp.length_eq,List.length_map,List.length_range'];exact hn
 refine wpAny_pure ⟨_,rfl,h H' s' h1.objs.size zs' hS fa'.1 hp hs ?_⟩
 have:=I'.take (t':=s'.toks) (h':=s'.heap) (o:=.lst (zs'.map V.int)) fa' (fun b u _ q=>q) ⟨by rw[List.length_map,sizeLine_eq];omega,out,c,vals_ints hi',hout⟩
 exact this
end
def tSortKS (P:Addr)(lpos:Pos)(qual:Str)(lk:List (Option Nat))(te:TE)(tr:TA):TE:=fun σ H Q=>tr σ H fun vs H1=>∃ (r:Addr) (n:Nat) (key:Int->List Int),vs=[.ref r]/\H1 r=some (.rng 0 n)/\n<=63/\(∀ z,∃ i k,key z=i::k)/\TabOk P lpos qual H1 /\
 ∀ H2,Grow P H1 H2->TabOk P lpos qual H2->(∀ (H3:Hp) (z:Nat),Same H2 H3->z<n->te (some (.int z)::capt lk σ) H3 fun v H4=>∃ k,v=.ref k/\H4 k=some (.tup ((key z).map V.int))/\Same H3 H4) /\
  ∀ (H':Hp) (D:Addr) (zs:List Int),Same H2 H'->H' D=none->zs.Perm ((List.range' 0 n).map fun k:Nat=>(k:Int))->zs.Pairwise (fun x y=>Tim.lexB (key y) (key x)=false)->Q (.ref D) (upd H' D (.lst (zs.map V.int)))
section
variable {X:Cx}
theorem pe_sortKS {e body:Expr}{p:Str}{np pos lpos kpos:Pos}{params:Arguments}{scope:Scope}{c P:Addr}{cl:List (Str × Addr)}{N':List Str}{lk:List (Option Nat)}{te:TE}{tr:TA}(hc:X.calm=true)(hd:X.A.depth<recursionLimit)(hg:Gl X "sorted")(hm:X.mg "sorted"=none)(ha:PA X [e] tr)
  (B:LamB X.base X.mg c P)(hcode:X.env.code=.ref c)(hcl:closureFor scope X.env=pure cl)(hdef:defaultsOf params X.env=([],[]))(hkind:scope.kind=.function)(hco:scope.isCoroutine=false)(hgen:scope.isGenerator=false)(hclo:ClOk X.env cl)(hfr:FrOk scope.names cl=true)(hlk:LamLk X N' lk scope cl)
  (hp:scope.names.lookup p=some .local)(hbind:∀ (pm ctv u:Value) (c':Addr),bindArgs (PySem.W.kla_fn "<lambda>" (X.env.qual++"<lambda>") params body scope cl pm (.ref c') ctv) ⟨[u],[]⟩=pure [(p,u)])
  (he:∀ f c' s3 H3,PE (lamCx X X.A.in1.in1 (X.env.qual++"<lambda>") scope cl (p::N') f (.ref c') s3 H3) body te)
  (hs:backTo pos (starEach [e] X.env)=(false,eval e X.env)::backTo pos (starEach [] X.env):=by rfl)
  (hpl:(backTo pos (starEach [e] X.env)).any (·.1)=false:=by rfl) :
  PE X (.Call (.Name "sorted" np) [e] [⟨some "key",.Lambda params body scope lpos,kpos⟩] pos) (tSortKS P lpos (X.env.qual++"<lambda>") lk te tr):=by
 intro pins s σ H Q I h
 refine wpAny_Call_Name_kw (ld_blt I hg hm (show bootBuiltins "sorted"=some (.builtin "sorted") from rfl) ?_ (by decide) (by decide))
 refine callWith_kw (thn (ha pos pins s σ H _ I h) fun us s1 ⟨vs,H1,I1,r1,q1⟩=>?_) hs hpl rfl rfl
 obtain⟨r,n,key,rfl,hr,hn,hne,tb,q⟩:=q1
 have hk:PK X [⟨some "key",.Lambda params body scope lpos,kpos⟩] (tCons (tLam P lpos (X.env.qual++"<lambda>") params body scope cl ((X.mg "__name__").getD .none)) tNil):=pk_cons (pe_lam B hcode hcl hdef) pk_nil
 refine thn (hk pos pins s1 σ H1 (fun zs H2=>∃ f c' ctv,zs=[.ref f]/\Grow P H1 H2/\TabOk P lpos (X.env.qual++"<lambda>") H2/\H2 f=some (LamO f (PySem.W.kla_obj "<lambda>" (X.env.qual++"<lambda>") params body scope cl ((X.mg "__name__").getD .none) c' ctv))/\H2 c'=some (CodeO c' (X.env.qual++"<lambda>"))) I1
  ⟨tb,fun f c' ctv H2 g1 g2 g3 g4 g5=>⟨f,c',ctv,rfl,g1,g2,g4,g5⟩⟩) fun ws s2 ⟨zs,H2,I2,r2,f,c',ctv,ez,g1,g2,g4,g5⟩=>?_
 subst ez
 obtain⟨w,rfl,rw⟩:=vals1 r2
 obtain⟨u,rfl,ru⟩:=vals1 r1
 cases rw
 cases ru
 obtain⟨wish,fin⟩:=q H2 g1 g2
 have rP:r≠P:=fun z=>by
  obtain⟨ps,hP,_⟩:=tb
  rw[z,hP]at hr
  cases hr
 have hr2:H2 r=some (.rng 0 n):=g1 r _ rP hr
 obtain⟨t1,t2,t3,hro⟩:=I2.hok r _ hr2
 have hh:X.A.handled=none:=I.ok.hd hc
 refine sorted_keyS (n:=n) (key:=key) I2 hh ⟨t1,t2,t3,hro⟩ hn hne (fun z hz=>?_) fun H' s' D zs' a1 a2 a3 a4 I'=>⟨.ref D,_,I',rfl,fin H' D zs' a1 a2 a3 a4⟩
 obtain⟨k,hk',rfl⟩:=List.mem_map.mp hz
 have hkn:k<n:=by
  have:=List.mem_range'_1.mp hk'
  omega
 intro t pins' s3 H3 I3 sm
 have ho:s3.heap.get? f=some (PySem.W.kla_obj "<lambda>" (X.env.qual++"<lambda>") params body scope cl ((X.mg "__name__").getD .none) c' ctv):=(I3.hok f _ (sm _ _ g4)).1
 have hcd:s3.heap.CodeRec (.ref c') (X.env.qual++"<lambda>"):=(I3.hok c' _ (sm _ _ g5)).1
 refine wpAny_mono (lam_call (A:=X.A.in1.in1) (v:=.int k) (u:=.int k t) I3 I3.ok.frames hh hd ho hcd (hbind _ _ _ _) hkind hco hgen hclo hfr hlk hp ⟨t,rfl⟩ (he f c' s3 H3) (wish H3 k sm hkn)) (fun u' s' hq=>?_) fun _ _ z=>z
 obtain⟨v',H',J,r',kk,rfl,hkk,sm'⟩:=hq
 cases r'
 exact⟨kk,H',rfl,hkk,J,sm'⟩
end
end L2
namespace Web
def roomM (ns:List Int)(M r:Nat):Int:=(M:Int)*(r:Int)*((r:Int) - 1)+part (ns.length - r) ((M:Int)*(r:Int)) (up2 ns)
theorem roomM_one (ns:List Int)(r:Nat):roomM ns 1 r=roomN ns r:=by
 unfold roomM roomN
 rw[Int.natCast_one,Int.one_mul]
theorem room_amongM {ns zs:List Int}{M r:Nat}(e:zs=(up2 ns).reverse):(M:Int)*(r:Int)*((r:Int) - 1)+((zs.drop r).map (mn ((M:Int)*(r:Int)))).sum - (zs.take r).sum=roomM ns M r:=by
 unfold roomM part
 rw[e,List.drop_reverse,List.take_reverse,List.map_reverse,sum_rev,sum_rev,up2_len]
 omega
end Web
namespace Web
def belN (ns:List Int)(i:Nat):List Nat:=(List.range i).filter fun j=>decide (ns.getD j 0<0)
def belL (ns:List Int):List Int:=(belN ns ns.length).map Int.ofNat
theorem belN_succ (ns:List Int)(i:Nat):belN ns (i+1)=belN ns i++(if ns.getD i 0<0 then [i] else []):=by
 unfold belN
 rw[List.range_succ,List.filter_append]
 congr 1
 by_cases h:ns.getD i 0<0
 ·rw[if_pos h,List.filter_cons_of_pos (by simpa using h),List.filter_nil]
 ·rw[if_neg h,List.filter_cons_of_neg (by simpa using h),List.filter_nil]
theorem belN_len (ns:List Int)(i:Nat):(belN ns i).length<=i:=by
 unfold belN
 exact Nat.le_trans (List.length_filter_le ..) (by rw[List.length_range];exact Nat.le_refl _)
theorem bel_getD {ns:List Int}{j:Nat}{x:Int}(h:ns[j]?=some x):ns.getD j 0=x:=by rw[List.getD_eq_getElem?_getD,h];rfl
theorem bel_nil {ns:List Int}(h:belN ns ns.length=[]):∀ (j:Nat) (x:Int),ns[j]?=some x->0<=x:=fun j x e=>by
 have hj:j<ns.length:=by
  rcases Nat.lt_or_ge j ns.length with l | l
  ·exact l
  ·rw[List.getElem?_eq_none l]at e;cases e
 have:=List.filter_eq_nil_iff.mp h j (List.mem_range.mpr hj)
 rw[bel_getD e]at this
 have h2:¬ x<0:=fun q=>this (decide_eq_true q)
 omega
theorem bel_cons {ns:List Int}{p:Nat}{t:List Nat}(h:belN ns ns.length=p::t):(∃ x,ns[p]?=some x/\x<0)/\∀ (j:Nat) (x:Int),j<p->ns[j]?=some x->0<=x:=by
 have hm:p∈belN ns ns.length:=by rw[h];exact List.mem_cons_self
 have hp:=List.mem_filter.mp hm
 have hl:=List.mem_range.mp hp.1
 have h0:=of_decide_eq_true hp.2
 refine⟨⟨_,List.getElem?_eq_getElem hl,by rw[bel_getD (List.getElem?_eq_getElem hl)]at h0;exact h0⟩,fun j x hj e=>?_⟩
 rcases Int.lt_or_le x 0 with q | q
 ·have hjm:j∈belN ns ns.length:=List.mem_filter.mpr ⟨List.mem_range.mpr (by omega),by rw[bel_getD e];exact decide_eq_true q⟩
  have hs:(belN ns ns.length).Pairwise (·<·):=List.Pairwise.filter _ List.pairwise_lt_range
  rw[h]at hs hjm
  rcases List.mem_cons.mp hjm with r | r
  ·omega
  ·have:=(List.pairwise_cons.mp hs).1 j r
   omega
 ·exact q
def IsWlM (ns:List Int)(M:Nat):Wl->Prop
 | .below p=>(∃ x,ns[p]?=some x/\x<0)/\∀ (j:Nat) (x:Int),j<p->ns[j]?=some x->0<=x
 | .odd=>AllP ns/\ns.sum % 2=1
 | .wall r=>AllP ns/\¬ ns.sum % 2=1/\1<=r/\r<=ns.length/\roomM ns M r<0/\∀ k,1<=k->k<r->0<=roomM ns M k
 | .free=>AllP ns/\¬ ns.sum % 2=1/\∀ k,1<=k->k<=ns.length->0<=roomM ns M k
theorem wlM_one {ns:List Int}{x:Wl}(h:IsWlM ns 1 x):IsWl ns x:=by
 cases x with
 | below p=>exact h
 | odd=>exact h
 | wall r=>exact⟨h.1,h.2.1,h.2.2.1,h.2.2.2.1,by rw[<- roomM_one];exact h.2.2.2.2.1,fun k k1 k2=>by rw[<- roomM_one];exact h.2.2.2.2.2 k k1 k2⟩
 | free=>exact⟨h.1,h.2.1,fun k k1 k2=>by rw[<- roomM_one];exact h.2.2 k k1 k2⟩
end Web
namespace L2
open PySem PySem.Spec PyProof.Rows PySem.SeqAt
section
variable {X:Cx}
end
theorem pe_ixSK {X:Cx}{a b:Expr}{pos:Pos}{ta tb:TE}(K:W.Frag)(hK:X.K=K)(ha:PE X a ta)(hb:PE X b tb)(hs:PlainIx b):PE X (.Subscript a b pos) (tOp (rIx K) ta tb):=by
 cases hK
 exact pe_ix ix_seq ha hb hs
end L2
namespace L2
open PySem PySem.Spec PyProof.Rows
def rIExt:R2:=fun x y H Q=>∃ l b xs zs,x=.ref l/\y=.ref b/\H l=some (.lst xs)/\H b=some (.lst zs)/\xs.length+zs.length<=1000/\Q (.ref l) (upd H l (.lst (xs++zs)))
theorem ifill_list:fillsInplaceSlot (.type "list") "add" true=pure false:=by
 unfold fillsInplaceSlot
 show (typeLookup (.type "list") (dunderI "add") >>= fun fi=>pure (fi.isSome && !isSeqSlot fi))=pure false
 rw[F.slot_list_iadd.lookup]
 rw[pure_bind]
 congr 1
theorem iseq_list:seqSlot? (.type "list") (dunderI "add")=pure (some (.builtin "list.__iadd__")):=by
 unfold seqSlot?
 rw[F.slot_list_iadd.lookup]
 rfl
section
variable {X:Cx}
theorem ip_ext:PIp X .Add rIExt:=by
 intro pins s σ H x y v u Q I rx ry h
 obtain⟨l,b,xs,zs,rfl,rfl,hH,hB,hz,q⟩:=h
 cases rx
 cases ry
 obtain⟨z,its,n,r,hl,e⟩:=I.lstM hH
 obtain⟨z2,its2,n2,r2,hl2,e2⟩:=I.lstM hB
 have hln:=r.length
 have hln2:=r2.length
 unfold inplaceOp
 refine wpAny_holding ?_
 refine wpAny_bind (wpAny_typeOf (T:="list") ⟨_,e,rfl⟩ (wpAny_bind (wpAny_of_eq ifill_list ?_)))
 show wpAny _ _ (if false=true then _ else _) _ _ s
 rw[if_neg Bool.false_ne_true]
 refine wpAny_bind (wpAny_binaryOp1_none (a:=.ref l) (b:=.ref b) (s:=s) (nm:="add") (T:="list") ⟨_,e,rfl⟩ ⟨_,e2,rfl⟩ noFill_list_add ?_)
 refine wpAny_bind (wpAny_of_eq iseq_list ?_)
 refine wpAny_bind (wpAny_rule ?_)
 have hd:¬(!its.toArray.isEmpty && Builtin.List.listTooLong (its.toArray.size+its2.toArray.size))=true:=extend_door (by rw[List.size_toArray,List.size_toArray,sizeLine_eq];omega)
 refine call_meets F.slot_list_iadd ⟨_,e,rfl⟩ F.entry_list_iadd (F.args_list_iadd_2 _ _) (PySem.AutoSeq1.list___iadd___list_list_0 l its.toArray n b its2.toArray n2 hd (by rw[List.size_toArray,sizeLine_eq];omega) (by rw[List.size_toArray,List.size_toArray,sizeLine_eq];omega)) ⟨e,e2,?_⟩
 refine⟨.ref l,_,I.lset (its':=its++its2) hH e ?_ (r.append r2) ?_,rfl,q⟩
 ·show its.toArray++its2.toArray=_
  simp
 ·rw[List.length_append,sizeLine_eq];omega
end
end L2
namespace Web
open PySem L2
def top (i:Nat):Stmt:=PySem.Challenge.pw_tallyweb_k58_whole_other_webs_counted.main.body.getD i (.Pass ⟨0,0,0,0⟩)
abbrev sIsP:Stmt:=top 9
abbrev sUp:Stmt:=top 11
abbrev sMade:Stmt:=top 12
abbrev sTally:Stmt:=top 13
abbrev sIsTold:Stmt:=top 14
abbrev sChT:Stmt:=top 16
abbrev sOrd:Stmt:=top 17
abbrev sFall:Stmt:=top 19
abbrev sAmong:Stmt:=top 20
abbrev sBelow:Stmt:=top 22
abbrev sWallW:Stmt:=top 23
abbrev sWall:Stmt:=top 24
abbrev sFirst:Stmt:=top 28
abbrev sLeft:Stmt:=top 29
abbrev sLaid:Stmt:=top 30
abbrev sAns:Stmt:=top 31
abbrev sIsWeb:Stmt:=top 32
abbrev sAnsS:Stmt:=top 33
abbrev sRow:Stmt:=top 49
abbrev sTies:Stmt:=top 50
abbrev sSums:Stmt:=top 51
abbrev sRen:Stmt:=top 53
abbrev sChk:Stmt:=top 10
abbrev sChP:Stmt:=top 35
abbrev sFew:Stmt:=top 38
abbrev sChC:Stmt:=top 39
abbrev sChs:Stmt:=top 40
abbrev sFE:Stmt:=top 41
abbrev sBeh:Stmt:=top 42
abbrev sCnt:Stmt:=top 43
abbrev sAhd:Stmt:=top 44
abbrev sHow:Stmt:=top 45
abbrev sWAt:Stmt:=top 46
abbrev sInH:Stmt:=top 47
abbrev sSmall:Stmt:=top 52
abbrev sTwo:Stmt:=top 54
abbrev sLaw:Stmt:=top 55
structure Bn (mg:Str->Option Value):Prop where
 len:mg "len"=none
 range:mg "range"=none
 enum:mg "enumerate"=none
 list:mg "list"=none
 tuple:mg "tuple"=none
 sorted:mg "sorted"=none
 set:mg "set"=none
 isin:mg "isinstance"=none
 int:mg "int"=none
 bool:mg "bool"=none
 min:mg "min"=none
 max:mg "max"=none
 sum:mg "sum"=none
 str:mg "str"=none
 ve:mg "ValueError"=none
 rev:mg "reversed"=none
theorem sl1000:1000<=sizeLine:=by decide
theorem same_upd {H:Hp}{l:Addr}{o:HO}(h:H l=none):Same H (upd H l o):=fun b u e=>by
 rw[upd_ne (ne_of_none e h)]
 exact e
section
variable {P:Program} {w:World} {K:W.Frag} {mg:Str->Option Value} {base:Heap}
def spIsP:Sp:=fun vs H Q _=>∃ a b:Int,vs=[.int a,.int b]/\Q (.bl (decide (0<=b) && decide (b<a))) H
theorem scIsP:FnScope ["places","number"] ["places","number"] (defScope sIsP):=⟨rfl,rfl,rfl,by decide +kernel,rfl,by decide +kernel,by decide +kernel⟩
theorem ok_isP {f:Addr}{fd:FuncData}(F:Fun K "is_place" "is_place" sIsP f fd):FnOk P w K mg base CX0 1 f fd ["places","number"] spIsP:=by
 refine F.ok scIsP (fun vs H Q E h=>?_) (fun cdv A outer s H vs Q E hr h=>?_)
 ·obtain⟨a,b,rfl,_⟩:=h
  rfl
 ·obtain⟨a,b,rfl,k⟩:=h
  refine⟨_,pss_one (ps_ret (pe_chain op_le op_lt pe_int (pv 1) (pv 0))),?_⟩
  refine⟨_,rfl,_,_,rfl,rfl,_,rfl,?_⟩
  cases e:decide ((0:Int)<=b) with
  | true =>
   refine iteT ⟨_,rfl,_,_,rfl,rfl,?_⟩
   rw[e,Bool.true_and]at k
   exact k
  | false =>
   refine iteF ?_
   rw[e,Bool.false_and]at k
   exact k
def spUp (K:W.Frag):Sp:=fun vs H Q _=>∃ (n:Nat) (a:Addr) (k:List Int),vs=[.int n,.ref a]/\SqT K H a (k.map V.int)/\Ends2 n k /\
 ∀ p,H p=none->Q (.ref p) (upd H p (.tup ((up k).map V.int)))
theorem scUp:FnScope ["places","tie"] ["places","tie"] (defScope sUp):=⟨rfl,rfl,rfl,by decide +kernel,rfl,by decide +kernel,by decide +kernel⟩
theorem ok_up {f fI:Addr} {fd fdI:FuncData} (F:Fun K "turned_up" "turned_up" sUp f fd) (B:Bn mg) (FI:Fun K "is_place" "is_place" sIsP fI fdI) (bI:Binds K fdI ["places","number"] []) (mI:mg "is_place"=some (.ref fI)) :
  FnOk P w K mg base CX0 2 f fd ["places","tie"] (spUp K):=by
 have GI:FnOk P w K mg base CX0 1 fI fdI ["places","number"] spIsP:=ok_isP FI
 refine F.ok scUp (fun vs H Q E h=>?_) (fun cdv A outer s H vs Q E hr h=>?_)
 ·obtain⟨n,a,k,rfl,_⟩:=h
  rfl
 ·obtain⟨n,a,k,rfl,hS,⟨i,j,h1,h2,h3,rfl⟩,q⟩:=h
  refine⟨_,pss_cons (ps_if (PW.pt (pw_or (pt_not (pt_val (pe_call GI hr rfl mI FI.kp bI .nil pass0 (pa_cons (pv 0) (pa_cons (pe_ix ix_tup (pv 1) pe_int (fun _ _=>rfl)) pa_nil)))))
     (pw_or1 (pt_not (pt_val (pe_call GI hr rfl mI FI.kp bI .nil pass0 (pa_cons (pv 0) (pa_cons (pe_ix ix_tup (pv 1) pe_int (fun _ _=>rfl)) pa_nil)))))))) pss_never pss_nil)
   (pss_cons (ps_if (pt_cmpR op_eq (pe_ix ix_tup (pv 1) pe_int (fun _ _=>rfl)) (pe_ix ix_tup (pv 1) pe_int (fun _ _=>rfl)) (nomark _)) pss_never pss_nil)
   (pss_one (ps_ret (pe_tup (pa_cons (pe_callB (call_min2 rfl) (by rfl) B.min (by rfl) (pa_cons (pe_ix ix_tup (pv 1) pe_int (fun _ _ => rfl)) (pa_cons (pe_ix ix_tup (pv 1) pe_int (fun _ _ => rfl)) pa_nil)))
    (pa_cons (pe_callB (call_max2 rfl) (by rfl) B.max (by rfl) (pa_cons (pe_ix ix_tup (pv 1) pe_int (fun _ _=>rfl)) (pa_cons (pe_ix ix_tup (pv 1) pe_int (fun _ _=>rfl)) pa_nil))) pa_nil)))))),?_⟩
  have a0:atI (([(i:Int),(j:Int)]:List Int).map V.int) 0=some (.int i):=atI_nat (j:=0) rfl
  have a1:atI (([(i:Int),(j:Int)]:List Int).map V.int) 1=some (.int j):=atI_nat (j:=1) rfl
  refine⟨_,rfl,_,rfl,a,_,_,_,rfl,rfl,hS,a0,_,_,rfl,?_⟩
  rw[decide_eq_true (show (0:Int)<=i by omega),decide_eq_true (show (i:Int)<n by omega)]
  refine⟨_,rfl,iteF ?_⟩
  refine⟨_,rfl,_,rfl,a,_,_,_,rfl,rfl,hS,a1,_,_,rfl,?_⟩
  rw[decide_eq_true (show (0:Int)<=j by omega),decide_eq_true (show (j:Int)<n by omega)]
  refine⟨_,rfl,iteF ?_⟩
  refine⟨_,rfl,a,_,_,_,rfl,rfl,hS,a0,_,rfl,a,_,_,_,rfl,rfl,hS,a1,rfl,_,rfl,?_⟩
  rw[decide_eq_false (show ¬ V.int (i:Int)=V.int (j:Int) by intro z;injection z;omega)]
  refine iteF ?_
  refine⟨_,rfl,a,_,_,_,rfl,rfl,hS,a0,_,rfl,a,_,_,_,rfl,rfl,hS,a1,_,_,rfl,?_⟩
  refine⟨_,rfl,a,_,_,_,rfl,rfl,hS,a0,_,rfl,a,_,_,_,rfl,rfl,hS,a1,_,_,rfl,(by show 2<=sizeLine;decide),fun p hp=>?_⟩
  exact q p hp
def isTl (ns:List Int):Prop:=1<=ns.length/\ns.length<=24
def Sq (K:W.Frag)(H:Hp)(a:Addr)(ns:List Int):Prop:=SqL K H a (ns.map V.int)\/SqT K H a (ns.map V.int)
theorem Sq.same {H H':Hp}{a:Addr}{ns:List Int}(h:Sq K H a ns)(s:Same H H'):Sq K H' a ns:=h.elim (fun h=>.inl (s.seq h)) fun h=>.inr (s.seqT h)
def spChT (K:W.Frag)(CB:Addr):Sp:=fun vs H Q E=>∃ (a:Addr) (ns:List Int),vs=[.ref a]/\Sq K H a ns/\(isTl ns->Q .non H)/\(¬ isTl ns->E (.ref CB) none H)
theorem scChT:FnScope ["tally"] ["tally"] (defScope sChT):=⟨rfl,rfl,rfl,by decide +kernel,rfl,by decide +kernel,by decide +kernel⟩
theorem ok_chT {f CB:Addr}{fd:FuncData}{tk:Tok}(F:Fun K "check_tally" "check_tally" sChT f fd)(B:Bn mg)(mM:mg "MOST_PLACES"=some (.int 24 tk))(mB:mg "BadTally"=some (.ref CB))(cB:ExcC K CB):FnOk P w K mg base (CXE P w) 1 f fd ["tally"] (spChT K CB):=by
 refine F.okX scChT (fun vs H Q E h=>?_) (fun cdv A outer s H vs Q E hr h=>?_)
 ·obtain⟨a,ns,rfl,_⟩:=h
  rfl
 ·obtain⟨a,ns,rfl,hS,h1,h2⟩:=h
  refine⟨_,pss_one (ps_if (pt_not (pt_chain op_le op_le pe_int (pe_callB call_len_seq (by rfl) B.len PySem.boot_len (pa_cons (pv 0) pa_nil)) (pe_glob (v:=.int 24) (by rfl) mM ⟨tk,rfl⟩))) (pss_one (ps_raise (by rfl) mB cB)) pss_nil),?_⟩
  refine⟨_,rfl,a,_,rfl,hS,_,_,rfl,rfl,_,rfl,?_⟩
  rw[List.length_map]
  by_cases hp:(1:Int)<=(ns.length:Int)
  ·rw[decide_eq_true hp]
   refine iteT ⟨_,_,rfl,rfl,_,rfl,?_⟩
   by_cases hp':(ns.length:Int)<=24
   ·rw[decide_eq_true hp']
    exact iteF (h1 ⟨by omega,by omega⟩)
   ·rw[decide_eq_false hp']
    exact iteT (h2 fun z=>hp' (by have:=z.2;omega))
  ·rw[decide_eq_false hp]
   exact iteF ⟨_,rfl,iteT (h2 fun z=>hp (by have:=z.1;omega))⟩
end
section
variable {P:Program} {w:World} {K:W.Frag} {mg:Str->Option Value} {base:Heap}
def spMade (K:W.Frag):Sp:=fun vs H Q _=>∃ (n:Nat) (a:Addr) (ys:List V) (hs:List (List Int)),vs=[.int n,.ref a]/\1<=n/\n<=24/\(SqL K H a ys\/SqT K H a ys)/\Tups K H ys hs/\(∀ k∈hs,Ends2 n k)/\(hs.map up).Nodup/\hs.length<64 /\
 ∀ p t zs ks H',Same H H'->H p=none->H t=none->H' p=some (.tup [.int n,.ref t])->H' t=some (.tup zs)->Tups K H' zs ks->ks.Perm (hs.map up)->ks.Pairwise (fun a b=>Tim.lexB b a=false)->Q (.ref p) H'
theorem scMade:FnScope ["places","ties","ascending"] ["places","ties"] (defScope sMade):=⟨rfl,rfl,rfl,by decide +kernel,rfl,by decide +kernel,by decide +kernel⟩
theorem ok_made {f fI fU:Addr} {fd fdI fdU:FuncData} {tk:Tok} (F:Fun K "made" "made" sMade f fd) (B:Bn mg) (FI:Fun K "is_place" "is_place" sIsP fI fdI) (bI:Binds K fdI ["places","number"] []) (mI:mg "is_place"=some (.ref fI))
  (FU:Fun K "turned_up" "turned_up" sUp fU fdU) (bU:Binds K fdU ["places","tie"] []) (mU:mg "turned_up"=some (.ref fU)) (mM:mg "MOST_PLACES"=some (.int 24 tk)) :
  FnOk P w K mg base CX0 3 f fd ["places","ties"] (spMade K):=by
 have GU:FnOk P w K mg base CX0 2 fU fdU ["places","tie"] (spUp K):=ok_up FU B FI bI mI
 refine F.ok scMade (fun vs H Q E h=>?_) (fun cdv A outer s H vs Q E hr h=>?_)
 ·obtain⟨n,a,ys,hs,rfl,_⟩:=h
  rfl
 ·obtain⟨n,a,ys,hs,rfl,n1,n2,hS,hT,hE,hN,hL,q⟩:=h
  have hu8:=Nat.lt_of_le_of_lt (Nat.add_le_add_left (by decide:8<=64) _) hr.units
  have hyl:=hT.len
  have nd2:(["tie","places"]:List Str).Nodup:=by decide +kernel
  have step:∀ (D:Addr),H D=none->∀ (i:Nat) (xs:List V) (H':Hp) (x:V) (N:List V->Hp->Prop),Same H H'->H' D=some (.lst xs)->Tups K H' xs ((hs.take i).map up)->ys[i]?=some x ->
    (∀ xs' H'',Same H H''->H'' D=some (.lst xs')->Tups K H'' xs' ((hs.take (i+1)).map up)->N xs' H'') ->
    ∃ (m:Nat) (b:Addr) (k:List Int),[V.int n,x]=[.int m,.ref b]/\SqT K H' b (k.map V.int)/\Ends2 m k/\∀ p,H' p=none->(upd H' p (.tup ((up k).map V.int))) D=some (.lst xs)/\N (xs++[.ref p]) (upd (upd H' p (.tup ((up k).map V.int))) D (.lst (xs++[.ref p]))):=by
   intro D hD i xs H' x N s1 hd ht hx k
   obtain⟨b,kk,rfl,hk,hq⟩:=hT.get hx
   refine⟨n,b,kk,rfl,s1.seqT hq,hE kk (List.mem_of_getElem? hk),fun p hp=>?_⟩
   have npd:D≠p:=ne_of_none hd hp
   have hd':(upd H' p (.tup ((up kk).map V.int))) D=some (.lst xs):=by rw[upd_ne npd];exact hd
   refine⟨hd',k _ _ ((s1.trans (same_upd hp)).upd hD) upd_same ?_⟩
   have e:(hs.take (i+1)).map up=(hs.take i).map up++[up kk]:=by
    rw[List.take_add_one,hk,List.map_append]
    rfl
   rw[e]
   refine Tups.updL hd' (Tups.append (Same.tups (same_upd hp) ht) (Tups.one (SqT.of upd_same)))
  rcases hS with hS | hS
  ·refine⟨_,pss_cons (ps_if (pt_not (pt_chain op_le op_le pe_int (pv 0) (pe_glob (v:=.int 24) rfl mM ⟨_,rfl⟩))) pss_never pss_nil)
    (pss_cons (ps_set (i := 2) scMade.nd rfl (Or.inl rfl) (pe_callB call_sortedS (by rfl) B.sorted (by rfl) (pa_cons
     (pe_comp (N' := ["tie", "places"]) (lk := [none, some 0]) rfl (pi_list (pv 1)) (by rfl) rfl (by decide +kernel) (by exact ⟨rfl, trivial⟩) (by rfl) (by exact LkL.ok ⟨⟨rfl, Or.inl rfl, rfl, Or.inl rfl⟩, trivial⟩)
      (fun _ _ _=>pg_name (i:=0) nd2 rfl (Or.inl rfl)) (fun _ _ _=>pts_nil) (fun _ _ _=>pe_call GU hr (by rfl) mU FU.kp bU .nil pass0 (pa_cons (pv 1) (pa_cons (pv 0) pa_nil)))) pa_nil)))
    (pss_cons (ps_if (pt_cmpR op_lt (pe_callB call_len_set (by rfl) B.len PySem.boot_len (pa_cons (pe_callTy (call_set rfl hu8) (by rfl) B.set (by rfl) (pa_cons (pv 2) pa_nil)) pa_nil)) (pe_callB call_len_seq (by rfl) B.len PySem.boot_len (pa_cons (pv 2) pa_nil)) (nomark _)) pss_never pss_nil)
    (pss_one (ps_ret (pe_tup (pa_cons (pv 0) (pa_cons (pe_callTy call_tuple_of (by rfl) B.tuple (by rfl) (pa_cons (pv 2) pa_nil)) pa_nil))))))),?_⟩
   refine⟨_,rfl,_,_,rfl,rfl,_,rfl,?_⟩
   rw[decide_eq_true (show (1:Int)<=n by omega)]
   refine iteT ⟨_,_,rfl,rfl,_,rfl,?_⟩
   rw[decide_eq_true (show (n:Int)<=24 by omega)]
   refine iteF ?_
   refine⟨_,rfl,a,rfl,⟨_,hS⟩,fun D hD=>comp_list (K:=K) (a:=a) (D:=D) (ys:=ys) (fun i xs σ' H'=>∃ v,σ'=[v,some (.int n)]/\Same H H'/\H' D=some (.lst xs)/\Tups K H' xs ((hs.take i).map up)) ⟨none,rfl,same_upd hD,upd_same,.nil⟩ (by have:=sl1000;omega)
    (fun i xs σ' H' hi ⟨_,_,s1,h1,h2⟩=>⟨s1.seq hS,h1,by have:=h2.len;simp at this;omega⟩) ?_ ?_⟩
   ·rintro i xs x σ' H' N kN hx ⟨v,rfl,s1,h1,h2⟩
    refine gName_to ?_
    refine tTrue_if ?_
    refine⟨_,rfl,_,rfl,?_⟩
    exact step D hD i xs H' x (fun xs' H''=>N xs' _ H'') s1 h1 h2 hx fun xs' H'' a1 a2 a3=>kN _ _ _ ⟨_,rfl,a1,a2,a3⟩
   ·rintro xs σ' H1 ⟨v,rfl,s1,h1,h2⟩
    rw[List.take_of_length_le (by omega)]at h2
    have hup:∀ k∈hs.map up,Up n k:=fun k hk=>by
     obtain⟨k0,h0,rfl⟩:=List.mem_map.mp hk
     exact(hE k0 h0).up
    refine⟨D,xs,_,rfl,SqL.of h1,h2,(fun k hk z=>by have:=(hup k hk).len;rw[z]at this;cases this),(by rw[List.length_map];omega),fun l zs ks hl pk hs1 ht1=>?_⟩
    have hkl:ks.length=hs.length:=by rw[pk.length_eq,List.length_map]
    have hzl:=ht1.len
    have s2:Same H (upd H1 l (.lst zs)):=s1.trans (same_upd hl)
    refine⟨_,rfl,l,zs,ks,rfl,SqL.of upd_same,ht1,(fun k hk=>(hup k (pk.mem_iff.mp hk)).key n2),by omega,fun S hSn=>?_⟩
    have hlS:l≠S:=ne_of_none upd_same hSn
    have s3:=s2.trans (same_upd (o:=SetO P w S (ks.foldl Sett.insT []).length) hSn)
    have l3:(upd (upd H1 l (.lst zs)) S (SetO P w S (ks.foldl Sett.insT []).length)) l=some (.lst zs):=by rw[upd_ne hlS,upd_same]
    refine⟨S,_,rfl,upd_same,_,rfl,l,zs,rfl,.inl (SqL.of l3),_,_,rfl,rfl,_,rfl,?_⟩
    have hfold:(ks.foldl Sett.insT []).length=zs.length:=by
     have:=(Sett.fold_full ks []).mpr ⟨(pk.nodup_iff).mpr hN,fun x _=>by simp⟩
     simp at this
     omega
    rw[hfold,decide_eq_false (by omega)]
    refine iteF ?_
    refine⟨_,rfl,_,rfl,l,zs,rfl,.inl ⟨SqL.of (by rw[hfold]at l3;exact l3),fun t ht=>⟨(by show 2<=sizeLine;decide),fun p hp=>?_⟩⟩⟩
    rw[hfold]at s3
    have s4:=(s3.trans (same_upd (o:=.tup zs) ht)).trans (same_upd (o:=.tup [.int n,.ref t]) hp)
    refine q p t zs ks _ s4 ((s3.trans (same_upd ht)).free hp) (s3.free ht) upd_same ?_ ?_ pk hs1
    ·rw[upd_ne (ne_of_none upd_same hp),upd_same]
    ·exact Same.tups (((same_upd hSn).trans (same_upd ht)).trans (same_upd hp)) ht1
  ·refine⟨_,pss_cons (ps_if (pt_not (pt_chain op_le op_le pe_int (pv 0) (pe_glob (v:=.int 24) rfl mM ⟨_,rfl⟩))) pss_never pss_nil)
    (pss_cons (ps_set (i := 2) scMade.nd rfl (Or.inl rfl) (pe_callB call_sortedS (by rfl) B.sorted (by rfl) (pa_cons
     (pe_comp (N' := ["tie", "places"]) (lk := [none, some 0]) rfl (pi_tup (pv 1)) (by rfl) rfl (by decide +kernel) (by exact ⟨rfl, trivial⟩) (by rfl) (by exact LkL.ok ⟨⟨rfl, Or.inl rfl, rfl, Or.inl rfl⟩, trivial⟩)
      (fun _ _ _=>pg_name (i:=0) nd2 rfl (Or.inl rfl)) (fun _ _ _=>pts_nil) (fun _ _ _=>pe_call GU hr (by rfl) mU FU.kp bU .nil pass0 (pa_cons (pv 1) (pa_cons (pv 0) pa_nil)))) pa_nil)))
    (pss_cons (ps_if (pt_cmpR op_lt (pe_callB call_len_set (by rfl) B.len PySem.boot_len (pa_cons (pe_callTy (call_set rfl hu8) (by rfl) B.set (by rfl) (pa_cons (pv 2) pa_nil)) pa_nil)) (pe_callB call_len_seq (by rfl) B.len PySem.boot_len (pa_cons (pv 2) pa_nil)) (nomark _)) pss_never pss_nil)
    (pss_one (ps_ret (pe_tup (pa_cons (pv 0) (pa_cons (pe_callTy call_tuple_of (by rfl) B.tuple (by rfl) (pa_cons (pv 2) pa_nil)) pa_nil))))))),?_⟩
   refine⟨_,rfl,_,_,rfl,rfl,_,rfl,?_⟩
   rw[decide_eq_true (show (1:Int)<=n by omega)]
   refine iteT ⟨_,_,rfl,rfl,_,rfl,?_⟩
   rw[decide_eq_true (show (n:Int)<=24 by omega)]
   refine iteF ?_
   refine⟨_,rfl,a,rfl,⟨_,hS⟩,fun D hD=>comp_tup (K:=K) (a:=a) (D:=D) (ys:=ys) (fun i xs σ' H'=>∃ v,σ'=[v,some (.int n)]/\Same H H'/\H' D=some (.lst xs)/\Tups K H' xs ((hs.take i).map up)) ⟨none,rfl,same_upd hD,upd_same,.nil⟩ (by have:=sl1000;omega)
    (fun i xs σ' H' hi ⟨_,_,s1,h1,h2⟩=>⟨s1.seqT hS,h1,by have:=h2.len;simp at this;omega⟩) ?_ ?_⟩
   ·rintro i xs x σ' H' N kN hx ⟨v,rfl,s1,h1,h2⟩
    refine gName_to ?_
    refine tTrue_if ?_
    refine⟨_,rfl,_,rfl,?_⟩
    exact step D hD i xs H' x (fun xs' H''=>N xs' _ H'') s1 h1 h2 hx fun xs' H'' a1 a2 a3=>kN _ _ _ ⟨_,rfl,a1,a2,a3⟩
   ·rintro xs σ' H1 ⟨v,rfl,s1,h1,h2⟩
    rw[List.take_of_length_le (by omega)]at h2
    have hup:∀ k∈hs.map up,Up n k:=fun k hk=>by
     obtain⟨k0,h0,rfl⟩:=List.mem_map.mp hk
     exact(hE k0 h0).up
    refine⟨D,xs,_,rfl,SqL.of h1,h2,(fun k hk z=>by have:=(hup k hk).len;rw[z]at this;cases this),(by rw[List.length_map];omega),fun l zs ks hl pk hs1 ht1=>?_⟩
    have hkl:ks.length=hs.length:=by rw[pk.length_eq,List.length_map]
    have hzl:=ht1.len
    have s2:Same H (upd H1 l (.lst zs)):=s1.trans (same_upd hl)
    refine⟨_,rfl,l,zs,ks,rfl,SqL.of upd_same,ht1,(fun k hk=>(hup k (pk.mem_iff.mp hk)).key n2),by omega,fun S hSn=>?_⟩
    have hlS:l≠S:=ne_of_none upd_same hSn
    have s3:=s2.trans (same_upd (o:=SetO P w S (ks.foldl Sett.insT []).length) hSn)
    have l3:(upd (upd H1 l (.lst zs)) S (SetO P w S (ks.foldl Sett.insT []).length)) l=some (.lst zs):=by rw[upd_ne hlS,upd_same]
    refine⟨S,_,rfl,upd_same,_,rfl,l,zs,rfl,.inl (SqL.of l3),_,_,rfl,rfl,_,rfl,?_⟩
    have hfold:(ks.foldl Sett.insT []).length=zs.length:=by
     have:=(Sett.fold_full ks []).mpr ⟨(pk.nodup_iff).mpr hN,fun x _=>by simp⟩
     simp at this
     omega
    rw[hfold,decide_eq_false (by omega)]
    refine iteF ?_
    refine⟨_,rfl,_,rfl,l,zs,rfl,.inl ⟨SqL.of (by rw[hfold]at l3;exact l3),fun t ht=>⟨(by show 2<=sizeLine;decide),fun p hp=>?_⟩⟩⟩
    rw[hfold]at s3
    have s4:=(s3.trans (same_upd (o:=.tup zs) ht)).trans (same_upd (o:=.tup [.int n,.ref t]) hp)
    refine q p t zs ks _ s4 ((s3.trans (same_upd ht)).free hp) (s3.free ht) upd_same ?_ ?_ pk hs1
    ·rw[upd_ne (ne_of_none upd_same hp),upd_same]
    ·exact Same.tups (((same_upd hSn).trans (same_upd ht)).trans (same_upd hp)) ht1
end
def lamAt (st:Stmt):Pos:=match (defBody st).getD 1 (.Pass ⟨0,0,0,0⟩) with
 | .Return (some (.Call _ _ [⟨_,.Lambda _ _ _ p,_⟩] _)) _=>p
 | _=>⟨0,0,0,0⟩
def lamQ:Str:=(("order_of":Str)++(".<locals>.":Str))++("<lambda>":Str)
abbrev Tb (P:Addr)(H:Hp):Prop:=TabOk P (lamAt sOrd) lamQ H
theorem Grow.sqL {K:W.Frag}{P a:Addr}{H H':Hp}{xs:List V}(g:Grow P H H')(t:Tb P H)(h:SqL K H a xs):SqL K H' a xs:=by
 obtain⟨ps,hP,_⟩:=t
 rcases h with(h | ⟨o,h⟩) | h
 ·exact .inl (.inl (g a _ (fun z=>by rw[z,hP]at h;cases h) h))
 ·exact .inl (.inr ⟨o,g a _ (fun z=>by rw[z,hP]at h;cases h) h⟩)
 ·exact .inr h
theorem Grow.sqT {K:W.Frag}{P a:Addr}{H H':Hp}{xs:List V}(g:Grow P H H')(t:Tb P H)(h:SqT K H a xs):SqT K H' a xs:=by
 obtain⟨ps,hP,_⟩:=t
 rcases h with(h | ⟨o,h⟩) | h
 ·exact .inl (.inl (g a _ (fun z=>by rw[z,hP]at h;cases h) h))
 ·exact .inl (.inr ⟨o,g a _ (fun z=>by rw[z,hP]at h;cases h) h⟩)
 ·exact .inr h
theorem Sq.grow {K:W.Frag}{P a:Addr}{H H':Hp}{ns:List Int}(h:Sq K H a ns)(g:Grow P H H')(t:Tb P H):Sq K H' a ns:=h.elim (fun h=>.inl (Grow.sqL g t h)) fun h=>.inr (Grow.sqT g t h)
theorem LamLk.one {X:Cx}{x:Str}{j:Nat}{scope:Scope}{cl:List (Str × Addr)}(h:X.N[j]?=some x/\(X.env.scope.names.lookup x=some .cell\/X.env.scope.names.lookup x=some .free)/\(cl.lookup x).isSome=true/\(scope.names.lookup x=some .cell\/scope.names.lookup x=some .free)) :
  LamLk X [x] [some j] scope cl:=⟨rfl,fun i j' y e1 e2=>by
 cases i with
 | zero =>
  have e1':x=y:=by simpa using e1
  have e2':j=j':=by simpa using e2
  subst e1' e2'
  exact h
 | succ i=>simp at e1⟩
theorem pe_ixK {X:Cx}{a b:Expr}{pos:Pos}{ta tb:TE}(K:W.Frag)(hK:X.K=K)(ha:PE X a ta)(hb:PE X b tb)(hs:PlainIx b):PE X (.Subscript a b pos) (tOp (rIx K) ta tb):=by
 cases hK
 exact pe_ix ix_seq ha hb hs
section
variable {P:Program} {w:World} {K:W.Frag} {mg:Str->Option Value} {base:Heap}
def spOrd (K:W.Frag)(CB PT:Addr):Sp:=fun vs H Q E=>∃ (a:Addr) (ns:List Int),vs=[.ref a]/\Sq K H a ns /\
 (isTl ns->Tb PT H/\∀ (zs:List Int) (D:Addr) (H':Hp),Grow PT H H'->Tb PT H'->H' D=some (.lst (zs.map V.int))->zs.Perm (rng ns.length)->zs.Pairwise (ole ns)->Q (.ref D) H')/\(¬ isTl ns->E (.ref CB) none H)
theorem scOrd:FnScope ["tally"] ["tally"] (defScope sOrd):=⟨rfl,rfl,rfl,by decide +kernel,rfl,by decide +kernel,by decide +kernel⟩
theorem ok_ord {f fT CB c PT:Addr} {fd fdT:FuncData} {tk:Tok} (F:Fun K "order_of" "order_of" sOrd f fd) (hc:fd.code=.ref c) (LB:LamB base mg c PT) (B:Bn mg) (FT:Fun K "check_tally" "check_tally" sChT fT fdT) (bT:Binds K fdT ["tally"] []) (mT:mg "check_tally"=some (.ref fT))
  (mM:mg "MOST_PLACES"=some (.int 24 tk)) (mB:mg "BadTally"=some (.ref CB)) (cB:ExcC K CB):FnOk P w K mg base (CXE P w) 2 f fd ["tally"] (spOrd K CB PT):=by
 have GT:FnOk P w K mg base (CXE P w) 1 fT fdT ["tally"] (spChT K CB):=ok_chT FT B mM mB cB
 refine F.okXC hc scOrd (fun vs H Q E h=>?_) (fun A outer s H vs Q E hr h=>?_)
 ·obtain⟨a,ns,rfl,_⟩:=h
  rfl
 ·obtain⟨a,ns,rfl,hS,h1,h2⟩:=h
  have hsl:=sl1000
  refine⟨_,pss_cons (ps_expr (pe_call GT hr (by rfl) mT FT.kp bT .nil passE (pa_cons (pv 0) pa_nil)))
   (pss_one (ps_ret (pe_sortKS (p := "place") (N' := ["tally"]) (lk := [some 0]) rfl hr.depth (by rfl) B.sorted (pa_cons (pe_rngV (by rfl) B.range (pa_cons (pe_callB call_len_seq (by rfl) B.len PySem.boot_len (pa_cons (pv 0) pa_nil)) pa_nil)) pa_nil)
    LB rfl (by rfl) (by rfl) rfl rfl rfl (by exact⟨rfl,trivial⟩) (by rfl) (by exact LamLk.one ⟨rfl,Or.inl rfl,rfl,Or.inr rfl⟩) rfl (fun _ _ _ _=>rfl)
    (fun _ _ _ _=>pe_tup (pa_cons (pe_un un_neg (pe_ixK K rfl (pv 1) (pv 0) (fun _ _=>rfl))) (pa_cons (pv 0) pa_nil)))))),?_⟩
  refine⟨_,rfl,a,ns,rfl,hS,fun ht=>?_,h2⟩
  obtain⟨tb,q⟩:=h1 ht
  refine⟨_,rfl,a,_,rfl,hS,(ns.map V.int).length,rfl,by rw[List.length_map];have:=ht.2;omega,fun r hr0=>?_⟩
  have s0:=same_upd (o:=.rng 0 ((ns.map V.int).length:Int)) hr0
  have tb1:Tb PT (upd H r (.rng 0 ((ns.map V.int).length:Int))):=tb.same s0
  refine⟨r,(ns.map V.int).length,okey ns,rfl,upd_same,by rw[List.length_map];have:=ht.2;omega,okey_ne ns,tb1,fun H2 g2 tb2=>⟨fun H3 z sm hz=>?_,fun H' D zs sm hD hp hs=>?_⟩⟩
  ·have hS3:Sq K H3 a ns:=((hS.same s0).grow g2 tb1).same sm
   rw[List.length_map]at hz
   have hat:atI (ns.map V.int) (z:Int)=some (.int (ns.getD z 0)):=atI_nat (j:=z) (by simp[hz])
   have fin:∀ k,H3 k=none->(∃ k',(V.ref k:V)=.ref k'/\(upd H3 k (.tup [.int (-(ns.getD z 0)),.int z])) k'=some (.tup ((okey ns z).map V.int))/\Same H3 (upd H3 k (.tup [.int (-(ns.getD z 0)),.int z]))):=fun k hk=>⟨k,rfl,upd_same,same_upd hk⟩
   rcases hS3 with h3 | h3
   ·exact⟨_,rfl,_,rfl,.inl ⟨a,_,_,_,rfl,rfl,h3,hat,_,rfl,_,rfl,(by show 2<=sizeLine;decide),fin⟩⟩
   ·exact⟨_,rfl,_,rfl,.inr (.inl ⟨a,_,_,_,rfl,rfl,h3,hat,_,rfl,_,rfl,(by show 2<=sizeLine;decide),fin⟩)⟩
  ·have sD:=same_upd (o:=.lst (zs.map V.int)) hD
   rw[List.length_map]at hp
   exact q zs D _ (((s0.grow PT).trans g2).trans ((sm.trans sD).grow PT)) (tb2.same (sm.trans sD)) upd_same hp hs
end
theorem cut_ints_from (ns:List Int)(k:Nat):cutV (ns.map V.int) (some (k:Int)) none=(ns.drop k).map V.int:=by rw[cutV_from,List.map_drop]
theorem cut_ints_to (ns:List Int)(k:Nat):cutV (ns.map V.int) none (some (k:Int))=(ns.take k).map V.int:=by rw[cutV_to,List.map_take]
theorem int_get {ns:List Int}{i:Nat}{x:V}(h:(ns.map V.int)[i]?=some x):∃ z:Int,ns[i]?=some z/\x=V.int z:=by
 rw[List.getElem?_map]at h
 cases e:ns[i]? with
 | none=>rw[e]at h;cases h
 | some z=>rw[e]at h;cases h;exact⟨z,rfl,rfl⟩
theorem at_int {ns:List Int}{j:Nat}(h:j<ns.length):atI (ns.map V.int) (j:Int)=some (.int (ns.getD j 0)):=atI_nat (j:=j) (by simp[h])
theorem ix_sq {K:W.Frag}{H:Hp}{a:Addr}{ns:List Int}{j:Nat}{Q:VK}(h:Sq K H a ns)(hj:j<ns.length)(q:Q (.int (ns.getD j 0)) H):rIx K (.ref a) (.int j) H Q:=
 h.elim (fun h=>.inl ⟨a,_,_,_,rfl,rfl,h,at_int hj,q⟩) fun h=>.inr (.inl ⟨a,_,_,_,rfl,rfl,h,at_int hj,q⟩)
theorem passN {P:Program}{w:World}{X:Cx}:Passes (CXE P w) X E0:=fun _ _ _ _ _ _ _ h=>by
 obtain⟨_,_,_,_,_,_,_,_,_,_,_,hE⟩:=h
 exact hE.elim
theorem lay_int (z:Int):(PyData.int z).canLay0=true:=by simp[PyData.canLay0]
theorem dep_int (z:Int):(PyData.int z).depth<=8:=by simp[PyData.depth]
theorem in_ints {K:W.Frag}{A:Around}{H:Hp}{Q:VK}{l:Addr}{es:List Int}{z:Int}(hun:A.units+64<cLine)(hl:SqL K H l (es.map V.int)\/SqT K H l (es.map V.int))(q:Q (.bl (decide (z∈es))) H):rInD K A false (.int z) (.ref l) H Q:=by
 refine⟨l,_,.int z,es.map .int,rfl,hl,Dt.mkInt,DtAll.ints es,lay_int z,lay_ints es,un_lt1 hun (Nat.le_trans (dep_int z) (by decide)),?_⟩
 rw[eqv_intP,if_neg Bool.false_ne_true]
 exact q
theorem notin_ints {K:W.Frag}{A:Around}{H:Hp}{Q:VK}{l:Addr}{es:List Int}{z:Int}(hun:A.units+64<cLine)(hl:SqL K H l (es.map V.int)\/SqT K H l (es.map V.int))(q:Q (.bl (!decide (z∈es))) H):rInD K A true (.int z) (.ref l) H Q:=by
 refine⟨l,_,.int z,es.map .int,rfl,hl,Dt.mkInt,DtAll.ints es,lay_int z,lay_ints es,un_lt1 hun (Nat.le_trans (dep_int z) (by decide)),?_⟩
 rw[eqv_intP,if_pos rfl]
 exact q
def outOf (ps zs:List Int):List Int:=zs.filter fun x=>!decide (x∈ps)
theorem outOf_one (p:Int)(zs:List Int):outOf [p] zs=rest zs p:=by
 unfold outOf rest
 congr 1
 funext x
 by_cases h:x=p<;>simp[h]
theorem grow_free {PT l:Addr}{H H':Hp}(g:Grow PT H H')(t:Tb PT H')(h:H' l=none):H l=none:=by
 cases e:H l with
 | none=>rfl
 | some o =>
  by_cases z:l=PT
  ·obtain⟨ps,hP,_⟩:=t
   rw[z,hP]at h
   cases h
  ·rw[g l o z e]at h
   cases h
section
variable {P:Program} {w:World} {K:W.Frag} {mg:Str->Option Value} {base:Heap}
def spFirst (K:W.Frag)(PT:Addr):Sp:=fun vs H Q _=>∃ (a pa:Addr) (ns ps:List Int) (k:Nat),vs=[.ref a,.int k,.ref pa]/\Sq K H a ns/\isTl ns/\SqL K H pa (ps.map V.int)/\Tb PT H /\
 ∀ (zs:List Int) (D:Addr) (H':Hp),Grow PT H H'->Tb PT H'->H D=none->zs.Perm (rng ns.length)->zs.Pairwise (ole ns)->H' D=some (.lst (((outOf ps zs).take k).map V.int))->Q (.ref D) H'
theorem scFirst:FnScope ["tally","many","passed_over"] ["tally","many","passed_over"] (defScope sFirst):=⟨rfl,rfl,rfl,by decide +kernel,rfl,by decide +kernel,by decide +kernel⟩
theorem ok_first {f fO fT CB c PT:Addr} {fd fdO fdT:FuncData} {tk:Tok} (F:Fun K "first_of_order" "first_of_order" sFirst f fd) (B:Bn mg) (FO:Fun K "order_of" "order_of" sOrd fO fdO) (bO:Binds K fdO ["tally"] []) (mO:mg "order_of"=some (.ref fO)) (hc:fdO.code=.ref c) (LB:LamB base mg c PT)
  (FT:Fun K "check_tally" "check_tally" sChT fT fdT) (bT:Binds K fdT ["tally"] []) (mT:mg "check_tally"=some (.ref fT)) (mM:mg "MOST_PLACES"=some (.int 24 tk)) (mB:mg "BadTally"=some (.ref CB)) (cB:ExcC K CB):FnOk P w K mg base (CXE P w) 3 f fd ["tally","many","passed_over"] (spFirst K PT):=by
 have GO:FnOk P w K mg base (CXE P w) 2 fO fdO ["tally"] (spOrd K CB PT):=ok_ord FO hc LB B FT bT mT mM mB cB
 refine F.okX scFirst (fun vs H Q E h=>?_) (fun cdv A outer s H vs Q E hr h=>?_)
 ·obtain⟨a,pa,ns,ps,k,rfl,_⟩:=h
  rfl
 ·obtain⟨a,pa,ns,ps,k,rfl,hS,ht,hpa,tb,q⟩:=h
  have hsl:=sl1000
  have hun:=hr.units
  have t2:=ht.2
  have nd2:(["place","passed_over"]:List Str).Nodup:=by decide +kernel
  refine⟨_,pss_one (ps_ret (pe_slice sl_list (pe_comp (N':=["place","passed_over"]) (lk:=[none,some 2]) rfl (pi_list (pe_call GO hr (by rfl) mO FO.kp bO .nil (passN (P:=P) (w:=w)) (pa_cons (pv 0) pa_nil))) (by rfl) rfl (by decide +kernel) (by exact⟨rfl,trivial⟩) (by rfl) (by exact LkL.ok ⟨⟨rfl,Or.inl rfl,rfl,Or.inl rfl⟩,trivial⟩)
   (fun _ _ _=>pg_name (i:=0) nd2 rfl (Or.inl rfl)) (fun _ _ _=>pts_one (pt_cmpR (op_notInDK K hr.around rfl rfl) (pv 0) (pv 1) (by rfl))) (fun _ _ _=>pv 0)) po_none (po_some (pv 1)))),?_⟩
  refine⟨_,rfl,a,ns,rfl,hS,fun _=>⟨tb,fun zs D1 H1 g1 tb1 gD hp hs=>⟨D1,rfl,⟨_,SqL.of gD⟩,fun D hD=>?_⟩⟩,fun h=>absurd ht h⟩
  have hzl:zs.length=ns.length:=by rw[hp.length_eq,rng_len]
  have hpa1:=Grow.sqL g1 tb hpa
  refine comp_list (K:=K) (a:=D1) (D:=D) (ys:=zs.map V.int) (fun i xs σ' H'=>(∃ v,σ'=[v,some (.ref pa)])/\Same H1 H'/\H' D=some (.lst xs)/\xs=(outOf ps (zs.take i)).map V.int) ⟨⟨none,rfl⟩,same_upd hD,upd_same,rfl⟩ (by rw[List.length_map];omega)
   (fun i xs σ' H' hi ⟨_, s6, h6, e6⟩ => ⟨SqL.of (s6 _ _ gD), h6, by
    rw[e6,List.length_map]
    have:=List.length_filter_le (fun x=>!decide (x∈ps)) (zs.take i)
    rw[List.length_take]at this
    unfold outOf
    omega⟩) ?_ ?_
  ·rintro i xs x σ' H' N kN hx ⟨⟨v,rfl⟩,s6,h6,rfl⟩
   obtain⟨z,hz,rfl⟩:=int_get hx
   refine gName_to ?_
   refine⟨_,rfl,_,rfl,notin_ints hun (.inl (s6.seq hpa1)) ⟨_,rfl,?_⟩⟩
   have et:outOf ps (zs.take (i+1))=outOf ps (zs.take i)++outOf ps [z]:=by
    unfold outOf
    rw[List.take_add_one,hz,Option.toList_some,List.filter_append]
   by_cases hm:z∈ps
   ·rw[decide_eq_true hm]
    refine iteF ?_
    refine kN _ _ _ ⟨⟨_,rfl⟩,s6,h6,?_⟩
    have e0:outOf ps [z]=[]:=by unfold outOf;rw[List.filter_cons_of_neg (by rw[decide_eq_true hm];decide)];rfl
    rw[et,e0,List.append_nil]
   ·rw[decide_eq_false hm]
    refine iteT ?_
    refine⟨_,rfl,h6,kN _ _ _ ⟨⟨_,rfl⟩,s6.upd hD,upd_same,?_⟩⟩
    have e0:outOf ps [z]=[z]:=by unfold outOf;rw[List.filter_cons_of_pos (by rw[decide_eq_false hm];decide)];rfl
    rw[et,e0,List.map_append]
    rfl
  ·rintro xs σ' H3 ⟨⟨v,rfl⟩,s6,h6,rfl⟩
   rw[List.take_of_length_le (by rw[List.length_map];exact Nat.le_refl _)]at h6
   refine⟨_,rfl,_,rfl,D,_,rfl,SqL.of h6,fun l hl=>?_⟩
   rw[cut_ints_to]
   have s7:=s6.trans (same_upd (o:=.lst (((outOf ps zs).take k).map V.int)) hl)
   exact q zs l _ (g1.trans (s7.grow PT)) (tb1.same s7) (grow_free (g1.trans (s6.grow PT)) (tb1.same s6) hl) hp hs upd_same
theorem scChk:FnScope ["places","number"] ["places","number"] (defScope sChk):=⟨rfl,rfl,rfl,by decide +kernel,rfl,by decide +kernel,by decide +kernel⟩
def isPl (n:Nat)(a:Int):Prop:=0<=a/\a<n
def spChkX (CN:Addr):Sp:=fun vs H Q E=>∃ (n:Nat) (a:Int),vs=[.int n,.int a]/\(isPl n a->Q .non H)/\(¬ isPl n a->E (.ref CN) none H)
theorem ok_chkX {f fI CN:Addr}{fd fdI:FuncData}(F:Fun K "check_place" "check_place" sChk f fd)(FI:Fun K "is_place" "is_place" sIsP fI fdI)(bI:Binds K fdI ["places","number"] [])(mI:mg "is_place"=some (.ref fI))
  (mN:mg "NoPlace"=some (.ref CN))(cN:ExcC K CN):FnOk P w K mg base (CXE P w) 2 f fd ["places","number"] (spChkX CN):=by
 have GI:FnOk P w K mg base CX0 1 fI fdI ["places","number"] spIsP:=ok_isP FI
 refine F.okX scChk (fun vs H Q E h=>?_) (fun cdv A outer s H vs Q E hr h=>?_)
 ·obtain⟨n,a,rfl,_⟩:=h
  rfl
 ·obtain⟨n,a,rfl,h1,h2⟩:=h
  refine⟨_,pss_one (ps_if (pt_not (pt_val (pe_call GI hr rfl mI FI.kp bI .nil pass0 (pa_cons (pv 0) (pa_cons (pv 1) pa_nil))))) (pss_one (ps_raise (by rfl) mN cN)) pss_nil),?_⟩
  refine⟨_,rfl,_,rfl,_,_,rfl,_,rfl,?_⟩
  by_cases hp:isPl n a
  ·rw[decide_eq_true hp.1,decide_eq_true hp.2]
   exact iteF (h1 hp)
  ·have e:(decide ((0:Int)<=a) && decide (a<(n:Int)))=false:=by
    rw[Bool.and_eq_false_iff]
    by_cases z:(0:Int)<=a
    ·exact .inr (decide_eq_false fun z'=>hp ⟨z,z'⟩)
    ·exact .inl (decide_eq_false z)
   rw[e]
   exact iteT (h2 hp)
def spLeft (K:W.Frag):Sp:=fun vs H Q _=>∃ (a ea:Addr) (ns es:List Int) (p:Nat),vs=[.ref a,.int p,.ref ea]/\Sq K H a ns/\ns.length<=24/\(SqL K H ea (es.map V.int)\/SqT K H ea (es.map V.int)) /\
 ∀ (l:Addr) (H':Hp),Same H H'->H l=none->H' l=some (.lst ((leftL ns p es).map V.int))->Q (.ref l) H'
theorem scLeft:FnScope ["tally","place","ends","others"] ["tally","place","ends"] (defScope sLeft):=⟨rfl,rfl,rfl,by decide +kernel,rfl,by decide +kernel,by decide +kernel⟩
theorem kept_mem {n p:Nat}{z:Int}(h:z∈keptN n p):∃ j:Nat,z=(j:Int)/\j<n:=by
 obtain⟨j,hj,rfl⟩:=List.mem_map.mp h
 exact⟨j,rfl,List.mem_range.mp (List.mem_filter.mp hj).1⟩
theorem kept_left (ns es:List Int)(p:Nat):(keptN ns.length p).map (fun z=>less1 ns es z.toNat)=leftL ns p es:=by
 unfold keptN leftL
 rw[List.map_map]
 refine List.map_congr_left fun j _=>?_
 show less1 ns es (j:Int).toNat=_
 rw[Int.toNat_natCast]
set_option maxHeartbeats 1000000 in
theorem ok_left {f:Addr} {fd:FuncData} (F:Fun K "left_of_others" "left_of_others" sLeft f fd) (B:Bn mg):FnOk P w K mg base CX0 1 f fd ["tally","place","ends"] (spLeft K):=by
 refine F.ok scLeft (fun vs H Q E h=>?_) (fun cdv A outer s H vs Q E hr h=>?_)
 ·obtain⟨a,ea,ns,es,p,rfl,_⟩:=h
  rfl
 ·obtain⟨a,ea,ns,es,p,rfl,hS,hn,hea,q⟩:=h
  have hsl:=sl1000
  have hun:=hr.units
  have nd2:(["one","place"]:List Str).Nodup:=by decide +kernel
  have nd3:(["one","tally","ends"]:List Str).Nodup:=by decide +kernel
  refine⟨_,pss_cons (ps_setC (i:=3) scLeft.nd rfl rfl (by rfl) (N':=["one","place"]) (lk:=[none,some 1]) rfl (pi_range1 rfl B.range (pa_cons (pe_callB call_len_seq (by rfl) B.len PySem.boot_len (pa_cons (pv 0) pa_nil)) pa_nil)) (by rfl) rfl (by decide +kernel) (by exact⟨rfl,trivial⟩) (by rfl) (by exact LkL.ok ⟨⟨rfl,Or.inl rfl,rfl,Or.inl rfl⟩,trivial⟩)
     (fun _ _ _=>pg_name (i:=0) nd2 rfl (Or.inl rfl)) (fun _ _ _=>pts_one (pt_cmpR op_ne (pv 0) (pv 1) (nomark _))) (fun _ _ _=>pv 0))
   (pss_one (ps_ret (pe_comp (N':=["one","tally","ends"]) (lk:=[none,some 0,some 2]) rfl (pi_list (pv 3)) (by rfl) rfl (by decide +kernel) (by exact⟨rfl,rfl,trivial⟩) (by rfl) (by exact LkL.ok ⟨⟨rfl,Or.inl rfl,rfl,Or.inl rfl⟩,⟨rfl,Or.inl rfl,rfl,Or.inl rfl⟩,trivial⟩)
     (fun _ _ _=>pg_name (i:=0) nd3 rfl (Or.inl rfl)) (fun _ _ _=>pts_nil) (fun _ _ _=>pe_ifExp (pt_cmpR (op_inDK K hr.around rfl rfl) (pv 0) (pv 2) (by rfl)) (pe_op op_sub (pe_ixSK K rfl (pv 1) (pv 0) (fun _ _=>rfl)) pe_int) (pe_ixSK K rfl (pv 1) (pv 0) (fun _ _=>rfl)))))),?_⟩
  refine⟨_,rfl,a,_,rfl,hS,(ns.length:Int),congrArg (fun z:Nat=>[V.int (z:Int)]) (List.length_map ..),by omega,by omega,fun D hD=>?_⟩
  rw[Int.toNat_natCast]
  refine comp_range (lo:=0) (n:=ns.length) (D:=D) (fun i xs σ' H'=>(∃ v,σ'=[v,some (.int p)])/\Same H H'/\H' D=some (.lst xs)/\xs=(keptN i p).map V.int) ⟨⟨none,rfl⟩,same_upd hD,upd_same,rfl⟩ (by omega)
   (fun i xs σ' H' hi ⟨_, s6, h6, e6⟩ => ⟨h6, by
    rw[e6,List.length_map]
    unfold keptN
    rw[List.length_map]
    have:=List.length_filter_le (fun j=>decide (j≠p)) (List.range i)
    rw[List.length_range]at this
    exact this⟩) ?_ ?_
  ·rintro i xs σ' H' N kN hi ⟨⟨v,rfl⟩,s6,h6,rfl⟩
   have e0:((0:Int)+(i:Int))=(i:Int):=by omega
   rw[e0]
   refine gName_to ?_
   refine⟨_,rfl,_,rfl,rfl,_,rfl,?_⟩
   have et:keptN (i+1) p=keptN i p++(if i=p then [] else [(i:Int)]):=by
    unfold keptN
    rw[List.range_succ,List.filter_append,List.map_append]
    congr 1
    by_cases h:i=p<;>simp[h]
   by_cases hm:i=p
   ·refine iteNS (by rw[hm]) ?_
    refine kN _ _ _ ⟨⟨_,rfl⟩,s6,h6,?_⟩
    rw[et,if_pos hm,List.append_nil]
   ·rw[decide_eq_false (show ¬ (V.int (i:Int)=V.int (p:Int)) from fun z=>hm (by injection z;omega))]
    refine iteT ?_
    refine⟨_,rfl,h6,kN _ _ _ ⟨⟨_,rfl⟩,s6.upd hD,upd_same,?_⟩⟩
    rw[et,if_neg hm,List.map_append]
    rfl
  ·rintro xs σ' H3 ⟨⟨v,rfl⟩,s6,h6,rfl⟩
   have hkl:(keptN ns.length p).length<=24:=by
    unfold keptN
    rw[List.length_map]
    have:=List.length_filter_le (fun j=>decide (j≠p)) (List.range ns.length)
    rw[List.length_range]at this
    omega
   refine⟨_,rfl,D,rfl,⟨_,SqL.of h6⟩,fun D2 hD2=>?_⟩
   have hS3:=hS.same s6
   have hea3:SqL K H3 ea (es.map V.int)\/SqT K H3 ea (es.map V.int):=hea.elim (fun h=>.inl (s6.seq h)) fun h=>.inr (s6.seqT h)
   refine comp_list (K:=K) (a:=D) (D:=D2) (ys:=(keptN ns.length p).map V.int) (fun i xs σ' H'=>(∃ v,σ'=[v,some (.ref a),some (.ref ea)])/\Same H3 H'/\H' D2=some (.lst xs)/\xs=(((keptN ns.length p).take i).map fun z=>less1 ns es z.toNat).map V.int) ⟨⟨none,rfl⟩,same_upd hD2,upd_same,rfl⟩ (by rw[List.length_map];omega)
    (fun i xs σ' H' hi ⟨_,s8,h8,e8⟩=>⟨SqL.of (s8 _ _ h6),h8,by rw[e8,List.length_map,List.length_map,List.length_take];omega⟩) ?_ ?_
   ·rintro i xs x σ' H' N kN hx ⟨⟨v,rfl⟩,s8,h8,rfl⟩
    obtain⟨z,hz,rfl⟩:=int_get hx
    obtain⟨j,rfl,hj⟩:=kept_mem (List.mem_of_getElem? hz)
    refine gName_to (tTrue_if ?_)
    have fin:∀ y:Int,y=less1 ns es j->(H' D2=some (.lst ((((keptN ns.length p).take i).map fun z=>less1 ns es z.toNat).map V.int))/\N ((((keptN ns.length p).take i).map fun z=>less1 ns es z.toNat).map V.int++[.int y]) [some (.int j),some (.ref a),some (.ref ea)] (upd H' D2 (.lst ((((keptN ns.length p).take i).map fun z=>less1 ns es z.toNat).map V.int++[.int y])))):=fun y ey=>by
     refine⟨h8,kN _ _ _ ⟨⟨_,rfl⟩,s8.upd hD2,upd_same,?_⟩⟩
     rw[List.take_add_one,hz,List.map_append,List.map_append,ey]
     rfl
    refine⟨_,rfl,_,rfl,in_ints hun (hea3.elim (fun h=>.inl (s8.seq h)) fun h=>.inr (s8.seqT h)) ⟨_,rfl,?_⟩⟩
    by_cases hm:(j:Int)∈es
    ·rw[decide_eq_true hm]
     refine iteT ⟨_,rfl,_,rfl,ix_sq (hS3.same s8) hj ⟨_,_,rfl,rfl,fin _ ?_⟩⟩
     unfold less1
     rw[if_pos hm]
    ·rw[decide_eq_false hm]
     refine iteF ⟨_,rfl,_,rfl,ix_sq (hS3.same s8) hj (fin _ ?_)⟩
     unfold less1
     rw[if_neg hm]
   ·rintro xs σ' H4 ⟨⟨v,rfl⟩,s8,h8,rfl⟩
    rw[List.take_of_length_le (by rw[List.length_map];exact Nat.le_refl _),kept_left]at h8
    exact q D2 H4 (s6.trans s8) (s6.free hD2) h8
end
theorem set_map_int (ns:List Int)(j:Nat)(v:Int):(ns.map V.int).set j (.int v)=(ns.set j v).map V.int:=by rw[List.map_set]
theorem rep0 (n:Nat):(List.replicate n [V.int 0]).flatten=(tal n []).map V.int:=by
 rw[tal_nil,List.map_replicate]
 induction n with
 | zero=>rfl
 | succ n ih=>rw[List.replicate_succ,List.flatten_cons,ih,List.replicate_succ];rfl
theorem pairs_half:∀ n:Nat,n<25->(n:Int)*((n:Int) - 1) / 2=((pairsN n).length:Int):=by decide +kernel
theorem five_of (a b c d e z:Int)(h:0<=z/\z<5):∃ v:Int,atI ([.int a,.int b,.int c,.int d,.int e]:List V) z=some (.int v):=by
 have:z=0\/z=1\/z=2\/z=3\/z=4:=by omega
 rcases this with h | h | h | h | h
 ·rw[h];exact⟨a,atI_nat (j:=0) rfl⟩
 ·rw[h];exact⟨b,atI_nat (j:=1) rfl⟩
 ·rw[h];exact⟨c,atI_nat (j:=2) rfl⟩
 ·rw[h];exact⟨d,atI_nat (j:=3) rfl⟩
 ·rw[h];exact⟨e,atI_nat (j:=4) rfl⟩
theorem mod_nat (c:Int){n:Nat}(h:0<n):∃ j:Nat,c % (n:Int)=(j:Int)/\j<n:=by
 have h1:=Int.emod_nonneg c (show (n:Int)≠0 by omega)
 have h2:=Int.emod_lt_of_pos c (show (0:Int)<(n:Int) by omega)
 exact⟨(c % (n:Int)).toNat,by omega,by omega⟩
section
variable {P:Program} {w:World} {K:W.Frag} {mg:Str->Option Value} {base:Heap}
def spRow (K:W.Frag):Sp:=fun vs H Q _=>∃ (c:Int) (m z:Nat),vs=[.int c,.int m,.int z]/\m<=300/\1<=z/\z<=100/\∀ (l:Addr) (ts:List Int) (H':Hp),ts.length=m->Same H H'->H l=none->H' l=some (.lst (ts.map V.int))->Q (.ref l) H'
theorem scRow:FnScope ["cell","many","size","told","rest","k","mark"] ["cell","many","size"] (defScope sRow):=⟨rfl,rfl,rfl,by decide +kernel,rfl,by decide +kernel,by decide +kernel⟩
theorem ok_row {f:Addr} {fd:FuncData} (F:Fun K "_law_row" "_law_row" sRow f fd) (B:Bn mg):FnOk P w K mg base CX0 1 f fd ["cell","many","size"] (spRow K):=by
 refine F.ok scRow (fun vs H Q E h=>?_) (fun cdv A outer s H vs Q E hr h=>?_)
 ·obtain⟨c,m,z,rfl,_⟩:=h
  rfl
 ·obtain⟨c,m,z,rfl,hm,hz1,hz2,q⟩:=h
  have hsl:=sl1000
  have hz0:(0:Int)<(z:Int):=by omega
  refine⟨_,pss_cons (ps_set (i:=3) scRow.nd rfl (Or.inl rfl) (pe_lst pa_nil))
   (pss_cons (ps_set (i:=4) scRow.nd rfl (Or.inl rfl) (pe_op op_fdiv (pv 0) pe_int))
   (pss_cons (ps_for PassesOwn.never rfl (pi_range1 rfl B.range (pa_cons (pv 1) pa_nil)) (pg_name (i := 5) scRow.nd rfl (Or.inl rfl))
    (pss_one (ps_if (pt_cmpR op_eq (pe_op op_mod (pv 0) pe_int) pe_int (nomark _))
     (pss_cons (ps_expr (pe_bm PySem.F.plainAttrs_list PySem.F.slot_list_append PySem.F.type_list_append mt_append (pv 3) (pa_cons (pe_op op_mod (pv 4) (pv 2)) pa_nil)))
     (pss_one (ps_set (i:=4) scRow.nd rfl (Or.inl rfl) (pe_op op_fdiv (pv 4) (pv 2)))))
     (pss_cons (ps_set (i:=6) scRow.nd rfl (Or.inl rfl) (pe_op op_mod (pe_op op_add (pe_op op_add (pv 4) (pe_op op_mul pe_int (pv 5))) pe_int) pe_int))
     (pss_cons (ps_set (i:=6) scRow.nd rfl (Or.inl rfl) (pe_op op_mod (pe_op op_mul (pe_op op_mod (pe_op op_mul (pv 6) (pv 6)) pe_int) pe_int) pe_int))
     (pss_one (ps_expr (pe_bm PySem.F.plainAttrs_list PySem.F.slot_list_append PySem.F.type_list_append mt_append (pv 3) (pa_cons (pe_op op_mod (pe_op op_fdiv (pv 6) pe_int) (pv 2)) pa_nil)))))))))
   (pss_one (ps_ret (pv 3))))),?_⟩
  refine⟨by show 0<=sizeLine;omega,fun l hl=>?_⟩
  have s0:=same_upd (o:=.lst []) hl
  refine⟨_,rfl,_,_,rfl,rfl,⟨by decide,by decide⟩,?_⟩
  refine gName_int fun r0 _=>?_
  refine⟨_,rfl,m,rfl,by omega,by omega,for_range (lo:=0) (n:=m) (fun i σ H1=>∃ (ts:List Int) (r:Int) (e5 e6:Option V),σ=[some (.int c),some (.int m),some (.int z),some (.ref l),some (.int r),e5,e6]/\Same H H1/\H1 l=some (.lst (ts.map V.int))/\ts.length=i)
   ⟨[],r0,none,none,rfl,s0,upd_same,rfl⟩ ?_ ?_⟩
  ·rintro i σ H1 hi ⟨ts,r,e5,e6,rfl,s1,g1,hl1⟩
   have e0:((0:Int)+(i:Int))=(i:Int):=by omega
   rw[e0]
   refine gName_to ?_
   refine⟨_,rfl,_,_,rfl,rfl,(by show (0:Int)<2;decide),rfl,_,rfl,?_⟩
   refine ite2 (fun h=>?_) (fun h=>?_)
   ·refine⟨_,rfl,.inl ⟨rfl,_,SqL.of g1⟩,_,rfl,_,rfl,_,_,rfl,rfl,hz0,l,_,_,rfl,rfl,g1,by rw[List.length_map];omega,?_⟩
    refine⟨_,rfl,_,rfl,_,_,rfl,rfl,⟨hz0,by omega⟩,?_⟩
    exact⟨ts++[r % (z:Int)],_,_,_,rfl,s1.upd hl,by rw[upd_same,List.map_append];rfl,by rw[List.length_append,hl1];rfl⟩
   ·refine⟨_,rfl,_,rfl,_,_,rfl,rfl,.inl ⟨by decide,by decide⟩,_,_,rfl,rfl,_,_,rfl,rfl,_,_,rfl,rfl,(by show (0:Int)<2147483647;decide),?_⟩
    refine gName_int fun k1 hk1=>?_
    have k10:0<=k1:=by rw[hk1];exact Int.emod_nonneg _ (by decide)
    have k11:k1<2147483647:=by rw[hk1];exact Int.emod_lt_of_pos _ (by decide)
    clear hk1
    refine⟨_,rfl,_,rfl,_,_,rfl,rfl,.inl ⟨by omega,by omega⟩,_,_,rfl,rfl,(by show (0:Int)<1000000007;decide),_,_,rfl,rfl,.inr ⟨by decide,by decide⟩,_,_,rfl,rfl,(by show (0:Int)<998244353;decide),?_⟩
    refine gName_int fun k2 _=>?_
    refine⟨_,rfl,.inl ⟨rfl,_,SqL.of g1⟩,_,rfl,_,_,rfl,rfl,⟨by decide,by decide⟩,_,rfl,_,_,rfl,rfl,hz0,l,_,_,rfl,rfl,g1,by rw[List.length_map];omega,?_⟩
    exact⟨ts++[k2 / 8 % (z:Int)],_,_,_,rfl,s1.upd hl,by rw[upd_same,List.map_append];rfl,by rw[List.length_append,hl1];rfl⟩
  ·rintro σ H1 ⟨ts,r,e5,e6,rfl,s1,g1,hl1⟩
   exact⟨_,rfl,q l ts H1 hl1 s1 hl g1⟩
def spTies (K:W.Frag):Sp:=fun vs H Q _=>∃ (n:Nat) (c:Int),vs=[.int n,.int c]/\n<=24/\∀ (l:Addr) (zs:List V) (ks:List (List Int)) (H':Hp),Same H H'->H l=none->H' l=some (.lst zs)->Tups K H' zs ks->ks.Sublist (pairsN n)->Q (.ref l) H'
theorem scTies:FnScope ["places","cell","marks","ties","k","one","other"] ["places","cell"] (defScope sTies):=⟨rfl,rfl,rfl,by decide +kernel,rfl,by decide +kernel,by decide +kernel⟩
set_option maxHeartbeats 1000000 in
theorem ok_ties {f fR:Addr} {fd fdR:FuncData} (F:Fun K "_law_ties" "_law_ties" sTies f fd) (B:Bn mg) (FR:Fun K "_law_row" "_law_row" sRow fR fdR) (bR:Binds K fdR ["cell","many","size"] []) (mR:mg "_law_row"=some (.ref fR)):FnOk P w K mg base CX0 2 f fd ["places","cell"] (spTies K):=by
 have GR:FnOk P w K mg base CX0 1 fR fdR ["cell","many","size"] (spRow K):=ok_row FR B
 refine F.ok scTies (fun vs H Q E h=>?_) (fun cdv A outer s H vs Q E hr h=>?_)
 ·obtain⟨n,c,rfl,_⟩:=h
  rfl
 ·obtain⟨n,c,rfl,hn,q⟩:=h
  have hsl:=sl1000
  have hlen:=len_pairs n hn
  refine⟨_,pss_cons (ps_set (i:=2) scTies.nd rfl (Or.inl rfl) (pe_call GR hr (by rfl) mR FR.kp bR .nil pass0 (pa_cons (pv 1) (pa_cons (pe_op op_fdiv (pe_op op_mul (pv 0) (pe_op op_sub (pv 0) pe_int)) pe_int) (pa_cons pe_int pa_nil)))))
   (pss_cons (ps_set (i:=3) scTies.nd rfl (Or.inl rfl) (pe_lst pa_nil))
   (pss_cons (ps_set (i:=4) scTies.nd rfl (Or.inl rfl) pe_int)
   (pss_cons (ps_for PassesOwn.never rfl (pi_range1 rfl B.range (pa_cons (pv 0) pa_nil)) (pg_name (i := 5) scTies.nd rfl (Or.inl rfl))
    (pss_one (ps_for PassesOwn.never rfl (pi_range2 rfl B.range (pa_cons (pe_op op_add (pv 5) pe_int) (pa_cons (pv 0) pa_nil))) (pg_name (i := 6) scTies.nd rfl (Or.inl rfl))
     (pss_cons (ps_if (pt_cmpR op_eq (pe_ix ix_list (pv 2) (pv 4) (fun _ _ => rfl)) pe_int (nomark _))
      (pss_one (ps_expr (pe_bm PySem.F.plainAttrs_list PySem.F.slot_list_append PySem.F.type_list_append mt_append (pv 3) (pa_cons (pe_tup (pa_cons (pv 5) (pa_cons (pv 6) pa_nil))) pa_nil)))) pss_nil)
     (pss_one (ps_set (i:=4) scTies.nd rfl (Or.inl rfl) (pe_op op_add (pv 4) pe_int)))))))
   (pss_one (ps_ret (pv 3)))))),?_⟩
  have eh:=pairs_half n (by omega)
  refine⟨_,rfl,_,rfl,_,rfl,_,_,rfl,rfl,_,_,rfl,rfl,.inl ⟨by omega,by omega⟩,_,_,rfl,rfl,⟨by decide,by decide⟩,c,(pairsN n).length,2,congrArg (fun z:Int=>[V.int c,.int z,.int 2]) eh,by omega,by decide,by decide,fun ml ms H1 hml s1 fml g1=>?_⟩
  refine⟨by show 0<=sizeLine;omega,fun l hl=>?_⟩
  have hl0:H l=none:=s1.free hl
  have s2:=s1.trans (same_upd (o:=.lst []) hl)
  have nml:ml≠l:=ne_of_none g1 hl
  have g2:(upd H1 l (.lst [])) ml=some (.lst (ms.map V.int)):=by rw[upd_ne nml];exact g1
  refine⟨_,rfl,n,rfl,by omega,by omega,for_range (lo:=0) (n:=n) (fun i σ H2=>∃ (zs:List V) (ks:List (List Int)) (e5 e6:Option V),σ=[some (.int n),some (.int c),some (.ref ml),some (.ref l),some (.int (((List.range i).flatMap fun j=>rowF j (n - (j+1))).length:Int)),e5,e6]/\Same H H2/\H2 ml=some (.lst (ms.map V.int))/\H2 l=some (.lst zs)/\Tups K H2 zs ks/\ks.Sublist ((List.range i).flatMap fun j=>rowF j (n - (j+1))))
   ⟨[],[],none,none,rfl,s2,g2,upd_same,.nil,List.nil_sublist _⟩ ?_ ?_⟩
  ·rintro i σ H2 hi ⟨zs,ks,e5,e6,rfl,sa,ga,gl,tz,hsub⟩
   have e0:((0:Int)+(i:Int))=(i:Int):=by omega
   rw[e0]
   have hpart:=len_part n (i+1) (by omega)
   rw[pairs_succ,List.length_append]at hpart
   have hrow:∀ m,(rowF i m).length=m:=fun m=>by simp[rowF]
   rw[hrow]at hpart
   generalize hb:((List.range i).flatMap fun j=>rowF j (n - (j+1)))=bs at hpart hsub
   refine gName_to ?_
   refine⟨_,rfl,_,_,rfl,rfl,_,rfl,_,_,rfl,⟨by omega,by omega,by omega,by omega⟩,?_⟩
   rw[show ((n:Int) - ((i:Int)+1)).toNat=n - (i+1) by omega]
   refine for_range (lo:=(i:Int)+1) (n:=n - (i+1)) (fun d σ H3=>∃ (zs:List V) (ks:List (List Int)) (e6:Option V),σ=[some (.int n),some (.int c),some (.ref ml),some (.ref l),some (.int ((bs.length:Int)+(d:Int))),some (.int i),e6]/\Same H H3/\H3 ml=some (.lst (ms.map V.int))/\H3 l=some (.lst zs)/\Tups K H3 zs ks/\ks.Sublist (bs++rowF i d))
    ⟨zs,ks,e6,by rw[show (bs.length:Int)+((0:Nat):Int)=(bs.length:Int) by omega];rfl,sa,ga,gl,tz,by simpa [rowF] using hsub⟩ ?_ ?_
   ·rintro d σ H3 hd ⟨zs,ks,e6,rfl,sb,gb,gl3,tz3,hsub3⟩
    have hzl:=tz3.len
    have hkl:=hsub3.length_le
    rw[List.length_append,hrow]at hkl
    have hat:atI (ms.map V.int) ((bs.length:Int)+(d:Int))=some (.int (ms.getD (bs.length+d) 0)):=by
     rw[show (bs.length:Int)+(d:Int)=((bs.length+d:Nat):Int) by omega]
     exact at_int (by omega)
    refine gName_to ?_
    refine⟨_,rfl,_,rfl,ml,_,_,_,rfl,rfl,SqL.of gb,hat,rfl,_,rfl,?_⟩
    refine ite2 (fun h=>?_) (fun h=>?_)
    ·refine⟨_,rfl,.inl ⟨rfl,_,SqL.of gl3⟩,_,rfl,_,rfl,(by show 2<=sizeLine;decide),fun p hp=>?_⟩
     have s4:=same_upd (o:=.tup [.int (i:Int),.int ((i:Int)+1+(d:Int))]) hp
     refine⟨l,zs,_,rfl,rfl,s4 _ _ gl3,by omega,?_⟩
     refine⟨_,rfl,_,_,rfl,rfl,?_⟩
     refine⟨_,ks++[[(i:Int),(i:Int)+1+(d:Int)]],_,by rw[show (bs.length:Int)+((d+1:Nat):Int)=(bs.length:Int)+(d:Int)+1 by omega];rfl,(sb.trans s4).upd hl0,by rw[upd_ne nml];exact s4 _ _ gb,upd_same,Tups.updL (s4 _ _ gl3) (Tups.append (s4.tups tz3) (Tups.one (SqT.of upd_same))),?_⟩
     rw[rowF_succ,<- List.append_assoc]
     exact hsub3.append (List.Sublist.refl _)
    ·refine⟨_,rfl,_,_,rfl,rfl,?_⟩
     refine⟨zs,ks,_,by rw[show (bs.length:Int)+((d+1:Nat):Int)=(bs.length:Int)+(d:Int)+1 by omega];rfl,sb,gb,gl3,tz3,?_⟩
     rw[rowF_succ,<- List.append_assoc]
     exact hsub3.trans (List.sublist_append_left _ _)
   ·rintro σ H3 ⟨zs,ks,e6,rfl,sb,gb,gl3,tz3,hsub3⟩
    refine⟨zs,ks,some (.int i),e6,?_,sb,gb,gl3,tz3,?_⟩
    ·rw[pairs_succ,hb,List.length_append,hrow]
     rw[show (((bs.length+(n - (i+1)):Nat)):Int)=(bs.length:Int)+((n - (i+1):Nat):Int) by omega]
    ·rw[pairs_succ,hb];exact hsub3
  ·rintro σ H2 ⟨zs,ks,e5,e6,rfl,sa,ga,gl,tz,hsub⟩
   exact⟨_,rfl,q l zs ks H2 sa hl0 gl tz hsub⟩
def spSums (K:W.Frag):Sp:=fun vs H Q _=>∃ (n:Nat) (a:Addr) (ys:List V) (ks:List (List Int)),vs=[.int n,.ref a]/\n<=24/\SqL K H a ys/\Tups K H ys ks/\(∀ k∈ks,Ends2 n k)/\∀ (l:Addr) (H':Hp),Same H H'->H l=none->H' l=some (.lst ((tal n ks).map V.int))->Q (.ref l) H'
theorem scSums:FnScope ["places","ties","told","one","other"] ["places","ties"] (defScope sSums):=⟨rfl,rfl,rfl,by decide +kernel,rfl,by decide +kernel,by decide +kernel⟩
theorem ok_sums {f:Addr} {fd:FuncData} (F:Fun K "_law_sums" "_law_sums" sSums f fd):FnOk P w K mg base CX0 1 f fd ["places","ties"] (spSums K):=by
 refine F.ok scSums (fun vs H Q E h=>?_) (fun cdv A outer s H vs Q E hr h=>?_)
 ·obtain⟨n,a,ys,ks,rfl,_⟩:=h
  rfl
 ·obtain⟨n,a,ys,ks,rfl,hn,h2,h3,hE,q⟩:=h
  have hsl:=sl1000
  refine⟨_,pss_cons (ps_set (i:=2) scSums.nd rfl (Or.inl rfl) (pe_op op_rep (pe_lst (pa_cons pe_int pa_nil)) (pv 0)))
   (pss_cons (ps_for PassesOwn.never rfl (pi_list (pv 1)) (pg_tup rfl (pgs_cons (pg_name (i := 3) scSums.nd rfl (Or.inl rfl)) (pgs_cons (pg_name (i := 4) scSums.nd rfl (Or.inl rfl)) pgs_nil)))
    (pss_cons (ps_asg (pe_op op_add (pe_ix ix_list (pv 2) (pv 3) (fun _ _=>rfl)) pe_int) (pg_sub (pv 2) (pv 3) set_list)) (pss_one (ps_asg (pe_op op_add (pe_ix ix_list (pv 2) (pv 4) (fun _ _=>rfl)) pe_int) (pg_sub (pv 2) (pv 4) set_list)))))
   (pss_one (ps_ret (pv 2)))),?_⟩
  refine⟨(by show 1<=sizeLine;decide),fun l0 f0=>?_⟩
  have s0:=same_upd (o:=.lst [.int 0]) f0
  refine⟨_,rfl,l0,n,[.int 0],rfl,rfl,upd_same,by omega,by omega,?_,fun l hl=>?_⟩
  ·show 1*(n:Int).toNat<=sizeLine
   omega
  rw[Int.toNat_natCast,rep0]
  have s1:=s0.trans (same_upd (o:=.lst ((tal n []).map V.int)) hl)
  have g1:(upd (upd H l0 (.lst [.int 0])) l (.lst ((tal n []).map V.int))) l=some (.lst ((tal n []).map V.int)):=upd_same
  have fl:H l=none:=s0.free hl
  generalize upd (upd H l0 (.lst [.int 0])) l (.lst ((tal n []).map V.int))=H1 at s1 g1 ⊢
  have hz:=h3.len
  refine⟨_,rfl,a,rfl,⟨_,s1.seq h2⟩,?_⟩
  refine for_list (K:=K) (a:=a) (xs:=ys) (fun i σ H2=>∃ ea eb,σ=[some (.int n),some (.ref a),some (.ref l),ea,eb]/\Same H H2/\H2 l=some (.lst ((tal n (ks.take i)).map V.int))) ⟨none,none,rfl,s1,by rw[List.take_zero];exact g1⟩ (fun i σ H2 _ ⟨_,_,_,s2,_⟩=>s2.seq h2) ?_ ?_
  ·rintro i x σ H2 hx ⟨ea,eb,rfl,s2,g2⟩
   obtain⟨pa,pk,rfl,hk,hq⟩:=h3.get hx
   obtain⟨i1,j1,u1,u2,u3,epk⟩:=hE pk (List.mem_of_getElem? hk)
   have hq2:=s2.seqT hq
   rw[epk]at hq2
   refine⟨pa,_,rfl,hq2,rfl,_,_,rfl,_,_,rfl,rfl,?_⟩
   have t1:((tal n (ks.take i)).map V.int)[i1]?=some (.int (cntP (ks.take i) i1)):=by rw[List.getElem?_map,tal_get u1];rfl
   have t2:(((tal n (ks.take i)).map V.int).set i1 (.int ((cntP (ks.take i) i1:Int)+1)))[j1]?=some (.int (cntP (ks.take i) j1)):=by
    rw[List.getElem?_set_ne u3,List.getElem?_map,tal_get u2];rfl
   have lt:((tal n (ks.take i)).map V.int).length=n:=by rw[List.length_map,tal_len]
   refine⟨_,rfl,_,rfl,l,_,_,_,rfl,rfl,SqL.of g2,atI_nat t1,_,_,rfl,rfl,_,rfl,_,rfl,l,_,_,i1,rfl,rfl,g2,by rw[lt];exact ixN_nat u1,?_⟩
   refine⟨_,rfl,_,rfl,l,_,_,_,rfl,rfl,SqL.of upd_same,atI_nat t2,_,_,rfl,rfl,_,rfl,_,rfl,l,_,_,j1,rfl,rfl,upd_same,by rw[List.length_set,lt];exact ixN_nat u2,?_⟩
   refine⟨_,_,rfl,?_,?_⟩
   ·rw[upd_upd]
    exact s2.upd fl
   ·rw[upd_same,List.take_add_one,hk,Option.toList_some,epk,<- tal_put u1 u2 u3 (ks.take i) _ _ rfl rfl,List.map_set,List.map_set]
  ·rintro σ H2 ⟨ea,eb,rfl,s2,g2⟩
   rw[List.take_of_length_le (by omega)]at g2
   exact⟨_,rfl,q l H2 s2 fl g2⟩
end
section
variable {P:Program} {w:World} {K:W.Frag} {mg:Str->Option Value} {base:Heap}
def spFall (K:W.Frag):Sp:=fun vs H Q _=>∃ (a:Addr) (ns:List Int),vs=[.ref a]/\Sq K H a ns/\ns.length<64/\∀ (l:Addr) (H':Hp),Same H H'->H l=none->H' l=some (.lst ((up2 ns).reverse.map V.int))->Q (.ref l) H'
theorem scFall:FnScope ["tally"] ["tally"] (defScope sFall):=⟨rfl,rfl,rfl,by decide +kernel,rfl,by decide +kernel,by decide +kernel⟩
theorem ok_fall {f:Addr}{fd:FuncData}(F:Fun K "falling" "falling" sFall f fd)(B:Bn mg):FnOk P w K mg base CX0 1 f fd ["tally"] (spFall K):=by
 refine F.ok scFall (fun vs H Q E h=>?_) (fun cdv A outer s H vs Q E hr h=>?_)
 ·obtain⟨a,ns,rfl,_⟩:=h
  rfl
 ·obtain⟨a,ns,rfl,hS,h64,q⟩:=h
  refine⟨_,pss_one (ps_ret (pe_sortR K rfl (by rfl) B.sorted (pa_cons (pv 0) pa_nil))),?_⟩
  refine⟨_,rfl,a,ns,rfl,hS,h64,fun l zs hl hp hs=>?_⟩
  rw[fall_eq hp hs]
  exact q l _ (same_upd hl) hl upd_same
def spAmong (K:W.Frag):Sp:=fun vs H Q _=>∃ (a:Addr) (ns:List Int) (M r:Nat),vs=[.ref a,.int M,.int r]/\SqL K H a ((up2 ns).reverse.map V.int)/\M<=1000000/\r<=100/\ns.length<64/\∀ (H':Hp),Same H H'->Q (.int (roomM ns M r)) H'
theorem scAmong:FnScope ["numbers","most","r","from_others"] ["numbers","most","r"] (defScope sAmong):=⟨rfl,rfl,rfl,by decide +kernel,rfl,by decide +kernel,by decide +kernel⟩
theorem ok_among {f:Addr} {fd:FuncData} (F:Fun K "room_among" "room_among" sAmong f fd) (B:Bn mg):FnOk P w K mg base CX0 1 f fd ["numbers","most","r"] (spAmong K):=by
 refine F.ok scAmong (fun vs H Q E h=>?_) (fun cdv A outer s H vs Q E hr h=>?_)
 ·obtain⟨a,ns,M,r,rfl,_⟩:=h
  rfl
 ·obtain⟨a,ns,M,r,rfl,hS,hM,hr1,h64,q⟩:=h
  have hsl:=sl1000
  have nd2:(["number","most","r"]:List Str).Nodup:=by decide +kernel
  have hlen:(up2 ns).reverse.length=ns.length:=by rw[List.length_reverse,up2_len]
  generalize hz:(up2 ns).reverse=zs at hS hlen
  refine⟨_,pss_cons (ps_set (i:=3) scAmong.nd rfl (Or.inl rfl) (pe_callB (call_sum rfl) (by rfl) B.sum (by rfl) (pa_cons
    (pe_comp (N' := ["number", "most", "r"]) (lk := [none, some 1, some 2]) rfl (pi_list (pe_slice sl_list (pv 0) (po_some (pv 2)) po_none)) (by rfl) rfl (by decide +kernel) (by exact ⟨rfl, rfl, trivial⟩) (by rfl) (by exact LkL.ok ⟨⟨rfl, Or.inl rfl, rfl, Or.inl rfl⟩, ⟨rfl, Or.inl rfl, rfl, Or.inl rfl⟩, trivial⟩)
     (fun _ _ _=>pg_name (i:=0) nd2 rfl (Or.inl rfl)) (fun _ _ _=>pts_nil) (fun _ _ _=>pe_callB (call_min2 rfl) (by rfl) B.min (by rfl) (pa_cons (pv 0) (pa_cons (pe_op op_mul (pv 1) (pv 2)) pa_nil)))) pa_nil)))
   (pss_one (ps_ret (pe_op op_sub (pe_op op_add (pe_op op_mul (pe_op op_mul (pv 1) (pv 2)) (pe_op op_sub (pv 2) pe_int)) (pv 3)) (pe_callB (call_sum rfl) (by rfl) B.sum (by rfl) (pa_cons (pe_slice sl_list (pv 0) po_none (po_some (pv 2))) pa_nil))))),?_⟩
  refine⟨_,rfl,_,rfl,_,rfl,a,_,rfl,hS,fun c hc=>?_⟩
  rw[cut_ints_from]
  have s1:=same_upd (o:=.lst ((zs.drop r).map V.int)) hc
  refine⟨c,rfl,⟨_,SqL.of upd_same⟩,fun D hD=>comp_list (K:=K) (a:=c) (D:=D) (ys:=(zs.drop r).map V.int) (fun i xs σ' H'=>∃ v,σ'=[v,some (.int M),some (.int r)]/\Same H H'/\H' c=some (.lst ((zs.drop r).map V.int))/\xs=(((zs.drop r).take i).map (mn ((M:Int)*(r:Int)))).map V.int/\H' D=some (.lst xs))
    ⟨none,rfl,s1.trans (same_upd hD),same_upd hD _ _ upd_same,by simp,upd_same⟩ (by rw[List.length_map,List.length_drop];omega) (fun i xs σ' H' hi ⟨_,_,s3,g3,e3,h3⟩=>⟨SqL.of g3,h3,by rw[e3,List.length_map,List.length_map,List.length_take,List.length_drop];omega⟩) ?_ ?_⟩
  ·rintro i xs x σ' H' N kN hx ⟨v,rfl,s3,g3,rfl,h3⟩
   obtain⟨z,hz',rfl⟩:=int_get hx
   refine gName_to (tTrue_if ?_)
   refine⟨_,rfl,_,rfl,_,rfl,_,_,rfl,rfl,.inl ⟨by omega,by omega⟩,_,_,rfl,?_⟩
   refine⟨h3,kN _ _ _ ⟨_,rfl,s3.upd (s1.free hD),?_,?_,upd_same⟩⟩
   ·rw[upd_ne (ne_of_none upd_same hD)];exact g3
   ·rw[List.take_add_one,hz',List.map_append,List.map_append];rfl
  ·rintro xs σ' H3 ⟨v,rfl,s3,g3,rfl,h3⟩
   rw[List.take_of_length_le (by rw[List.length_map];exact Nat.le_refl _)]at h3
   refine⟨D,_,rfl,SqL.of h3,?_⟩
   refine⟨_,rfl,_,rfl,_,_,rfl,rfl,.inl ⟨by omega,by omega⟩,_,rfl,_,_,rfl,rfl,_,_,rfl,rfl,.inr ⟨by omega,by omega⟩,_,rfl,_,_,rfl,rfl,?_⟩
   refine⟨_,rfl,_,rfl,_,rfl,a,_,rfl,s3.seq hS,fun c2 hc2=>?_⟩
   rw[cut_ints_to]
   refine⟨c2,_,rfl,SqL.of upd_same,_,_,rfl,rfl,?_⟩
   have fin:=q _ (s3.trans (same_upd (o:=.lst ((zs.take r).map V.int)) hc2))
   rw[<- room_amongM (M:=M) (r:=r) hz.symm]at fin
   exact fin
end
def wlT:Wl->List V
 | .below p=>[.str "below",.int p]
 | .odd=>[.str "odd"]
 | .wall r=>[.str "wall",.int r]
 | .free=>[]
def WlAt (H:Hp)(v:V)(x:Wl):Prop:=(x=.free/\v=.non)\/(x≠.free/\∃ a,v=.ref a/\H a=some (.tup (wlT x)))
theorem int_dec {a b:Int}(h:decide (V.int a=V.int b)=true):a=b:=by
 have:=of_decide_eq_true h
 injection this
theorem int_ndec {a b:Int}(h:¬ decide (V.int a=V.int b)=true):¬ a=b:=fun e=>h (by rw[e];exact decide_eq_true rfl)
section
variable {P:Program} {w:World} {K:W.Frag} {mg:Str->Option Value} {base:Heap}
def spBelow (K:W.Frag):Sp:=fun vs H Q _=>∃ (a:Addr) (ns:List Int),vs=[.ref a]/\Sq K H a ns/\ns.length<=100/\∀ (l:Addr) (H':Hp),Same H H'->H l=none->H' l=some (.lst ((belL ns).map V.int))->Q (.ref l) H'
theorem scBelow:FnScope ["numbers"] ["numbers"] (defScope sBelow):=⟨rfl,rfl,rfl,by decide +kernel,rfl,by decide +kernel,by decide +kernel⟩
theorem ok_below {f:Addr}{fd:FuncData}(F:Fun K "places_below" "places_below" sBelow f fd)(B:Bn mg):FnOk P w K mg base CX0 1 f fd ["numbers"] (spBelow K):=by
 refine F.ok scBelow (fun vs H Q E h=>?_) (fun cdv A outer s H vs Q E hr h=>?_)
 ·obtain⟨a,ns,rfl,_⟩:=h
  rfl
 ·obtain⟨a,ns,rfl,hS,hn,q⟩:=h
  have hsl:=sl1000
  have nd2:(["place","number"]:List Str).Nodup:=by decide +kernel
  refine⟨_,pss_one (ps_ret (pe_comp (N':=["place","number"]) (lk:=[none,none]) rfl (pi_or (pi_enum (by rfl) B.enum (pa_cons (pv 0) pa_nil)) (pi_enumT (by rfl) B.enum (pa_cons (pv 0) pa_nil))) (by rfl) rfl (by decide +kernel) (by exact trivial) (by rfl) (by exact LkL.ok trivial)
     (fun _ _ _=>pg_tupK (n:=2) K rfl rfl (pgs_cons (pg_name (i:=0) nd2 rfl (Or.inl rfl)) (pgs_cons (pg_name (i:=1) nd2 rfl (Or.inl rfl)) pgs_nil))) (fun _ _ _=>pts_one (pt_cmpR op_lt (pv 1) pe_int (nomark _))) (fun _ _ _=>pv 0))),?_⟩
  refine Or.imp (fun h=>⟨_,rfl,h⟩) (fun h=>⟨_,rfl,h⟩) (comp_enumS (K:=K) (a:=a) (ys:=ns.map V.int) hS (by rw[List.length_map];omega)
   (fun D i xs σ' H'=>(∃ v u,σ'=[v,u])/\Same H H'/\H' D=some (.lst xs)/\xs=((belN ns i).map Int.ofNat).map V.int) (fun D hD=>⟨⟨none,none,rfl⟩,same_upd hD,upd_same,rfl⟩)
   (fun D i xs σ' H' hD hi ⟨_,s1,h1,e1⟩=>⟨s1,h1,by rw[e1,List.length_map,List.length_map];exact belN_len ns i⟩) ?_ ?_)
  ·rintro D i xs x t σ' H' N hD kN hx ⟨⟨v,u,rfl⟩,s1,h1,rfl⟩ ht
   obtain⟨z,hz,rfl⟩:=int_get hx
   have s2:=same_upd (o:=.tup [.int i,.int z]) ht
   refine⟨t,_,rfl,SqT.of upd_same,rfl,_,_,rfl,_,_,rfl,rfl,?_⟩
   refine⟨_,rfl,_,_,rfl,rfl,_,rfl,?_⟩
   have e3:=belN_succ ns i
   rw[bel_getD hz]at e3
   by_cases hb:z<0
   ·rw[decide_eq_true hb]
    refine iteT ⟨_,rfl,s2 _ _ h1,kN _ _ _ ⟨⟨_,_,rfl⟩,(s1.trans s2).upd hD,upd_same,?_⟩⟩
    rw[e3,if_pos hb,List.map_append,List.map_append]
    rfl
   ·rw[decide_eq_false hb]
    refine iteF (kN _ _ _ ⟨⟨_,_,rfl⟩,s1.trans s2,s2 _ _ h1,?_⟩)
    rw[e3,if_neg hb,List.append_nil]
  ·rintro D xs σ' H' hD ⟨⟨v,u,rfl⟩,s1,h1,rfl⟩
   rw[List.length_map]at h1
   exact q D H' s1 hD h1
def spWallW (K:W.Frag)(CB:Addr):Sp:=fun vs H Q E=>∃ (a:Addr) (ns:List Int) (M:Nat),vs=[.ref a,.int M]/\Sq K H a ns/\M<=1000000/\(isTl ns->∀ (v:V) (x:Wl) (H':Hp),Same H H'->IsWlM ns M x->WlAt H' v x->Q v H')/\(¬ isTl ns->E (.ref CB) none H)
theorem scWallW:FnScope ["tally","most","below","numbers","r"] ["tally","most"] (defScope sWallW):=⟨rfl,rfl,rfl,by decide +kernel,rfl,by decide +kernel,by decide +kernel⟩
set_option maxHeartbeats 1000000 in
theorem ok_wallW {f fT fF fA fβ CB:Addr} {fd fdT fdF fdA fdβ:FuncData} {tk:Tok} (F:Fun K "wall_with" "wall_with" sWallW f fd) (B:Bn mg) (FT:Fun K "check_tally" "check_tally" sChT fT fdT) (bT:Binds K fdT ["tally"] []) (mT:mg "check_tally"=some (.ref fT))
  (FF:Fun K "falling" "falling" sFall fF fdF) (bF:Binds K fdF ["tally"] []) (mF:mg "falling"=some (.ref fF)) (FA:Fun K "room_among" "room_among" sAmong fA fdA) (bA:Binds K fdA ["numbers","most","r"] []) (mA:mg "room_among"=some (.ref fA))
  (Fβ:Fun K "places_below" "places_below" sBelow fβ fdβ) (bβ:Binds K fdβ ["numbers"] []) (mβ:mg "places_below"=some (.ref fβ))
  (mM:mg "MOST_PLACES"=some (.int 24 tk)) (mB:mg "BadTally"=some (.ref CB)) (cB:ExcC K CB):FnOk P w K mg base (CXE P w) 2 f fd ["tally","most"] (spWallW K CB):=by
 have GT:FnOk P w K mg base (CXE P w) 1 fT fdT ["tally"] (spChT K CB):=ok_chT FT B mM mB cB
 have GF:FnOk P w K mg base CX0 1 fF fdF ["tally"] (spFall K):=ok_fall FF B
 have GA:FnOk P w K mg base CX0 1 fA fdA ["numbers","most","r"] (spAmong K):=ok_among FA B
 have GL:FnOk P w K mg base CX0 1 fβ fdβ ["numbers"] (spBelow K):=ok_below Fβ B
 refine F.okX scWallW (fun vs H Q E h=>?_) (fun cdv A outer s H vs Q E hr h=>?_)
 ·obtain⟨a,ns,M,rfl,_⟩:=h
  rfl
 ·obtain⟨a,ns,M,rfl,hS,hM,h1,h2⟩:=h
  have hsl:=sl1000
  refine⟨_,pss_cons (ps_expr (pe_call GT hr (by rfl) mT FT.kp bT .nil passE (pa_cons (pv 0) pa_nil)))
    (pss_cons (ps_set (i:=2) scWallW.nd rfl (Or.inl rfl) (pe_call GL hr (by rfl) mβ Fβ.kp bβ .nil pass0 (pa_cons (pv 0) pa_nil)))
    (pss_cons (ps_if (pt_truth (pv 2) (fun _=>rfl)) (pss_one (ps_ret (pe_tup (pa_cons pe_str (pa_cons (pe_ix ix_list (pv 2) pe_int (fun _ _=>rfl)) pa_nil))))) pss_nil)
    (pss_cons (ps_if (pt_cmpR op_eq (pe_op op_mod (pe_callB (call_sumS rfl) (by rfl) B.sum (by rfl) (pa_cons (pv 0) pa_nil)) pe_int) pe_int (nomark _)) (pss_one (ps_ret (pe_tup (pa_cons pe_str pa_nil)))) pss_nil)
    (pss_cons (ps_set (i:=3) scWallW.nd rfl (Or.inl rfl) (pe_call GF hr (by rfl) mF FF.kp bF .nil pass0 (pa_cons (pv 0) pa_nil)))
    (pss_cons (ps_for po_leave rfl (pi_range2 rfl B.range (pa_cons pe_int (pa_cons (pe_op op_add (pe_callB call_len_seq (by rfl) B.len PySem.boot_len (pa_cons (pv 3) pa_nil)) pe_int) pa_nil))) (pg_name (i := 4) scWallW.nd rfl (Or.inl rfl))
     (pss_one (ps_if (pt_cmpR op_lt (pe_call GA hr (by rfl) mA FA.kp bA .nil pass0 (pa_cons (pv 3) (pa_cons (pv 1) (pa_cons (pv 4) pa_nil)))) pe_int (nomark _)) (pss_one (ps_ret (pe_tup (pa_cons pe_str (pa_cons (pv 4) pa_nil))))) pss_nil)))
    (pss_one (ps_ret pe_non))))))),?_⟩
  refine⟨_,rfl,a,ns,rfl,hS,fun ht=>?_,h2⟩
  have t2:=ht.2
  refine⟨_,rfl,a,ns,rfl,hS,by omega,fun bl H1 s1 hbl g1=>?_⟩
  refine⟨_,rfl,_,.inl ⟨_,SqL.of g1,rfl⟩,?_⟩
  unfold belL at g1 ⊢
  cases hb:belN ns ns.length with
  | cons p ps =>
   rw[hb]at g1
   refine iteT ⟨_,rfl,bl,_,_,_,rfl,rfl,SqL.of g1,atI_nat (j:=0) rfl,(by show 2<=sizeLine;decide),fun q hq=>?_⟩
   exact h1 ht _ (.below p) _ (s1.trans (same_upd hq)) (bel_cons hb) (.inr ⟨by simp,q,rfl,upd_same⟩)
  | nil =>
   have hall:AllP ns:=bel_nil hb
   refine iteF ?_
   refine⟨_,rfl,a,ns,rfl,hS.same s1,_,_,rfl,rfl,(by show (0:Int)<2;decide),rfl,_,rfl,?_⟩
   refine ite2 (fun h=>?_) (fun h=>?_)
   ·exact⟨(by show 1<=sizeLine;decide),fun p hp=>h1 ht _ .odd _ (s1.trans (same_upd hp)) ⟨hall,int_dec h⟩ (.inr ⟨by simp,p,rfl,upd_same⟩)⟩
   ·have hev:=int_ndec h
    refine⟨_,rfl,a,ns,rfl,hS.same s1,by omega,fun l H2 s2 hl g2=>?_⟩
    refine⟨_,rfl,l,_,rfl,.inl (SqL.of g2),_,_,rfl,rfl,1,((ns.length:Int)+1),by rw[List.length_map,List.length_reverse,up2_len],⟨by omega,by omega,by omega,by omega⟩,?_⟩
    rw[show ((ns.length:Int)+1 - 1).toNat=ns.length by omega]
    refine for_range (lo:=1) (n:=ns.length) (fun i σ H3=>∃ e4,σ=[some (.ref a),some (.int M),some (.ref bl),some (.ref l),e4]/\Same H2 H3/\∀ k,1<=k->k<i+1->0<=roomM ns M k) ⟨none,rfl,Same.refl H2,fun k k1 k2=>by omega⟩ ?_ ?_
    ·rintro i σ H3 hi ⟨e4,rfl,s3,hrm⟩
     have e0:((1:Int)+(i:Int))=((i+1:Nat):Int):=by omega
     rw[e0]
     refine gName_to ?_
     refine⟨_,rfl,_,rfl,_,rfl,l,ns,M,i+1,rfl,SqL.of (s3 _ _ g2),hM,by omega,by omega,fun H4 s4=>⟨_,_,rfl,rfl,_,rfl,?_⟩⟩
     refine ite2 (fun h=>?_) (fun h=>?_)
     ·refine⟨_,rfl,(by show 2<=sizeLine;decide),fun p hp=>?_⟩
      exact h1 ht _ (.wall (i+1)) _ ((((s1.trans s2).trans s3).trans s4).trans (same_upd hp)) ⟨hall,hev,by omega,by omega,of_decide_eq_true h,hrm⟩ (.inr ⟨by simp,p,rfl,upd_same⟩)
     ·have h':¬ roomM ns M (i+1)<0:=fun q=>h (decide_eq_true q)
      refine⟨_,rfl,s3.trans s4,fun k k1 k2=>?_⟩
      rcases Nat.lt_or_ge k (i+1) with l1 | l1
      ·exact hrm k k1 l1
      ·rw[show k=i+1 by omega];omega
    ·rintro σ H3 ⟨e4,rfl,s3,hrm⟩
     exact h1 ht _ .free _ ((s1.trans s2).trans s3) ⟨hall,hev,fun k k1 k2=>hrm k k1 (by omega)⟩ (.inl ⟨rfl,rfl⟩)
def spWall (K:W.Frag)(CB:Addr):Sp:=fun vs H Q E=>∃ (a:Addr) (ns:List Int),vs=[.ref a]/\Sq K H a ns/\(isTl ns->∀ (v:V) (x:Wl) (H':Hp),Same H H'->IsWl ns x->WlAt H' v x->Q v H')/\(¬ isTl ns->E (.ref CB) none H)
theorem scWall:FnScope ["tally"] ["tally"] (defScope sWall):=⟨rfl,rfl,rfl,by decide +kernel,rfl,by decide +kernel,by decide +kernel⟩
theorem ok_wall {f fω fT fF fA fβ CB:Addr}{fd fdω fdT fdF fdA fdβ:FuncData}{tk:Tok}(F:Fun K "wall_of" "wall_of" sWall f fd)(B:Bn mg)(FT:Fun K "check_tally" "check_tally" sChT fT fdT)(bT:Binds K fdT ["tally"] [])(mT:mg "check_tally"=some (.ref fT))
  (FF:Fun K "falling" "falling" sFall fF fdF)(bF:Binds K fdF ["tally"] [])(mF:mg "falling"=some (.ref fF))(FA:Fun K "room_among" "room_among" sAmong fA fdA)(bA:Binds K fdA ["numbers","most","r"] [])(mA:mg "room_among"=some (.ref fA))
  (Fβ:Fun K "places_below" "places_below" sBelow fβ fdβ)(bβ:Binds K fdβ ["numbers"] [])(mβ:mg "places_below"=some (.ref fβ))(Fω:Fun K "wall_with" "wall_with" sWallW fω fdω)(bω:Binds K fdω ["tally","most"] [])(mω:mg "wall_with"=some (.ref fω))
  (mM:mg "MOST_PLACES"=some (.int 24 tk))(mB:mg "BadTally"=some (.ref CB))(cB:ExcC K CB):FnOk P w K mg base (CXE P w) 3 f fd ["tally"] (spWall K CB):=by
 have GW:FnOk P w K mg base (CXE P w) 2 fω fdω ["tally","most"] (spWallW K CB):=ok_wallW Fω B FT bT mT FF bF mF FA bA mA Fβ bβ mβ mM mB cB
 refine F.okX scWall (fun vs H Q E h=>?_) (fun cdv A outer s H vs Q E hr h=>?_)
 ·obtain⟨a,ns,rfl,_⟩:=h
  rfl
 ·obtain⟨a,ns,rfl,hS,h1,h2⟩:=h
  refine⟨_,pss_one (ps_ret (pe_call GW hr (by rfl) mω Fω.kp bω .nil passE (pa_cons (pv 0) (pa_cons pe_int pa_nil)))),?_⟩
  exact⟨_,rfl,a,ns,1,rfl,hS,by decide,fun ht v x H' s' hx hv=>h1 ht v x H' s' (wlM_one hx) hv,h2⟩
end
theorem grow_lst {PT l:Addr}{H H':Hp}{xs:List V}(g:Grow PT H H')(t:Tb PT H)(h:H l=some (.lst xs)):H' l=some (.lst xs):=by
 obtain⟨ps,hP,_⟩:=t
 exact g l _ (fun z=>by rw[z,hP]at h;cases h) h
theorem grow_tups {K:W.Frag}{PT:Addr}{H H':Hp}(g:Grow PT H H')(t:Tb PT H):∀ {zs:List V} {ks:List (List Int)},Tups K H zs ks->Tups K H' zs ks
 | _,_,.nil=>.nil
 | _,_,.cons ⟨a,e,h⟩ r=>.cons ⟨a,e,Grow.sqT g t h⟩ (grow_tups g t r)
theorem pairs55:∀ n:Nat,n<=11->(pairsN n).length<=55:=by decide +kernel
theorem ups55 {n:Nat}(hn:n<=11){ks:List (List Int)}(nd:ks.Nodup)(h:∀ k∈ks,Up n k):ks.length<=55:=
 Nat.le_trans (nodup_le nd fun k hk=>by
  obtain⟨i,j,h1,h2,rfl⟩:=h k hk
  exact pair_in h1 h2) (pairs55 n hn)
theorem LayI.len55 {ns ps left:List Int}{ks:List (List Int)}(h:LayI ns ps left ks)(hn:ns.length<=11):ks.length<=55:=by
 have:=ups55 hn h.nodup fun k hk=>by
  obtain⟨k',hk',rfl⟩:=List.mem_map.mp hk
  exact(h.ends k' hk').up
 rw[List.length_map]at this
 exact this
section
variable {P:Program} {w:World} {K:W.Frag} {mg:Str->Option Value} {base:Heap}
noncomputable def fullF (ns:List Int)(p:Nat)(es:List Int):List (List Int):=star p es++laidF (ns.length - 1) (leftL ns p es) (keptN ns.length p)
def spLaid (K:W.Frag)(PT:Addr):Sp:=fun vs H Q _=>∃ (a ea:Addr) (ns es:List Int) (p:Nat),vs=[.ref a,.int p,.ref ea]/\Sq K H a ns/\isTl ns/\ns.length<=11/\p<ns.length/\SqL K H ea (es.map V.int)/\es.Nodup/\es.length<=24/\(∀ z∈es,0<=z/\z<ns.length/\z≠p)/\(es.length:Int)=ns.getD p 0/\Gr (leftL ns p es)/\Tb PT H /\
 ∀ (r t:Addr) (zs:List V) (ks:List (List Int)) (H':Hp),Grow PT H H'->Tb PT H'->H' r=some (.tup [.int ns.length,.ref t])->H' t=some (.tup zs)->Tups K H' zs ks->ks.Perm ((fullF ns p es).map up)->ks.Pairwise (fun a b=>Tim.lexB b a=false)->tal ns.length ks=ns->(∀ k∈ks,Up ns.length k)->ks.Nodup->Q (.ref r) H'
theorem scLaid:FnScope ["tally","place","ends","ties","places","left","chosen"] ["tally","place","ends"] (defScope sLaid):=⟨rfl,rfl,rfl,by decide +kernel,rfl,by decide +kernel,by decide +kernel⟩
set_option maxHeartbeats 2000000 in
theorem ok_laid {f fI fU fV fO fT fF fL CB c PT:Addr} {fd fdI fdU fdV fdO fdT fdF fdL:FuncData} {tk:Tok} (F:Fun K "laid_around" "laid_around" sLaid f fd) (B:Bn mg) (FI:Fun K "is_place" "is_place" sIsP fI fdI) (bI:Binds K fdI ["places","number"] []) (mI:mg "is_place"=some (.ref fI))
    (FU:Fun K "turned_up" "turned_up" sUp fU fdU) (bU:Binds K fdU ["places","tie"] []) (mU:mg "turned_up"=some (.ref fU)) (FV:Fun K "made" "made" sMade fV fdV) (bV:Binds K fdV ["places","ties"] []) (mV:mg "made"=some (.ref fV))
    (FO:Fun K "order_of" "order_of" sOrd fO fdO) (bO:Binds K fdO ["tally"] []) (mO:mg "order_of"=some (.ref fO)) (hc:fdO.code=.ref c) (LB:LamB base mg c PT)
    (FT:Fun K "check_tally" "check_tally" sChT fT fdT) (bT:Binds K fdT ["tally"] []) (mT:mg "check_tally"=some (.ref fT)) (FF:Fun K "first_of_order" "first_of_order" sFirst fF fdF) (bF:Binds K fdF ["tally","many","passed_over"] []) (mF:mg "first_of_order"=some (.ref fF))
    (FL:Fun K "left_of_others" "left_of_others" sLeft fL fdL) (bL:Binds K fdL ["tally","place","ends"] []) (mL:mg "left_of_others"=some (.ref fL))
    (mM:mg "MOST_PLACES"=some (.int 24 tk)) (mB:mg "BadTally"=some (.ref CB)) (cB:ExcC K CB):FnOk P w K mg base CX0 4 f fd ["tally","place","ends"] (spLaid K PT):=by
  have GF:FnOk P w K mg base (CXE P w) 3 fF fdF ["tally","many","passed_over"] (spFirst K PT):=ok_first FF B FO bO mO hc LB FT bT mT mM mB cB
  have GL:FnOk P w K mg base CX0 3 fL fdL ["tally","place","ends"] (spLeft K):=(ok_left FL B).mono (by decide)
  have GV:FnOk P w K mg base CX0 3 fV fdV ["places","ties"] (spMade K):=ok_made FV B FI bI mI FU bU mU mM
  refine F.ok scLaid (fun vs H Q E h=>?_) (fun cdv A outer s H vs Q E hr h=>?_)
  · obtain⟨a,ea,ns,es,p,rfl,_⟩:=h
    rfl
  · obtain⟨a,ea,ns,es,p,rfl,hS,ht,h11,hp,hea,ne,hel,he,hn,hg,tb,q⟩:=h
    have hsl:=sl1000
    have t2:=ht.2
    have nd1:(["end","place"]:List Str).Nodup:=by decide +kernel
    have nd2:(["one","place"]:List Str).Nodup:=by decide +kernel
    have nd3:(["one","places"]:List Str).Nodup:=by decide +kernel
    refine⟨_,pss_cons (ps_setC (i:=3) scLaid.nd rfl rfl (by rfl) (N':=["end","place"]) (lk:=[none,some 1]) rfl (pi_list (pv 2)) (by rfl) rfl (by decide +kernel) (by exact⟨rfl,trivial⟩) (by rfl) (by exact LkL.ok ⟨⟨rfl,Or.inl rfl,rfl,Or.inl rfl⟩,trivial⟩)
          (fun _ _ _=>pg_name (i:=0) nd1 rfl (Or.inl rfl)) (fun _ _ _=>pts_nil) (fun _ _ _=>pe_tup (pa_cons (pv 1) (pa_cons (pv 0) pa_nil))))
      (pss_cons (ps_set (i:=4) scLaid.nd rfl (Or.inr rfl) (pe_comp (N':=["one","place"]) (lk:=[none,some 1]) rfl (pi_range1 rfl B.range (pa_cons (pe_callB call_len_seq (by rfl) B.len PySem.boot_len (pa_cons (pv 0) pa_nil)) pa_nil)) (by rfl) rfl (by decide +kernel) (by exact⟨rfl,trivial⟩) (by rfl) (by exact LkL.ok ⟨⟨rfl,Or.inl rfl,rfl,Or.inl rfl⟩,trivial⟩)
          (fun _ _ _=>pg_name (i:=0) nd2 rfl (Or.inl rfl)) (fun _ _ _=>pts_one (pt_cmpR op_ne (pv 0) (pv 1) (nomark _))) (fun _ _ _=>pv 0)))
      (pss_cons (ps_set (i:=5) scLaid.nd rfl (Or.inl rfl) (pe_call GL hr (by rfl) mL FL.kp bL .nil pass0 (pa_cons (pv 0) (pa_cons (pv 1) (pa_cons (pv 2) pa_nil)))))
      (pss_cons (ps_while PassesOwn.never (pt_truth (pv 5) (fun _=>rfl))
        (pss_cons (ps_set (i:=6) scLaid.nd rfl (Or.inl rfl) (pe_call GF hr (by rfl) mF FF.kp bF .nil (passN (P:=P) (w:=w)) (pa_cons (pv 5) (pa_cons (pe_ix ix_list (pv 5) pe_int (fun _ _=>rfl)) (pa_cons (pe_lst (pa_cons pe_int pa_nil)) pa_nil)))))
        (pss_cons (ps_aug (i:=3) scLaid.nd rfl (Or.inl rfl) (pe_comp (N':=["one","places"]) (lk:=[none,some 4]) rfl (pi_list (pv 6)) (by rfl) rfl (by decide +kernel) (by exact⟨rfl,trivial⟩) (by rfl) (by exact LkL.ok ⟨⟨rfl,Or.inl rfl,rfl,Or.inl rfl⟩,trivial⟩)
            (fun _ _ _=>pg_name (i:=0) nd3 rfl (Or.inl rfl)) (fun _ _ _=>pts_nil) (fun _ _ _=>pe_tup (pa_cons (pe_ixSK K rfl (pv 1) pe_int (fun _ _=>rfl)) (pa_cons (pe_ixSK K rfl (pv 1) (pv 0) (fun _ _=>rfl)) pa_nil)))) ip_ext)
        (pss_cons (ps_set (i:=5) scLaid.nd rfl (Or.inl rfl) (pe_call GL hr (by rfl) mL FL.kp bL .nil pass0 (pa_cons (pv 5) (pa_cons pe_int (pa_cons (pv 6) pa_nil)))))
        (pss_one (ps_set (i:=4) scLaid.nd rfl (Or.inr rfl) (pe_slice sl_list (pv 4) (po_some pe_int) po_none)))))))
      (pss_one (ps_ret (pe_call GV hr (by rfl) mV FV.kp bV .nil pass0 (pa_cons (pe_callB call_len_seq (by rfl) B.len PySem.boot_len (pa_cons (pv 0) pa_nil)) (pa_cons (pv 3) pa_nil)))))))),?_⟩
    have hun:=hr.units
    refine⟨_,rfl,ea,rfl,⟨_,hea⟩,fun D hD=>comp_list (K:=K) (a:=ea) (D:=D) (ys:=es.map V.int) (fun i xs σ' H'=>(∃ v,σ'=[v,some (.int p)])/\Same H H'/\H' D=some (.lst xs)/\Tups K H' xs (star p (es.take i)))
      ⟨⟨none, rfl⟩, same_upd hD, upd_same, .nil⟩ (by rw [List.length_map]; omega) (fun i xs σ' H' hi ⟨_, s6, h6, t6⟩ => ⟨s6.seq hea, h6, by
        have h7:=t6.len
        unfold star at h7
        rw[List.length_map,List.length_take]at h7
        omega⟩) ?_ ?_⟩
    · rintro i xs x σ' H' N kN hx ⟨⟨v,rfl⟩,s6,h6,t6⟩
      obtain⟨z,hz,rfl⟩:=int_get hx
      refine gName_to (tTrue_if ?_)
      refine⟨_,rfl,_,rfl,(by show 2<=sizeLine;decide),fun t ft=>?_⟩
      have st:=same_upd (o:=.tup [.int (p:Int),.int z]) ft
      have h6':=st _ _ h6
      refine⟨h6',kN _ _ _ ⟨⟨_,rfl⟩,(s6.trans st).upd hD,upd_same,?_⟩⟩
      have et:star p (es.take (i+1))=star p (es.take i)++[[(p:Int),z]]:=by
        unfold star
        rw[List.take_add_one,hz,List.map_append]
        rfl
      rw[et]
      refine Tups.updL h6' (Tups.append (st.tups t6) (Tups.one (SqT.of ?_)))
      exact upd_same
    · rintro xs σ' H1 ⟨⟨v,rfl⟩,s1,h1,t1⟩
      rw[List.take_of_length_le (by rw[List.length_map];exact Nat.le_refl _)]at t1
      have hS1:=hS.same s1
      refine⟨_,rfl,a,_,rfl,hS1,(ns.length:Int),congrArg (fun z:Nat=>[V.int (z:Int)]) (List.length_map ..),by omega,by omega,fun D2 hD2=>?_⟩
      rw[Int.toNat_natCast]
      refine comp_range (lo:=0) (n:=ns.length) (D:=D2) (fun i xs σ' H'=>(∃ v,σ'=[v,some (.int p)])/\Same H1 H'/\H' D2=some (.lst xs)/\xs=(keptN i p).map V.int) ⟨⟨none,rfl⟩,same_upd hD2,upd_same,rfl⟩ (by omega)
        (fun i xs σ' H' hi ⟨_,s6,h6,e6⟩=>⟨h6,by
          rw[e6,List.length_map]
          unfold keptN
          rw[List.length_map]
          have:=List.length_filter_le (fun j=>decide (j≠p)) (List.range i)
          rw[List.length_range]at this
          exact this⟩) ?_ ?_
      · rintro i xs σ' H' N kN hi ⟨⟨v,rfl⟩,s6,h6,rfl⟩
        have e0:((0:Int)+(i:Int))=(i:Int):=by omega
        rw[e0]
        refine gName_to ?_
        refine⟨_,rfl,_,rfl,rfl,_,rfl,?_⟩
        have et:keptN (i+1) p=keptN i p++(if i=p then [] else [(i:Int)]):=by
          unfold keptN
          rw[List.range_succ,List.filter_append,List.map_append]
          congr 1
          by_cases h:i=p<;>simp[h]
        by_cases hm:i=p
        · refine iteNS (by rw[hm]) ?_
          refine kN _ _ _ ⟨⟨_,rfl⟩,s6,h6,?_⟩
          rw[et,if_pos hm,List.append_nil]
        · rw[decide_eq_false (show ¬ (V.int (i:Int)=V.int (p:Int)) from fun z=>hm (by injection z;omega))]
          refine iteT ?_
          refine⟨_,rfl,h6,kN _ _ _ ⟨⟨_,rfl⟩,s6.upd hD2,upd_same,?_⟩⟩
          rw[et,if_neg hm,List.map_append]
          rfl
      · rintro xs2 σ' H2 ⟨⟨v2,rfl⟩,s2,h2,rfl⟩
        have s12:=s1.trans s2
        refine⟨_,rfl,_,rfl,_,rfl,a,ea,ns,es,p,rfl,hS.same s12,t2,.inl (s12.seq hea),fun l3 H3 s3 f3 g3=>?_⟩
        have s23:=s2.trans s3
        refine⟨fun m σ Ha=>∃ (ks:List (List Int)) (ps left:List Int) (zs:List V) (pa la:Addr) (e6:Option V),σ=[some (.ref a),some (.int p),some (.ref ea),some (.ref D),some (.ref pa),some (.ref la),e6]/\left.length=m/\m<24/\LayI ns ps left ks/\Gr left/\ks++laidF m left ps=fullF ns p es/\Ha D=some (.lst zs)/\Tups K Ha zs ks /\
            Ha pa=some (.lst (ps.map V.int))/\pa≠D/\Ha la=some (.lst (left.map V.int))/\la≠D/\Grow PT H Ha/\Tb PT Ha,
          ⟨ns.length - 1,star p es,keptN ns.length p,leftL ns p es,xs,D2,l3,none,rfl,leftL_len hp,by omega,LayI.start hp ne he hn,hg,rfl,s23 _ _ h1,s23.tups t1,s3 _ _ h2,(ne_of_none h1 hD2).symm,g3,(ne_of_none (s2 _ _ h1) f3).symm,(s12.trans s3).grow PT,tb.same (s12.trans s3)⟩,?_⟩
        rintro m σ Ha ⟨ks,ps,left,zs,pa,la,e6,rfl,hm,hm2,hI,hG,hF,gD,tD,gp,np,gl,nl,gr,tbA⟩
        have hpl:=hI.len
        refine⟨_,rfl,!(left.map V.int).isEmpty,.inl ⟨_,SqL.of gl,rfl⟩,?_⟩
        cases m with
        | zero =>
          obtain rfl:left=[]:=List.length_eq_zero_iff.mp hm
          obtain rfl:ps=[]:=List.length_eq_zero_iff.mp hpl.symm
          have hF:ks=fullF ns p es:=by
            have:ks++[]=fullF ns p es:=hF
            rw[List.append_nil]at this
            exact this
          have hle:=hI.len55 h11
          refine iteF ?_
          refine⟨_,rfl,a,_,rfl,hS.grow gr tb,_,rfl,ns.length,D,zs,ks,by rw[List.length_map];rfl,ht.1,t2,.inl (SqL.of gD),tD,hI.ends,hI.nodup,by omega,fun r t zs2 ks2 H' s' _ _ k1 k2 tt pm so=>?_⟩
          refine q r t zs2 ks2 H' (gr.trans (s'.grow PT)) (tbA.same s') k1 k2 tt (by rw[<- hF];exact pm) so ?_ (fun k hk=>?_) (pm.nodup_iff.mpr hI.nodup)
          · rw[tal_perm pm,tal_up hI.ends]
            exact hI.last
          · obtain⟨k',hk',rfl⟩:=List.mem_map.mp (pm.mem_iff.mp hk)
            exact(hI.ends k' hk').up
        | succ m =>
          have h0:0<left.length:=by omega
          have hnn:=allp_get (gr_pos hG) h0
          obtain⟨k,hk⟩:∃ k:Nat,left.getD 0 0=(k:Int):=⟨(left.getD 0 0).toNat,by omega⟩
          have at0:atI (left.map V.int) 0=some (.int (k:Int)):=by
            rw[<- hk]
            exact at_int (j:=0) h0
          have hne:(left.map V.int).isEmpty=false:=by
            cases left with
            | nil=>exact absurd h0 (Nat.lt_irrefl _)
            | cons _ _=>rfl
          rw[hne]
          refine iteT ⟨_,fun σ' H' h=>⟨m,Nat.lt_succ_self m,h⟩,?_⟩
          refine⟨_,rfl,_,rfl,la,_,_,_,rfl,rfl,SqL.of gl,at0,(by show 1<=sizeLine;decide),fun lz fz=>?_⟩
          have sz:=same_upd (o:=.lst [.int 0]) fz
          refine⟨la,lz,left,[0],k,rfl,.inl (SqL.of (sz _ _ gl)),⟨by omega,by omega⟩,SqL.of upd_same,tbA.same sz,fun os D4 Hc gc tbC f4 hp4 hs4 g4=>?_⟩
          have ech:(outOf [0] os).take k=chF left 0:=by
            rw[outOf_one,ordF_eq hp4 hs4]
            unfold chF
            rw[hk,Int.toNat_natCast]
            rfl
          rw[ech]at g4
          have tbz:=tbA.same sz
          have gDc:=grow_lst gc tbz (sz _ _ gD)
          have gpc:=grow_lst gc tbz (sz _ _ gp)
          have glc:=grow_lst gc tbz (sz _ _ gl)
          have tDc:=grow_tups gc tbz (sz.tups tD)
          have grc:=gr.trans ((sz.grow PT).trans gc)
          have n4:D4≠D:=(ne_of_none (sz _ _ gD) f4).symm
          have hcl:(chF left 0).length<=24:=by
            have h1:=chF_len hG h0
            have h2:=gr_lt hG h0
            omega
          have hgo:=hI.go hG h0
          have hle:=hgo.len55 h11
          generalize upd Ha lz (.lst [.int 0])=Hz at gc f4
          refine⟨_,rfl,_,rfl,D4,rfl,⟨_,SqL.of g4⟩,fun D5 hD5=>comp_list (K:=K) (a:=D4) (D:=D5) (ys:=(chF left 0).map V.int) (fun i xs σ' H'=>(∃ v,σ'=[v,some (.ref pa)])/\Same Hc H'/\H' D5=some (.lst xs)/\Tups K H' xs (star (ps.getD 0 0) (((chF left 0).take i).map fun z=>ps.getD z.toNat 0)))
            ⟨⟨none, rfl⟩, same_upd hD5, upd_same, .nil⟩ (by rw [List.length_map]; omega) (fun i xs σ' H' hi ⟨_, s6, h6, t6⟩ => ⟨SqL.of (s6 _ _ g4), h6, by
              have h7:=t6.len
              unfold star at h7
              rw[List.length_map,List.length_map,List.length_take]at h7
              omega⟩) ?_ ?_⟩
          · rintro i xs x σ' H' N kN hx ⟨⟨v,rfl⟩,s6,h6,t6⟩
            obtain⟨z,hz,rfl⟩:=int_get hx
            have hz2:=chF_in (List.mem_of_getElem? hz)
            obtain⟨j,rfl⟩:∃ j:Nat,z=(j:Int):=⟨z.toNat,by omega⟩
            refine gName_to (tTrue_if ?_)
            have hpa6:Sq K H' pa ps:=.inl (SqL.of (s6 _ _ gpc))
            refine⟨_,rfl,ix_sq (j:=0) hpa6 (by omega) ⟨_,rfl,_,rfl,ix_sq hpa6 (j:=j) (by omega) ⟨(by show 2<=sizeLine;decide),fun t ft=>?_⟩⟩⟩
            have st:=same_upd (o:=.tup [.int (ps.getD 0 0),.int (ps.getD j 0)]) ft
            have h6':=st _ _ h6
            refine⟨h6',kN _ _ _ ⟨⟨_,rfl⟩,(s6.trans st).upd hD5,upd_same,?_⟩⟩
            have et:star (ps.getD 0 0) (((chF left 0).take (i+1)).map fun z=>ps.getD z.toNat 0)=star (ps.getD 0 0) (((chF left 0).take i).map fun z=>ps.getD z.toNat 0)++[[ps.getD 0 0,ps.getD j 0]]:=by
              unfold star
              rw[List.take_add_one,hz,List.map_append,List.map_append]
              rfl
            rw[et]
            refine Tups.updL h6' (Tups.append (st.tups t6) (Tups.one (SqT.of ?_)))
            exact upd_same
          · rintro xs5 σ' H5 ⟨⟨v5,rfl⟩,s5,h5,t5⟩
            rw[List.take_of_length_le (by rw[List.length_map];exact Nat.le_refl _)]at t5
            have gD5:=s5 _ _ gDc
            have hl5:=t5.len
            have hlD:=tDc.len
            rw[List.length_append]at hle
            refine⟨D,D5,zs,xs5,rfl,rfl,gD5,h5,by omega,?_⟩
            have fD:H D=none:=hD
            have gu:Grow PT H (upd H5 D (.lst (zs++xs5))):=by
              intro b o nb hb
              rw[upd_ne (ne_of_none hb fD)]
              exact(grc.trans (s5.grow PT)) b o nb hb
            have tb6:Tb PT (upd H5 D (.lst (zs++xs5))):=by
              obtain⟨ps',hP,hx⟩:=tbC.same s5
              refine⟨ps',?_,hx.1,hx.2.imp id fun⟨c',e,h⟩=>⟨c',e,by rw[upd_ne (fun z=>by rw[z,gD5]at h;cases h)];exact h⟩⟩
              rw[upd_ne (fun z=>by rw[z,gD5]at hP;cases hP)]
              exact hP
            have gl6:(upd H5 D (.lst (zs++xs5))) la=some (.lst (left.map V.int)):=by rw[upd_ne nl];exact s5 _ _ glc
            have gp6:(upd H5 D (.lst (zs++xs5))) pa=some (.lst (ps.map V.int)):=by rw[upd_ne np];exact s5 _ _ gpc
            have g46:(upd H5 D (.lst (zs++xs5))) D4=some (.lst ((chF left 0).map V.int)):=by rw[upd_ne n4];exact s5 _ _ g4
            have gD6:(upd H5 D (.lst (zs++xs5))) D=some (.lst (zs++xs5)):=upd_same
            have t6:Tups K (upd H5 D (.lst (zs++xs5))) (zs++xs5) (ks++star (ps.getD 0 0) ((chF left 0).map fun z=>ps.getD z.toNat 0)):=Tups.updL gD5 (Tups.append (s5.tups tDc) t5)
            generalize upd H5 D (.lst (zs++xs5))=H6 at gu tb6 gl6 gp6 g46 gD6 t6 ⊢
            refine⟨_,rfl,_,rfl,la,D4,left,chF left 0,0,rfl,.inl (SqL.of gl6),by omega,.inl (SqL.of g46),fun l7 H7 s7 f7 g7=>?_⟩
            refine⟨_,rfl,_,rfl,pa,ps.map V.int,rfl,SqL.of (s7 _ _ gp6),fun l8 f8=>?_⟩
            have ec:cutV (ps.map V.int) (some 1) none=(ps.drop 1).map V.int:=cut_ints_from ps 1
            rw[ec]
            have s8:=same_upd (o:=.lst ((ps.drop 1).map V.int)) f8
            have s78:=s7.trans s8
            refine⟨_,ps.drop 1,leftL left 0 (chF left 0),zs++xs5,l8,l7,_,rfl,by rw[leftL_len h0];omega,by omega,hgo,chF_gr hG h0,?_,s78 _ _ gD6,s78.tups t6,upd_same,(ne_of_none (s7 _ _ gD6) f8).symm,s8 _ _ g7,(ne_of_none gD6 f7).symm,gu.trans (s78.grow PT),tb6.same s78⟩
            rw[List.append_assoc]
            exact hF
end
structure WebOf (K:W.Frag) (H:Hp) (b:Addr) (ns:List Int) (ks:List (List Int)):Prop where
 at_:∃ t zs,H b=some (.tup [.int ns.length,.ref t])/\H t=some (.tup zs)/\Tups K H zs ks
 prm:ks.Perm ((fullF ns 0 (chF ns 0)).map up)
 srt:ks.Pairwise (fun a b=>Tim.lexB b a=false)
 tal_:tal ns.length ks=ns
 ups:∀ k∈ks,Up ns.length k
 nd:ks.Nodup
def AnsAt (K:W.Frag)(H:Hp)(r:Addr)(ns:List Int):Prop:=
 (∃ (x:Wl) (b:Addr),x≠.free/\IsWl ns x/\H r=some (.tup [.str "wall",.ref b])/\H b=some (.tup (wlT x))) \/
 (Gr ns/\∃ (b:Addr) (ks:List (List Int)),H r=some (.tup [.str "web",.ref b])/\WebOf K H b ns ks)
section
variable {P:Program} {w:World} {K:W.Frag} {mg:Str->Option Value} {base:Heap}
def spAns (K:W.Frag)(CB PT:Addr):Sp:=fun vs H Q E=>∃ (a:Addr) (ns:List Int),vs=[.ref a]/\Sq K H a ns/\ns.length<=11/\(isTl ns->Tb PT H/\∀ (r:Addr) (H':Hp),Grow PT H H'->Tb PT H'->AnsAt K H' r ns->Q (.ref r) H')/\(¬ isTl ns->E (.ref CB) none H)
theorem scAns':FnScope ["tally","wall"] ["tally"] (defScope sAns):=⟨rfl,rfl,rfl,by decide +kernel,rfl,by decide +kernel,by decide +kernel⟩
set_option maxHeartbeats 2000000 in
theorem ok_ans {f fI fU fV fO fT fF fL fY fW fG fA fβ fω CB c PT:Addr}{fd fdI fdU fdV fdO fdT fdF fdL fdY fdW fdG fdA fdβ fdω:FuncData}{tk:Tok}(F:Fun K "answered" "answered" sAns f fd)(B:Bn mg)(FI:Fun K "is_place" "is_place" sIsP fI fdI)(bI:Binds K fdI ["places","number"] [])(mI:mg "is_place"=some (.ref fI))
  (FU:Fun K "turned_up" "turned_up" sUp fU fdU)(bU:Binds K fdU ["places","tie"] [])(mU:mg "turned_up"=some (.ref fU))(FV:Fun K "made" "made" sMade fV fdV)(bV:Binds K fdV ["places","ties"] [])(mV:mg "made"=some (.ref fV))
  (FO:Fun K "order_of" "order_of" sOrd fO fdO)(bO:Binds K fdO ["tally"] [])(mO:mg "order_of"=some (.ref fO))(hc:fdO.code=.ref c)(LB:LamB base mg c PT)
  (FT:Fun K "check_tally" "check_tally" sChT fT fdT)(bT:Binds K fdT ["tally"] [])(mT:mg "check_tally"=some (.ref fT))(FF:Fun K "first_of_order" "first_of_order" sFirst fF fdF)(bF:Binds K fdF ["tally","many","passed_over"] [])(mF:mg "first_of_order"=some (.ref fF))
  (FL:Fun K "left_of_others" "left_of_others" sLeft fL fdL)(bL:Binds K fdL ["tally","place","ends"] [])(mL:mg "left_of_others"=some (.ref fL))(FY:Fun K "laid_around" "laid_around" sLaid fY fdY)(bY:Binds K fdY ["tally","place","ends"] [])(mY:mg "laid_around"=some (.ref fY))
  (FW:Fun K "wall_of" "wall_of" sWall fW fdW)(bW:Binds K fdW ["tally"] [])(mW:mg "wall_of"=some (.ref fW))(FG:Fun K "falling" "falling" sFall fG fdG)(bG:Binds K fdG ["tally"] [])(mG:mg "falling"=some (.ref fG))
  (FA:Fun K "room_among" "room_among" sAmong fA fdA)(bA:Binds K fdA ["numbers","most","r"] [])(mA:mg "room_among"=some (.ref fA))(Fβ:Fun K "places_below" "places_below" sBelow fβ fdβ)(bβ:Binds K fdβ ["numbers"] [])(mβ:mg "places_below"=some (.ref fβ))(Fω:Fun K "wall_with" "wall_with" sWallW fω fdω)(bω:Binds K fdω ["tally","most"] [])(mω:mg "wall_with"=some (.ref fω))
  (mM:mg "MOST_PLACES"=some (.int 24 tk))(mB:mg "BadTally"=some (.ref CB))(cB:ExcC K CB):FnOk P w K mg base (CXE P w) 5 f fd ["tally"] (spAns K CB PT):=by
 have GF:FnOk P w K mg base (CXE P w) 4 fF fdF ["tally","many","passed_over"] (spFirst K PT):=(ok_first FF B FO bO mO hc LB FT bT mT mM mB cB).mono (by decide)
 have GY:FnOk P w K mg base CX0 4 fY fdY ["tally","place","ends"] (spLaid K PT):=ok_laid FY B FI bI mI FU bU mU FV bV mV FO bO mO hc LB FT bT mT FF bF mF FL bL mL mM mB cB
 have GW:FnOk P w K mg base (CXE P w) 4 fW fdW ["tally"] (spWall K CB):=(ok_wall FW B FT bT mT FG bG mG FA bA mA Fβ bβ mβ Fω bω mω mM mB cB).mono (by decide)
 refine F.okX scAns' (fun vs H Q E h=>?_) (fun cdv A outer s H vs Q E hr h=>?_)
 ·obtain⟨a,ns,rfl,_⟩:=h
  rfl
 ·obtain⟨a,ns,rfl,hS,h11,h1,h2⟩:=h
  have hsl:=sl1000
  refine⟨_,pss_cons (ps_set (i:=1) scAns'.nd rfl (Or.inl rfl) (pe_call GW hr (by rfl) mW FW.kp bW .nil passE (pa_cons (pv 0) pa_nil)))
   (pss_cons (ps_if (pt_cmpR op_notN (pv 1) pe_non (nomark _)) (pss_one (ps_ret (pe_tup (pa_cons pe_str (pa_cons (pv 1) pa_nil))))) pss_nil)
   (pss_one (ps_ret (pe_tup (pa_cons pe_str (pa_cons (pe_call GY hr (by rfl) mY FY.kp bY .nil pass0 (pa_cons (pv 0) (pa_cons pe_int (pa_cons (pe_call GF hr (by rfl) mF FF.kp bF .nil (passN (P:=P) (w:=w)) (pa_cons (pv 0) (pa_cons (pe_ixSK K rfl (pv 0) pe_int (fun _ _=>rfl)) (pa_cons (pe_lst (pa_cons pe_int pa_nil)) pa_nil)))) pa_nil)))) pa_nil)))))),?_⟩
  refine⟨_,rfl,a,ns,rfl,hS,fun ht v x H1 s1 hw hv=>?_,h2⟩
  obtain⟨tb,q⟩:=h1 ht
  have t2:=ht.2
  refine⟨_,rfl,rfl,_,rfl,?_⟩
  obtain⟨rfl,rfl⟩ | ⟨hx,b,rfl,gb⟩:=hv
  ·have hG:=free_gr hw
   refine iteF ?_
   have h0:0<ns.length:=ht.1
   have hnn:=allp_get (gr_pos hG) h0
   obtain⟨k,hk⟩:∃ k:Nat,ns.getD 0 0=(k:Int):=⟨(ns.getD 0 0).toNat,by omega⟩
   have hS1:=hS.same s1
   have tb1:=tb.same s1
   refine⟨_,rfl,_,rfl,_,rfl,ix_sq (j:=0) hS1 h0 ?_⟩
   rw[hk]
   refine⟨(by show 1<=sizeLine;decide),fun lz fz=>?_⟩
   have sz:=same_upd (o:=.lst [.int 0]) fz
   refine⟨a,lz,ns,[0],k,rfl,hS1.same sz,ht,SqL.of upd_same,tb1.same sz,fun os D4 Hc gc tbC f4 hp4 hs4 g4=>?_⟩
   have ech:(outOf [0] os).take k=chF ns 0:=by
    rw[outOf_one,ordF_eq hp4 hs4]
    unfold chF
    rw[hk,Int.toNat_natCast]
    rfl
   rw[ech]at g4
   have hcl:=chF_len hG h0
   have hlt:=gr_lt hG h0
   refine⟨a,D4,ns,chF ns 0,0,rfl,(hS1.same sz).grow gc (tb1.same sz),ht,h11,h0,SqL.of g4,chF_nd ns 0,by omega,fun z hz=>chF_in hz,hcl,chF_gr hG h0,tbC,fun r t zs ks H5 g5 tb5 k1 k2 tt pm so tl ups nd=>?_⟩
   refine⟨(by show 2<=sizeLine;decide),fun p fp=>?_⟩
   have sp:=same_upd (o:=.tup [.str "web",.ref r]) fp
   exact q p _ ((((s1.trans sz).grow PT).trans (gc.trans g5)).trans (sp.grow PT)) (tb5.same sp) (.inr ⟨hG,r,ks,upd_same,⟨⟨t,zs,sp _ _ k1,sp _ _ k2,sp.tups tt⟩,pm,so,tl,ups,nd⟩⟩)
  ·refine iteT ⟨_,rfl,(by show 2<=sizeLine;decide),fun p fp=>?_⟩
   have sp:=same_upd (o:=.tup [.str "wall",.ref b]) fp
   exact q p _ ((s1.trans sp).grow PT) (tb.same (s1.trans sp)) (.inl ⟨x,b,hx,hw,upd_same,sp _ _ gb⟩)
end
def WebAt (K:W.Frag)(H:Hp)(p:Addr)(n:Nat)(ks:List (List Int)):Prop:=∃ t zs,SqT K H p [.int n,.ref t]/\SqT K H t zs/\Tups K H zs ks
theorem WebAt.same {K:W.Frag}{H H':Hp}{p:Addr}{n:Nat}{ks:List (List Int)}(h:WebAt K H p n ks)(s:Same H H'):WebAt K H' p n ks:=by
 obtain⟨t,zs,h1,h2,h3⟩:=h
 exact⟨t,zs,s.seqT h1,s.seqT h2,s.tups h3⟩
theorem WebAt.dt {K:W.Frag}{H:Hp}{p:Addr}{n:Nat}{ks:List (List Int)}(h:WebAt K H p n ks):Dt K H (dW n ks) (.ref p):=by
 obtain⟨t,zs,h1,h2,h3⟩:=h
 exact Dt.mkT h1 (.mkC .mkInt (.mkC (Dt.mkT h2 h3.dtAll) .mkN))
section
variable {P:Program} {w:World} {K:W.Frag} {mg:Str->Option Value} {base:Heap}
def spTal (K:W.Frag):Sp:=fun vs H Q _=>∃ (p:Addr) (n:Nat) (ks:List (List Int)),vs=[.ref p]/\WebAt K H p n ks/\n<=24/\(∀ k∈ks,Ends2 n k)/\∀ l H',Same H H'->H l=none->H' l=some (.lst ((tal n ks).map V.int))->Q (.ref l) H'
def talI (K:W.Frag)(H:Hp)(p l:Addr)(n:Nat)(ks:List (List Int))(i:Nat)(σ:St)(H2:Hp):Prop:=∃ a b,σ=[some (.ref p),some (.ref l),a,b]/\Same H H2/\H2 l=some (.lst ((tal n (ks.take i)).map V.int))
theorem scTally:FnScope ["web","tally","one","other"] ["web"] (defScope sTally):=⟨rfl,rfl,rfl,by decide +kernel,rfl,by decide +kernel,by decide +kernel⟩
theorem ok_tal {f:Addr} {fd:FuncData} (F:Fun K "tally_of" "tally_of" sTally f fd):FnOk P w K mg base CX0 1 f fd ["web"] (spTal K):=by
 refine F.ok scTally (fun vs H Q E h=>?_) (fun cdv A outer s H vs Q E hr h=>?_)
 ·obtain⟨p,n,ks,rfl,_⟩:=h
  rfl
 ·obtain⟨p,n,ks,rfl,⟨t,zs,h1,h2,h3⟩,hn,hE,q⟩:=h
  have hsl:=sl1000
  refine⟨_,pss_cons (ps_set (i:=1) scTally.nd rfl (Or.inl rfl) (pe_op op_rep (pe_lst (pa_cons pe_int pa_nil)) (pe_ix ix_tup (pv 0) pe_int (fun _ _=>rfl))))
   (pss_cons (ps_for PassesOwn.never rfl (pi_tup (pe_ix ix_tup (pv 0) pe_int (fun _ _ => rfl))) (pg_tup rfl (pgs_cons (pg_name (i := 2) scTally.nd rfl (Or.inl rfl)) (pgs_cons (pg_name (i := 3) scTally.nd rfl (Or.inl rfl)) pgs_nil)))
    (pss_cons (ps_augS (pv 1) (pv 2) get_list pe_int ip_add set_list) (pss_one (ps_augS (pv 1) (pv 3) get_list pe_int ip_add set_list))))
   (pss_one (ps_ret (pv 1)))),?_⟩
  have a0:atI ([.int n,.ref t]:List V) 0=some (.int n):=atI_nat (j:=0) rfl
  have a1:atI ([.int n,.ref t]:List V) 1=some (.ref t):=atI_nat (j:=1) rfl
  refine⟨(by show 1<=sizeLine;decide),fun l0 f0=>?_⟩
  have s0:=same_upd (o:=.lst [.int 0]) f0
  refine⟨_,rfl,p,_,_,_,rfl,rfl,s0.seqT h1,a0,l0,n,[.int 0],rfl,rfl,upd_same,by omega,by omega,?_,fun l hl=>?_⟩
  ·show 1*(n:Int).toNat<=sizeLine
   omega
  have en:(n:Int).toNat=n:=by omega
  rw[en,rep0]
  have s1:=s0.trans (same_upd (o:=.lst ((tal n []).map V.int)) hl)
  have g1:(upd (upd H l0 (.lst [.int 0])) l (.lst ((tal n []).map V.int))) l=some (.lst ((tal n []).map V.int)):=upd_same
  have fl:H l=none:=s0.free hl
  generalize upd (upd H l0 (.lst [.int 0])) l (.lst ((tal n []).map V.int))=H1 at s1 g1 ⊢
  have hz:=h3.len
  refine⟨_,rfl,p,_,_,_,rfl,rfl,s1.seqT h1,a1,t,rfl,⟨_,s1.seqT h2⟩,?_⟩
  refine for_tup (K:=K) (a:=t) (xs:=zs) (talI K H p l n ks) ⟨none,none,rfl,s1,by rw[List.take_zero];exact g1⟩ (fun i σ H2 _ ⟨_,_,_,s2,_⟩=>s2.seqT h2) ?_ ?_
  ·rintro i x σ H2 hx ⟨ea,eb,rfl,s2,g2⟩
   obtain⟨pa,pk,rfl,hk,hq⟩:=h3.get hx
   obtain⟨i1,j1,u1,u2,u3,epk⟩:=hE pk (List.mem_of_getElem? hk)
   have hq2:=s2.seqT hq
   rw[epk]at hq2
   refine⟨pa,_,rfl,hq2,rfl,_,_,rfl,_,_,rfl,rfl,?_⟩
   have t1:((tal n (ks.take i)).map V.int)[i1]?=some (.int (cntP (ks.take i) i1)):=by rw[List.getElem?_map,tal_get u1];rfl
   have t2:(((tal n (ks.take i)).map V.int).set i1 (.int ((cntP (ks.take i) i1:Int)+1)))[j1]?=some (.int (cntP (ks.take i) j1)):=by
    rw[List.getElem?_set_ne u3,List.getElem?_map,tal_get u2];rfl
   have lt:((tal n (ks.take i)).map V.int).length=n:=by rw[List.length_map,tal_len]
   refine⟨_,rfl,_,rfl,l,_,_,_,rfl,rfl,SqL.of g2,atI_nat t1,_,_,rfl,rfl,l,_,_,i1,rfl,rfl,g2,by rw[lt];exact ixN_nat u1,?_⟩
   refine⟨_,rfl,_,rfl,l,_,_,_,rfl,rfl,SqL.of upd_same,atI_nat t2,_,_,rfl,rfl,l,_,_,j1,rfl,rfl,upd_same,by rw[List.length_set,lt];exact ixN_nat u2,?_⟩
   refine⟨_,_,rfl,?_,?_⟩
   ·rw[upd_upd]
    exact s2.upd fl
   ·rw[upd_same,List.take_add_one,hk,Option.toList_some,epk,<- tal_put u1 u2 u3 (ks.take i) _ _ rfl rfl,List.map_set,List.map_set]
  ·rintro σ H2 ⟨ea,eb,rfl,s2,g2⟩
   rw[List.take_of_length_le (by omega)]at g2
   exact⟨_,rfl,q l H2 s2 fl g2⟩
end
theorem lexB_lt {n:Nat}{a b:List Int}(ha:Up n a)(hb:Up n b)(hne:a≠b)(h:Tim.lexB b a=false):Tim.lexB a b=true:=by
 obtain⟨i,j,_,_,rfl⟩:=ha
 obtain⟨u,v,_,_,rfl⟩:=hb
 unfold Tim.lexB Tim.lexB at h ⊢
 by_cases e1:(u:Int)=i
 ·rw[if_pos e1]at h
  rw[if_pos e1.symm]
  by_cases e2:(v:Int)=j
  ·exact absurd (by rw[e1,e2]) hne
  ·rw[if_neg e2]at h
   rw[if_neg (Ne.symm e2)]
   have:=of_decide_eq_false h
   exact decide_eq_true (by omega)
 ·rw[if_neg e1]at h
  rw[if_neg (Ne.symm e1)]
  have:=of_decide_eq_false h
  exact decide_eq_true (by omega)
theorem asc_of {n:Nat}{ks:List (List Int)}(ups:∀ k∈ks,Up n k)(nd:ks.Nodup)(so:ks.Pairwise (fun a b=>Tim.lexB b a=false)):Asc ks:=by
 have h2:=List.nodup_iff_pairwise_ne.mp nd
 have h3:=so.and h2
 exact List.Pairwise.imp_of_mem (fun {a b} ha hb h=>lexB_lt (ups a ha) (ups b hb) h.2 h.1) h3
theorem ups_map {n:Nat}:∀ {ks:List (List Int)},(∀ k∈ks,Up n k)->ks.map up=ks
 | [],_=>rfl
 | k::ks,h=>by
  rw[List.map_cons,ups_map fun x hx=>h x (List.mem_cons_of_mem _ hx)]
  rw[up_up (h k List.mem_cons_self)]
structure Tld (n:Nat) (ks:List (List Int)):Prop where
 ups:∀ k∈ks,Up n k
 nd:ks.Nodup
 srt:ks.Pairwise (fun a b=>Tim.lexB b a=false)
seal L2.PE L2.PA L2.PS L2.PSs L2.PT
section
variable {P:Program} {w:World} {K:W.Frag} {mg:Str->Option Value} {base:Heap}
def spTold (K:W.Frag):Sp:=fun vs H Q _=>∃ (p:Addr) (n:Nat) (ks:List (List Int)),vs=[.ref p]/\WebAt K H p n ks/\1<=n/\n<=11/\Tld n ks/\∀ H',Same H H'->Q (.bl true) H'
theorem scTold:FnScope ["web"] ["web"] (defScope sIsTold):=⟨rfl,rfl,rfl,by decide +kernel,rfl,by decide +kernel,by decide +kernel⟩
theorem ok_told {f fV CX:Addr}{fd fdV:FuncData}(F:Fun K "is_told" "is_told" sIsTold f fd)(FV:Fun K "made" "made" sMade fV fdV)(bV:Binds K fdV ["places","ties"] [])(mV:mg "made"=some (.ref fV))(GV:FnOk P w K mg base CX0 3 fV fdV ["places","ties"] (spMade K))(mX:mg "BadWeb"=some (.ref CX)):FnOk P w K mg base CX0 4 f fd ["web"] (spTold K):=by
 refine F.ok scTold (fun vs H Q E h=>?_) (fun cdv A outer s H vs Q E hr h=>?_)
 ·obtain⟨p,n,ks,rfl,_⟩:=h
  rfl
 ·obtain⟨p,n,ks,rfl,⟨t,zs,h1,h2,h3⟩,n1,hn,T,q⟩:=h
  have hun:=hr.units
  have hsl:=sl1000
  refine⟨_,pss_one (ps_tryN (by rfl) mX rfl rfl (fun _ _=>pss_one (ps_ret (pe_cmpR (op_eqDK K hr.around rfl rfl) (pe_call GV hr (by rfl) mV FV.kp bV .nil pass0 (pa_cons (pe_ixSK K rfl (pv 0) pe_int (fun _ _=>rfl)) (pa_cons (pe_ixSK K rfl (pv 0) pe_int (fun _ _=>rfl)) pa_nil))) (pv 0) (nomark _)))) (fun _=>pss_never)),?_⟩
  have a0:atI ([.int n,.ref t]:List V) 0=some (.int n):=atI_nat (j:=0) rfl
  have a1:atI ([.int n,.ref t]:List V) 1=some (.ref t):=atI_nat (j:=1) rfl
  have hkl:=ups55 hn T.nd T.ups
  refine⟨fun _ _ _ _=>False,?_,fun _ _ _ h=>h.elim⟩
  refine⟨_,rfl,.inr (.inl ⟨p,_,_,_,rfl,rfl,h1,a0,_,rfl,.inr (.inl ⟨p,_,_,_,rfl,rfl,h1,a1,?_⟩)⟩)⟩
  refine⟨n,t,zs,ks,rfl,n1,by omega,.inr h2,h3,fun k hk=>(T.ups k hk).ends,by rw[ups_map T.ups];exact T.nd,by omega,fun r t' zs2 ks2 H' s' _ _ k1 k2 tt pm so=>?_⟩
  rw[ups_map T.ups]at pm
  obtain rfl:ks2=ks:=asc_uniq (asc_of T.ups T.nd T.srt) pm so
  have hw:WebAt K H' p n ks2:=⟨t,zs,s'.seqT h1,s'.seqT h2,s'.tups h3⟩
  have hw2:WebAt K H' r n ks2:=⟨t',zs2,SqT.of k1,SqT.of k2,tt⟩
  refine⟨_,rfl,_,_,hw2.dt,hw.dt,lay_W _ _,lay_W _ _,?_,?_⟩
  ·refine un_lt hun (Nat.le_trans (Nat.min_le_left _ _) ?_)
   have:=dep_W n ks2
   omega
  ·rw[if_neg Bool.false_ne_true,eqv_W,decide_eq_true rfl,decide_eq_true rfl]
   exact q _ s'
def spIsO (K:W.Frag):Sp:=fun vs H Q _=>∃ (a p:Addr) (ns:List Int) (n:Nat) (ks:List (List Int)),vs=[.ref a,.ref p]/\Sq K H a ns/\WebAt K H p n ks/\1<=n/\n<=11/\Tld n ks/\∀ H',Same H H'->Q (.bl (decide (tal n ks=ns))) H'
theorem scIsO:FnScope ["tally","web"] ["tally","web"] (defScope sIsWeb):=⟨rfl,rfl,rfl,by decide +kernel,rfl,by decide +kernel,by decide +kernel⟩
theorem ok_isO {f fT fL:Addr}{fd fdT fdL:FuncData}(F:Fun K "is_web_of" "is_web_of" sIsWeb f fd)(B:Bn mg)(FT:Fun K "is_told" "is_told" sIsTold fT fdT)(bT:Binds K fdT ["web"] [])(mT:mg "is_told"=some (.ref fT))(GT:FnOk P w K mg base CX0 4 fT fdT ["web"] (spTold K))
  (FL:Fun K "tally_of" "tally_of" sTally fL fdL)(bL:Binds K fdL ["web"] [])(mL:mg "tally_of"=some (.ref fL)):FnOk P w K mg base CX0 5 f fd ["tally","web"] (spIsO K):=by
 have GL:FnOk P w K mg base CX0 4 fL fdL ["web"] (spTal K):=(ok_tal FL).mono (by decide)
 refine F.ok scIsO (fun vs H Q E h=>?_) (fun cdv A outer s H vs Q E hr h=>?_)
 ·obtain⟨a,p,ns,n,ks,rfl,_⟩:=h
  rfl
 ·obtain⟨a,p,ns,n,ks,rfl,hS,hw,n1,hn,T,q⟩:=h
  have hun:=hr.units
  refine⟨_,pss_one (ps_ret (pe_and (pe_call GT hr (by rfl) mT FT.kp bT .nil pass0 (pa_cons (pv 1) pa_nil)) (pe_one (pe_cmpR op_eqD (pe_call GL hr (by rfl) mL FL.kp bL .nil pass0 (pa_cons (pv 1) pa_nil)) (pe_callTy call_list_of (by rfl) B.list (by rfl) (pa_cons (pv 0) pa_nil)) (nomark _))))),?_⟩
  refine⟨_,rfl,p,n,ks,rfl,hw,n1,hn,T,fun H1 s1=>⟨_,rfl,iteT ?_⟩⟩
  refine⟨_,rfl,p,n,ks,rfl,hw.same s1,by omega,fun k hk=>(T.ups k hk).ends,fun l H2 s2 fl gl=>?_⟩
  have s12:=s1.trans s2
  refine⟨_,rfl,a,_,rfl,hS.same s12,fun l3 f3=>?_⟩
  have s3:=same_upd (o:=.lst (ns.map V.int)) f3
  refine⟨.list ((tal n ks).map .int),.list (ns.map .int),Dt.mkLi (SqL.of (s3 _ _ gl)),Dt.mkLi (SqL.of upd_same),lay_li _,lay_li _,?_,?_⟩
  ·refine un_lt hun (Nat.le_trans (Nat.min_le_left _ _) ?_)
   have:=dep_li (tal n ks)
   omega
  ·have:=q _ (s12.trans s3)
   rw[<- eqv_li]at this
   exact this
def spAnsW (K:W.Frag):Sp:=fun vs H Q _=>∃ (a r p:Addr) (ns:List Int) (n:Nat) (ks:List (List Int)),vs=[.ref a,.ref r]/\Sq K H a ns/\isTl ns/\SqT K H r [.str "web",.ref p]/\WebAt K H p n ks/\1<=n/\n<=11/\Tld n ks/\∀ H',Same H H'->Q (.bl (decide (tal n ks=ns))) H'
theorem scAnsW:FnScope ["tally","told"] ["tally","told"] (defScope sAnsS):=⟨rfl,rfl,rfl,by decide +kernel,rfl,by decide +kernel,by decide +kernel⟩
theorem ok_ansW {f fT fO CB:Addr}{fd fdT fdO:FuncData}(F:Fun K "answer_shows" "answer_shows" sAnsS f fd)(FT:Fun K "check_tally" "check_tally" sChT fT fdT)(bT:Binds K fdT ["tally"] [])(mT:mg "check_tally"=some (.ref fT))(GT:FnOk P w K mg base (CXE P w) 5 fT fdT ["tally"] (spChT K CB))
  (FO:Fun K "is_web_of" "is_web_of" sIsWeb fO fdO)(bO:Binds K fdO ["tally","web"] [])(mO:mg "is_web_of"=some (.ref fO))(GO:FnOk P w K mg base CX0 5 fO fdO ["tally","web"] (spIsO K)):FnOk P w K mg base CX0 6 f fd ["tally","told"] (spAnsW K):=by
 refine F.ok scAnsW (fun vs H Q E h=>?_) (fun cdv A outer s H vs Q E hr h=>?_)
 ·obtain⟨a,r,p,ns,n,ks,rfl,_⟩:=h
  rfl
 ·obtain⟨a,r,p,ns,n,ks,rfl,hS,ht,hr1,hw,n1,hn,T,q⟩:=h
  refine⟨_,pss_cons (ps_expr (pe_call GT hr (by rfl) mT FT.kp bT .nil (passN (P:=P) (w:=w)) (pa_cons (pv 0) pa_nil)))
   (pss_cons (ps_if (pt_cmpR op_eq (pe_ix ix_tup (pv 1) pe_int (fun _ _=>rfl)) pe_str (nomark _)) (pss_one (ps_ret (pe_call GO hr (by rfl) mO FO.kp bO .nil pass0 (pa_cons (pv 0) (pa_cons (pe_ix ix_tup (pv 1) pe_int (fun _ _=>rfl)) pa_nil))))) pss_nil) pss_never),?_⟩
  have a0:atI ([.str "web",.ref p]:List V) 0=some (.str "web"):=atI_nat (j:=0) rfl
  have a1:atI ([.str "web",.ref p]:List V) 1=some (.ref p):=atI_nat (j:=1) rfl
  refine⟨_,rfl,a,ns,rfl,hS,fun _=>?_,fun h=>absurd ht h⟩
  refine⟨_,rfl,r,_,_,_,rfl,rfl,hr1,a0,rfl,_,rfl,?_⟩
  rw[decide_eq_true rfl]
  refine iteT ?_
  exact⟨_,rfl,_,rfl,r,_,_,_,rfl,rfl,hr1,a1,a,p,ns,n,ks,rfl,hS,hw,n1,hn,T,q⟩
end
end Web
namespace Web
open PySem L2
theorem dec_i (a b:Int):decide (V.int a=V.int b)=decide (a=b):=by
 by_cases h:a=b
 ·rw[decide_eq_true h,decide_eq_true (by rw[h])]
 ·rw[decide_eq_false h,decide_eq_false fun z=>h (by injection z)]
theorem op_catTK {X:Cx}(K:W.Frag)(hK:X.K=K):OpR X (binaryOp .Add) (rCatT K):=by subst hK;exact op_catT
seal L2.PE L2.PA L2.PS L2.PSs L2.PT
section
variable {P:Program} {w:World} {K:W.Frag} {mg:Str->Option Value} {base:Heap}
def isPr (n:Nat)(a b:Int):Prop:=isPl n a/\isPl n b/\a≠b
def spChP (CN:Addr):Sp:=fun vs H Q E=>∃ (n:Nat) (a b:Int),vs=[.int n,.int a,.int b]/\(isPr n a b->Q .non H)/\(¬ isPr n a b->E (.ref CN) none H)
theorem scChP:FnScope ["places","one","other"] ["places","one","other"] (defScope sChP):=⟨rfl,rfl,rfl,by decide +kernel,rfl,by decide +kernel,by decide +kernel⟩
theorem ok_chP {f fC fI CN:Addr}{fd fdC fdI:FuncData}(F:Fun K "check_pair" "check_pair" sChP f fd)(FC:Fun K "check_place" "check_place" sChk fC fdC)(bC:Binds K fdC ["places","number"] [])(mC:mg "check_place"=some (.ref fC))(FI:Fun K "is_place" "is_place" sIsP fI fdI)(bI:Binds K fdI ["places","number"] [])(mI:mg "is_place"=some (.ref fI))
  (mN:mg "NoPlace"=some (.ref CN))(cN:ExcC K CN):FnOk P w K mg base (CXE P w) 3 f fd ["places","one","other"] (spChP CN):=by
 have GC:FnOk P w K mg base (CXE P w) 2 fC fdC ["places","number"] (spChkX CN):=ok_chkX FC FI bI mI mN cN
 refine F.okX scChP (fun vs H Q E h=>?_) (fun cdv A outer s H vs Q E hr h=>?_)
 ·obtain⟨n,a,b,rfl,_⟩:=h
  rfl
 ·obtain⟨n,a,b,rfl,q,qe⟩:=h
  refine⟨_,pss_cons (ps_expr (pe_call GC hr (by rfl) mC FC.kp bC .nil passE (pa_cons (pv 0) (pa_cons (pv 1) pa_nil))))
   (pss_cons (ps_expr (pe_call GC hr (by rfl) mC FC.kp bC .nil passE (pa_cons (pv 0) (pa_cons (pv 2) pa_nil))))
   (pss_one (ps_if (pt_cmpR op_eq (pv 1) (pv 2) (nomark _)) (pss_one (ps_raise (by rfl) mN cN)) pss_nil))),?_⟩
  refine⟨_,rfl,_,rfl,n,a,rfl,fun h1=>?_,fun h=>qe fun z=>h z.1⟩
  refine⟨_,rfl,_,rfl,n,b,rfl,fun h2=>?_,fun h=>qe fun z=>h z.2.1⟩
  refine⟨_,rfl,_,rfl,rfl,_,rfl,?_⟩
  rw[dec_i]
  by_cases e:a=b
  ·rw[decide_eq_true e]
   exact iteT (qe fun z=>z.2.2 e)
  ·rw[decide_eq_false e]
   exact iteF (q ⟨h1,h2,e⟩)
def spFew (CM:Addr):Sp:=fun vs H Q E=>∃ n:Nat,vs=[.int n]/\(n<=7->Q .non H)/\(7<n->E (.ref CM) none H)
theorem scFew:FnScope ["places"] ["places"] (defScope sFew):=⟨rfl,rfl,rfl,by decide +kernel,rfl,by decide +kernel,by decide +kernel⟩
theorem ok_few {f CM:Addr}{fd:FuncData}{tk:Tok}(F:Fun K "check_few" "check_few" sFew f fd)(mc:mg "MOST_COUNTED"=some (.int 7 tk))(mM:mg "TooMany"=some (.ref CM))(cM:ExcC K CM):FnOk P w K mg base (CXE P w) 1 f fd ["places"] (spFew CM):=by
 refine F.okX scFew (fun vs H Q E h=>?_) (fun cdv A outer s H vs Q E hr h=>?_)
 ·obtain⟨n,rfl,_⟩:=h
  rfl
 ·obtain⟨n,rfl,q,qe⟩:=h
  refine⟨_,pss_one (ps_if (pt_cmpR op_gt (pv 0) (pe_glob (v:=.int 7) (by rfl) mc ⟨tk,rfl⟩) (nomark _)) (pss_one (ps_raise (by rfl) mM cM)) pss_nil),?_⟩
  refine⟨_,rfl,_,_,rfl,rfl,_,rfl,?_⟩
  by_cases h:(7:Int)<(n:Int)
  ·rw[decide_eq_true h]
   exact iteT (qe (by omega))
  ·rw[decide_eq_false h]
   exact iteF (q (by omega))
def spChC (K:W.Frag)(CB CM:Addr):Sp:=fun vs H Q E=>∃ (a:Addr) (ns:List Int),vs=[.ref a]/\Sq K H a ns/\(isTl ns->ns.length<=7->Q .non H)/\(¬ isTl ns->E (.ref CB) none H)/\(isTl ns->7<ns.length->E (.ref CM) none H)
theorem scChC:FnScope ["tally"] ["tally"] (defScope sChC):=⟨rfl,rfl,rfl,by decide +kernel,rfl,by decide +kernel,by decide +kernel⟩
theorem ok_chC {f fT fF CB CM:Addr}{fd fdT fdF:FuncData}(F:Fun K "check_counted" "check_counted" sChC f fd)(B:Bn mg)(FT:Fun K "check_tally" "check_tally" sChT fT fdT)(bT:Binds K fdT ["tally"] [])(mT:mg "check_tally"=some (.ref fT))(GT:FnOk P w K mg base (CXE P w) 1 fT fdT ["tally"] (spChT K CB))
  (FF:Fun K "check_few" "check_few" sFew fF fdF)(bF:Binds K fdF ["places"] [])(mF:mg "check_few"=some (.ref fF))(GF:FnOk P w K mg base (CXE P w) 1 fF fdF ["places"] (spFew CM)):FnOk P w K mg base (CXE P w) 2 f fd ["tally"] (spChC K CB CM):=by
 refine F.okX scChC (fun vs H Q E h=>?_) (fun cdv A outer s H vs Q E hr h=>?_)
 ·obtain⟨a,ns,rfl,_⟩:=h
  rfl
 ·obtain⟨a,ns,rfl,hS,q,qb,qm⟩:=h
  refine⟨_,pss_cons (ps_expr (pe_call GT hr (by rfl) mT FT.kp bT .nil passE (pa_cons (pv 0) pa_nil)))
   (pss_one (ps_expr (pe_call GF hr (by rfl) mF FF.kp bF .nil passE (pa_cons (pe_callB call_len_seq (by rfl) B.len PySem.boot_len (pa_cons (pv 0) pa_nil)) pa_nil)))),?_⟩
  refine⟨_,rfl,a,ns,rfl,hS,fun ht=>?_,qb⟩
  exact⟨_,rfl,a,_,rfl,hS,ns.length,congrArg (fun z:Nat=>[V.int (z:Int)]) (List.length_map ..),q ht,qm ht⟩
def spChs (K:W.Frag)(n:Nat):Sp:=fun vs H Q _=>∃ (a:Addr) (ps:List Int) (m:Int),vs=[.ref a,.int m]/\H a=some (.lst (ps.map V.int))/\ps.length<=n/\n<=6/\∀ (l:Addr) (zs:List V) (H':Hp),Same H H'->H l=none->H' l=some (.lst zs)->Tups K H' zs (chs ps m)->Q (.ref l) H'
theorem scChs:FnScope ["places","many","found","ahead","place"] ["places","many"] (defScope sChs):=⟨rfl,rfl,rfl,by decide +kernel,rfl,by decide +kernel,by decide +kernel⟩
set_option maxHeartbeats 4000000 in
theorem ok_chs {f:Addr} {fd:FuncData} (F:Fun K "choices" "choices" sChs f fd) (bF:Binds K fd ["places","many"] []) (mF:mg "choices"=some (.ref f)) (B:Bn mg):∀ n:Nat,FnOk P w K mg base CX0 (n+1) f fd ["places","many"] (spChs K n):=by
 intro n
 induction n with
 | zero =>
  refine F.ok scChs (fun vs H Q E h=>?_) (fun cdv A outer s H vs Q E hr h=>?_)
  ·obtain⟨a,ps,m,rfl,_⟩:=h
   rfl
  ·obtain⟨a,ps,m,rfl,ga,hpl,_,q⟩:=h
   have hsl:=sl1000
   have hps:ps=[]:=List.length_eq_zero_iff.mp (Nat.le_zero.mp hpl)
   subst hps
   refine⟨_,pss_cons (ps_if (pt_cmpR op_eq (pv 1) pe_int (nomark _)) (pss_one (ps_ret (pe_lst (pa_cons (pe_tup pa_nil) pa_nil)))) pss_nil)
    (pss_cons (ps_set (i:=2) scChs.nd rfl (Or.inl rfl) (pe_lst pa_nil))
    (pss_cons (ps_for PassesOwn.never rfl (pi_enum (by rfl) B.enum (pa_cons (pv 0) pa_nil)) (pg_tup rfl (pgs_cons (pg_name (i := 3) scChs.nd rfl (Or.inl rfl)) (pgs_cons (pg_name (i := 4) scChs.nd rfl (Or.inr rfl)) pgs_nil)))
     pss_never)
    (pss_one (ps_ret (pv 2))))),?_⟩
   refine⟨_,rfl,rfl,_,rfl,?_⟩
   rw[dec_i]
   by_cases hm:m=0
   ·rw[decide_eq_true hm]
    refine iteT ⟨(by show 0<=sizeLine;omega),fun t ft=>⟨(by show 1<=sizeLine;omega),fun l fl=>?_⟩⟩
    have s1:=same_upd (o:=.tup []) ft
    have s2:=same_upd (o:=.lst [.ref t]) fl
    refine q l [.ref t] _ (s1.trans s2) (s1.free fl) upd_same ?_
    rw[hm,chs_zero]
    exact Tups.one (SqT.of (s2 _ _ upd_same))
   rw[decide_eq_false hm]
   refine iteF ⟨(by show 0<=sizeLine;omega),fun lf flf=>?_⟩
   have s1:=same_upd (o:=.lst []) flf
   have g1:(upd H lf (.lst [])) lf=some (.lst []):=upd_same
   generalize upd H lf (.lst [])=H1 at s1 g1 ⊢
   refine⟨_,rfl,a,rfl,⟨_,SqL.of (s1 _ _ ga)⟩,for_enum (K:=K) (a:=a) (xs:=[]) (fun _ σ Ha=>σ=[some (.ref a),some (.int m),some (.ref lf),none,none]/\Ha=H1) ⟨rfl,rfl⟩ (fun i σ Ha _ ⟨_,e⟩=>by rw[e];exact SqL.of (s1 _ _ ga)) (fun i x t σ Ha hx=>by cases hx) ?_⟩
   rintro σ Ha ⟨rfl,rfl⟩
   refine⟨_,rfl,q lf [] Ha s1 flf g1 ?_⟩
   unfold chs
   rw[if_neg hm]
   exact .nil
 | succ n ih =>
  refine F.ok scChs (fun vs H Q E h=>?_) (fun cdv A outer s H vs Q E hr h=>?_)
  ·obtain⟨a,ps,m,rfl,_⟩:=h
   rfl
  ·obtain⟨a,ps,m,rfl,ga,hpl,hn6,q⟩:=h
   have hsl:=sl1000
   have nd2:(["rest","place"]:List Str).Nodup:=by decide +kernel
   have h64:2 ^ ps.length<=64:=Nat.le_trans (Nat.pow_le_pow_right (by decide) (Nat.le_trans hpl hn6)) (by decide)
   refine⟨_,pss_cons (ps_if (pt_cmpR op_eq (pv 1) pe_int (nomark _)) (pss_one (ps_ret (pe_lst (pa_cons (pe_tup pa_nil) pa_nil)))) pss_nil)
    (pss_cons (ps_set (i:=2) scChs.nd rfl (Or.inl rfl) (pe_lst pa_nil))
    (pss_cons (ps_for PassesOwn.never rfl (pi_enum (by rfl) B.enum (pa_cons (pv 0) pa_nil)) (pg_tup rfl (pgs_cons (pg_name (i := 3) scChs.nd rfl (Or.inl rfl)) (pgs_cons (pg_name (i := 4) scChs.nd rfl (Or.inr rfl)) pgs_nil)))
     (pss_one (ps_aug (i:=2) scChs.nd rfl (Or.inl rfl) (pe_comp (N':=["rest","place"]) (lk:=[none,some 4]) rfl (pi_list (pe_call ih hr (by rfl) mF F.kp bF .nil pass0 (pa_cons (pe_slice sl_list (pv 0) (po_some (pe_op op_add (pv 3) pe_int)) po_none) (pa_cons (pe_op op_sub (pv 1) pe_int) pa_nil)))) (by rfl) rfl (by decide +kernel) (by exact⟨rfl,trivial⟩) (by rfl) (by exact LkL.ok ⟨⟨rfl,Or.inl rfl,rfl,Or.inl rfl⟩,trivial⟩) (fun _ _ _=>pg_name (i:=0) nd2 rfl (Or.inl rfl)) (fun _ _ _=>pts_nil) (fun _ _ _=>pe_op (op_catTK K rfl) (pe_tup (pa_cons (pv 1) pa_nil)) (pv 0))) ip_ext)))
    (pss_one (ps_ret (pv 2))))),?_⟩
   refine⟨_,rfl,rfl,_,rfl,?_⟩
   rw[dec_i]
   by_cases hm:m=0
   ·rw[decide_eq_true hm]
    refine iteT ⟨(by show 0<=sizeLine;omega),fun t ft=>⟨(by show 1<=sizeLine;omega),fun l fl=>?_⟩⟩
    have s1:=same_upd (o:=.tup []) ft
    have s2:=same_upd (o:=.lst [.ref t]) fl
    refine q l [.ref t] _ (s1.trans s2) (s1.free fl) upd_same ?_
    rw[hm,chs_zero]
    exact Tups.one (SqT.of (s2 _ _ upd_same))
   rw[decide_eq_false hm]
   refine iteF ⟨(by show 0<=sizeLine;omega),fun lf flf=>?_⟩
   have s1:=same_upd (o:=.lst []) flf
   have g1:(upd H lf (.lst [])) lf=some (.lst []):=upd_same
   generalize upd H lf (.lst [])=H1 at s1 g1 ⊢
   refine⟨_,rfl,a,rfl,⟨_,SqL.of (s1 _ _ ga)⟩,for_enum (K:=K) (a:=a) (xs:=ps.map V.int) (fun i σ Ha=>∃ (zs:List V) (e3 e4:Option V),σ=[some (.ref a),some (.int m),some (.ref lf),e3,e4]/\Same H Ha/\Ha lf=some (.lst zs)/\Tups K Ha zs (acL ps m i)) ⟨[],none,none,rfl,s1,g1,.nil⟩ (fun i σ Ha _ ⟨_,_,_,_,s,_⟩=>SqL.of (s _ _ ga)) ?_ ?_⟩
   ·rintro i x t σ Ha hx ⟨zs,e3,e4,rfl,sa,gla,tz⟩ ht
    obtain⟨p,hp,rfl⟩:=int_get hx
    have hi:i<ps.length:=(List.getElem?_eq_some_iff.mp hp).1
    have ep:ps.getD i 0=p:=by rw[List.getD_eq_getElem?_getD,hp];rfl
    have st:=same_upd (o:=.tup [.int i,.int p]) ht
    have hlen:=acL_len ps m i (by omega)
    have hzl:=tz.len
    have hI:i*2 ^ ps.length<=6*64:=Nat.mul_le_mul (by omega) h64
    refine⟨t,_,rfl,SqT.of upd_same,rfl,_,_,rfl,_,_,rfl,rfl,?_⟩
    have gla2:=st _ _ gla
    have tz2:=st.tups tz
    have sa2:=sa.trans st
    generalize upd Ha t (.tup [.int i,.int p])=Hb at gla2 tz2 sa2 ⊢
    refine⟨_,rfl,_,rfl,_,rfl,_,_,rfl,rfl,_,rfl,a,_,rfl,SqL.of (sa2 _ _ ga),fun l2 f2=>?_⟩
    have ec:cutV (ps.map V.int) (some ((i:Int)+1)) none=(ps.drop (i+1)).map V.int:=by rw[show ((i:Int)+1)=((i+1:Nat):Int) by omega,cut_ints_from]
    rw[ec]
    have s2:=same_upd (o:=.lst ((ps.drop (i+1)).map V.int)) f2
    refine⟨_,rfl,_,_,rfl,rfl,l2,ps.drop (i+1),m - 1,rfl,upd_same,by rw[List.length_drop];omega,by omega,fun lc zc Hc sc flc glc tc=>?_⟩
    have hcl:=chs_len (ps.drop (i+1)) (m - 1)
    have h642:2 ^ (ps.drop (i+1)).length<=64:=Nat.le_trans (Nat.pow_le_pow_right (by decide) (by rw[List.length_drop];omega)) h64
    have hzc:=tc.len
    have s2c:=s2.trans sc
    refine⟨lc,rfl,⟨_,SqL.of glc⟩,fun D hD=>comp_list (K:=K) (a:=lc) (D:=D) (ys:=zc) (fun j xs σ' H'=>(∃ v,σ'=[v,some (.int p)])/\Same Hc H'/\H' D=some (.lst xs)/\Tups K H' xs (((chs (ps.drop (i+1)) (m - 1)).take j).map (p::·))) ⟨⟨none,rfl⟩,same_upd hD,upd_same,.nil⟩ (by omega)
     (fun j xs σ' H' hj ⟨_,s6,h6,t6⟩=>⟨SqL.of (s6 _ _ glc),h6,by have:=t6.len;rw[List.length_map,List.length_take]at this;omega⟩) ?_ ?_⟩
    ·rintro j xs y σ' H' N kN hy ⟨⟨v,rfl⟩,s6,h6,t6⟩
     obtain⟨b,E,rfl,hE,hq⟩:=tc.get hy
     have hEl:E.length<=6:=by
      have h1:=chs_many (List.mem_of_getElem? hE)
      have h2:∀ {ps:List Int} {m:Int} {E:List Int},E∈chs ps m->E.length<=ps.length:=fun {ps}=>by
       induction ps with
       | nil =>
        intro m E h
        unfold chs at h
        split at h
        ·rw[List.mem_singleton.mp h];exact Nat.le_refl _
        ·exact absurd h List.not_mem_nil
       | cons x ps ih2 =>
        intro m E h
        rw[chs_cons]at h
        rcases List.mem_append.mp h with h | h
        ·obtain⟨E',h1,rfl⟩:=List.mem_map.mp h
         have:=ih2 h1
         rw[List.length_cons,List.length_cons]
         omega
        ·have:=ih2 h
         rw[List.length_cons]
         omega
      have h3:=h2 (List.mem_of_getElem? hE)
      rw[List.length_drop]at h3
      omega
     refine gName_to (tTrue_if ?_)
     refine⟨_,rfl,(by show 1<=sizeLine;omega),fun t1 ft1=>?_⟩
     have s7:=same_upd (o:=.tup [.int p]) ft1
     refine⟨_,rfl,t1,b,[.int p],E.map V.int,rfl,rfl,SqT.of upd_same,(s6.trans s7).seqT hq,(by intro z;cases z),by rw[List.length_map];show 1+E.length<=_;omega,fun hnil=>?_,fun hnil r fr=>?_⟩
     ·have h6':=s7 _ _ h6
      refine⟨h6',kN _ _ _ ⟨⟨_,rfl⟩,(s6.trans s7).upd hD,upd_same,?_⟩⟩
      have e0:E=[]:=List.map_eq_nil_iff.mp hnil
      rw[List.take_add_one,hE,List.map_append,e0]
      exact Tups.updL h6' (Tups.append (s7.tups t6) (Tups.one (SqT.of upd_same)))
     ·have s8:=same_upd (o:=.tup ([.int p]++E.map V.int)) fr
      have h6':=(s7.trans s8) _ _ h6
      refine⟨h6',kN _ _ _ ⟨⟨_,rfl⟩,(s6.trans (s7.trans s8)).upd hD,upd_same,?_⟩⟩
      rw[List.take_add_one,hE,List.map_append]
      exact Tups.updL h6' (Tups.append ((s7.trans s8).tups t6) (Tups.one (SqT.of upd_same)))
    ·rintro xs σ' Hd ⟨⟨v,rfl⟩,s6,h6,t6⟩
     rw[List.take_of_length_le (by omega)]at t6
     have hxl:=t6.len
     rw[List.length_map]at hxl
     have sbd:=s2c.trans s6
     have gld:=sbd _ _ gla2
     refine⟨lf,D,zs,xs,rfl,rfl,gld,h6,by omega,?_⟩
     refine⟨zs++xs,_,_,rfl,(sa2.trans sbd).upd flf,upd_same,?_⟩
     rw[acL_succ,ep]
     exact Tups.updL gld (Tups.append (sbd.tups tz2) t6)
   ·rintro σ Ha ⟨zs,e3,e4,rfl,sa,gla,tz⟩
    rw[List.length_map,acL_all ps hm]at tz
    exact⟨_,rfl,q lf zs Ha sa flf gla tz⟩
def spFE (K:W.Frag):Sp:=fun vs H Q _=>∃ (a:Addr) (x:Int) (c:List Int),vs=[.ref a]/\Sq K H a (x::c)/\c.length<=6/\∀ (l:Addr) (zs:List V) (H':Hp),Same H H'->H l=none->H' l=some (.lst zs)->Tups K H' zs (chs (rngI 1 c.length) x)->Q (.ref l) H'
theorem scFE:FnScope ["left"] ["left"] (defScope sFE):=⟨rfl,rfl,rfl,by decide +kernel,rfl,by decide +kernel,by decide +kernel⟩
theorem ok_fe {f fC:Addr}{fd fdC:FuncData}(F:Fun K "first_ends" "first_ends" sFE f fd)(B:Bn mg)(FC:Fun K "choices" "choices" sChs fC fdC)(bC:Binds K fdC ["places","many"] [])(mC:mg "choices"=some (.ref fC)):FnOk P w K mg base CX0 8 f fd ["left"] (spFE K):=by
 have GC:FnOk P w K mg base CX0 7 fC fdC ["places","many"] (spChs K 6):=ok_chs FC bC mC B 6
 refine F.ok scFE (fun vs H Q E h=>?_) (fun cdv A outer s H vs Q E hr h=>?_)
 ·obtain⟨a,x,c,rfl,_⟩:=h
  rfl
 ·obtain⟨a,x,c,rfl,hS,hc,q⟩:=h
  refine⟨_,pss_one (ps_ret (pe_call GC hr (by rfl) mC FC.kp bC .nil pass0 (pa_cons (pe_callTy (call_list_rng rfl) (by rfl) B.list (by rfl) (pa_cons (pe_rng2 (by rfl) B.range (pa_cons pe_int (pa_cons (pe_callB call_len_seq (by rfl) B.len PySem.boot_len (pa_cons (pv 0) pa_nil)) pa_nil))) pa_nil)) (pa_cons (pe_ixSK K rfl (pv 0) pe_int (fun _ _=>rfl)) pa_nil)))),?_⟩
  refine⟨_,rfl,a,_,rfl,hS,1,((x::c).length:Int),congrArg (fun z:Nat=>[V.int 1,V.int (z:Int)]) (List.length_map ..),fun r3 f3=>?_⟩
  have s3:=same_upd (o:=.rng 1 ((x::c).length:Int)) f3
  refine⟨r3,1,((x::c).length:Int),c.length,rfl,upd_same,by rw[List.length_cons];omega,by omega,by decide,by decide,fun l4 f4=>?_⟩
  have s4:=same_upd (o:=.lst ((rngI 1 c.length).map V.int)) f4
  have s34:=s3.trans s4
  refine⟨_,rfl,ix_sq (ns:=x::c) (j:=0) (hS.same s34) (by rw[List.length_cons];omega) ⟨l4,rngI 1 c.length,x,rfl,upd_same,by unfold rngI;rw[List.length_map,List.length_range'];exact hc,by decide,fun l zs H' s f g t=>?_⟩⟩
  exact q l zs H' (s34.trans s) (s34.free f) g t
end
end Web
namespace Web
open L2
def bin:Nat->Int->Nat
 | 0,m=>if m=0 then 1 else 0
 | n+1,m=>bin n (m - 1)+bin n m
theorem chs_bin:∀ (ps:List Int) (m:Int),(chs ps m).length=bin ps.length m
 | [],m=>by
  unfold chs
  show _=if m=0 then 1 else 0
  split<;>rfl
 | p::ps,m=>by
  rw[chs_cons,List.length_append,List.length_map,chs_bin ps,chs_bin ps]
  rfl
theorem bin_out:∀ (n:Nat) {m:Int},m<0\/(n:Int)<m->bin n m=0
 | 0,m,h=>by unfold bin;rw[if_neg (by omega)]
 | n+1,m,h=>by unfold bin;rw[bin_out n (by omega),bin_out n (by omega)]
def bnd (n:Nat):Nat:=([1,1,2,3,6,10,20]:List Nat).getD n 0
theorem bin_bnd:∀ n:Nat,n<7->∀ k:Nat,k<7->bin n (k:Int)<=bnd n:=by decide +kernel
theorem chs_bnd (ps:List Int)(h:ps.length<=6)(m:Int):(chs ps m).length<=bnd ps.length:=by
 rw[chs_bin]
 by_cases c:m<0\/(ps.length:Int)<m
 ·rw[bin_out _ c];exact Nat.zero_le _
 ·obtain⟨k,rfl⟩:∃ k:Nat,m=(k:Int):=⟨m.toNat,by omega⟩
  exact bin_bnd _ (by omega) k (by omega)
def Tn:Nat->Nat
 | 0=>0
 | m+1=>1+bnd m*Tn m
theorem Tn_le:∀ m:Nat,m<8->Tn m<=19421:=by decide +kernel
theorem bnd_mono:∀ m:Nat,m<7->∀ k:Nat,k<=m->bnd k<=bnd m:=by decide +kernel
theorem sum_cast (f:List Int->Nat):∀ l:List (List Int),(l.map fun E=>((f E:Nat):Int)).sum=((l.map f).sum:Nat)
 | []=>rfl
 | E::l=>by rw[List.map_cons,List.sum_cons,List.map_cons,List.sum_cons,sum_cast f l];omega
end Web
namespace Web
open PySem L2
theorem hu_of' {k:Nat}{A:Around}(hr:Room k A):A.units+1<cLine:=by have:=hr.units;omega
theorem key_ints (xs:List Int):(xs.map (Sum.inl:Int->Key)).map kV=xs.map V.int:=by rw[List.map_map];rfl
theorem key_inj:∀ {xs ys:List Int},xs.map (Sum.inl:Int->Key)=ys.map Sum.inl->xs=ys
 | [],[],_=>rfl
 | [],_::_,h=>by cases h
 | _::_,[],h=>by cases h
 | x::xs,y::ys,h=>by
  rw[List.map_cons,List.map_cons]at h
  injection h with h1 h2
  injection h1 with h1
  rw[h1,key_inj h2]
theorem slBig:10000001<=sizeLine:=by decide
def Kn (kvs:List (List Key × V)):Prop:=∀ (key:List Int) (v:V),valV kvs (key.map Sum.inl)=some v->v=.int (cnt key)
theorem Kn.nil:Kn []:=fun _ _ h=>by cases h
theorem Kn.put {kvs:List (List Key × V)}(h:Kn kvs)(key:List Int):Kn (putK kvs (key.map Sum.inl) (.int (cnt key))):=fun key' v e=>by
 rw[valV_put]at e
 by_cases c:key'.map (Sum.inl:Int->Key)=key.map Sum.inl
 ·rw[if_pos c]at e
  injection e with e
  rw[key_inj c,<- e]
 ·rw[if_neg c]at e
  exact h key' v e
section
variable {K:W.Frag} {d:Addr} {H H':Hp} {kvs:List (List Key × V)} (g:Grow d H H') (hd:H d=some (.dT kvs))
include g hd
theorem gd_lst {a:Addr}{xs:List V}(h:H a=some (.lst xs)):H' a=some (.lst xs):=g a _ (fun z=>by rw[z,hd]at h;cases h) h
theorem gd_tup {a:Addr}{xs:List V}(h:H a=some (.tup xs)):H' a=some (.tup xs):=g a _ (fun z=>by rw[z,hd]at h;cases h) h
theorem gd_sqL {a:Addr}{xs:List V}(h:SqL K H a xs):SqL K H' a xs:=by
 rcases h with(h | ⟨o,h⟩) | h
 ·exact .inl (.inl (g a _ (fun z=>by rw[z,hd]at h;cases h) h))
 ·exact .inl (.inr ⟨o,g a _ (fun z=>by rw[z,hd]at h;cases h) h⟩)
 ·exact .inr h
theorem gd_sqT {a:Addr}{xs:List V}(h:SqT K H a xs):SqT K H' a xs:=by
 rcases h with(h | ⟨o,h⟩) | h
 ·exact .inl (.inl (g a _ (fun z=>by rw[z,hd]at h;cases h) h))
 ·exact .inl (.inr ⟨o,g a _ (fun z=>by rw[z,hd]at h;cases h) h⟩)
 ·exact .inr h
theorem gd_sq {a:Addr}{ns:List Int}(h:Sq K H a ns):Sq K H' a ns:=h.elim (fun h=>.inl (gd_sqL g hd h)) fun h=>.inr (gd_sqT g hd h)
theorem gd_tups:∀ {ys:List V} {ks:List (List Int)},Tups K H ys ks->Tups K H' ys ks
 | _,_,.nil=>.nil
 | _,_,.cons ⟨a,e,h⟩ r=>.cons ⟨a,e,gd_sqT g hd h⟩ (gd_tups r)
end
theorem gd_same {d:Addr}{H H':Hp}(h:H d=none)(g:Grow d H H'):Same H H':=fun b o e=>g b o (fun z=>by rw[z,h]at e;cases e) e
theorem gd_upd {d D:Addr}{H H':Hp}{o:HO}(g:Grow d H H')(h:H D=none):Grow d H (upd H' D o):=fun b u hb hu=>by
 rw[upd_ne (ne_of_none hu h)]
 exact g b u hb hu
theorem gd_put {d:Addr}{H H':Hp}{o:HO}(g:Grow d H H'):Grow d H (upd H' d o):=fun b u hb hu=>by
 rw[upd_ne hb]
 exact g b u hb hu
seal L2.PE L2.PA L2.PS L2.PSs L2.PT
section
variable {P:Program} {w:World} {K:W.Frag} {mg:Str->Option Value} {base:Heap}
def KnQ (kvs:List (List Key × V))(d:Addr)(H:Hp)(m v:Nat)(Q:VK):Prop:=∀ (kvs':List (List Key × V)) (H':Hp),Grow d H H'->H' d=some (.dT kvs')->Kn kvs'->kvs'.length<=kvs.length+m->Q (.int v) H'
def spCnt (K:W.Frag)(m:Nat):Sp:=fun vs H Q _=>∃ (a d:Addr) (ns:List Int) (kvs:List (List Key × V)),vs=[.ref a,.ref d]/\Sq K H a ns/\ns.length<=m/\m<=7/\H d=some (.dT kvs)/\Kn kvs/\kvs.length+Tn m<=10000000/\KnQ kvs d H (Tn m) (cnt ns) Q
def spBeh (K:W.Frag)(m:Nat):Sp:=fun vs H Q _=>∃ (a e d:Addr) (x:Int) (c E:List Int) (kvs:List (List Key × V)),vs=[.ref a,.ref e,.ref d]/\Sq K H a (x::c)/\c.length<=m/\m<=6/\SqT K H e (E.map V.int)/\H d=some (.dT kvs)/\Kn kvs/\kvs.length+Tn m<=10000000/\KnQ kvs d H (Tn m) (cnt (decP 1 E c)) Q
theorem scBeh:FnScope ["left","ends","known"] ["left","ends","known"] (defScope sBeh):=⟨rfl,rfl,rfl,by decide +kernel,rfl,by decide +kernel,by decide +kernel⟩
theorem ok_beh {f fL fC:Addr}{fd fdL fdC:FuncData}{n m:Nat}(F:Fun K "count_behind" "count_behind" sBeh f fd)(B:Bn mg)(FL:Fun K "left_of_others" "left_of_others" sLeft fL fdL)(bL:Binds K fdL ["tally","place","ends"] [])(mL:mg "left_of_others"=some (.ref fL))
  (FC:Fun K "count_of" "count_of" sCnt fC fdC)(bC:Binds K fdC ["left","known"] [])(mC:mg "count_of"=some (.ref fC))(GC:FnOk P w K mg base CX0 (n+1) fC fdC ["left","known"] (spCnt K m)):FnOk P w K mg base CX0 (n+2) f fd ["left","ends","known"] (spBeh K m):=by
 have GL:FnOk P w K mg base CX0 (n+1) fL fdL ["tally","place","ends"] (spLeft K):=(ok_left FL B).mono (by omega)
 refine F.ok scBeh (fun vs H Q E h=>?_) (fun cdv A outer s H vs Q E hr h=>?_)
 ·obtain⟨a,e,d,x,c,E,kvs,rfl,_⟩:=h
  rfl
 ·obtain⟨a,e,d,x,c,E,kvs,rfl,hS,hc,hm,hE,gd,kn,hl,q⟩:=h
  refine⟨_,pss_one (ps_ret (pe_call GC hr (by rfl) mC FC.kp bC .nil pass0 (pa_cons (pe_call GL hr (by rfl) mL FL.kp bL .nil pass0 (pa_cons (pv 0) (pa_cons pe_int (pa_cons (pv 1) pa_nil)))) (pa_cons (pv 2) pa_nil)))),?_⟩
  refine⟨_,rfl,_,rfl,a,e,x::c,E,0,rfl,hS,by rw[List.length_cons];omega,.inr hE,fun l H1 s1 fl gl=>?_⟩
  rw[left_dec]at gl
  refine⟨_,rfl,l,d,decP 1 E c,kvs,rfl,.inl (SqL.of gl),by rw[decP_len];exact hc,by omega,s1 _ _ gd,kn,hl,fun kvs' H' g' gd' kn' hl'=>?_⟩
  exact q kvs' H' ((s1.grow d).trans g') gd' kn' hl'
theorem scCnt:FnScope ["left","known","numbers"] ["left","known"] (defScope sCnt):=⟨rfl,rfl,rfl,by decide +kernel,rfl,by decide +kernel,by decide +kernel⟩
theorem tru_sq {K:W.Frag}{H:Hp}{a:Addr}{ns:List Int}(h:Sq K H a ns):TruV K (.ref a) H (!(ns.map V.int).isEmpty):=h.elim (fun h=>.inl ⟨_,h,rfl⟩) fun h=>.inr (.inl ⟨_,h,rfl⟩)
set_option maxHeartbeats 4000000 in
theorem ok_cnt {f fF fE fB fL:Addr} {fd fdF fdE fdB fdL:FuncData} (F:Fun K "count_of" "count_of" sCnt f fd) (bF:Binds K fd ["left","known"] []) (mF:mg "count_of"=some (.ref f)) (B:Bn mg) (FF:Fun K "falling" "falling" sFall fF fdF) (bFF:Binds K fdF ["tally"] []) (mFF:mg "falling"=some (.ref fF))
  (FE:Fun K "first_ends" "first_ends" sFE fE fdE) (bE:Binds K fdE ["left"] []) (mE:mg "first_ends"=some (.ref fE)) (GE:FnOk P w K mg base CX0 8 fE fdE ["left"] (spFE K))
  (FB:Fun K "count_behind" "count_behind" sBeh fB fdB) (bB:Binds K fdB ["left","ends","known"] []) (mB:mg "count_behind"=some (.ref fB)) (FL:Fun K "left_of_others" "left_of_others" sLeft fL fdL) (bL:Binds K fdL ["tally","place","ends"] []) (mL:mg "left_of_others"=some (.ref fL)):∀ m:Nat,FnOk P w K mg base CX0 (2*m+9) f fd ["left","known"] (spCnt K m):=by
 intro m
 induction m with
 | zero =>
  refine F.ok scCnt (fun vs H Q E h=>?_) (fun cdv A outer s H vs Q E hr h=>?_)
  ·obtain⟨a,d,ns,kvs,rfl,_⟩:=h
   rfl
  ·obtain⟨a,d,ns,kvs,rfl,hS,hn,_,gd,kn,hl,q⟩:=h
   have e0:ns=[]:=List.length_eq_zero_iff.mp (Nat.le_zero.mp hn)
   subst e0
   refine⟨_,pss_cons (ps_if (pt_not (pt_truth (pv 0) (fun _=>rfl))) (pss_one (ps_ret pe_int)) pss_nil) pss_never,?_⟩
   refine⟨_,rfl,_,tru_sq hS,iteT ?_⟩
   exact q kvs H (Grow.refl d H) gd kn (Nat.le_add_right _ _)
 | succ m ih =>
  have GB:FnOk P w K mg base CX0 (2*m+10) fB fdB ["left","ends","known"] (spBeh K m):=ok_beh (n:=2*m+8) FB B FL bL mL F bF mF ih
  have GE':FnOk P w K mg base CX0 (2*m+10) fE fdE ["left"] (spFE K):=GE.mono (by omega)
  have GF:FnOk P w K mg base CX0 (2*m+10) fF fdF ["tally"] (spFall K):=(ok_fall FF B).mono (by omega)
  refine F.ok scCnt (fun vs H Q E h=>?_) (fun cdv A outer s H vs Q E hr h=>?_)
  ·obtain⟨a,d,ns,kvs,rfl,_⟩:=h
   rfl
  ·obtain⟨a,d,ns,kvs,rfl,hS,hn,hm7,gd,kn,hl,q⟩:=h
   have hsl:=sl1000
   have hbig:=slBig
   have nd3:(["ends","numbers","known"]:List Str).Nodup:=by decide +kernel
   refine⟨_,pss_cons (ps_if (pt_not (pt_truth (pv 0) (fun _=>rfl))) (pss_one (ps_ret pe_int)) pss_nil)
    (pss_cons (ps_set (i:=2) scCnt.nd rfl (Or.inr rfl) (pe_callTy call_tuple_of (by rfl) B.tuple (by rfl) (pa_cons (pe_call GF hr (by rfl) mFF FF.kp bFF .nil pass0 (pa_cons (pv 0) pa_nil)) pa_nil)))
    (pss_cut (ps_if (pt_cmp (pc_dnotin (hu_of' hr) (pv 2) (pv 1))) (pss_one (ps_dput (hu_of' hr) (pv 1) (pv 2) (pe_callB (call_sum rfl) (by rfl) B.sum (by rfl) (pa_cons
      (pe_comp (N' := ["ends", "numbers", "known"]) (lk := [none, some 2, some 1]) rfl (pi_list (pe_call GE' hr (by rfl) mE FE.kp bE .nil pass0 (pa_cons (pv 2) pa_nil))) (by rfl) rfl (by decide +kernel) (by exact ⟨rfl, rfl, trivial⟩) (by rfl) (by exact LkL.ok ⟨⟨rfl, Or.inl rfl, rfl, Or.inl rfl⟩, ⟨rfl, Or.inl rfl, rfl, Or.inl rfl⟩, trivial⟩)
       (fun _ _ _=>pg_name (i:=0) nd3 rfl (Or.inl rfl)) (fun _ _ _=>pts_nil) (fun _ _ _=>pe_call GB hr (by rfl) mB FB.kp bB .nil pass0 (pa_cons (pv 1) (pa_cons (pv 0) (pa_cons (pv 2) pa_nil))))) pa_nil)) rfl)) pss_nil)
    (pss_one (ps_ret (pe_dget (hu_of' hr) (pv 1) (pv 2) (fun _ _=>rfl)))))),?_⟩
   refine⟨_,rfl,_,tru_sq hS,?_⟩
   rcases ns with _ | ⟨n0,nr⟩
   ·refine iteT ?_
    exact q kvs H (Grow.refl d H) gd kn (Nat.le_add_right _ _)
   refine iteF ⟨_,rfl,a,_,rfl,hS,by rw[List.length_cons]at hn ⊢;omega,fun lf H1 s1 flf glf=>?_⟩
   refine⟨lf,_,rfl,.inl ⟨SqL.of glf,fun nb fnb=>?_⟩⟩
   have s2:=same_upd (o:=.tup ((up2 (n0::nr)).reverse.map V.int)) fnb
   have gnb:(upd H1 nb (.tup ((up2 (n0::nr)).reverse.map V.int))) nb=some (.tup ((up2 (n0::nr)).reverse.map V.int)):=upd_same
   have s12:=s1.trans s2
   generalize upd H1 nb (.tup ((up2 (n0::nr)).reverse.map V.int))=H2 at s12 gnb ⊢
   refine gName_to ?_
   have gd2:=s12 _ _ gd
   have hperm:((up2 (n0::nr)).reverse).Perm (n0::nr):=(List.reverse_perm _).trans (PySem.W.sortI_perm _)
   have hcnt:cnt (n0::nr)=cnt (up2 (n0::nr)).reverse:=cnt_pi _ _ hperm.symm
   have hul:((up2 (n0::nr)).reverse).length=(n0::nr).length:=hperm.length_eq
   generalize hus:(up2 (n0::nr)).reverse=us at gnb hcnt hul
   rcases us with _ | ⟨x,c⟩
   ·cases hul
   have hcl:c.length<=m:=by rw[List.length_cons]at hul;rw[List.length_cons]at hn;rw[List.length_cons]at hul;omega
   have hT:Tn (m+1)=1+bnd m*Tn m:=rfl
   have hbm:bnd c.length<=bnd m:=bnd_mono m (by omega) _ hcl
   refine⟨fun σ Hn=>∃ kvs',σ=[some (.ref a),some (.ref d),some (.ref nb)]/\Grow d H Hn/\Hn d=some (.dT kvs')/\Kn kvs'/\kvs'.length<=kvs.length+Tn (m+1)/\Hn nb=some (.tup ((x::c).map V.int))/\(valV kvs' ((x::c).map Sum.inl)).isSome=true,?_,?_⟩
   ·refine⟨_,rfl,_,rfl,d,_,rfl,DGet.t (k:=(x::c).map Sum.inl) gd2 (by rw[key_ints];exact gnb),_,rfl,?_⟩
    cases hv:valV kvs ((x::c).map Sum.inl) with
    | some v =>
     exact iteF ⟨kvs,rfl,s12.grow d,gd2,kn,Nat.le_add_right _ _,gnb,by rw[hv];rfl⟩
    | none =>
     refine iteT ⟨_,rfl,nb,x,c,rfl,.inr (SqT.of gnb),by omega,fun le ze H3 s3 fle gle te=>?_⟩
     have gd3:=s3 _ _ gd2
     have gnb3:=s3 _ _ gnb
     have hze:=te.len
     have hEl:=chs_bnd (rngI 1 c.length) (by unfold rngI;rw[List.length_map,List.length_range'];omega) x
     have hrl:(rngI 1 c.length).length=c.length:=by unfold rngI;rw[List.length_map,List.length_range']
     rw[hrl]at hEl
     have hb20:bnd m<=20:=by
      have:∀ m:Nat,m<7->bnd m<=20:=by decide +kernel
      exact this m (by omega)
     have dne:∀ {D:Addr},H3 D=none->D≠d:=fun {D} h z=>by rw[z,gd3]at h;cases h
     refine⟨le,rfl,⟨_,SqL.of gle⟩,fun D hD=>comp_list (K:=K) (a:=le) (D:=D) (ys:=ze) (fun i xs σ' H'=>(∃ v,σ'=[v,some (.ref nb),some (.ref d)])/\Grow d H3 H'/\H' D=some (.lst xs)/\xs=(((chs (rngI 1 c.length) x).take i).map fun E=>((cnt (decP 1 E c):Nat):Int)).map V.int/\∃ kvs',H' d=some (.dT kvs')/\Kn kvs'/\kvs'.length<=kvs.length+i*Tn m)
      ⟨⟨none,rfl⟩,(same_upd hD).grow d,upd_same,rfl,kvs,by rw[upd_ne (dne hD).symm];exact gd3,kn,Nat.le_add_right _ _⟩ (by omega)
      (fun i xs σ' H' hi ⟨_,g1,h1,e1,_⟩=>⟨SqL.of (gd_lst g1 gd3 gle),h1,by rw[e1,List.length_map,List.length_map,List.length_take];omega⟩) ?_ ?_⟩
     ·rintro i xs y σ' H' N kN hy ⟨⟨v,rfl⟩,g1,h1,rfl,kvs',gd',kn',hl'⟩
      obtain⟨b,E,rfl,hE,hq⟩:=te.get hy
      have hi:i<ze.length:=(List.getElem?_eq_some_iff.mp hy).1
      have hiT:i*Tn m+Tn m<=bnd m*Tn m:=by
       rw[<- Nat.succ_mul]
       exact Nat.mul_le_mul_right _ (by omega)
      refine gName_to (tTrue_if ?_)
      refine⟨_,rfl,_,rfl,_,rfl,nb,b,d,x,c,E,kvs',rfl,.inr (SqT.of (gd_tup g1 gd3 gnb3)),hcl,by omega,gd_sqT g1 gd3 hq,gd',kn',by omega,fun kvs2 H4 g4 gd4 kn4 hl4=>?_⟩
      have h4:H4 D=some (.lst _):=gd_lst g4 gd' h1
      refine⟨h4,kN _ _ _ ⟨⟨_,rfl⟩,gd_upd (g1.trans g4) hD,upd_same,?_,kvs2,by rw[upd_ne (dne hD).symm];exact gd4,kn4,by rw[Nat.succ_mul];omega⟩⟩
      rw[List.take_add_one,hE,List.map_append,List.map_append]
      rfl
     ·rintro xs σ' H4 ⟨⟨v,rfl⟩,g4,h4,rfl,kvs4,gd4,kn4,hl4⟩
      rw[List.take_of_length_le (by omega)]at h4
      refine⟨D,_,rfl,SqL.of h4,?_⟩
      have hsum:((chs (rngI 1 c.length) x).map fun E=>((cnt (decP 1 E c):Nat):Int)).sum=((cnt (x::c):Nat):Int):=by
       rw[sum_cast (fun E=>cnt (decP 1 E c)),chs_sum,cnt_cons]
      rw[hsum]
      have hlk:ze.length*Tn m<=bnd m*Tn m:=Nat.mul_le_mul_right _ (by omega)
      have gnb4:=gd_tup g4 gd3 gnb3
      refine⟨_,rfl,_,rfl,d,_,rfl,DPut.t (k:=(x::c).map Sum.inl) (v:=.int (cnt (x::c))) gd4 (by rw[key_ints];exact gnb4) (by omega),?_⟩
      refine⟨_,rfl,gd_put (((s12.trans s3).grow d).trans g4),upd_same,kn4.put _,?_,?_,?_⟩
      ·have:=length_putK kvs4 ((x::c).map Sum.inl) (.int (cnt (x::c)))
       omega
      ·rw[upd_ne (fun z=>by rw[z,gd4]at gnb4;cases gnb4)];exact gnb4
      ·rw[valV_put,if_pos rfl];rfl
   ·rintro σ Hn ⟨kvs',rfl,gn,gdn,knn,hln,gnbn,hs⟩
    obtain⟨v,hv⟩:=Option.isSome_iff_exists.mp hs
    obtain rfl:=knn _ _ hv
    refine⟨_,rfl,_,rfl,d,.int (cnt (x::c)),rfl,by rw[<- hv];exact DGet.t (k:=(x::c).map Sum.inl) gdn (by rw[key_ints];exact gnbn),?_⟩
    rw[<- hcnt]
    exact q kvs' Hn gn gdn knn hln
def spHow (K:W.Frag)(CB CM:Addr):Sp:=fun vs H Q E=>∃ (a:Addr) (ns:List Int),vs=[.ref a]/\Sq K H a ns/\(isTl ns->ns.length<=7->∀ H':Hp,Same H H'->Q (.int (cnt ns)) H')/\(¬ isTl ns->E (.ref CB) none H)/\(isTl ns->7<ns.length->E (.ref CM) none H)
theorem scHow:FnScope ["tally"] ["tally"] (defScope sHow):=⟨rfl,rfl,rfl,by decide +kernel,rfl,by decide +kernel,by decide +kernel⟩
theorem ok_how {f fC fN CB CM:Addr}{fd fdC fdN:FuncData}(F:Fun K "how_many" "how_many" sHow f fd)(FC:Fun K "check_counted" "check_counted" sChC fC fdC)(bC:Binds K fdC ["tally"] [])(mC:mg "check_counted"=some (.ref fC))(GC:FnOk P w K mg base (CXE P w) 23 fC fdC ["tally"] (spChC K CB CM))
  (FN:Fun K "count_of" "count_of" sCnt fN fdN)(bN:Binds K fdN ["left","known"] [])(mN:mg "count_of"=some (.ref fN))(GN:FnOk P w K mg base CX0 23 fN fdN ["left","known"] (spCnt K 7)):FnOk P w K mg base (CXE P w) 24 f fd ["tally"] (spHow K CB CM):=by
 refine F.okX scHow (fun vs H Q E h=>?_) (fun cdv A outer s H vs Q E hr h=>?_)
 ·obtain⟨a,ns,rfl,_⟩:=h
  rfl
 ·obtain⟨a,ns,rfl,hS,q,qb,qm⟩:=h
  refine⟨_,pss_cons (ps_expr (pe_call GC hr (by rfl) mC FC.kp bC .nil passE (pa_cons (pv 0) pa_nil)))
   (pss_one (ps_ret (pe_call GN hr (by rfl) mN FN.kp bN .nil pass0 (pa_cons (pv 0) (pa_cons pe_dnewT pa_nil))))),?_⟩
  refine⟨_,rfl,a,ns,rfl,hS,fun ht h7=>?_,qb,qm⟩
  refine⟨_,rfl,fun d fd=>?_⟩
  have s1:=same_upd (o:=.dT []) fd
  refine⟨a,d,ns,[],rfl,hS.same s1,h7,by decide,upd_same,Kn.nil,by show 0+Tn 7<=_;have:=Tn_le 7 (by decide);omega,fun kvs' H' g' gd' kn' hl'=>?_⟩
  exact q ht h7 H' (gd_same fd ((s1.grow d).trans g'))
end
end Web
namespace Web
open L2
def oth1 (ns:List Int)(i:Nat):List Int:=((List.range ns.length).filter fun k=>decide (k≠i)).map fun k=>ns.getD k 0
def oth2 (ns:List Int)(i j:Nat):List Int:=((List.range ns.length).filter fun k=>decide (k≠i) && decide (k≠j)).map fun k=>ns.getD k 0
theorem range_map (ns:List Int):(List.range ns.length).map (fun k=>ns.getD k 0)=ns:=by
 have:=map_getD (fun z=>z) ns
 rw[List.map_id']at this
 exact this
theorem oth1_perm {ns:List Int}{i:Nat}(h:i<ns.length):(ns.getD i 0::oth1 ns i).Perm ns:=by
 conv=>rhs;rw[<- range_map ns]
 refine List.Perm.map (fun k=>ns.getD k 0) (l₁:=i::(List.range ns.length).filter fun k=>decide (k≠i)) ?_
 refine(List.perm_ext_iff_of_nodup ?_ List.nodup_range).mpr fun k=>?_
 ·refine List.nodup_cons.mpr ⟨fun z=>?_,List.nodup_range.filter _⟩
  have:=(List.mem_filter.mp z).2
  simp at this
 ·rw[List.mem_cons,List.mem_filter,List.mem_range,decide_eq_true_eq]
  by_cases e:k=i
  ·subst e;exact⟨fun _=>h,fun _=>.inl rfl⟩
  ·exact⟨fun z=>(z.resolve_left e).1,fun z=>.inr ⟨z,e⟩⟩
theorem oth2_perm {ns:List Int}{i j:Nat}(hi:i<ns.length)(hj:j<ns.length)(hij:i≠j):(ns.getD j 0::oth2 ns i j).Perm (oth1 ns i):=by
 refine List.Perm.map (fun k=>ns.getD k 0) (l₁:=j::(List.range ns.length).filter fun k=>decide (k≠i) && decide (k≠j)) (l₂:=(List.range ns.length).filter fun k=>decide (k≠i)) ?_
 refine(List.perm_ext_iff_of_nodup ?_ (List.nodup_range.filter _)).mpr fun k=>?_
 ·refine List.nodup_cons.mpr ⟨fun z=>?_,List.nodup_range.filter _⟩
  have:=(List.mem_filter.mp z).2
  simp at this
 ·rw[List.mem_cons,List.mem_filter,List.mem_filter,List.mem_range,Bool.and_eq_true,decide_eq_true_eq,decide_eq_true_eq]
  by_cases e:k=j
  ·subst e;exact⟨fun _=>⟨hj,Ne.symm hij⟩,fun _=>.inl rfl⟩
  ·exact⟨fun z=>⟨(z.resolve_left e).1,(z.resolve_left e).2.1⟩,fun z=>.inr ⟨z.1,z.2,e⟩⟩
def inH (ns:List Int)(i j:Nat):Nat:=two (ns.getD i 0) (ns.getD j 0) (oth2 ns i j)
end Web
namespace Web
open PySem L2
def ot2 (ns:List Int)(i j k:Nat):List Int:=((List.range k).filter fun k=>decide (k≠i) && decide (k≠j)).map fun k=>ns.getD k 0
theorem ot2_succ (ns:List Int)(i j k:Nat):ot2 ns i j (k+1)=ot2 ns i j k++(if k≠i/\k≠j then [ns.getD k 0] else []):=by
 unfold ot2
 rw[List.range_succ,List.filter_append,List.map_append]
 by_cases h:k≠i/\k≠j
 ·rw[if_pos h,List.filter_cons_of_pos (by rw[Bool.and_eq_true,decide_eq_true_eq,decide_eq_true_eq];exact h)];rfl
 ·rw[if_neg h,List.filter_cons_of_neg (by rw[Bool.and_eq_true,decide_eq_true_eq,decide_eq_true_eq];exact h)];rfl
theorem ot2_len (ns:List Int)(i j k:Nat):(ot2 ns i j k).length<=k:=by
 unfold ot2
 rw[List.length_map]
 exact Nat.le_trans (List.length_filter_le _ _) (by rw[List.length_range];exact Nat.le_refl _)
theorem ch1_snoc {x:List (List Int)}{i:Nat}{E:List Int}(h:x[i]?=some E):(x.take (i+1)).filter (fun E=>decide ((1:Int)∈E))=(x.take i).filter (fun E=>decide ((1:Int)∈E))++(if (1:Int)∈E then [E] else []):=by
 rw[List.take_add_one,h,Option.toList_some,List.filter_append]
 by_cases c:(1:Int)∈E
 ·rw[if_pos c,List.filter_cons_of_pos (by rw[decide_eq_true_eq];exact c)];rfl
 ·rw[if_neg c,List.filter_cons_of_neg (by rw[decide_eq_true_eq];exact c)];rfl
seal L2.PE L2.PA L2.PS L2.PSs L2.PT
section
variable {P:Program} {w:World} {K:W.Frag} {mg:Str->Option Value} {base:Heap}
def spInH (K:W.Frag)(CB CM CN:Addr):Sp:=fun vs H Q E=>∃ (a:Addr) (ns:List Int) (p r:Int),vs=[.ref a,.int p,.int r]/\Sq K H a ns/\(isTl ns->ns.length<=7->isPr ns.length p r->∀ H':Hp,Same H H'->Q (.int (inH ns p.toNat r.toNat)) H')/\(¬ isTl ns->E (.ref CB) none H)/\(isTl ns->7<ns.length->E (.ref CM) none H)/\(isTl ns->ns.length<=7->¬ isPr ns.length p r->E (.ref CN) none H)
theorem scInH:FnScope ["tally","one","other","others","left","known"] ["tally","one","other"] (defScope sInH):=⟨rfl,rfl,rfl,by decide +kernel,rfl,by decide +kernel,by decide +kernel⟩
set_option maxHeartbeats 4000000 in
theorem ok_inH {f fC fP fE fB CB CM CN:Addr} {fd fdC fdP fdE fdB:FuncData} (F:Fun K "in_how_many" "in_how_many" sInH f fd) (B:Bn mg) (FC:Fun K "check_counted" "check_counted" sChC fC fdC) (bC:Binds K fdC ["tally"] []) (mC:mg "check_counted"=some (.ref fC)) (GC:FnOk P w K mg base (CXE P w) 22 fC fdC ["tally"] (spChC K CB CM))
  (FP:Fun K "check_pair" "check_pair" sChP fP fdP) (bP:Binds K fdP ["places","one","other"] []) (mP:mg "check_pair"=some (.ref fP)) (GP:FnOk P w K mg base (CXE P w) 22 fP fdP ["places","one","other"] (spChP CN))
  (FE:Fun K "first_ends" "first_ends" sFE fE fdE) (bE:Binds K fdE ["left"] []) (mE:mg "first_ends"=some (.ref fE)) (GE:FnOk P w K mg base CX0 22 fE fdE ["left"] (spFE K))
  (FB:Fun K "count_behind" "count_behind" sBeh fB fdB) (bB:Binds K fdB ["left","ends","known"] []) (mB:mg "count_behind"=some (.ref fB)) (GB:FnOk P w K mg base CX0 22 fB fdB ["left","ends","known"] (spBeh K 6)):FnOk P w K mg base (CXE P w) 23 f fd ["tally","one","other"] (spInH K CB CM CN):=by
 refine F.okX scInH (fun vs H Q E h=>?_) (fun cdv A outer s H vs Q E hr h=>?_)
 ·obtain⟨a,ns,p,r,rfl,_⟩:=h
  rfl
 ·obtain⟨a,ns,p,r,rfl,hS,q,qb,qm,qn⟩:=h
  have hsl:=sl1000
  have hun:=hr.units
  have nd4:(["place","number","one","other"]:List Str).Nodup:=by decide +kernel
  have nd3:(["ends","left","known"]:List Str).Nodup:=by decide +kernel
  refine⟨_,pss_cons (ps_expr (pe_call GC hr (by rfl) mC FC.kp bC .nil passE (pa_cons (pv 0) pa_nil)))
   (pss_cons (ps_expr (pe_call GP hr (by rfl) mP FP.kp bP .nil passE (pa_cons (pe_callB call_len_seq (by rfl) B.len PySem.boot_len (pa_cons (pv 0) pa_nil)) (pa_cons (pv 1) (pa_cons (pv 2) pa_nil)))))
   (pss_cons (ps_setC (i:=3) scInH.nd rfl rfl (by rfl) (N':=["place","number","one","other"]) (lk:=[none,none,some 1,some 2]) rfl (pi_or (pi_enum (by rfl) B.enum (pa_cons (pv 0) pa_nil)) (pi_enumT (by rfl) B.enum (pa_cons (pv 0) pa_nil))) (by rfl) rfl (by decide +kernel) (by exact⟨rfl,rfl,trivial⟩) (by rfl) (by exact LkL.ok ⟨⟨rfl,Or.inl rfl,rfl,Or.inl rfl⟩,⟨rfl,Or.inl rfl,rfl,Or.inl rfl⟩,trivial⟩)
     (fun _ _ _=>pg_tupK (n:=2) K rfl rfl (pgs_cons (pg_name (i:=0) nd4 rfl (Or.inl rfl)) (pgs_cons (pg_name (i:=1) nd4 rfl (Or.inl rfl)) pgs_nil))) (fun _ _ _=>pts_one (pt_cmpR (op_notInDK K hr.around rfl rfl) (pv 0) (pe_tup (pa_cons (pv 2) (pa_cons (pv 3) pa_nil))) (by rfl))) (fun _ _ _=>pv 1))
   (pss_cons (ps_set (i:=4) scInH.nd rfl (Or.inr rfl) (pe_op op_cat (pe_lst (pa_cons (pe_ixSK K rfl (pv 0) (pv 1) (fun _ _=>rfl)) (pa_cons (pe_ixSK K rfl (pv 0) (pv 2) (fun _ _=>rfl)) pa_nil))) (pv 3)))
   (pss_cons (ps_set (i:=5) scInH.nd rfl (Or.inr rfl) pe_dnewT)
   (pss_one (ps_ret (pe_callB (call_sum rfl) (by rfl) B.sum (by rfl) (pa_cons
     (pe_comp (N' := ["ends", "left", "known"]) (lk := [none, some 4, some 5]) rfl (pi_list (pe_call GE hr (by rfl) mE FE.kp bE .nil pass0 (pa_cons (pv 4) pa_nil))) (by rfl) rfl (by decide +kernel) (by exact ⟨rfl, rfl, trivial⟩) (by rfl) (by exact LkL.ok ⟨⟨rfl, Or.inl rfl, rfl, Or.inl rfl⟩, ⟨rfl, Or.inl rfl, rfl, Or.inl rfl⟩, trivial⟩)
      (fun _ _ _=>pg_name (i:=0) nd3 rfl (Or.inl rfl)) (fun _ _ _=>pts_one (pt_cmpR (op_inDK K hr.around rfl rfl) pe_int (pv 0) (by rfl))) (fun _ _ _=>pe_call GB hr (by rfl) mB FB.kp bB .nil pass0 (pa_cons (pv 1) (pa_cons (pv 0) (pa_cons (pv 2) pa_nil))))) pa_nil)))))))),?_⟩
  refine⟨_,rfl,a,ns,rfl,hS,fun ht h7=>?_,qb,qm⟩
  refine⟨_,rfl,a,_,rfl,hS,_,rfl,_,rfl,ns.length,p,r,congrArg (fun z:Nat=>[V.int (z:Int),V.int p,V.int r]) (List.length_map ..),fun hp=>?_,qn ht h7⟩
  obtain⟨⟨p0,p1⟩,⟨r0,r1⟩,hne⟩:=id hp
  obtain⟨i,rfl⟩:∃ i:Nat,p=(i:Int):=⟨p.toNat,by omega⟩
  obtain⟨j,rfl⟩:∃ j:Nat,r=(j:Int):=⟨r.toNat,by omega⟩
  have q':=q ht h7 hp
  rw[Int.toNat_natCast,Int.toNat_natCast]at q'
  refine Or.imp (fun h=>⟨_,rfl,h⟩) (fun h=>⟨_,rfl,h⟩) (comp_enumS (K:=K) (a:=a) (ys:=ns.map V.int) hS (by rw[List.length_map];omega)
   (fun D k xs σ' H'=>(∃ v u,σ'=[v,u,some (.int (i:Int)),some (.int (j:Int))])/\Same H H'/\H' D=some (.lst xs)/\xs=(ot2 ns i j k).map V.int) (fun D hD=>⟨⟨none,none,rfl⟩,same_upd hD,upd_same,rfl⟩)
   (fun D k xs σ' H' hD hk ⟨_,s1,h1,e1⟩=>⟨s1,h1,by rw[e1,List.length_map];exact ot2_len ns i j k⟩) ?_ ?_)
  ·rintro D k xs x t σ' H' N hD kN hx ⟨⟨v,u,rfl⟩,s1,h1,rfl⟩ htt
   obtain⟨z,hz,rfl⟩:=int_get hx
   have ez:ns.getD k 0=z:=by rw[List.getD_eq_getElem?_getD,hz];rfl
   have s2:=same_upd (o:=.tup [.int k,.int z]) htt
   refine⟨t,_,rfl,SqT.of upd_same,rfl,_,_,rfl,_,_,rfl,rfl,?_⟩
   refine⟨_,rfl,_,rfl,_,rfl,(by show 2<=sizeLine;decide),fun t2 ft2=>?_⟩
   have s3:=same_upd (o:=.tup (([(i:Int),(j:Int)]:List Int).map V.int)) ft2
   refine notin_ints (es:=[(i:Int),(j:Int)]) hun (.inr (SqT.of upd_same)) ⟨_,rfl,?_⟩
   have h1':=(s2.trans s3) _ _ h1
   have e3:=ot2_succ ns i j k
   rw[ez]at e3
   by_cases c:(k:Int)∈([(i:Int),(j:Int)]:List Int)
   ·rw[decide_eq_true c]
    refine iteF (kN _ _ _ ⟨⟨_,_,rfl⟩,s1.trans (s2.trans s3),h1',?_⟩)
    rw[e3,if_neg (fun h=>by
     rcases List.mem_cons.mp c with z | z
     ·exact h.1 (by omega)
     ·exact h.2 (by have:=List.mem_singleton.mp z;omega)),List.append_nil]
   ·rw[decide_eq_false c]
    refine iteT ⟨_,rfl,h1',kN _ _ _ ⟨⟨_,_,rfl⟩,(s1.trans (s2.trans s3)).upd hD,upd_same,?_⟩⟩
    rw[e3,if_pos ⟨fun h=>c (by rw[h];exact List.mem_cons_self),fun h=>c (by rw[h];exact List.mem_cons_of_mem _ (List.mem_singleton.mpr rfl))⟩,List.map_append]
    rfl
  ·rintro D xs σ' H1 hD ⟨⟨v,u,rfl⟩,s1,h1,rfl⟩
   rw[List.length_map]at h1
   replace h1:H1 D=some (.lst ((oth2 ns i j).map V.int)):=h1
   have hol:(oth2 ns i j).length+1+1=ns.length:=by
    have e1:=(oth2_perm (ns:=ns) (i:=i) (j:=j) (by omega) (by omega) (by omega)).length_eq
    have e2:=(oth1_perm (ns:=ns) (i:=i) (by omega)).length_eq
    rw[List.length_cons]at e1 e2
    omega
   refine⟨_,rfl,_,rfl,ix_sq (hS.same s1) (by omega) ⟨_,rfl,_,rfl,ix_sq (hS.same s1) (by omega) ⟨(by show 2<=sizeLine;decide),fun l2 fl2=>?_⟩⟩⟩
   have s2:=same_upd (o:=.lst [.int (ns.getD i 0),.int (ns.getD j 0)]) fl2
   refine⟨_,rfl,l2,D,_,_,rfl,rfl,upd_same,s2 _ _ h1,by rw[List.length_map];show 2+(oth2 ns i j).length<=_;omega,fun l3 fl3=>?_⟩
   have s3:=same_upd (o:=.lst ([.int (ns.getD i 0),.int (ns.getD j 0)]++(oth2 ns i j).map V.int)) fl3
   have g3:(upd (upd H1 l2 (.lst [.int (ns.getD i 0),.int (ns.getD j 0)])) l3 (.lst ([.int (ns.getD i 0),.int (ns.getD j 0)]++(oth2 ns i j).map V.int))) l3=some (.lst ((ns.getD i 0::ns.getD j 0::oth2 ns i j).map V.int)):=upd_same
   have s13:=(s1.trans s2).trans s3
   generalize upd (upd H1 l2 (.lst [.int (ns.getD i 0),.int (ns.getD j 0)])) l3 (.lst ([.int (ns.getD i 0),.int (ns.getD j 0)]++(oth2 ns i j).map V.int))=H3 at s13 g3 ⊢
   refine gName_to ?_
   refine fun d fd=>?_
   have s4:=same_upd (o:=.dT []) fd
   have gd4:(upd H3 d (.dT [])) d=some (.dT []):=upd_same
   have g4:=s4 _ _ g3
   have fdH:H d=none:=s13.free fd
   have s14:=s13.trans s4
   generalize upd H3 d (.dT [])=H4 at gd4 g4 s14 ⊢
   refine gName_to ?_
   refine⟨_,rfl,l3,ns.getD i 0,ns.getD j 0::oth2 ns i j,rfl,.inl (SqL.of g4),by rw[List.length_cons];omega,fun le ze H5 s5 fle gle te=>?_⟩
   have gd5:=s5 _ _ gd4
   have g5:=s5 _ _ g4
   have hze:=te.len
   have hrl:(rngI 1 (ns.getD j 0::oth2 ns i j).length).length<=6:=by unfold rngI;rw[List.length_map,List.length_range',List.length_cons];omega
   have hEl:=chs_bnd (rngI 1 (ns.getD j 0::oth2 ns i j).length) hrl (ns.getD i 0)
   have hb20:bnd (rngI 1 (ns.getD j 0::oth2 ns i j).length).length<=20:=by
    have:∀ m:Nat,m<7->bnd m<=20:=by decide +kernel
    exact this _ (by omega)
   have dne:∀ {D:Addr},H5 D=none->D≠d:=fun {D} h z=>by rw[z,gd5]at h;cases h
   have hT:=Tn_le 6 (by decide)
   refine⟨le,rfl,⟨_,SqL.of gle⟩,fun D2 hD2=>comp_list (K:=K) (a:=le) (D:=D2) (ys:=ze) (fun k xs σ' H'=>(∃ v,σ'=[v,some (.ref l3),some (.ref d)])/\Grow d H5 H'/\H' D2=some (.lst xs)/\xs=((((chs (rngI 1 (ns.getD j 0::oth2 ns i j).length) (ns.getD i 0)).take k).filter fun E=>decide ((1:Int)∈E)).map fun E=>((cnt (decP 1 E (ns.getD j 0::oth2 ns i j)):Nat):Int)).map V.int/\∃ kvs',H' d=some (.dT kvs')/\Kn kvs'/\kvs'.length<=k*Tn 6)
    ⟨⟨none,rfl⟩,(same_upd hD2).grow d,upd_same,rfl,[],by rw[upd_ne (dne hD2).symm];exact gd5,Kn.nil,Nat.zero_le _⟩ (by omega)
    (fun k xs σ' H' hk ⟨_, g1, h1, e1, _⟩ => ⟨SqL.of (gd_lst g1 gd5 gle), h1, by
     rw[e1,List.length_map,List.length_map]
     exact Nat.le_trans (List.length_filter_le _ _) (List.length_take_le _ _)⟩) ?_ ?_⟩
   ·rintro k xs y σ' H' N kN hy ⟨⟨v,rfl⟩,g1,h1,rfl,kvs',gd',kn',hl'⟩
    obtain⟨b,E,rfl,hE,hq⟩:=te.get hy
    have hk:k<ze.length:=(List.getElem?_eq_some_iff.mp hy).1
    have hkT:k*Tn 6<=20*19421:=Nat.mul_le_mul (by omega) hT
    refine gName_to ?_
    refine⟨_,rfl,in_ints (es:=E) (z:=1) hun (.inr (gd_sqT g1 gd5 hq)) ⟨_,rfl,?_⟩⟩
    have e3:=ch1_snoc hE
    by_cases c:(1:Int)∈E
    ·rw[decide_eq_true c]
     rw[if_pos c]at e3
     refine iteT ⟨_,rfl,_,rfl,_,rfl,l3,b,d,ns.getD i 0,ns.getD j 0::oth2 ns i j,E,kvs',rfl,.inl (SqL.of (gd_lst g1 gd5 g5)),by rw[List.length_cons];omega,by decide,gd_sqT g1 gd5 hq,gd',kn',by omega,fun kvs2 H6 g6 gd6 kn6 hl6=>?_⟩
     have h6:H6 D2=some (.lst _):=gd_lst g6 gd' h1
     refine⟨h6,kN _ _ _ ⟨⟨_,rfl⟩,gd_upd (g1.trans g6) hD2,upd_same,?_,kvs2,by rw[upd_ne (dne hD2).symm];exact gd6,kn6,by rw[Nat.succ_mul];omega⟩⟩
     rw[e3,List.map_append,List.map_append]
     rfl
    ·rw[decide_eq_false c]
     rw[if_neg c,List.append_nil]at e3
     refine iteF (kN _ _ _ ⟨⟨_,rfl⟩,g1,h1,by rw[e3],kvs',gd',kn',by rw[Nat.succ_mul];omega⟩)
   ·rintro xs σ' H6 ⟨⟨v,rfl⟩,g6,h6,rfl,kvs6,gd6,kn6,hl6⟩
    rw[List.take_of_length_le (by omega)]at h6
    refine⟨D2,_,rfl,SqL.of h6,?_⟩
    have hsum:(((chs (rngI 1 (ns.getD j 0::oth2 ns i j).length) (ns.getD i 0)).filter fun E=>decide ((1:Int)∈E)).map fun E=>((cnt (decP 1 E (ns.getD j 0::oth2 ns i j)):Nat):Int)).sum=((inH ns i j:Nat):Int):=by
     rw[sum_cast (fun E=>cnt (decP 1 E (ns.getD j 0::oth2 ns i j))),List.length_cons,chs_sum1]
     rfl
    rw[hsum]
    exact q' H6 (gd_same fdH (((s14.trans s5).grow d).trans g6))
end
end Web
namespace Web
open L2
theorem Ws_le:∀ {c:List Int} {f:List Int->Nat} {a:Int} {M:Nat},(∀ l,l.length=c.length->f l<=M)->Ws f c a<=bin c.length a*M
 | [],f,a,M,h=>by
  unfold Ws
  show _<=(if a=0 then 1 else 0)*M
  split
  ·rw[Nat.one_mul];exact h [] rfl
  ·exact Nat.zero_le _
 | x::c,f,a,M,h=>by
  unfold Ws
  show _<=(bin c.length (a - 1)+bin c.length a)*M
  rw[Nat.add_mul]
  exact Nat.add_le_add (Ws_le fun l hl=>h _ (by rw[List.length_cons,List.length_cons,hl])) (Ws_le fun l hl=>h _ (by rw[List.length_cons,List.length_cons,hl]))
theorem bin_le (n:Nat)(h:n<=6)(m:Int):bin n m<=bnd n:=by
 by_cases c:m<0\/(n:Int)<m
 ·rw[bin_out _ c];exact Nat.zero_le _
 ·obtain⟨k,rfl⟩:∃ k:Nat,m=(k:Int):=⟨m.toNat,by omega⟩
  exact bin_bnd _ (by omega) k (by omega)
def cntB:Nat->Nat
 | 0=>1
 | n+1=>bnd n*cntB n
theorem cnt_le:∀ (n:Nat) (d:List Int),d.length=n->n<=7->cnt d<=cntB n
 | 0,d,h,_=>by rw[List.length_eq_zero_iff.mp h];exact Nat.le_refl _
 | n+1,[],h,_=>by cases h
 | n+1,a::c,h,hn=>by
  rw[List.length_cons]at h
  rw[cnt_cons]
  refine Nat.le_trans (Ws_le (M:=cntB n) fun l hl=>cnt_le n l (by omega) (by omega)) ?_
  exact Nat.mul_le_mul_right _ (Nat.le_trans (bin_le _ (by omega) _) (bnd_mono _ (by omega) _ (by omega)))
theorem cntB_le:∀ n:Nat,n<8->cntB n<=7200:=by decide +kernel
theorem cnt_small {d:List Int}(h:d.length<=7):cnt d<=7200:=Nat.le_trans (cnt_le _ d rfl h) (cntB_le _ (by omega))
theorem lex_irr:∀ A:List Int,HT.lexLt A A=false
 | []=>rfl
 | x::A=>by rw[HT.lexLt_cons,if_pos rfl];exact lex_irr A
theorem lex_asym:∀ {A B:List Int},HT.lexLt A B=true->HT.lexLt B A=false
 | [],[],h=>by cases h
 | [],_::_,_=>rfl
 | _::_,[],h=>by cases h
 | x::A,y::B,h=>by
  rw[HT.lexLt_cons]at h ⊢
  by_cases e:x=y
  ·rw[if_pos e]at h
   rw[if_pos e.symm]
   exact lex_asym h
  ·rw[if_neg e]at h
   rw[if_neg (Ne.symm e)]
   have:=of_decide_eq_true h
   exact decide_eq_false (by omega)
theorem chs_lex:∀ {ps:List Int},ps.Pairwise (·<·)->∀ m:Int,(chs ps m).Pairwise fun A B=>HT.lexLt A B=true
 | [],_,m=>by
  unfold chs
  split
  ·exact List.pairwise_singleton _ _
  ·exact List.Pairwise.nil
 | p::ps,h,m=>by
  have h':=List.pairwise_cons.mp h
  rw[chs_cons,List.pairwise_append]
  refine⟨?_,chs_lex h'.2 m,fun A hA B hB=>?_⟩
  ·exact List.Pairwise.map _ (fun a b hab=>by rw[HT.lexLt_cons,if_pos rfl];exact hab) (chs_lex h'.2 (m - 1))
  ·obtain⟨A',hA',rfl⟩:=List.mem_map.mp hA
   have h1:=chs_many hA'
   have h2:=chs_many hB
   cases B with
   | nil=>rw[List.length_nil]at h2;omega
   | cons b B =>
    have hb:=h'.1 b (chs_sub hB b List.mem_cons_self)
    rw[HT.lexLt_cons,if_neg (by omega)]
    exact decide_eq_true hb
theorem rngI_asc (s:Int)(n:Nat):(rngI s n).Pairwise (·<·):=by
 unfold rngI
 refine List.Pairwise.map _ (fun a b hab=>?_) (List.pairwise_lt_range' (step:=1) (by decide))
 omega
theorem filter_take {L:List (List Int)}(h:L.Pairwise fun A B=>HT.lexLt A B=true):∀ {i:Nat} {E:List Int},L[i]?=some E->L.filter (fun F=>HT.lexLt F E)=L.take i:=by
 induction L with
 | nil=>intro i E e;cases e
 | cons F L ih =>
  intro i E e
  have h':=List.pairwise_cons.mp h
  cases i with
  | zero =>
   injection e with e
   subst e
   rw[List.take_zero]
   refine List.filter_eq_nil_iff.mpr fun G hG z=>?_
   rcases List.mem_cons.mp hG with rfl | hG
   ·rw[lex_irr]at z;cases z
   ·rw[lex_asym (h'.1 G hG)]at z;cases z
  | succ i =>
   have hE:=List.mem_of_getElem? (show L[i]?=some E from e)
   rw[List.filter_cons_of_pos (p:=fun F=>HT.lexLt F E) (h'.1 E hE),ih h'.2 (show L[i]?=some E from e),List.take_succ_cons]
theorem last_pick {α:Type}(w pre:α->Nat)(t:Nat):∀ (n:Nat) (L:List α),L.length=n->(∀ i x,L[i]?=some x->pre x=((L.take i).map w).sum)->t<(L.map w).sum->∃ x,x∈L/\(L.filter fun x=>decide (pre x<=t)).getLast?=some x/\pre x<=t/\t - pre x<w x
 | 0,L,hn,_,ht=>by rw[List.length_eq_zero_iff.mp hn]at ht;exact absurd ht (Nat.not_lt_zero _)
 | n+1,L,hn,hp,ht=>by
  rcases List.eq_nil_or_concat L with rfl | ⟨L',x,rfl⟩
  ·cases hn
  ·rw[List.concat_eq_append]at hn hp ht ⊢
   rw[List.length_append,List.length_singleton]at hn
   have hx:=hp L'.length x (by rw[List.getElem?_append_right (Nat.le_refl _),Nat.sub_self];rfl)
   rw[List.take_append_of_le_length (Nat.le_refl _),List.take_of_length_le (Nat.le_refl _)]at hx
   rw[List.map_append,List.sum_append]at ht
   have hs:(List.map w [x]).sum=w x:=by rw[List.map_cons,List.sum_cons,List.map_nil,List.sum_nil];omega
   rw[hs]at ht
   by_cases c:pre x<=t
   ·refine⟨x,List.mem_append_right _ List.mem_cons_self,?_,c,by omega⟩
    rw[List.filter_append,List.filter_cons_of_pos (p:=fun x=>decide (pre x<=t)) (decide_eq_true c),List.filter_nil,List.getLast?_append]
    rfl
   ·obtain⟨y,h1,h2,h3,h4⟩:=last_pick w pre t n L' (by omega) (fun i z hz=>by
     have hi:i<L'.length:=(List.getElem?_eq_some_iff.mp hz).1
     rw[hp i z (by rw[List.getElem?_append_left hi];exact hz),List.take_append_of_le_length (by omega)]) (by omega)
    refine⟨y,List.mem_append_left _ h1,?_,h3,h4⟩
    rw[List.filter_append,List.filter_cons_of_neg (by rw[decide_eq_true_eq];exact c),List.filter_nil,List.append_nil]
    exact h2
def ahd (x:Int)(c E:List Int):Nat:=(((chs (rngI 1 c.length) x).filter fun F=>HT.lexLt F E).map fun F=>cnt (decP 1 F c)).sum
theorem ahd_take {x:Int}{c E:List Int}{i:Nat}(h:(chs (rngI 1 c.length) x)[i]?=some E):ahd x c E=(((chs (rngI 1 c.length) x).take i).map fun F=>cnt (decP 1 F c)).sum:=by
 unfold ahd
 rw[filter_take (chs_lex (rngI_asc 1 c.length) x) h]
theorem ahd_pick {x:Int}{c:List Int}{t:Nat}(ht:t<cnt (x::c)):∃ E,E∈chs (rngI 1 c.length) x/\((chs (rngI 1 c.length) x).filter fun E=>decide (ahd x c E<=t)).getLast?=some E/\ahd x c E<=t/\t - ahd x c E<cnt (decP 1 E c):=
 last_pick (fun F=>cnt (decP 1 F c)) (ahd x c) t _ _ rfl (fun i E h=>ahd_take h) (by rw[chs_sum,<- cnt_cons];exact ht)
theorem chs_asc:∀ {ps:List Int},ps.Pairwise (·<·)->∀ {m:Int} {E:List Int},E∈chs ps m->E.Pairwise (·<·)
 | [],_,m,E,h=>by
  unfold chs at h
  split at h
  ·rw[List.mem_singleton.mp h];exact List.Pairwise.nil
  ·exact absurd h List.not_mem_nil
 | p::ps,hp,m,E,h=>by
  have hp':=List.pairwise_cons.mp hp
  rw[chs_cons]at h
  rcases List.mem_append.mp h with h | h
  ·obtain⟨E',h1,rfl⟩:=List.mem_map.mp h
   exact List.pairwise_cons.mpr ⟨fun y hy=>hp'.1 y (chs_sub h1 y hy),chs_asc hp'.2 h1⟩
  ·exact chs_asc hp'.2 h
theorem rngI_lt {s x:Int}{n:Nat}(h:x∈rngI s n):s<=x/\x<s+n:=by
 unfold rngI at h
 obtain⟨k,hk,rfl⟩:=List.mem_map.mp h
 have:=List.mem_range'_1.mp hk
 omega
def star1 (p:Nat)(E:List Int):List (List Int):=E.map fun e=>[(p:Int),(p:Int)+e]
end Web
namespace L2
open PySem PySem.Spec PyProof.Rows
section
variable {X:Cx}
end
end L2
namespace Web
open PySem L2
def nb1 (x:Nat):List Int->List Int
 | [i,j]=>(if i=(x:Int) then [j] else [])++(if j=(x:Int) then [i] else [])
 | _=>[]
def nbF (ks:List (List Int))(x:Nat):List Int:=ks.flatMap (nb1 x)
structure NN (H:Hp) (a:Addr) (ps:List Addr) (T:Nat->List Int) (n:Nat):Prop where
 lst:H a=some (.lst (ps.map V.ref))
 len:ps.length=n
 row:∀ (i:Nat) (p:Addr),ps[i]?=some p->H p=some (.lst ((T i).map V.int))
 nd:ps.Nodup
 out:a∉ps
def layE:Nat->List (List Int)->List (List Int)
 | _,[]=>[]
 | p,E::Es=>star1 p E++layE (p+1) Es
def Vld:List (List Int)->List Int->Prop
 | [],c=>c=[]
 | _::_,[]=>False
 | E::Es,x::c=>E∈chs (rngI 1 c.length) x/\Vld Es (decP 1 E c)
def rk:List (List Int)->List Int->Nat
 | [],_=>0
 | _::_,[]=>0
 | E::Es,x::c=>ahd x c E+rk Es (decP 1 E c)
theorem sum_take_le {α:Type}(f:α->Nat)(L:List α){i j:Nat}(h:i<=j):((L.take i).map f).sum<=((L.take j).map f).sum:=by
 obtain⟨k,rfl⟩:=Nat.exists_eq_add_of_le h
 rw[List.take_add,List.map_append,List.sum_append]
 omega
theorem sum_take_succ {α:Type}(f:α->Nat){L:List α}{i:Nat}{x:α}(h:L[i]?=some x):((L.take (i+1)).map f).sum=((L.take i).map f).sum+f x:=by
 rw[List.take_add_one,h,Option.toList_some,List.map_append,List.sum_append,List.map_cons,List.map_nil,List.sum_cons,List.sum_nil]
 omega
theorem ahd_cnt {x:Int}{c E:List Int}(h:E∈chs (rngI 1 c.length) x):ahd x c E+cnt (decP 1 E c)<=cnt (x::c):=by
 obtain⟨i,hi⟩:=List.getElem?_of_mem h
 have e:=sum_take_succ (fun F=>cnt (decP 1 F c)) hi
 have hl:i+1<=(chs (rngI 1 c.length) x).length:=(List.getElem?_eq_some_iff.mp hi).1
 have h2:=sum_take_le (fun F=>cnt (decP 1 F c)) (chs (rngI 1 c.length) x) hl
 rw[List.take_length,chs_sum,<- cnt_cons]at h2
 rw[ahd_take hi]
 omega
theorem rk_lt:∀ {Es:List (List Int)} {c:List Int},Vld Es c->rk Es c<cnt c
 | [],c,h=>by
  have h:c=[]:=h
  rw[h]
  show 0<1
  decide
 | _::_,[],h=>h.elim
 | E::Es,x::c,h=>by
  have h1:=ahd_cnt h.1
  have h2:=rk_lt h.2
  show ahd x c E+rk Es (decP 1 E c)<_
  omega
def GdE:List (List Int)->Prop
 | []=>True
 | E::Es=>(E.Pairwise (·<·)/\∀ e∈E,1<=e/\e<=(Es.length:Int))/\GdE Es
theorem vld_len:∀ {Es:List (List Int)} {c:List Int},Vld Es c->Es.length=c.length
 | [],c,h=>by
  have h:c=[]:=h
  rw[h];rfl
 | _::_,[],h=>h.elim
 | E::Es,x::c,h=>by
  have:=vld_len h.2
  rw[decP_len]at this
  rw[List.length_cons,List.length_cons,this]
theorem vld_gd:∀ {Es:List (List Int)} {c:List Int},Vld Es c->GdE Es
 | [],_,_=>trivial
 | _::_,[],h=>h.elim
 | E::Es,x::c,h=>by
  have hl:=vld_len h.2
  rw[decP_len]at hl
  refine⟨⟨chs_asc (rngI_asc 1 _) h.1,fun e he=>?_⟩,vld_gd h.2⟩
  have:=rngI_lt (chs_sub h.1 e he)
  omega
theorem lay_up:∀ {Es:List (List Int)} {p n:Nat},GdE Es->p+Es.length=n->∀ k∈layE p Es,∃ i j:Nat,p<=i/\i<j/\j<n/\k=[(i:Int),(j:Int)]
 | [],_,_,_,_,k,hk=>by cases hk
 | E::Es,p,n,h,hn,k,hk=>by
  rw[List.length_cons]at hn
  rcases List.mem_append.mp (show k∈star1 p E++layE (p+1) Es from hk) with z | z
  ·obtain⟨e,he,rfl⟩:=List.mem_map.mp z
   have:=h.1.2 e he
   exact⟨p,p+e.toNat,Nat.le_refl _,by omega,by omega,by rw[show ((p+e.toNat:Nat):Int)=(p:Int)+e by omega]⟩
  ·obtain⟨i,j,h1,h2,h3,h4⟩:=lay_up h.2 (show p+1+Es.length=n by omega) k z
   exact⟨i,j,by omega,h2,h3,h4⟩
theorem lay_ups {Es:List (List Int)}{n:Nat}(h:GdE Es)(hn:Es.length=n):∀ k∈layE 0 Es,Up n k:=fun k hk=>by
 obtain⟨i,j,_,h2,h3,h4⟩:=lay_up h (show 0+Es.length=n by omega) k hk
 exact⟨i,j,h2,h3,h4⟩
theorem lay_asc:∀ {Es:List (List Int)} {p:Nat},GdE Es->Asc (layE p Es)
 | [],_,_=>List.Pairwise.nil
 | E::Es,p,h=>by
  refine List.pairwise_append.mpr ⟨?_,lay_asc h.2,fun a ha b hb=>?_⟩
  ·refine List.Pairwise.map _ (fun a b hab=>?_) h.1.1
   unfold Tim.lexB
   rw[if_pos rfl]
   unfold Tim.lexB
   rw[if_neg (by omega)]
   exact decide_eq_true (by omega)
  ·obtain⟨e,he,rfl⟩:=List.mem_map.mp ha
   obtain⟨i,j,h1,_,_,rfl⟩:=lay_up h.2 rfl b hb
   unfold Tim.lexB
   rw[if_neg (by omega)]
   exact decide_eq_true (by omega)
def talF (p m:Nat)(L:List (List Int)):List Int:=(List.range m).map fun j=>(cntP L (p+j):Int)
theorem talF_zero (n:Nat)(L:List (List Int)):talF 0 n L=tal n L:=by
 unfold talF tal
 exact List.map_congr_left fun j _=>by rw[Nat.zero_add]
theorem cntP_star1 (p q:Nat):∀ {E:List Int},E.Pairwise (·<·)->(∀ e∈E,1<=e)->cntP (star1 p E) (p+1+q)=if 1+(q:Int)∈E then 1 else 0:=by
 intro E h h1
 have nd:E.Nodup:=List.nodup_iff_pairwise_ne.mpr (h.imp fun h=>by omega)
 rw[<- nd.count]
 unfold cntP star1 List.count
 rw[List.countP_map]
 refine List.countP_congr fun e he=>?_
 have:=h1 e he
 simp only[Function.comp,decide_eq_true_eq,List.mem_cons,List.not_mem_nil,or_false,beq_iff_eq]
 omega
theorem talF_cons {p m:Nat}{E:List Int}{Es:List (List Int)}(h:GdE (E::Es)):talF p (m+1) (layE p (E::Es))=(E.length:Int)::(List.range m).map fun j:Nat=>(if 1+(j:Int)∈E then 1 else 0)+(cntP (layE (p+1) Es) (p+1+j):Int):=by
 unfold talF
 rw[List.range_succ_eq_map,List.map_cons,List.map_map]
 congr 1
 ·show ((cntP (star1 p E++layE (p+1) Es) (p+0):Nat):Int)=_
  rw[cntP_app]
  have e1:cntP (star1 p E) (p+0)=E.length:=by
   unfold cntP
   rw[List.countP_eq_length.mpr]
   ·exact List.length_map _
   ·intro k hk
    obtain⟨e,he,rfl⟩:=List.mem_map.mp hk
    exact decide_eq_true (List.mem_cons_self)
  have e2:cntP (layE (p+1) Es) (p+0)=0:=by
   unfold cntP
   refine List.countP_eq_zero.mpr fun k hk=>?_
   obtain⟨i,j,h1,h2,_,rfl⟩:=lay_up h.2 rfl k hk
   simp only[decide_eq_true_eq,List.mem_cons,List.not_mem_nil,or_false]
   omega
  rw[e1,e2]
  rfl
 ·refine List.map_congr_left fun j _=>?_
  show ((cntP (star1 p E++layE (p+1) Es) (p+(j+1)):Nat):Int)=_
  rw[show p+(j+1)=p+1+j by omega,cntP_app,cntP_star1 p j h.1.1 (fun e he=>(h.1.2 e he).1)]
  split<;>omega
theorem getD_range {m:Nat}(f:Nat->Int){i:Nat}(h:i<m):((List.range m).map f).getD i 0=f i:=by
 rw[List.getD_eq_getElem?_getD,List.getElem?_map,List.getElem?_range h]
 rfl
theorem decP_tal {p m:Nat}{E:List Int}(g:Nat->Int):decP 1 E ((List.range m).map fun j:Nat=>(if 1+(j:Int)∈E then 1 else 0)+g j)=(List.range m).map g:=by
 rw[decP_map,List.length_map,List.length_range]
 refine List.map_congr_left fun j hj=>?_
 rw[getD_range _ (List.mem_range.mp hj)]
 split<;>omega
theorem chs_mem:∀ {n:Nat} {s:Int} {E:List Int},E.Pairwise (·<·)->(∀ e∈E,s<=e/\e<s+n)->E∈chs (rngI s n) E.length
 | 0,s,E,_,h=>by
  cases E with
  | nil=>exact List.mem_singleton.mpr rfl
  | cons e E=>have:=h e List.mem_cons_self;omega
 | n+1,s,[],_,_=>by
  rw[show (([]:List Int).length:Int)=0 from rfl,chs_zero]
  exact List.mem_singleton.mpr rfl
 | n+1,s,e::E,hp,h=>by
  have hp':=List.pairwise_cons.mp hp
  have he:=h e List.mem_cons_self
  rw[rngI_succ,chs_cons]
  by_cases z:e=s
  ·subst z
   refine List.mem_append_left _ (List.mem_map.mpr ⟨E,?_,rfl⟩)
   have:=chs_mem (n:=n) (s:=e+1) hp'.2 fun x hx=>by
    have h1:=hp'.1 x hx
    have h2:=h x (List.mem_cons_of_mem _ hx)
    omega
   rw[show (((e::E).length:Nat):Int) - 1=(E.length:Int) by rw[List.length_cons];omega]
   exact this
  ·refine List.mem_append_right _ (chs_mem (n:=n) (s:=s+1) hp fun x hx=>?_)
   have h2:=h x hx
   rcases List.mem_cons.mp hx with rfl | hx
   ·omega
   ·have h1:=hp'.1 x hx
    omega
theorem gd_vld:∀ {Es:List (List Int)} {p:Nat},GdE Es->Vld Es (talF p Es.length (layE p Es))
 | [],p,_=>rfl
 | E::Es,p,h=>by
  rw[List.length_cons,talF_cons h]
  refine⟨?_,?_⟩
  ·rw[List.length_map,List.length_range]
   exact chs_mem h.1.1 fun e he=>by have:=h.1.2 e he;omega
  ·rw[decP_tal (p:=p)]
   exact gd_vld (p:=p+1) h.2
theorem vld_tal:∀ {Es:List (List Int)} {c:List Int} {p:Nat},Vld Es c->talF p c.length (layE p Es)=c
 | [],c,p,h=>by
  have h:c=[]:=h
  rw[h]
  rfl
 | _::_,[],_,h=>h.elim
 | E::Es,x::c,p,h=>by
  have hg:=vld_gd h
  have ih:=vld_tal (p:=p+1) h.2
  have hm:=chs_many h.1
  rw[List.length_cons,talF_cons hg,hm]
  congr 1
  rw[decP_len,decP_map]at ih
  unfold talF at ih
  refine List.ext_getElem (by rw[List.length_map,List.length_range]) fun j h1 h2=>?_
  have e:=List.map_inj_left.mp ih j (List.mem_range.mpr h2)
  rw[List.getElem_map,List.getElem_range,e,List.getD_eq_getElem?_getD,List.getElem?_eq_getElem h2,Option.getD_some]
  split<;>omega
def endsF (ks:List (List Int))(p:Nat):List Int:=((nbF ks p).filter fun e=>decide ((p:Int)<e)).map fun e=>e - (p:Int)
def EsF (ks:List (List Int))(p m:Nat):List (List Int):=(List.range' p m).map (endsF ks)
theorem endsF_cons {n:Nat}{k:List Int}{ks:List (List Int)}{p:Nat}(hk:Up n k):endsF (k::ks) p=(if k.getD 0 0=(p:Int) then [k.getD 1 0 - (p:Int)] else [])++endsF ks p:=by
 obtain⟨i,j,hij,hj,rfl⟩:=hk
 unfold endsF nbF
 rw[List.flatMap_cons,List.filter_append,List.map_append]
 congr 1
 show List.map _ (List.filter _ ((if (i:Int)=(p:Int) then [(j:Int)] else [])++(if (j:Int)=(p:Int) then [(i:Int)] else [])))=if (i:Int)=(p:Int) then [(j:Int) - (p:Int)] else []
 by_cases h1:(i:Int)=(p:Int)
 ·rw[if_pos h1,if_pos h1,if_neg (by omega),List.append_nil,List.filter_cons_of_pos (p:=fun e=>decide ((p:Int)<e)) (decide_eq_true (by omega))]
  rfl
 ·rw[if_neg h1,if_neg h1,List.nil_append]
  by_cases h2:(j:Int)=(p:Int)
  ·rw[if_pos h2,List.filter_cons_of_neg (by rw[decide_eq_true_eq];omega)]
   rfl
  ·rw[if_neg h2]
   rfl
theorem mem_endsF {n:Nat}:∀ {ks:List (List Int)} {p:Nat} {e:Int},(∀ k∈ks,Up n k)->(e∈endsF ks p↔[(p:Int),(p:Int)+e]∈ks)
 | [],p,e,_=>by
  constructor
  ·intro h;cases h
  ·intro h;cases h
 | k::ks,p,e,hU=>by
  have hk:=hU k List.mem_cons_self
  rw[endsF_cons hk,List.mem_append,mem_endsF fun k h=>hU k (List.mem_cons_of_mem _ h),List.mem_cons]
  refine or_congr ?_ Iff.rfl
  obtain⟨i,j,hij,hj,rfl⟩:=hk
  show e∈(if (i:Int)=(p:Int) then [(j:Int) - (p:Int)] else [])↔_
  constructor
  ·intro h
   split at h
   ·have:=List.mem_singleton.mp h
    rename_i e1
    rw[e1,this]
    congr 2
    omega
   ·cases h
  ·intro h
   injection h with h1 h2
   injection h2 with h2
   rw[if_pos h1.symm]
   exact List.mem_singleton.mpr (by omega)
theorem endsF_asc {n:Nat}:∀ {ks:List (List Int)} {p:Nat},Asc ks->(∀ k∈ks,Up n k)->(endsF ks p).Pairwise (·<·)
 | [],p,_,_=>List.Pairwise.nil
 | k::ks,p,h,hU=>by
  have h':=List.pairwise_cons.mp h
  have hk:=hU k List.mem_cons_self
  have hU':∀ k∈ks,Up n k:=fun k h=>hU k (List.mem_cons_of_mem _ h)
  rw[endsF_cons hk]
  by_cases c:k.getD 0 0=(p:Int)
  ·rw[if_pos c]
   refine List.pairwise_cons.mpr ⟨fun e he=>?_,endsF_asc h'.2 hU'⟩
   have hm:=(mem_endsF hU').mp he
   have hl:=h'.1 _ hm
   obtain⟨i,j,hij,hj,rfl⟩:=hk
   have c:(i:Int)=(p:Int):=c
   unfold Tim.lexB at hl
   rw[if_pos c]at hl
   unfold Tim.lexB at hl
   show (j:Int) - (p:Int)<e
   by_cases z:(j:Int)=(p:Int)+e
   ·rw[if_pos z]at hl
    cases hl
   ·rw[if_neg z]at hl
    have:=of_decide_eq_true hl
    omega
  ·rw[if_neg c]
   exact endsF_asc h'.2 hU'
theorem EsF_gd {n:Nat}{ks:List (List Int)}(ha:Asc ks)(hU:∀ k∈ks,Up n k):∀ {m p:Nat},p+m=n->GdE (EsF ks p m)
 | 0,p,_=>trivial
 | m+1,p,h=>by
  refine⟨⟨endsF_asc ha hU,fun e he=>?_⟩,EsF_gd ha hU (p:=p+1) (by omega)⟩
  obtain⟨i,j,hij,hj,q⟩:=hU _ ((mem_endsF hU).mp he)
  injection q with q1 q2
  injection q2 with q2
  show 1<=e/\e<=(((List.range' (p+1) m).map (endsF ks)).length:Int)
  rw[List.length_map,List.length_range']
  omega
theorem mem_lay (f:Nat->List Int){k:List Int}:∀ {m p:Nat},k∈layE p ((List.range' p m).map f)↔∃ q:Nat,p<=q/\q<p+m/\∃ e∈f q,k=[(q:Int),(q:Int)+e]
 | 0,p=>by
  constructor
  ·intro h;cases h
  ·rintro⟨q,h1,h2,_⟩;omega
 | m+1,p=>by
  rw[List.range'_succ,List.map_cons]
  show k∈star1 p (f p)++layE (p+1) ((List.range' (p+1) m).map f)↔_
  rw[List.mem_append,mem_lay f]
  constructor
  ·rintro(h | ⟨q,h1,h2,h3⟩)
   ·obtain⟨e,he,rfl⟩:=List.mem_map.mp h
    exact⟨p,Nat.le_refl _,by omega,e,he,rfl⟩
   ·exact⟨q,by omega,by omega,h3⟩
  ·rintro⟨q,h1,h2,e,he,rfl⟩
   by_cases z:q=p
   ·subst z
    exact .inl (List.mem_map.mpr ⟨e,he,rfl⟩)
   ·exact .inr ⟨q,by omega,by omega,e,he,rfl⟩
theorem lexB_asym {a b:List Int}(h:Tim.lexB a b=true)(g:Tim.lexB b a=true):False:=by
 have e:∀ a b:List Int,Tim.lexB a b=HT.lexLt a b:=by
  intro a
  induction a with
  | nil=>intro b;cases b<;>rfl
  | cons x a ih =>
   intro b
   cases b with
   | nil=>rfl
   | cons y b=>unfold Tim.lexB;rw[HT.lexLt_cons,ih]
 rw[e]at h g
 rw[lex_asym h]at g
 cases g
theorem asc_ext:∀ {l m:List (List Int)},Asc l->Asc m->(∀ x,x∈l↔x∈m)->l=m
 | [],[],_,_,_=>rfl
 | [],y::m,_,_,h=>by have:=(h y).mpr List.mem_cons_self;cases this
 | x::l,[],_,_,h=>by have:=(h x).mp List.mem_cons_self;cases this
 | x::l,y::m,h1,h2,h=>by
  have p1:=List.pairwise_cons.mp h1
  have p2:=List.pairwise_cons.mp h2
  have e:x=y:=by
   rcases List.mem_cons.mp ((h x).mp List.mem_cons_self) with e | e
   ·exact e
   ·rcases List.mem_cons.mp ((h y).mpr List.mem_cons_self) with e' | e'
    ·exact e'.symm
    ·exact(lexB_asym (p2.1 x e) (p1.1 y e')).elim
  subst e
  rw[asc_ext p1.2 p2.2 fun z=>?_]
  have hz:=h z
  constructor
  ·intro q
   rcases List.mem_cons.mp (hz.mp (List.mem_cons_of_mem _ q)) with e | e
   ·have:=p1.1 z q
    rw[e,Tim.lexB_irr]at this
    cases this
   ·exact e
  ·intro q
   rcases List.mem_cons.mp (hz.mpr (List.mem_cons_of_mem _ q)) with e | e
   ·have:=p2.1 z q
    rw[e,Tim.lexB_irr]at this
    cases this
   ·exact e
theorem lay_EsF {n:Nat}{ks:List (List Int)}(ha:Asc ks)(hU:∀ k∈ks,Up n k):layE 0 (EsF ks 0 n)=ks:=by
 refine asc_ext (lay_asc (EsF_gd ha hU (Nat.zero_add n))) ha fun k=>?_
 unfold EsF
 rw[mem_lay]
 constructor
 ·rintro⟨q,_,_,e,he,rfl⟩
  exact(mem_endsF hU).mp he
 ·intro hk
  obtain⟨i,j,hij,hj,rfl⟩:=hU k hk
  have e1:[(i:Int),(j:Int)]=[(i:Int),(i:Int)+((j:Int) - (i:Int))]:=by congr 2;omega
  exact⟨i,Nat.zero_le _,by omega,(j:Int) - (i:Int),(mem_endsF hU).mpr (by rw[<- e1];exact hk),e1⟩
theorem EsF_len (ks:List (List Int))(p m:Nat):(EsF ks p m).length=m:=by unfold EsF;rw[List.length_map,List.length_range']
theorem EsF_vld {n:Nat}{ks:List (List Int)}(ha:Asc ks)(hU:∀ k∈ks,Up n k):Vld (EsF ks 0 n) (tal n ks):=by
 have h:=gd_vld (p:=0) (EsF_gd ha hU (Nat.zero_add n))
 rw[EsF_len,lay_EsF ha hU,talF_zero]at h
 exact h
inductive Run (V:Prop) (c0:List Int):List (List Int)->List Int->Nat->Prop
 | nil:Run V c0 [] c0 0
 | snoc {Es:List (List Int)} {x:Int} {c E:List Int} {r:Nat}:Run V c0 Es (x::c) r->(V->E∈chs (rngI 1 c.length) x)->Run V c0 (Es++[E]) (decP 1 E c) (r+ahd x c E)
theorem Run.rk {V:Prop}{c0:List Int}{Es:List (List Int)}{c1:List Int}{r:Nat}(h:Run V c0 Es c1 r):∀ Fs,Web.rk (Es++Fs) c0=r+Web.rk Fs c1:=by
 induction h with
 | nil=>intro Fs;rw[List.nil_append,Nat.zero_add]
 | snoc h hv ih =>
  intro Fs
  rw[List.append_assoc,ih]
  show _+(_+Web.rk Fs _)=_
  omega
theorem Run.vld {V:Prop}{c0:List Int}{Es:List (List Int)}{c1:List Int}{r:Nat}(h:Run V c0 Es c1 r)(v:V):∀ Fs,Vld Fs c1->Vld (Es++Fs) c0:=by
 induction h with
 | nil=>intro Fs q;exact q
 | snoc h hv ih =>
  intro Fs q
  rw[List.append_assoc]
  exact ih _ ⟨hv v,q⟩
theorem Run.at_end {V:Prop}{c0:List Int}{Es:List (List Int)}{r:Nat}(h:Run V c0 Es [] r):Web.rk Es c0=r:=by
 have:=h.rk []
 rw[List.append_nil]at this
 exact this
theorem Run.vld_end {V:Prop}{c0:List Int}{Es:List (List Int)}{r:Nat}(h:Run V c0 Es [] r)(v:V):Vld Es c0:=by
 have:=h.vld v [] rfl
 rw[List.append_nil]at this
 exact this
theorem layE_snoc:∀ (Es:List (List Int)) (p:Nat) (E:List Int),layE p (Es++[E])=layE p Es++star1 (p+Es.length) E
 | [],p,E=>by show star1 p E++[]=[]++star1 (p+0) E;rw[List.append_nil];rfl
 | F::Es,p,E=>by
  show star1 p F++layE (p+1) (Es++[E])=(star1 p F++layE (p+1) Es)++_
  rw[layE_snoc Es (p+1) E,List.append_assoc,List.length_cons,show p+1+Es.length=p+(Es.length+1) by omega]
theorem op_ltTK {X:Cx}(K:W.Frag)(A:Around)(hK:X.K=K)(hA:X.A=A)(hu:A.units<cLine):OpR X (compareOp .Lt) (rLtT K):=by subst hK hA;exact op_ltT hu
theorem ch2_snoc {p:List Int->Bool}{x:List (List Int)}{i:Nat}{E:List Int}(h:x[i]?=some E):(x.take (i+1)).filter p=(x.take i).filter p++(if p E=true then [E] else []):=by
 rw[List.take_add_one,h,Option.toList_some,List.filter_append]
 by_cases c:p E=true
 ·rw[if_pos c,List.filter_cons_of_pos c];rfl
 ·rw[if_neg c,List.filter_cons_of_neg c];rfl
theorem chs_le6 {c:List Int}(h:c.length<=6)(x:Int):(chs (rngI 1 c.length) x).length<=20:=by
 have hrl:(rngI 1 c.length).length=c.length:=by unfold rngI;rw[List.length_map,List.length_range']
 have h1:=chs_bnd (rngI 1 c.length) (by omega) x
 have:∀ m:Nat,m<7->bnd m<=20:=by decide +kernel
 exact Nat.le_trans h1 (by rw[hrl];exact this _ (by omega))
theorem Tn6:Tn 6=971:=by decide +kernel
theorem last_at {K:W.Frag}{H:Hp}{xs:List V}{Fs:List (List Int)}{E:List Int}(t:Tups K H xs (Fs++[E])):∃ eb:Addr,atI xs (-1)=some (.ref eb)/\SqT K H eb (E.map V.int):=by
 have hl:=t.len
 rw[List.length_append,List.length_singleton]at hl
 rcases List.eq_nil_or_concat xs with rfl | ⟨ys,y,rfl⟩
 ·rw[List.length_nil]at hl;omega
 ·rw[List.concat_eq_append]at t hl ⊢
  rw[List.length_append,List.length_singleton]at hl
  obtain⟨eb,E',e1,e2,e3⟩:=t.get (i:=ys.length) (y:=y) (by rw[List.getElem?_append_right (Nat.le_refl _),Nat.sub_self];rfl)
  rw[List.getElem?_append_right (by omega),show ys.length - Fs.length=0 by omega]at e2
  obtain rfl:E=E':=by injection e2
  exact⟨eb,by rw[atI_last,e1],e3⟩
structure WT (n p:Nat) (ks:List (List Int)):Prop where
 ups:∀ k∈ks,Up n k
 fst:∀ k∈ks,k.getD 0 0<(p:Int)
 nd:ks.Nodup
 len:ks.length<=6*p
theorem WT.nil {n:Nat}:WT n 0 []:=⟨fun k h=>absurd h List.not_mem_nil,fun k h=>absurd h List.not_mem_nil,List.nodup_nil,Nat.zero_le _⟩
theorem WT.step {n p:Nat}{ks:List (List Int)}{E:List Int}{x:Int}(h:WT n p ks)(hn:n<=7)(hp:p<n)(hE:E∈chs (rngI 1 (n - p - 1)) x):WT n (p+1) (ks++star1 p E):=by
 have hin:∀ e∈E,1<=e/\e<1+((n - p - 1:Nat):Int):=fun e he=>rngI_lt (chs_sub hE e he)
 have hasc:=chs_asc (rngI_asc 1 (n - p - 1)) hE
 have hl6:E.length<=6:=by
  have hl:E.length<=(rngI 1 (n - p - 1)).length:=(List.nodup_iff_pairwise_ne.mpr (hasc.imp (fun h=>by omega))).length_le_of_subset fun e he=>chs_sub hE e he
  unfold rngI at hl
  rw[List.length_map,List.length_range']at hl
  omega
 refine⟨fun k hk=>?_,fun k hk=>?_,?_,?_⟩
 ·rcases List.mem_append.mp hk with z | z
  ·exact h.ups k z
  ·obtain⟨e,he,rfl⟩:=List.mem_map.mp z
   have:=hin e he
   exact⟨p,p+e.toNat,by omega,by omega,by rw[show ((p+e.toNat:Nat):Int)=(p:Int)+e by omega]⟩
 ·rcases List.mem_append.mp hk with z | z
  ·have:=h.fst k z;omega
  ·obtain⟨e,he,rfl⟩:=List.mem_map.mp z
   show (p:Int)<_
   omega
 ·refine List.nodup_append.mpr ⟨h.nd,?_,fun a ha b hb e=>?_⟩
  ·refine List.pairwise_map.mpr (hasc.imp fun {a b} hab e=>?_)
   injection e with e1 e2
   injection e2 with e2
   omega
  ·subst e
   have h1:=h.fst a ha
   obtain⟨e,he,rfl⟩:=List.mem_map.mp hb
   exact absurd h1 (Int.lt_irrefl _)
 ·rw[List.length_append]
  have:=h.len
  unfold star1
  rw[List.length_map]
  omega
seal L2.PE L2.PA L2.PS L2.PSs L2.PT
section
variable {P:Program} {w:World} {K:W.Frag} {mg:Str->Option Value} {base:Heap}
def spAhd (K:W.Frag):Sp:=fun vs H Q _=>∃ (a e d:Addr) (x:Int) (c E:List Int) (kvs:List (List Key × V)),vs=[.ref a,.ref e,.ref d]/\Sq K H a (x::c)/\c.length<=6/\SqT K H e (E.map V.int)/\H d=some (.dT kvs)/\Kn kvs/\kvs.length+20000<=10000000/\KnQ kvs d H 19420 (ahd x c E) Q
theorem scAhd:FnScope ["left","ends","known"] ["left","ends","known"] (defScope sAhd):=⟨rfl,rfl,rfl,by decide +kernel,rfl,by decide +kernel,by decide +kernel⟩
set_option maxHeartbeats 4000000 in
theorem ok_ahd {f fE fB:Addr} {fd fdE fdB:FuncData} (F:Fun K "count_ahead" "count_ahead" sAhd f fd) (B:Bn mg) (FE:Fun K "first_ends" "first_ends" sFE fE fdE) (bE:Binds K fdE ["left"] []) (mE:mg "first_ends"=some (.ref fE)) (GE:FnOk P w K mg base CX0 22 fE fdE ["left"] (spFE K))
  (FB:Fun K "count_behind" "count_behind" sBeh fB fdB) (bB:Binds K fdB ["left","ends","known"] []) (mB:mg "count_behind"=some (.ref fB)) (GB:FnOk P w K mg base CX0 22 fB fdB ["left","ends","known"] (spBeh K 6)):FnOk P w K mg base CX0 23 f fd ["left","ends","known"] (spAhd K):=by
 refine F.ok scAhd (fun vs H Q E h=>?_) (fun cdv A outer s H vs Q E hr h=>?_)
 ·obtain⟨a,e,d,x,c,E,kvs,rfl,_⟩:=h
  rfl
 ·obtain⟨a,e,d,x,c,E,kvs,rfl,hS,hc,hE,gd,kn,hl,q⟩:=h
  have hsl:=sl1000
  have hT:=Tn6
  have hun:=hr.units
  have nd4:(["earlier","left","ends","known"]:List Str).Nodup:=by decide +kernel
  refine⟨_,pss_one (ps_ret (pe_callB (call_sum rfl) (by rfl) B.sum (by rfl) (pa_cons (pe_comp (N':=["earlier","left","ends","known"]) (lk:=[none,some 0,some 1,some 2]) rfl (pi_list (pe_call GE hr (by rfl) mE FE.kp bE .nil pass0 (pa_cons (pv 0) pa_nil))) (by rfl) rfl (by decide +kernel) (by exact⟨rfl,rfl,rfl,trivial⟩) (by rfl) (by exact LkL.ok ⟨⟨rfl,Or.inl rfl,rfl,Or.inl rfl⟩,⟨rfl,Or.inl rfl,rfl,Or.inl rfl⟩,⟨rfl,Or.inl rfl,rfl,Or.inl rfl⟩,trivial⟩) (fun _ _ _=>pg_name (i:=0) nd4 rfl (Or.inl rfl)) (fun _ _ _=>pts_one (pt_cmpR (op_ltTK K hr.around rfl rfl (Nat.lt_of_le_of_lt (Nat.le_add_right _ 64) hun)) (pv 0) (pv 2) (nomark _))) (fun _ _ _=>(pe_call GB hr (by rfl) mB FB.kp bB .nil pass0 (pa_cons (pv 1) (pa_cons (pv 0) (pa_cons (pv 3) pa_nil)))))) pa_nil))),?_⟩
  refine⟨_,rfl,a,x,c,rfl,hS,hc,fun le ze H3 s3 fle gle te=>?_⟩
  have gd3:=s3 _ _ gd
  have hze:=te.len
  have h20:=chs_le6 hc x
  have dne:∀ {D:Addr},H3 D=none->D≠d:=fun {D} h z=>by rw[z,gd3]at h;cases h
  refine⟨le,rfl,⟨_,SqL.of gle⟩,fun D hD=>comp_list (K:=K) (a:=le) (D:=D) (ys:=ze) (fun i xs σ' H'=>(∃ v,σ'=[v,some (.ref a),some (.ref e),some (.ref d)])/\Grow d H3 H'/\H' D=some (.lst xs)/\xs=((((chs (rngI 1 c.length) x).take i).filter fun F=>HT.lexLt F E).map fun F=>((cnt (decP 1 F c):Nat):Int)).map V.int/\∃ kvs',H' d=some (.dT kvs')/\Kn kvs'/\kvs'.length<=kvs.length+i*Tn 6)
   ⟨⟨none,rfl⟩,(same_upd hD).grow d,upd_same,rfl,kvs,by rw[upd_ne (dne hD).symm];exact gd3,kn,Nat.le_add_right _ _⟩ (by omega)
   (fun i xs σ' H' hi ⟨_, g1, h1, e1, _⟩ => ⟨SqL.of (gd_lst g1 gd3 gle), h1, by
    rw[e1,List.length_map,List.length_map]
    exact Nat.le_trans (List.length_filter_le _ _) (List.length_take_le _ _)⟩) ?_ ?_⟩
  ·rintro i xs y σ' H' N kN hy ⟨⟨v,rfl⟩,g1,h1,rfl,kvs',gd',kn',hl'⟩
   obtain⟨b,F',rfl,hF,hq⟩:=te.get hy
   have hi:i<ze.length:=(List.getElem?_eq_some_iff.mp hy).1
   have hiT:i*Tn 6+Tn 6<=20*Tn 6:=by
    rw[<- Nat.succ_mul]
    exact Nat.mul_le_mul_right _ (by omega)
   refine gName_to ?_
   refine⟨_,rfl,_,rfl,b,e,F',E,rfl,rfl,gd_sqT g1 gd3 hq,gd_sqT g1 gd3 (s3.seqT hE),_,rfl,?_⟩
   have e3:=ch2_snoc (p:=fun F=>HT.lexLt F E) hF
   cases hlx:HT.lexLt F' E with
   | true =>
    rw[if_pos hlx]at e3
    refine iteT ⟨_,rfl,_,rfl,_,rfl,a,b,d,x,c,F',kvs',rfl,gd_sq g1 gd3 (hS.same s3),hc,by decide,gd_sqT g1 gd3 hq,gd',kn',by omega,fun kvs2 H4 g4 gd4 kn4 hl4=>?_⟩
    have h4:H4 D=some (.lst _):=gd_lst g4 gd' h1
    refine⟨h4,kN _ _ _ ⟨⟨_,rfl⟩,gd_upd (g1.trans g4) hD,upd_same,?_,kvs2,by rw[upd_ne (dne hD).symm];exact gd4,kn4,by rw[Nat.succ_mul];omega⟩⟩
    rw[e3,List.map_append,List.map_append]
    rfl
   | false =>
    rw[if_neg (by rw[hlx];exact Bool.false_ne_true),List.append_nil]at e3
    exact iteF (kN _ _ _ ⟨⟨_,rfl⟩,g1,h1,by rw[e3],kvs',gd',kn',by rw[Nat.succ_mul];omega⟩)
  ·rintro xs σ' H4 ⟨⟨v,rfl⟩,g4,h4,rfl,kvs4,gd4,kn4,hl4⟩
   rw[List.take_of_length_le (by omega)]at h4
   refine⟨D,_,rfl,SqL.of h4,?_⟩
   have hzT:ze.length*Tn 6<=20*Tn 6:=Nat.mul_le_mul_right _ (by omega)
   rw[sum_cast (fun F=>cnt (decP 1 F c))]
   exact q kvs4 H4 ((s3.grow d).trans g4) gd4 kn4 (by omega)
def WebAtF (K:W.Frag)(H H':Hp)(p:Addr)(n:Nat)(ks:List (List Int)):Prop:=H p=none/\∃ t zs,H' p=some (.tup [.int n,.ref t])/\H' t=some (.tup zs)/\Tups K H' zs ks
def spWAt (K:W.Frag)(CB CM CX:Addr):Sp:=fun vs H Q E=>∃ (a:Addr) (ns:List Int) (t:Int),vs=[.ref a,.int t]/\Sq K H a ns/\(isTl ns->ns.length<=7->0<=t->t<(cnt ns:Int)->∀ (Es:List (List Int)),Vld Es ns->(rk Es ns:Int)=t->∀ (r:Addr) (H':Hp),Same H H'->WebAtF K H H' r ns.length (layE 0 Es)->Q (.ref r) H')/\(¬ isTl ns->E (.ref CB) none H)/\(isTl ns->7<ns.length->E (.ref CM) none H)/\(isTl ns->ns.length<=7->¬ (0<=t/\t<(cnt ns:Int))->∀ H':Hp,Same H H'->E (.ref CX) none H')
theorem scWAt:FnScope ["tally","number","known","left","within","ties","place","ends"] ["tally","number"] (defScope sWAt):=⟨rfl,rfl,rfl,by decide +kernel,rfl,by decide +kernel,by decide +kernel⟩
set_option maxHeartbeats 4000000 in
theorem ok_wAt {f fC fN fE fA fL fV CB CM CX:Addr} {fd fdC fdN fdE fdA fdL fdV:FuncData} (F:Fun K "web_at" "web_at" sWAt f fd) (B:Bn mg) (FC:Fun K "check_counted" "check_counted" sChC fC fdC) (bC:Binds K fdC ["tally"] []) (mC:mg "check_counted"=some (.ref fC)) (GC:FnOk P w K mg base (CXE P w) 23 fC fdC ["tally"] (spChC K CB CM))
  (FN:Fun K "count_of" "count_of" sCnt fN fdN) (bN:Binds K fdN ["left","known"] []) (mN:mg "count_of"=some (.ref fN)) (GN:FnOk P w K mg base CX0 23 fN fdN ["left","known"] (spCnt K 7))
  (FE:Fun K "first_ends" "first_ends" sFE fE fdE) (bE:Binds K fdE ["left"] []) (mE:mg "first_ends"=some (.ref fE)) (GE:FnOk P w K mg base CX0 23 fE fdE ["left"] (spFE K))
  (FA:Fun K "count_ahead" "count_ahead" sAhd fA fdA) (bA:Binds K fdA ["left","ends","known"] []) (mA:mg "count_ahead"=some (.ref fA)) (GA:FnOk P w K mg base CX0 23 fA fdA ["left","ends","known"] (spAhd K))
  (FL:Fun K "left_of_others" "left_of_others" sLeft fL fdL) (bL:Binds K fdL ["tally","place","ends"] []) (mL:mg "left_of_others"=some (.ref fL)) (GL:FnOk P w K mg base CX0 23 fL fdL ["tally","place","ends"] (spLeft K))
  (FV:Fun K "made" "made" sMade fV fdV) (bV:Binds K fdV ["places","ties"] []) (mV:mg "made"=some (.ref fV)) (GV:FnOk P w K mg base CX0 23 fV fdV ["places","ties"] (spMade K)) (mX:mg "BadNumber"=some (.ref CX)) (cX:ExcC K CX):FnOk P w K mg base (CXE P w) 24 f fd ["tally","number"] (spWAt K CB CM CX):=by
 refine F.okX scWAt (fun vs H Q E h=>?_) (fun cdv A outer s H vs Q E hr h=>?_)
 ·obtain⟨a,ns,t,rfl,_⟩:=h
  rfl
 ·obtain⟨a,ns,t,rfl,hS,q,qb,qm,qx⟩:=h
  have hsl:=sl1000
  have nd4:(["one","left","known","within"]:List Str).Nodup:=by decide +kernel
  have nd2:(["end","place"]:List Str).Nodup:=by decide +kernel
  refine⟨_,pss_cons (ps_expr (pe_call GC hr (by rfl) mC FC.kp bC .nil passE (pa_cons (pv 0) pa_nil)))
   (pss_cons (ps_set (i:=2) scWAt.nd rfl (Or.inr rfl) pe_dnewT)
   (pss_cons (ps_if (pt_not (pt_chain op_le op_lt pe_int (pv 1) (pe_call GN hr (by rfl) mN FN.kp bN .nil pass0 (pa_cons (pv 0) (pa_cons (pv 2) pa_nil))))) (pss_one (ps_raise (by rfl) mX cX)) pss_nil)
   (pss_cons (ps_set (i:=3) scWAt.nd rfl (Or.inr rfl) (pe_callTy call_list_of (by rfl) B.list (by rfl) (pa_cons (pv 0) pa_nil)))
   (pss_cons (ps_set (i:=4) scWAt.nd rfl (Or.inr rfl) (pv 1))
   (pss_cons (ps_set (i:=5) scWAt.nd rfl (Or.inl rfl) (pe_lst pa_nil))
   (pss_cons (ps_for po_leave rfl (pi_range1 rfl B.range (pa_cons (pe_callB call_len_seq (by rfl) B.len PySem.boot_len (pa_cons (pv 0) pa_nil)) pa_nil)) (pg_name (i := 6) scWAt.nd rfl (Or.inr rfl))
    (pss_cons (ps_set (i:=7) scWAt.nd rfl (Or.inl rfl) (pe_ix ix_list (pe_comp (N':=["one","left","known","within"]) (lk:=[none,some 3,some 2,some 4]) rfl (pi_list (pe_call GE hr (by rfl) mE FE.kp bE .nil pass0 (pa_cons (pv 3) pa_nil))) (by rfl) rfl (by decide +kernel) (by exact⟨rfl,rfl,rfl,trivial⟩) (by rfl) (by exact LkL.ok ⟨⟨rfl,Or.inl rfl,rfl,Or.inl rfl⟩,⟨rfl,Or.inl rfl,rfl,Or.inl rfl⟩,⟨rfl,Or.inl rfl,rfl,Or.inl rfl⟩,trivial⟩) (fun _ _ _=>pg_name (i:=0) nd4 rfl (Or.inl rfl)) (fun _ _ _=>pts_one (pt_cmpR op_le (pe_call GA hr (by rfl) mA FA.kp bA .nil pass0 (pa_cons (pv 1) (pa_cons (pv 0) (pa_cons (pv 2) pa_nil)))) (pv 3) (nomark _))) (fun _ _ _=>pv 0)) (pe_un un_neg pe_int) (fun _ _=>rfl)))
    (pss_cons (ps_aug (i:=4) scWAt.nd rfl (Or.inr rfl) (pe_call GA hr (by rfl) mA FA.kp bA .nil pass0 (pa_cons (pv 3) (pa_cons (pv 7) (pa_cons (pv 2) pa_nil)))) ip_sub)
    (pss_cons (ps_aug (i:=5) scWAt.nd rfl (Or.inl rfl) (pe_comp (N':=["end","place"]) (lk:=[none,some 6]) rfl (pi_tup (pv 7)) (by rfl) rfl (by decide +kernel) (by exact⟨rfl,trivial⟩) (by rfl) (by exact LkL.ok ⟨⟨rfl,Or.inl rfl,rfl,Or.inl rfl⟩,trivial⟩) (fun _ _ _=>pg_name (i:=0) nd2 rfl (Or.inl rfl)) (fun _ _ _=>pts_nil) (fun _ _ _=>pe_tup (pa_cons (pv 1) (pa_cons (pe_op op_add (pv 1) (pv 0)) pa_nil)))) ip_ext)
    (pss_one (ps_set (i:=3) scWAt.nd rfl (Or.inr rfl) (pe_call GL hr (by rfl) mL FL.kp bL .nil pass0 (pa_cons (pv 3) (pa_cons pe_int (pa_cons (pv 7) pa_nil))))))))))
   (pss_one (ps_ret (pe_call GV hr (by rfl) mV FV.kp bV .nil pass0 (pa_cons (pe_callB call_len_seq (by rfl) B.len PySem.boot_len (pa_cons (pv 0) pa_nil)) (pa_cons (pv 5) pa_nil))))))))))),?_⟩
  refine⟨_,rfl,a,ns,rfl,hS,fun ht h7=>?_,qb,qm⟩
  have t1:=ht.1
  refine fun d fd=>?_
  have s1:=same_upd (o:=.dT []) fd
  have gd1:(upd H d (.dT [])) d=some (.dT []):=upd_same
  generalize upd H d (.dT [])=H1 at s1 gd1 ⊢
  refine gName_to ?_
  refine⟨_,rfl,_,_,rfl,rfl,_,rfl,?_⟩
  by_cases h0:(0:Int)<=t
  case neg =>
   rw[decide_eq_false h0]
   exact iteF ⟨_,rfl,iteT (qx ht h7 (fun z=>h0 z.1) _ s1)⟩
  rw[decide_eq_true h0]
  have hT7:=Tn_le 7 (by decide)
  refine iteT ⟨_,rfl,_,rfl,a,d,ns,[],rfl,hS.same s1,h7,by decide,gd1,Kn.nil,by show 0+Tn 7<=_;omega,fun kvs2 H2 g2 gd2 kn2 hl2=>?_⟩
  have s2:Same H H2:=gd_same fd ((s1.grow d).trans g2)
  refine⟨_,_,rfl,rfl,_,rfl,?_⟩
  by_cases hlt:t<(cnt ns:Int)
  case neg =>
   rw[decide_eq_false hlt]
   exact iteT (qx ht h7 (fun z=>hlt z.2) _ s2)
  rw[decide_eq_true hlt]
  have q':=q ht h7 h0 hlt
  obtain⟨m,rfl⟩:∃ m:Nat,t=(m:Int):=⟨t.toNat,by omega⟩
  refine iteF ⟨_,rfl,a,_,rfl,hS.same s2,fun lf flf=>?_⟩
  have s3:=same_upd (o:=.lst (ns.map V.int)) flf
  have glf:(upd H2 lf (.lst (ns.map V.int))) lf=some (.lst (ns.map V.int)):=upd_same
  have gd3:=s3 _ _ gd2
  have s23:=s2.trans s3
  generalize upd H2 lf (.lst (ns.map V.int))=H3 at glf gd3 s23 ⊢
  refine gName_to ?_
  refine⟨_,rfl,?_⟩
  refine gName_to ?_
  refine⟨(by show 0<=sizeLine;omega),fun lk flk=>?_⟩
  have s4:=same_upd (o:=.lst []) flk
  have glk:(upd H3 lk (.lst [])) lk=some (.lst []):=upd_same
  have glf4:=s4 _ _ glf
  have gd4:=s4 _ _ gd3
  have flkH:H lk=none:=s23.free flk
  have s24:=s23.trans s4
  generalize upd H3 lk (.lst [])=H4 at glk glf4 gd4 s24 ⊢
  refine gName_to ?_
  have hS4:=hS.same s24
  have nlf0:lf≠lk:=ne_of_none glf flk
  have dlk:lk≠d:=fun z=>by rw[z,gd4]at glk;cases glk
  have hd0:H d=none:=fd
  refine⟨_,rfl,a,_,rfl,hS4,(ns.length:Int),congrArg (fun z:Nat=>[V.int (z:Int)]) (List.length_map ..),by omega,by omega,?_⟩
  rw[Int.toNat_natCast]
  refine for_range (lo:=0) (n:=ns.length) (fun p σ Ha=>∃ (lf:Addr) (cs:List Int) (m':Nat) (zs:List V) (ks:List (List Int)) (kvs:List (List Key × V)) (e6 e7:Option V),σ=[some (.ref a),some (.int (m:Int)),some (.ref d),some (.ref lf),some (.int (m':Int)),some (.ref lk),e6,e7]/\Grow d H Ha/\Ha d=some (.dT kvs)/\Kn kvs/\kvs.length<=19421+p*410000/\Ha lf=some (.lst (cs.map V.int))/\cs.length+p=ns.length/\m'<cnt cs/\Ha lk=some (.lst zs)/\Tups K Ha zs ks/\WT ns.length p ks/\(∃ Es rr,Es.length=p/\ks=layE 0 Es/\Run True ns Es cs rr/\rr+m'=m)/\lf≠lk)
   ⟨lf,ns,m,[],[],kvs2,none,none,rfl,s24.grow d,gd4,kn2,by rw[List.length_nil]at hl2;omega,glf4,rfl,by omega,glk,.nil,WT.nil,⟨[],0,rfl,rfl,.nil,Nat.zero_add _⟩,nlf0⟩ ?_ ?_
  ·rintro p σ Ha hp ⟨lf,cs,m',zs,ks,kvs,e6,e7,rfl,ga,gda,kna,hla,glfa,hcs,hm',glka,tza,hW,⟨Es,rr,hEs,rfl,hRun,hrr⟩,nlf⟩
   rw[show ((0:Int)+(p:Int))=(p:Int) by omega]
   refine gName_to ?_
   rcases cs with _ | ⟨x,c⟩
   ·rw[List.length_nil]at hcs;omega
   rw[List.length_cons]at hcs
   have hc6:c.length<=6:=by omega
   obtain⟨E,hEm,hEl,hEle,hElt⟩:=ahd_pick hm'
   have h20:=chs_le6 hc6 x
   refine⟨_,rfl,lf,x,c,rfl,.inl (SqL.of glfa),hc6,fun le ze H5 s5 fle gle te=>?_⟩
   have hze:=te.len
   have gd5:=s5 _ _ gda
   have dne:∀ {D:Addr},H5 D=none->D≠d:=fun {D} h z=>by rw[z,gd5]at h;cases h
   have hpp:p*410000<=6*410000:=Nat.mul_le_mul_right _ (by omega)
   refine⟨le,rfl,⟨_,SqL.of gle⟩,fun D hD=>comp_list (K:=K) (a:=le) (D:=D) (ys:=ze) (fun i xs σ' H'=>(∃ v,σ'=[v,some (.ref lf),some (.ref d),some (.int (m':Int))])/\Grow d H5 H'/\H' D=some (.lst xs)/\Tups K H' xs (((chs (rngI 1 c.length) x).take i).filter fun E=>decide (ahd x c E<=m'))/\∃ kvs',H' d=some (.dT kvs')/\Kn kvs'/\kvs'.length<=kvs.length+i*19420)
    ⟨⟨none,rfl⟩,(same_upd hD).grow d,upd_same,.nil,kvs,by rw[upd_ne (dne hD).symm];exact gd5,kna,Nat.le_add_right _ _⟩ (by omega)
    (fun i xs σ' H' hi ⟨_, g1, h1, t1, _⟩ => ⟨SqL.of (gd_lst g1 gd5 gle), h1, by
     rw[t1.len]
     exact Nat.le_trans (List.length_filter_le _ _) (List.length_take_le _ _)⟩) ?_ ?_⟩
   ·rintro i xs y σ' H' N kN hy ⟨⟨v,rfl⟩,g1,h1,tx,kvs',gd',kn',hl'⟩
    obtain⟨b,F',rfl,hF,hq⟩:=te.get hy
    have hi:i<ze.length:=(List.getElem?_eq_some_iff.mp hy).1
    have hiT:i*19420<=20*19420:=Nat.mul_le_mul_right _ (by omega)
    refine gName_to ?_
    refine⟨_,rfl,_,rfl,_,rfl,lf,b,d,x,c,F',kvs',rfl,.inl (SqL.of (gd_lst g1 gd5 (s5 _ _ glfa))),hc6,gd_sqT g1 gd5 hq,gd',kn',by omega,fun kvs3 H6 g6 gd6 kn6 hl6=>?_⟩
    have h6:H6 D=some (.lst xs):=gd_lst g6 gd' h1
    have g16:=g1.trans g6
    have tx6:Tups K H6 xs _:=gd_tups g6 gd' tx
    have e3:=ch2_snoc (p:=fun E=>decide (ahd x c E<=m')) hF
    refine⟨_,rfl,_,_,rfl,rfl,_,rfl,?_⟩
    by_cases hle:ahd x c F'<=m'
    ·rw[decide_eq_true (show ((ahd x c F':Nat):Int)<=(m':Int) by omega)]
     rw[if_pos (decide_eq_true hle)]at e3
     refine iteT ⟨_,rfl,h6,kN _ _ _ ⟨⟨_,rfl⟩,gd_upd g16 hD,upd_same,?_,kvs3,by rw[upd_ne (dne hD).symm];exact gd6,kn6,by omega⟩⟩
     rw[e3]
     exact Tups.updL h6 (Tups.append tx6 (Tups.one (gd_sqT g16 gd5 hq)))
    ·rw[decide_eq_false (show ¬ ((ahd x c F':Nat):Int)<=(m':Int) by omega)]
     rw[if_neg (by rw[decide_eq_true_eq];exact hle),List.append_nil]at e3
     exact iteF (kN _ _ _ ⟨⟨_,rfl⟩,g16,h6,by rw[e3];exact tx6,kvs3,gd6,kn6,by omega⟩)
   ·rintro xs σ' H6 ⟨⟨v,rfl⟩,g6,h6,tx,kvs6,gd6,kn6,hl6⟩
    rw[List.take_of_length_le (by omega)]at tx
    have hz20:ze.length*19420<=20*19420:=Nat.mul_le_mul_right _ (by omega)
    obtain⟨Fs,hFs⟩:∃ Fs,(chs (rngI 1 c.length) x).filter (fun E=>decide (ahd x c E<=m'))=Fs++[E]:=List.getLast?_eq_some_iff.mp hEl
    rw[hFs]at tx
    obtain⟨eb,hat,hqE⟩:=last_at tx
    refine⟨_,rfl,D,_,_,_,rfl,rfl,SqL.of h6,hat,?_⟩
    refine gName_to ?_
    have ga6:=(ga.trans (s5.grow d)).trans g6
    have glf6:=gd_lst g6 gd5 (s5 _ _ glfa)
    refine⟨_,rfl,_,rfl,_,rfl,_,rfl,lf,eb,d,x,c,E,kvs6,rfl,.inl (SqL.of glf6),hc6,hqE,gd6,kn6,by omega,fun kvs7 H7 g7 gd7 kn7 hl7=>?_⟩
    refine⟨_,_,rfl,rfl,?_⟩
    refine gName_eq (v':=.int ((m' - ahd x c E:Nat):Int)) (congrArg V.int (show (m':Int) - ((ahd x c E:Nat):Int)=((m' - ahd x c E:Nat):Int) by omega)) ?_
    have hqE7:=gd_sqT g7 gd6 hqE
    have glf7:=gd_lst g7 gd6 glf6
    have glk7:=gd_lst g7 gd6 (gd_lst g6 gd5 (s5 _ _ glka))
    have tz7:Tups K H7 zs (layE 0 Es):=gd_tups g7 gd6 (gd_tups g6 gd5 (s5.tups tza))
    have ga7:=ga6.trans g7
    have hEl6:E.length<=6:=by
     have hasc:=chs_asc (rngI_asc 1 c.length) hEm
     have hl:E.length<=(rngI 1 c.length).length:=(List.nodup_iff_pairwise_ne.mpr (hasc.imp (fun h=>by omega))).length_le_of_subset fun e he=>chs_sub hEm e he
     unfold rngI at hl
     rw[List.length_map,List.length_range']at hl
     omega
    refine⟨_,rfl,_,rfl,eb,rfl,⟨_,hqE7⟩,fun D2 hD2=>comp_tup (K:=K) (a:=eb) (D:=D2) (ys:=E.map V.int) (fun i xs σ' H'=>(∃ v,σ'=[v,some (.int (p:Int))])/\Same H7 H'/\H' D2=some (.lst xs)/\Tups K H' xs (star1 p (E.take i))) ⟨⟨none,rfl⟩,same_upd hD2,upd_same,.nil⟩ (by rw[List.length_map];omega)
     (fun i xs σ' H' hi ⟨_,s1,h1,t1⟩=>⟨s1.seqT hqE7,h1,by rw[t1.len];unfold star1;rw[List.length_map,List.length_take];omega⟩) ?_ ?_⟩
    ·rintro i xs y σ' H' N kN hy ⟨⟨v,rfl⟩,s1,h1,t1⟩
     obtain⟨e,he,rfl⟩:=int_get hy
     refine gName_to (tTrue_if ?_)
     refine⟨_,rfl,_,rfl,_,rfl,_,_,rfl,rfl,(by show 2<=sizeLine;decide),fun tp ftp=>?_⟩
     have s2:=same_upd (o:=.tup [.int (p:Int),.int ((p:Int)+e)]) ftp
     have h1':=s2 _ _ h1
     refine⟨h1',kN _ _ _ ⟨⟨_,rfl⟩,(s1.trans s2).upd hD2,upd_same,?_⟩⟩
     unfold star1 at t1 ⊢
     rw[List.take_add_one,he,List.map_append]
     exact Tups.updL h1' (Tups.append (s2.tups t1) (Tups.one (SqT.of upd_same)))
    ·rintro xs2 σ' H8 ⟨⟨v,rfl⟩,s8,h8,t8⟩
     rw[List.take_of_length_le (by rw[List.length_map];exact Nat.le_refl _)]at t8
     have glk8:=s8 _ _ glk7
     have hx2:=t8.len
     have hzl:=tza.len
     have hkl:=hW.len
     unfold star1 at hx2
     rw[List.length_map]at hx2
     refine⟨lk,D2,zs,xs2,rfl,rfl,glk8,h8,by omega,?_⟩
     have glk9:(upd H8 lk (.lst (zs++xs2))) lk=some (.lst (zs++xs2)):=upd_same
     have tz9:=Tups.updL (zs:=zs++xs2) glk8 (Tups.append (s8.tups tz7) t8)
     have glf8:=s8 _ _ glf7
     have gd8:=s8 _ _ gd7
     have ga9:Grow d H (upd H8 lk (.lst (zs++xs2))):=gd_upd (ga7.trans (s8.grow d)) flkH
     have gd9:(upd H8 lk (.lst (zs++xs2))) d=some (.dT kvs7):=by rw[upd_ne dlk.symm];exact gd8
     have glf9:(upd H8 lk (.lst (zs++xs2))) lf=some (.lst ((x::c).map V.int)):=by rw[upd_ne nlf];exact glf8
     have hq9:SqT K (upd H8 lk (.lst (zs++xs2))) eb (E.map V.int):=(s8.seqT hqE7).updL glk8
     generalize upd H8 lk (.lst (zs++xs2))=H9 at glk9 tz9 ga9 gd9 glf9 hq9 ⊢
     refine⟨_,rfl,_,rfl,lf,eb,x::c,E,0,rfl,.inl (SqL.of glf9),by rw[List.length_cons];omega,.inr hq9,fun l' H10 s10 fl' gl'=>?_⟩
     rw[left_dec]at gl'
     refine gName_to ?_
     refine⟨l',decP 1 E c,m' - ahd x c E,zs++xs2,layE 0 Es++star1 p E,kvs7,_,_,rfl,ga9.trans (s10.grow d),s10 _ _ gd9,kn7,by omega,gl',by rw[decP_len];omega,hElt,s10 _ _ glk9,s10.tups tz9,hW.step h7 hp (x:=x) (by rw[show ns.length - p - 1=c.length by omega];exact hEm),⟨Es++[E],rr+ahd x c E,by rw[List.length_append,hEs];rfl,by rw[layE_snoc,Nat.zero_add,hEs],hRun.snoc fun _=>hEm,by omega⟩,(ne_of_none glk9 fl').symm⟩
  ·rintro σ Ha ⟨lf,cs,m',zs,ks,kvs,e6,e7,rfl,ga,gda,kna,hla,glfa,hcs,hm',glka,tza,hW,⟨Es,rr,hEs,rfl,hRun,hrr⟩,nlf⟩
   have hzl:=tza.len
   have hkl:=hW.len
   have sH:Same H Ha:=gd_same hd0 ga
   rcases cs with _ | ⟨x,c⟩
   case cons=>rw[List.length_cons]at hcs;omega
   have hm0:m'=0:=by
    have:m'<1:=hm'
    omega
   have hv:=hRun.vld_end trivial
   have hrk:=hRun.at_end
   have hgd:=vld_gd hv
   have hel:=vld_len hv
   have hU:=lay_ups hgd hel
   have hmu:(layE 0 Es).map up=layE 0 Es:=by
    conv=>rhs;rw[<- List.map_id' (layE 0 Es)]
    exact List.map_congr_left fun k hk=>up_up (hU k hk)
   refine⟨_,rfl,a,_,rfl,hS.same sH,_,rfl,ns.length,lk,zs,layE 0 Es,congrArg (fun z:Nat=>[V.int (z:Int),V.ref lk]) (List.length_map ..),t1,by omega,.inl (SqL.of glka),tza,fun k hk=>(hU k hk).ends,by rw[hmu];exact asc_nodup (lay_asc hgd),by omega,fun r t zs2 ks2 H' s' fr ft gr gt tt pm so=>?_⟩
   rw[hmu]at pm
   rw[asc_uniq (lay_asc hgd) pm so]at tt
   exact q' Es hv (by rw[hrk];omega) r H' (sH.trans s') ⟨sH.free fr,t,zs2,gr,gt,tt⟩
end
end Web
namespace Web
open PySem L2
theorem p60:(0:Int)<10 ^ (Int.toNat 60):=Int.pow_pos (by decide)
seal L2.PE L2.PA L2.PS L2.PSs L2.PT
section
variable {P:Program} {w:World} {K:W.Frag} {mg:Str->Option Value} {base:Heap}
def spSmall (K:W.Frag):Sp:=fun vs H Q _=>∃ (c:Int) (m:Nat),vs=[.int c,.int m]/\1<=m/\m<=7/\∀ (l:Addr) (ts:List Int) (H':Hp),1<=ts.length->ts.length<=m->Same H H'->H l=none->H' l=some (.lst (ts.map V.int))->Q (.ref l) H'
theorem scSmall:FnScope ["cell","most","rest","places","tally","at"] ["cell","most"] (defScope sSmall):=⟨rfl,rfl,rfl,by decide +kernel,rfl,by decide +kernel,by decide +kernel⟩
set_option maxHeartbeats 2000000 in
theorem ok_small {f fR fT fS:Addr}{fd fdR fdT fdS:FuncData}(F:Fun K "_law_small" "_law_small" sSmall f fd)(B:Bn mg)(FR:Fun K "_law_row" "_law_row" sRow fR fdR)(bR:Binds K fdR ["cell","many","size"] [])(mR:mg "_law_row"=some (.ref fR))
  (FT:Fun K "_law_ties" "_law_ties" sTies fT fdT)(bT:Binds K fdT ["places","cell"] [])(mT:mg "_law_ties"=some (.ref fT))(FS:Fun K "_law_sums" "_law_sums" sSums fS fdS)(bS:Binds K fdS ["places","ties"] [])(mS:mg "_law_sums"=some (.ref fS)):FnOk P w K mg base CX0 3 f fd ["cell","most"] (spSmall K):=by
 have GR:FnOk P w K mg base CX0 2 fR fdR ["cell","many","size"] (spRow K):=(ok_row FR B).mono (by decide)
 have GT:FnOk P w K mg base CX0 2 fT fdT ["places","cell"] (spTies K):=ok_ties FT B FR bR mR
 have GS:FnOk P w K mg base CX0 2 fS fdS ["places","ties"] (spSums K):=(ok_sums FS).mono (by decide)
 refine F.ok scSmall (fun vs H Q E h=>?_) (fun cdv A outer s H vs Q E hr h=>?_)
 ·obtain⟨c,m,rfl,_⟩:=h
  rfl
 ·obtain⟨c,m,rfl,m1,m7,q⟩:=h
  have hsl:=sl1000
  refine⟨_,pss_cons (ps_set (i:=2) scSmall.nd rfl (Or.inl rfl) (pe_op op_mod (pv 0) (pe_op op_pow pe_int pe_int)))
   (pss_cons (ps_set (i:=3) scSmall.nd rfl (Or.inl rfl) (pe_op op_add pe_int (pe_op op_mod (pv 2) (pv 1))))
   (pss_cons (ps_set (i:=2) scSmall.nd rfl (Or.inl rfl) (pe_op op_fdiv (pv 2) (pv 1)))
   (pss_cons (ps_set (i:=4) scSmall.nd rfl (Or.inl rfl) (pe_call GS hr (by rfl) mS FS.kp bS .nil pass0 (pa_cons (pv 3) (pa_cons (pe_call GT hr (by rfl) mT FT.kp bT .nil pass0 (pa_cons (pv 3) (pa_cons (pe_op op_fdiv (pv 2) pe_int) pa_nil))) pa_nil))))
   (pss_cut (ps_if (pt_cmpR op_eq (pe_op op_mod (pv 2) pe_int) pe_int (nomark _)) (pss_one (ps_set (i:=4) scSmall.nd rfl (Or.inl rfl) (pe_call GR hr (by rfl) mR FR.kp bR .nil pass0 (pa_cons (pe_op op_fdiv (pv 2) pe_int) (pa_cons (pv 3) (pa_cons (pv 3) pa_nil)))))) pss_nil)
   (pss_cons (ps_if (pt_cmpR op_eq (pe_op op_mod (pv 2) pe_int) pe_int (nomark _))
     (pss_cons (ps_set (i:=5) scSmall.nd rfl (Or.inl rfl) (pe_op op_mod (pe_op op_fdiv (pv 2) pe_int) (pv 3)))
     (pss_one (ps_asg (pe_op op_add (pe_ix ix_list (pv 4) (pv 5) (fun _ _=>rfl)) (pe_ix ix_list (pe_lst (pa_cons pe_int (pa_cons (pe_op op_sub pe_int pe_int) (pa_cons pe_int (pa_cons (pe_op op_sub pe_int pe_int) (pa_cons (pv 2) pa_nil)))))) (pe_op op_mod (pe_op op_fdiv (pv 2) pe_int) pe_int) (fun _ _=>rfl))) (pg_sub (pv 4) (pv 5) set_list)))) pss_nil)
   (pss_one (ps_ret (pv 4)))))))),?_⟩
  refine⟨_,rfl,_,_,rfl,rfl,⟨by decide,by decide,by decide⟩,_,_,rfl,rfl,p60,?_⟩
  refine gName_int fun r _=>?_
  refine⟨_,rfl,_,rfl,_,_,rfl,rfl,(by show (0:Int)<(m:Int);omega),_,_,rfl,rfl,?_⟩
  obtain⟨n,hn,n1,n2⟩:∃ n:Nat,1+r % (m:Int)=(n:Int)/\1<=n/\n<=m:=by
   obtain⟨j,h1,h2⟩:=mod_nat r (show 0<m by omega)
   exact⟨1+j,by rw[h1];omega,by omega,by omega⟩
  refine gName_eq (congrArg V.int hn) ?_
  refine⟨_,rfl,_,rfl,_,_,rfl,rfl,⟨by show (0:Int)<(m:Int);omega,by show (m:Int)<1073741824;omega⟩,?_⟩
  refine gName_int fun r2 _=>?_
  refine⟨_,rfl,_,rfl,_,rfl,_,_,rfl,rfl,⟨by decide,by decide⟩,n,_,rfl,by omega,fun l0 zs ks H2 s2 f2 g2 t2 sub=>?_⟩
  refine⟨n,l0,zs,ks,rfl,by omega,SqL.of g2,t2,fun k hk=>(mem_pairs (sub.subset hk)).ends,fun l H3 s3 f3 g3=>?_⟩
  refine gName_to ?_
  refine⟨fun σ Ha=>∃ (l:Addr) (ts:List Int),σ=[some (.int c),some (.int m),some (.int r2),some (.int n),some (.ref l),none]/\Same H Ha/\H l=none/\Ha l=some (.lst (ts.map V.int))/\ts.length=n,?_,?_⟩
  ·refine⟨_,rfl,_,_,rfl,rfl,(by show (0:Int)<4;decide),rfl,_,rfl,?_⟩
   refine ite2 (fun _=>?_) (fun _=>?_)
   ·refine⟨_,rfl,_,_,rfl,rfl,⟨by decide,by decide⟩,_,rfl,_,rfl,_,n,n,rfl,by omega,n1,by omega,fun l5 ts H5 hl5 s5 f5 g5=>?_⟩
    exact⟨l5,ts,rfl,(s2.trans s3).trans s5,(s2.trans s3).free f5,g5,hl5⟩
   ·exact⟨l,tal n ks,rfl,s2.trans s3,s2.free f3,g3,tal_len n ks⟩
  ·rintro σ Ha ⟨l,ts,rfl,sa,fl,gl,hl⟩
   refine⟨_,rfl,_,_,rfl,rfl,(by show (0:Int)<4;decide),rfl,_,rfl,?_⟩
   refine ite2 (fun _=>?_) (fun _=>?_)
   ·refine⟨_,rfl,_,_,rfl,rfl,⟨by decide,by decide⟩,_,rfl,_,_,rfl,rfl,(by show (0:Int)<(n:Int);omega),?_⟩
    obtain⟨at',h1,h2⟩:=mod_nat (r2 / 4) (show 0<n by omega)
    refine gName_eq (congrArg V.int h1) ?_
    have hat:atI (ts.map V.int) (at':Int)=some (.int (ts.getD at' 0)):=at_int (by omega)
    refine⟨_,rfl,_,rfl,l,_,_,_,rfl,rfl,SqL.of gl,hat,_,_,rfl,rfl,_,_,rfl,rfl,_,rfl,(by show 5<=sizeLine;decide),fun l5 f5=>?_⟩
    have s5:=same_upd (o:=.lst [.int 1,.int (0 - 1),.int 2,.int (0 - 2),.int r2]) f5
    obtain⟨v,hv⟩:=five_of 1 (0 - 1) 2 (0 - 2) r2 (r2 / 28 % 5) ⟨Int.emod_nonneg _ (by decide),Int.emod_lt_of_pos _ (by decide)⟩
    refine⟨_,rfl,_,_,rfl,rfl,⟨by decide,by decide⟩,_,_,rfl,rfl,(by show (0:Int)<5;decide),l5,_,_,_,rfl,rfl,SqL.of upd_same,hv,_,_,rfl,rfl,_,rfl,_,rfl,l,_,_,at',rfl,rfl,s5 _ _ gl,ixN_nat (by rw[List.length_map];omega),?_⟩
    refine⟨_,rfl,q l (ts.set at' (ts.getD at' 0+v)) _ (by rw[List.length_set];omega) (by rw[List.length_set];omega) ((sa.trans s5).upd fl) fl ?_⟩
    rw[upd_same,set_map_int]
   ·exact⟨_,rfl,q l ts Ha (by omega) (by omega) sa fl gl⟩
end
end Web
namespace Web
open PySem L2
theorem unrank:∀ {n:Nat} {c:List Int} {t:Nat},c.length=n->t<cnt c->∃ Es,Vld Es c/\rk Es c=t
 | 0,c,t,hn,ht=>by
  have hc:=List.length_eq_zero_iff.mp hn
  subst hc
  have ht:t<1:=ht
  exact⟨[],rfl,by show 0=t;omega⟩
 | n+1,[],t,hn,_=>by cases hn
 | n+1,x::c,t,hn,ht=>by
  obtain⟨E,h1,_,h3,h4⟩:=ahd_pick ht
  obtain⟨Es,v,r⟩:=unrank (n:=n) (c:=decP 1 E c) (t:=t - ahd x c E) (by rw[decP_len];simpa using hn) h4
  exact⟨E::Es,⟨h1,v⟩,by show ahd x c E+rk Es (decP 1 E c)=t;omega⟩
def co (M:Int)(l:List Int):List Int:=l.map fun y=>M - y
theorem co_len (M:Int)(l:List Int):(co M l).length=l.length:=List.length_map _
theorem Ws_co:∀ {c:List Int} {f:List Int->Nat} {a M:Int},Ws f c a=Ws (fun l=>f (co (M - 1) l)) (co M c) ((c.length:Int) - a)
 | [],f,a,M=>by
  unfold co
  rw[List.map_nil,List.length_nil]
  unfold Ws
  by_cases h:a=0
  ·rw[if_pos h,if_pos (by omega)]
   rfl
  ·rw[if_neg h,if_neg (by omega)]
 | x::c,f,a,M=>by
  have e1:=Ws_co (c:=c) (f:=fun l=>f ((x - 1)::l)) (a:=a - 1) (M:=M)
  have e2:=Ws_co (c:=c) (f:=fun l=>f (x::l)) (a:=a) (M:=M)
  show Ws (fun l=>f ((x - 1)::l)) c (a - 1)+Ws (fun l=>f (x::l)) c a=Ws (fun l=>f (co (M - 1) ((M - x - 1)::l))) (co M c) (((x::c).length:Int) - a - 1)+Ws (fun l=>f (co (M - 1) ((M - x)::l))) (co M c) (((x::c).length:Int) - a)
  rw[e1,e2,Nat.add_comm,List.length_cons]
  congr 1
  ·rw[show (((c.length+1:Nat):Int) - a - 1)=(c.length:Int) - a by omega]
   refine Ws_congr fun l _=>?_
   show f (x::co (M - 1) l)=f ((M - 1 - (M - x - 1))::co (M - 1) l)
   rw[show M - 1 - (M - x - 1)=x by omega]
  ·rw[show (((c.length+1:Nat):Int) - a)=(c.length:Int) - (a - 1) by omega]
   refine Ws_congr fun l _=>?_
   show f ((x - 1)::co (M - 1) l)=f ((M - 1 - (M - x))::co (M - 1) l)
   rw[show M - 1 - (M - x)=x - 1 by omega]
theorem cnt_co:∀ {n:Nat} {c:List Int},c.length=n->cnt (co ((n:Int) - 1) c)=cnt c
 | 0,c,h=>by
  rw[List.length_eq_zero_iff.mp h]
  rfl
 | n+1,[],h=>by cases h
 | n+1,a::c,h=>by
  have hc:c.length=n:=by simpa using h
  rw[show (((n+1:Nat):Int) - 1)=(n:Int) by omega]
  show cnt (((n:Int) - a)::co (n:Int) c)=cnt (a::c)
  rw[cnt_cons,cnt_cons,Ws_co (c:=c) (f:=cnt) (a:=a) (M:=(n:Int)),hc]
  refine Ws_congr fun l hl=>?_
  rw[co_len,hc]at hl
  exact(cnt_co (n:=n) hl).symm
theorem cntw_pos {n:Nat}{ts:List Int}(hn:ts.length=n):0<cnt ts↔∃ ks,Asc ks/\(∀ k∈ks,Up n k)/\tal n ks=ts:=by
 constructor
 ·intro h
  obtain⟨Es,v,_⟩:=unrank hn h
  have gd:=vld_gd v
  refine⟨layE 0 Es,lay_asc gd,lay_ups gd ((vld_len v).trans hn),?_⟩
  have:=vld_tal (p:=0) v
  rw[talF_zero,hn]at this
  exact this
 ·rintro⟨ks,h1,h2,h3⟩
  have:=EsF_vld h1 h2
  rw[h3]at this
  exact Nat.lt_of_le_of_lt (Nat.zero_le _) (rk_lt this)
theorem cnt_two' (x y:Int)(c:List Int):cnt (x::y::c)=two x y c+Ws (fun l=>cnt (y::l)) c x:=by
 rw[cnt_cons]
 rfl
theorem two_less (a b:Int)(c:List Int):cnt ((a - 1)::(b - 1)::c)=two (a - 1) (b - 1) c+two a b c:=cnt_two' (a - 1) (b - 1) c
theorem two_co {a b:Int}{c:List Int}{n:Nat}(h:c.length+2=n):two a b c+two ((n:Int) - 1 - a) ((n:Int) - 1 - b) (co ((n:Int) - 1) c)=cnt (a::b::c):=by
 rw[cnt_two' a b c,Ws_co (c:=c) (f:=fun l=>cnt (b::l)) (a:=a) (M:=(n:Int) - 1)]
 congr 1
 unfold two
 rw[show ((n:Int) - 1 - a - 1)=(c.length:Int) - a by omega]
 refine Ws_congr fun l hl=>?_
 rw[co_len]at hl
 have e:=cnt_co (n:=c.length+1) (c:=((n:Int) - 1 - b - 1)::l) (by rw[List.length_cons,hl])
 rw[<- e]
 show cnt ((((c.length+1:Nat):Int) - 1 - ((n:Int) - 1 - b - 1))::co (((c.length+1:Nat):Int) - 1) l)=cnt (b::co ((n:Int) - 1 - 1) l)
 rw[show (((c.length+1:Nat):Int) - 1 - ((n:Int) - 1 - b - 1))=b by omega,show (((c.length+1:Nat):Int) - 1)=(n:Int) - 1 - 1 by omega]
theorem cnt_oth {ns:List Int}{i j:Nat}(hi:i<ns.length)(hj:j<ns.length)(hij:i≠j):cnt (ns.getD i 0::ns.getD j 0::oth2 ns i j)=cnt ns:=
 cnt_pi _ _ (((oth2_perm hi hj hij).cons _).trans (oth1_perm hi))
theorem oth2_len {ns:List Int}{i j:Nat}(hi:i<ns.length)(hj:j<ns.length)(hij:i≠j):(oth2 ns i j).length+2=ns.length:=by
 have:=(((oth2_perm hi hj hij).cons (ns.getD i 0)).trans (oth1_perm hi)).length_eq
 rw[List.length_cons,List.length_cons]at this
 omega
theorem getD_co {M:Int}{ns:List Int}{k:Nat}(h:k<ns.length):(co M ns).getD k 0=M - ns.getD k 0:=by
 unfold co
 rw[List.getD_eq_getElem?_getD,List.getElem?_map,List.getElem?_eq_getElem h,List.getD_eq_getElem?_getD,List.getElem?_eq_getElem h]
 rfl
theorem oth2_co {M:Int}{ns:List Int}{i j:Nat}:oth2 (co M ns) i j=co M (oth2 ns i j):=by
 unfold oth2
 rw[co_len]
 show _=List.map _ (List.map _ _)
 rw[List.map_map]
 refine List.map_congr_left fun k hk=>?_
 exact getD_co (List.mem_range.mp (List.mem_filter.mp hk).1)
theorem inH_co {ns:List Int}{i j:Nat}(hi:i<ns.length)(hj:j<ns.length)(hij:i≠j):inH ns i j+inH (co ((ns.length:Int) - 1) ns) i j=cnt ns:=by
 unfold inH
 rw[getD_co hi,getD_co hj,oth2_co,two_co (oth2_len hi hj hij),cnt_oth hi hj hij]
def less2 (ns:List Int)(i j:Nat):List Int:=(ns.set i (ns.getD i 0 - 1)).set j (ns.getD j 0 - 1)
theorem less2_len (ns:List Int)(i j:Nat):(less2 ns i j).length=ns.length:=by unfold less2;rw[List.length_set,List.length_set]
theorem less2_at {ns:List Int}{i j k:Nat}(hi:i<ns.length)(hj:j<ns.length)(hij:i≠j):(less2 ns i j).getD k 0=if k=j then ns.getD j 0 - 1 else if k=i then ns.getD i 0 - 1 else ns.getD k 0:=by
 unfold less2
 by_cases e1:k=j
 ·subst e1
  rw[if_pos rfl,List.getD_eq_getElem?_getD,List.getElem?_set_self (by rw[List.length_set];exact hj)]
  rfl
 ·rw[if_neg e1,List.getD_eq_getElem?_getD,List.getElem?_set_ne (Ne.symm e1)]
  by_cases e2:k=i
  ·subst e2
   rw[if_pos rfl,List.getElem?_set_self hi]
   rfl
  ·rw[if_neg e2,List.getElem?_set_ne (Ne.symm e2),List.getD_eq_getElem?_getD]
theorem inH_less {ns:List Int}{i j:Nat}(hi:i<ns.length)(hj:j<ns.length)(hij:i≠j):cnt (less2 ns i j)=inH (less2 ns i j) i j+inH ns i j:=by
 have l:=less2_len ns i j
 rw[<- cnt_oth (by rw[l];exact hi) (by rw[l];exact hj) hij]
 have e1:(less2 ns i j).getD i 0=ns.getD i 0 - 1:=by rw[less2_at hi hj hij,if_neg hij,if_pos rfl]
 have e2:(less2 ns i j).getD j 0=ns.getD j 0 - 1:=by rw[less2_at hi hj hij,if_pos rfl]
 have e3:oth2 (less2 ns i j) i j=oth2 ns i j:=by
  unfold oth2
  rw[l]
  refine List.map_congr_left fun k hk=>?_
  have:=(List.mem_filter.mp hk).2
  rw[Bool.and_eq_true,decide_eq_true_eq,decide_eq_true_eq]at this
  rw[less2_at hi hj hij,if_neg this.2,if_neg this.1]
 unfold inH
 rw[e1,e2,e3]
 exact two_less _ _ _
theorem call_len_seqK {X:Cx}(K:W.Frag)(hK:X.K=K):CallR X (.builtin "len") (fun xs H Q=>∃ p ys,xs=[.ref p]/\(SqL K H p ys\/SqT K H p ys)/\Q (.int ys.length) H):=by subst hK;exact call_len_seq
theorem insM (xs:List Int)(i:Nat)(z:Int):(xs.map V.int).take i++[V.int z]++(xs.map V.int).drop i=(xs.take i++[z]++xs.drop i).map V.int:=by
 rw[List.map_append,List.map_append,List.map_take,List.map_drop]
 rfl
theorem insP (xs:List Int)(i:Nat)(z:Int):(xs.take i++[z]++xs.drop i).Perm (z::xs):=by
 rw[List.append_assoc]
 refine List.perm_middle.trans ?_
 show (z::(xs.take i++xs.drop i)).Perm _
 rw[List.take_append_drop]
theorem q_dec {Q:VK}{H:Hp}{a b:Int}(e:a=b)(q:Q (.bl true) H):Q (.bl (decide (V.int a=V.int b))) H:=by
 rw[dec_i,decide_eq_true e]
 exact q
theorem less2_of {ns:List Int}{i j:Nat}(hij:i≠j):(ns.set i (ns.getD i 0 - 1)).set j ((ns.set i (ns.getD i 0 - 1)).getD j 0 - 1)=less2 ns i j:=by
 unfold less2
 rw[show (ns.set i (ns.getD i 0 - 1)).getD j 0=ns.getD j 0 by rw[List.getD_eq_getElem?_getD,List.getElem?_set_ne hij,<- List.getD_eq_getElem?_getD]]
seal L2.PE L2.PA L2.PS L2.PSs L2.PT
section
variable {P:Program} {w:World} {K:W.Frag} {mg:Str->Option Value} {base:Heap}
def spRen (K:W.Frag):Sp:=fun vs H Q _=>∃ (a:Addr) (ns:List Int) (c:Int),vs=[.ref a,.int c]/\SqL K H a (ns.map V.int)/\ns.length<=24 /\
 ∀ (l:Addr) (ms:List Int) (H':Hp),Same H H'->H l=none->H' l=some (.lst (ms.map V.int))->ms.Perm ns->Q (.ref l) H'
theorem scRen:FnScope ["tally","rest","told","place"] ["tally","rest"] (defScope sRen):=⟨rfl,rfl,rfl,by decide +kernel,rfl,by decide +kernel,by decide +kernel⟩
theorem ok_ren {f:Addr} {fd:FuncData} (F:Fun K "_law_renamed" "_law_renamed" sRen f fd) (B:Bn mg):FnOk P w K mg base CX0 1 f fd ["tally","rest"] (spRen K):=by
 refine F.ok scRen (fun vs H Q E h=>?_) (fun cdv A outer s H vs Q E hr h=>?_)
 ·obtain⟨a,ns,c,rfl,_⟩:=h
  rfl
 ·obtain⟨a,ns,c,rfl,hS,hn,q⟩:=h
  have hsl:=sl1000
  refine⟨_,pss_cons (ps_set (i:=2) scRen.nd rfl (Or.inl rfl) (pe_lst pa_nil))
   (pss_cons (ps_for PassesOwn.never rfl (pi_range1 rfl B.range (pa_cons (pe_callB call_len_seq (by rfl) B.len PySem.boot_len (pa_cons (pv 0) pa_nil)) pa_nil)) (pg_name (i := 3) scRen.nd rfl (Or.inl rfl))
    (pss_cons (ps_expr (pe_bm PySem.F.plainAttrs_list PySem.F.slot_list_insert PySem.F.type_list_insert mt_insert (pv 2) (pa_cons (pe_op op_sub (pv 3) (pe_op op_mod (pv 1) (pe_op op_add (pv 3) pe_int))) (pa_cons (pe_ix ix_list (pv 0) (pv 3) (fun _ _=>rfl)) pa_nil))))
    (pss_one (ps_set (i:=1) scRen.nd rfl (Or.inl rfl) (pe_op op_fdiv (pv 1) (pe_op op_add (pv 3) pe_int))))))
   (pss_one (ps_ret (pv 2)))),?_⟩
  refine⟨(by show 0<=sizeLine;omega),fun l0 f0=>?_⟩
  have s0:=same_upd (o:=.lst []) f0
  refine⟨_,rfl,a,_,rfl,.inl (s0.seq hS),(ns.length:Int),congrArg (fun z:Nat=>[V.int (z:Int)]) (List.length_map ..),by omega,by omega,?_⟩
  rw[Int.toNat_natCast]
  refine for_range (lo:=0) (n:=ns.length) (fun i σ H1=>∃ (ms:List Int) (cz:Int) (e3:Option V),σ=[some (.ref a),some (.int cz),some (.ref l0),e3]/\Same H H1/\H1 l0=some (.lst (ms.map V.int))/\ms.Perm (ns.take i))
   ⟨[],c,none,rfl,s0,upd_same,.nil⟩ ?_ ?_
  ·rintro i σ H1 hi ⟨ms,cz,e3,rfl,s1,g1,pm⟩
   rw[show ((0:Int)+(i:Int))=(i:Int) by omega]
   refine gName_to ?_
   have hml:ms.length=i:=by rw[pm.length_eq,List.length_take];omega
   have m0:=Int.emod_nonneg cz (show (i:Int)+1≠0 by omega)
   have m1:=Int.emod_lt_of_pos cz (show (0:Int)<(i:Int)+1 by omega)
   obtain⟨j,hj⟩:∃ j:Nat,(i:Int) - cz % ((i:Int)+1)=(j:Int):=⟨((i:Int) - cz % ((i:Int)+1)).toNat,by omega⟩
   have hat:atI (ns.map V.int) (i:Int)=some (.int (ns.getD i 0)):=at_int hi
   refine⟨_,rfl,.inl ⟨rfl,_,SqL.of g1⟩,_,rfl,_,rfl,_,rfl,_,_,rfl,rfl,_,_,rfl,rfl,by omega,_,_,rfl,rfl,_,rfl,_,rfl,a,_,_,_,rfl,rfl,s1.seq hS,hat,l0,ms.map V.int,.int (ns.getD i 0),j,rfl,congrArg (fun z:Int=>[V.int z,V.int (ns.getD i 0)]) hj,g1,by rw[List.length_map];omega,by rw[List.length_map];omega,?_⟩
   refine⟨_,rfl,_,rfl,_,_,rfl,rfl,_,_,rfl,rfl,⟨by omega,by omega⟩,?_⟩
   refine⟨_,_,_,rfl,s1.upd f0,by rw[upd_same,insM],(insP ms j _).trans ?_⟩
   rw[List.take_add_one,get_of hi]
   exact(pm.cons _).trans (List.perm_append_comm (l₁:=[ns.getD i 0]))
  ·rintro σ H1 ⟨ms,cz,e3,rfl,s1,g1,pm⟩
   rw[List.take_length]at pm
   exact⟨_,rfl,q l0 ms H1 s1 f0 g1 pm⟩
def spTwo (K:W.Frag):Sp:=fun vs H Q _=>∃ (a:Addr) (ns:List Int) (i j:Nat),vs=[.ref a,.int i,.int j,.int (cnt ns:Int)]/\SqL K H a (ns.map V.int)/\1<=ns.length/\ns.length<=7/\i<ns.length/\j<ns.length/\i≠j/\∀ H':Hp,Same H H'->Q (.bl true) H'
theorem scTwo:FnScope ["tally","one","other","many","with_it","lesser","others"] ["tally","one","other","many"] (defScope sTwo):=⟨rfl,rfl,rfl,by decide +kernel,rfl,by decide +kernel,by decide +kernel⟩
set_option maxHeartbeats 2000000 in
theorem ok_two {f fH fI CB CM CN:Addr}{fd fdH fdI:FuncData}(F:Fun K "_law_two_right" "_law_two_right" sTwo f fd)(B:Bn mg)
  (FH:Fun K "how_many" "how_many" sHow fH fdH)(bH:Binds K fdH ["tally"] [])(mH:mg "how_many"=some (.ref fH))(GH:FnOk P w K mg base (CXE P w) 24 fH fdH ["tally"] (spHow K CB CM))
  (FI:Fun K "in_how_many" "in_how_many" sInH fI fdI)(bI:Binds K fdI ["tally","one","other"] [])(mI:mg "in_how_many"=some (.ref fI))(GI:FnOk P w K mg base (CXE P w) 24 fI fdI ["tally","one","other"] (spInH K CB CM CN)):FnOk P w K mg base CX0 25 f fd ["tally","one","other","many"] (spTwo K):=by
 refine F.ok scTwo (fun vs H Q E h=>?_) (fun cdv A outer s H vs Q E hr h=>?_)
 ·obtain⟨a,ns,i,j,rfl,_⟩:=h
  rfl
 ·obtain⟨a,ns,i,j,rfl,hS,n1,n7,hi,hj,hij,q⟩:=h
  have hsl:=sl1000
  have nd2:(["number","tally"]:List Str).Nodup:=by decide +kernel
  refine⟨_,pss_cons (ps_set (i:=4) scTwo.nd rfl (Or.inl rfl) (pe_call GI hr (by rfl) mI FI.kp bI .nil (passN (P:=P) (w:=w)) (pa_cons (pe_callTy call_list_of (by rfl) B.list (by rfl) (pa_cons (pv 0) pa_nil)) (pa_cons (pv 1) (pa_cons (pv 2) pa_nil)))))
   (pss_cons (ps_set (i:=5) scTwo.nd rfl (Or.inl rfl) (pe_callTy call_list_of (by rfl) B.list (by rfl) (pa_cons (pv 0) pa_nil)))
   (pss_cons (ps_asg (pe_op op_sub (pe_ix ix_list (pv 5) (pv 1) (fun _ _=>rfl)) pe_int) (pg_sub (pv 5) (pv 1) set_list))
   (pss_cons (ps_asg (pe_op op_sub (pe_ix ix_list (pv 5) (pv 2) (fun _ _=>rfl)) pe_int) (pg_sub (pv 5) (pv 2) set_list))
   (pss_cons (ps_if (pt_cmpR op_ne (pv 4) (pe_op op_sub (pe_call GH hr (by rfl) mH FH.kp bH .nil (passN (P:=P) (w:=w)) (pa_cons (pv 5) pa_nil)) (pe_call GI hr (by rfl) mI FI.kp bI .nil (passN (P:=P) (w:=w)) (pa_cons (pv 5) (pa_cons (pv 1) (pa_cons (pv 2) pa_nil))))) (nomark _)) pss_never pss_nil)
   (pss_cons (ps_setC (i:=6) scTwo.nd rfl rfl (by rfl) (N':=["number","tally"]) (lk:=[none,some 0]) rfl (pi_list (pv 0)) (by rfl) rfl (by decide +kernel) (by exact⟨rfl,trivial⟩) (by rfl) (by exact LkL.ok ⟨⟨rfl,Or.inl rfl,rfl,Or.inl rfl⟩,trivial⟩)
     (fun _ _ _=>pg_name (i:=0) nd2 rfl (Or.inl rfl)) (fun _ _ _=>pts_nil) (fun _ _ _=>pe_op op_sub (pe_op op_sub (pe_callB (call_len_seqK K rfl) (by rfl) B.len PySem.boot_len (pa_cons (pv 1) pa_nil)) pe_int) (pv 0)))
   (pss_one (ps_ret (pe_cmpR op_eq (pe_op op_add (pv 4) (pe_call GI hr (by rfl) mI FI.kp bI .nil (passN (P:=P) (w:=w)) (pa_cons (pv 6) (pa_cons (pv 1) (pa_cons (pv 2) pa_nil))))) (pv 3) (nomark _))))))))),?_⟩
  have htl:isTl ns:=⟨n1,by omega⟩
  have hpr:isPr ns.length (i:Int) (j:Int):=⟨⟨by omega,by omega⟩,⟨by omega,by omega⟩,by omega⟩
  refine⟨_,rfl,a,_,rfl,.inl hS,fun l1 f1=>?_⟩
  have s1:=same_upd (o:=.lst (ns.map V.int)) f1
  refine⟨_,rfl,_,rfl,l1,ns,(i:Int),(j:Int),rfl,.inl (SqL.of upd_same),⟨fun _ _ _ H2 s2=>?_,fun h=>absurd htl h,fun _ h=>absurd h (by omega),fun _ _ h=>absurd hpr h⟩⟩
  have s12:=s1.trans s2
  refine gName_to ?_
  refine⟨_,rfl,a,_,rfl,.inl (s12.seq hS),fun l5 f5=>?_⟩
  have s5:=same_upd (o:=.lst (ns.map V.int)) f5
  have s15:=s12.trans s5
  have fl5:=s12.free f5
  have g5:(upd H2 l5 (.lst (ns.map V.int))) l5=some (.lst (ns.map V.int)):=upd_same
  generalize upd H2 l5 (.lst (ns.map V.int))=H5 at s15 g5 ⊢
  refine gName_to ?_
  have hat:atI (ns.map V.int) (i:Int)=some (.int (ns.getD i 0)):=at_int hi
  refine⟨_,rfl,_,rfl,l5,_,_,_,rfl,rfl,SqL.of g5,hat,_,_,rfl,rfl,_,rfl,_,rfl,l5,_,_,i,rfl,rfl,g5,ixN_nat (by rw[List.length_map];exact hi),?_⟩
  have s16:=s15.upd (l:=l5) (o:=.lst ((ns.map V.int).set i (.int (ns.getD i 0 - 1)))) fl5
  have g6:(upd H5 l5 (.lst ((ns.map V.int).set i (.int (ns.getD i 0 - 1))))) l5=some (.lst ((ns.set i (ns.getD i 0 - 1)).map V.int)):=by rw[upd_same,set_map_int]
  generalize upd H5 l5 (.lst ((ns.map V.int).set i (.int (ns.getD i 0 - 1))))=H6 at s16 g6 ⊢
  have hat2:atI ((ns.set i (ns.getD i 0 - 1)).map V.int) (j:Int)=some (.int ((ns.set i (ns.getD i 0 - 1)).getD j 0)):=at_int (by rw[List.length_set];exact hj)
  refine⟨_,rfl,_,rfl,l5,_,_,_,rfl,rfl,SqL.of g6,hat2,_,_,rfl,rfl,_,rfl,_,rfl,l5,_,_,j,rfl,rfl,g6,ixN_nat (by rw[List.length_map,List.length_set];exact hj),?_⟩
  have s17:=s16.upd (l:=l5) (o:=.lst (((ns.set i (ns.getD i 0 - 1)).map V.int).set j (.int ((ns.set i (ns.getD i 0 - 1)).getD j 0 - 1)))) fl5
  have g7:(upd H6 l5 (.lst (((ns.set i (ns.getD i 0 - 1)).map V.int).set j (.int ((ns.set i (ns.getD i 0 - 1)).getD j 0 - 1))))) l5=some (.lst ((less2 ns i j).map V.int)):=by rw[upd_same,set_map_int,less2_of hij]
  generalize upd H6 l5 (.lst (((ns.set i (ns.getD i 0 - 1)).map V.int).set j (.int ((ns.set i (ns.getD i 0 - 1)).getD j 0 - 1))))=H7 at s17 g7 ⊢
  have hll:=less2_len ns i j
  have htl2:isTl (less2 ns i j):=⟨by omega,by omega⟩
  have hpr2:isPr (less2 ns i j).length (i:Int) (j:Int):=by rw[hll];exact hpr
  refine⟨_,rfl,_,rfl,l5,less2 ns i j,rfl,.inl (SqL.of g7),⟨fun _ _ H8 s8=>?_,fun h=>absurd htl2 h,fun _ h=>absurd h (by omega)⟩⟩
  refine⟨_,rfl,_,rfl,_,rfl,l5,less2 ns i j,(i:Int),(j:Int),rfl,.inl (SqL.of (s8 _ _ g7)),⟨fun _ _ _ H9 s9=>?_,fun h=>absurd htl2 h,fun _ h=>absurd h (by omega),fun _ _ h=>absurd hpr2 h⟩⟩
  refine⟨_,_,rfl,rfl,rfl,_,rfl,iteNS (congrArg V.int ?_) ?_⟩
  ·have:=inH_less hi hj hij
   show ((inH ns i j:Nat):Int)=((cnt (less2 ns i j):Nat):Int) - ((inH (less2 ns i j) i j:Nat):Int)
   omega
  have s19:=(s17.trans s8).trans s9
  have hS9:=s19.seq hS
  refine⟨_,rfl,a,rfl,⟨_,hS9⟩,fun D hD=>comp_list (K:=K) (a:=a) (D:=D) (ys:=ns.map V.int) (fun m xs σ' H'=>(∃ v,σ'=[v,some (.ref a)])/\Same H9 H'/\H' D=some (.lst xs)/\xs=(co ((ns.length:Int) - 1) (ns.take m)).map V.int)
   ⟨⟨none,rfl⟩,same_upd hD,upd_same,rfl⟩ (by rw[List.length_map];omega) (fun m xs σ' H' hm ⟨_,s6,h6,e6⟩=>⟨s6.seq hS9,h6,by rw[e6,List.length_map,co_len,List.length_take];omega⟩) ?_ ?_⟩
  ·rintro m xs x σ' H' N kN hx ⟨⟨v,rfl⟩,s6,h6,rfl⟩
   obtain⟨z,hz,rfl⟩:=int_get hx
   refine gName_to (tTrue_if ?_)
   refine⟨_,rfl,a,_,rfl,.inl (s6.seq hS9),_,_,rfl,rfl,_,rfl,_,_,rfl,rfl,h6,kN _ _ _ ⟨⟨_,rfl⟩,s6.upd hD,upd_same,?_⟩⟩
   rw[List.length_map,List.take_add_one,hz]
   unfold co
   rw[List.map_append,List.map_append]
   rfl
  ·rintro xs σ' Hd ⟨⟨v,rfl⟩,s6,h6,rfl⟩
   rw[List.take_of_length_le (by rw[List.length_map];exact Nat.le_refl _)]at h6
   have hcl:=co_len ((ns.length:Int) - 1) ns
   have htl3:isTl (co ((ns.length:Int) - 1) ns):=⟨by omega,by omega⟩
   have hpr3:isPr (co ((ns.length:Int) - 1) ns).length (i:Int) (j:Int):=by rw[hcl];exact hpr
   refine⟨_,rfl,_,rfl,_,rfl,_,rfl,D,co ((ns.length:Int) - 1) ns,(i:Int),(j:Int),rfl,.inl (SqL.of h6),⟨fun _ _ _ He se=>?_,fun h=>absurd htl3 h,fun _ h=>absurd h (by omega),fun _ _ h=>absurd hpr3 h⟩⟩
   have e:((inH ns i j:Nat):Int)+((inH (co ((ns.length:Int) - 1) ns) i j:Nat):Int)=((cnt ns:Nat):Int):=by
    have:=inH_co hi hj hij
    omega
   exact⟨_,_,rfl,rfl,_,rfl,rfl,q_dec e (q _ ((s19.trans s6).trans se))⟩
end
end Web
namespace Web
open PySem L2
theorem lexB_gt {n:Nat}{a b:List Int}(ha:Up n a)(hb:Up n b)(h:Tim.lexB a b=true):Tim.lexB b a=false:=by
 cases e:Tim.lexB b a with
 | false=>rfl
 | true=>exact(lexB_asym h e).elim
theorem tld_asc {n:Nat}{ks:List (List Int)}(asc:Asc ks)(ups:∀ k∈ks,Up n k):Tld n ks:=
 ⟨ups,asc_nodup asc,List.Pairwise.imp_of_mem (fun {a b} ha hb e=>lexB_gt (ups a ha) (ups b hb) e) asc⟩
theorem no_cnt {ts:List Int}{x:Wl}(h:IsWl ts x)(hx:x≠.free):cnt ts=0:=by
 refine Classical.byContradiction fun hne=>?_
 obtain⟨ks,ha,hu,ht⟩:=(cntw_pos (ts:=ts) rfl).mp (by omega)
 have:=web_gr (asc_nodup ha) hu
 rw[ht]at this
 exact hx (wl_uniq h (gr_free this))
seal L2.PE L2.PA L2.PS L2.PSs L2.PT
section
variable {P:Program} {w:World} {K:W.Frag} {mg:Str->Option Value} {base:Heap}
def spLaw (K:W.Frag)(PT:Addr):Sp:=fun vs H Q _=>∃ (a:Addr) (ns:List Int),vs=[.ref a]/\SqL K H a (ns.map V.int)/\ns.length<=63/\Tb PT H/\∀ H',Q (.bl true) H'
theorem scLaw:FnScope ["script","cell","tally","places","rest","many","one","other"] ["script"] (defScope sLaw):=⟨rfl,rfl,rfl,by decide +kernel,rfl,by decide +kernel,by decide +kernel⟩
set_option maxHeartbeats 4000000 in
theorem ok_law0 {f fS fH fR fX fW fA fT CB CM CX PT:Addr}{fd fdS fdH fdR fdX fdW fdA fdT:FuncData}(F:Fun K "law" "law" sLaw f fd)(B:Bn mg)
  (FS:Fun K "_law_small" "_law_small" sSmall fS fdS)(bS:Binds K fdS ["cell","most"] [])(mS:mg "_law_small"=some (.ref fS))(GS:FnOk P w K mg base CX0 25 fS fdS ["cell","most"] (spSmall K))
  (FH:Fun K "how_many" "how_many" sHow fH fdH)(bH:Binds K fdH ["tally"] [])(mH:mg "how_many"=some (.ref fH))(GH:FnOk P w K mg base (CXE P w) 25 fH fdH ["tally"] (spHow K CB CM))
  (FR:Fun K "_law_renamed" "_law_renamed" sRen fR fdR)(bR:Binds K fdR ["tally","rest"] [])(mR:mg "_law_renamed"=some (.ref fR))(GR:FnOk P w K mg base CX0 25 fR fdR ["tally","rest"] (spRen K))
  (FX:Fun K "answered" "answered" sAns fX fdX)(bX:Binds K fdX ["tally"] [])(mX:mg "answered"=some (.ref fX))(GX:FnOk P w K mg base (CXE P w) 25 fX fdX ["tally"] (spAns K CB PT))
  (FW:Fun K "web_at" "web_at" sWAt fW fdW)(bW:Binds K fdW ["tally","number"] [])(mW:mg "web_at"=some (.ref fW))(GW:FnOk P w K mg base (CXE P w) 25 fW fdW ["tally","number"] (spWAt K CB CM CX))
  (FA:Fun K "answer_shows" "answer_shows" sAnsS fA fdA)(bA:Binds K fdA ["tally","told"] [])(mA:mg "answer_shows"=some (.ref fA))(GA:FnOk P w K mg base CX0 25 fA fdA ["tally","told"] (spAnsW K))
  (FT:Fun K "_law_two_right" "_law_two_right" sTwo fT fdT)(bT:Binds K fdT ["tally","one","other","many"] [])(mT:mg "_law_two_right"=some (.ref fT))(GT:FnOk P w K mg base CX0 25 fT fdT ["tally","one","other","many"] (spTwo K)):FnOk P w K mg base CX0 26 f fd ["script"] (spLaw K PT):=by
 refine F.ok scLaw (fun vs H Q E h=>?_) (fun cdv A outer s H vs Q E hr h=>?_)
 ·obtain⟨a,ns,rfl,_⟩:=h
  rfl
 ·obtain⟨sc,ms,rfl,hS,hlen,tb,q⟩:=h
  have hsl:=sl1000
  have nd2:(["number","places"]:List Str).Nodup:=by decide +kernel
  refine⟨_,pss_cons (ps_for PassesOwn.never rfl (pi_list (pe_op op_cat (pe_lst (pa_cons pe_int pa_nil)) (pe_slice sl_list (pv 0) po_none (po_some pe_int)))) (pg_name (i:=1) scLaw.nd rfl (Or.inl rfl))
    (pss_cons (ps_set (i:=2) scLaw.nd rfl (Or.inl rfl) (pe_call GS hr (by rfl) mS FS.kp bS .nil pass0 (pa_cons (pv 1) (pa_cons pe_int pa_nil))))
    (pss_cons (ps_set (i:=3) scLaw.nd rfl (Or.inr rfl) (pe_callB call_len_seq (by rfl) B.len PySem.boot_len (pa_cons (pv 2) pa_nil)))
    (pss_cons (ps_set (i:=4) scLaw.nd rfl (Or.inl rfl) (pe_op op_mod (pv 1) (pe_op op_pow pe_int pe_int)))
    (pss_cons (ps_set (i:=5) scLaw.nd rfl (Or.inl rfl) (pe_call GH hr (by rfl) mH FH.kp bH .nil (passN (P:=P) (w:=w)) (pa_cons (pe_callTy call_list_of (by rfl) B.list (by rfl) (pa_cons (pv 2) pa_nil)) pa_nil)))
    (pss_cons (ps_if (pt_cmpR op_ne (pe_call GH hr (by rfl) mH FH.kp bH .nil (passN (P:=P) (w:=w)) (pa_cons (pe_call GR hr (by rfl) mR FR.kp bR .nil pass0 (pa_cons (pv 2) (pa_cons (pe_op op_fdiv (pv 4) pe_int) pa_nil))) pa_nil)) (pv 5) (nomark _)) pss_never pss_nil)
    (pss_cons (ps_if (pt_cmpR op_ne (pe_call GH hr (by rfl) mH FH.kp bH .nil (passN (P:=P) (w:=w)) (pa_cons (pe_comp (N':=["number","places"]) (lk:=[none,some 3]) rfl (pi_list (pv 2)) (by rfl) rfl (by decide +kernel) (by exact⟨rfl,trivial⟩) (by rfl) (by exact LkL.ok ⟨⟨rfl,Or.inl rfl,rfl,Or.inl rfl⟩,trivial⟩) (fun _ _ _=>pg_name (i:=0) nd2 rfl (Or.inl rfl)) (fun _ _ _=>pts_nil) (fun _ _ _=>pe_op op_sub (pe_op op_sub (pv 1) pe_int) (pv 0))) pa_nil)) (pv 5) (nomark _)) pss_never pss_nil)
    (pss_cut (ps_if (pt_cmpR op_ne (pe_cmpR op_gt (pv 5) pe_int (nomark _)) (pe_cmpR op_eq (pe_ix ix_tup (pe_call GX hr (by rfl) mX FX.kp bX .nil (passN (P:=P) (w:=w)) (pa_cons (pe_callTy call_list_of (by rfl) B.list (by rfl) (pa_cons (pv 2) pa_nil)) pa_nil)) pe_int (fun _ _=>rfl)) pe_str (nomark _)) (nomark _)) pss_never pss_nil)
    (pss_cut (ps_if (PW.pt (pw_and (pt_cmpR op_gt (pv 5) pe_int (nomark _)) (pw_and1 (pt_cmpR op_isnotB (pe_call GA hr (by rfl) mA FA.kp bA .nil pass0 (pa_cons (pv 2) (pa_cons (pe_tup (pa_cons pe_str (pa_cons (pe_call GW hr (by rfl) mW FW.kp bW .nil (passN (P:=P) (w:=w)) (pa_cons (pv 2) (pa_cons (pe_op op_mod (pe_op op_fdiv (pv 4) pe_int) (pv 5)) pa_nil))) pa_nil))) pa_nil))) pe_bl (nomark _))))) pss_never pss_nil)
    (pss_cons (ps_set (i:=6) scLaw.nd rfl (Or.inl rfl) (pe_op op_mod (pe_op op_fdiv (pv 4) pe_int) (pv 3)))
    (pss_cons (ps_set (i:=7) scLaw.nd rfl (Or.inl rfl) (pe_op op_mod (pe_op op_fdiv (pv 4) pe_int) (pv 3)))
    (pss_one (ps_if (PW.pt (pw_and (pt_cmpR op_ne (pv 6) (pv 7) (nomark _)) (pw_and1 (pt_not (pt_val (pe_call GT hr (by rfl) mT FT.kp bT .nil pass0 (pa_cons (pv 2) (pa_cons (pv 6) (pa_cons (pv 7) (pa_cons (pv 5) pa_nil)))))))))) pss_never pss_nil)))))))))))))
   (pss_one (ps_ret pe_bl)),?_⟩
  refine⟨(by show 1<=sizeLine;decide),fun l6 f6=>?_⟩
  have s6:=same_upd (o:=.lst [.int 0]) f6
  obtain⟨xs,hxs,hxl⟩:=cutV_ints ms none (some 6)
  refine⟨_,rfl,_,rfl,sc,ms.map V.int,rfl,s6.seq hS,fun p7 f7=>?_⟩
  rw[hxs]
  have s7:=same_upd (o:=.lst (xs.map V.int)) f7
  refine⟨l6,p7,_,_,rfl,rfl,s7 _ _ upd_same,upd_same,by rw[List.length_map];simp;omega,fun l8 f8=>⟨l8,rfl,⟨_,SqL.of upd_same⟩,?_⟩⟩
  have s8:=same_upd (o:=.lst ([V.int 0]++xs.map V.int)) f8
  have g8:(upd (upd (upd H l6 (.lst [.int 0])) p7 (.lst (xs.map V.int))) l8 (.lst ([V.int 0]++xs.map V.int))) l8=some (.lst ((0::xs).map V.int)):=upd_same
  have tbL:=tb.same ((s6.trans s7).trans s8)
  generalize upd (upd (upd H l6 (.lst [.int 0])) p7 (.lst (xs.map V.int))) l8 (.lst ([V.int 0]++xs.map V.int))=HL at g8 tbL ⊢
  refine for_list (K:=K) (a:=l8) (xs:=(0::xs).map V.int) (fun _ σ Ha=>∃ (e1 e2 e3 e4 e5 e6 e7:Option V),σ=[some (.ref sc),e1,e2,e3,e4,e5,e6,e7]/\Grow PT HL Ha/\Tb PT Ha) ⟨none,none,none,none,none,none,none,rfl,Grow.refl PT HL,tbL⟩ (fun i σ Ha _ ⟨_,_,_,_,_,_,_,_,g,_⟩=>SqL.of (grow_lst g tbL g8)) ?_ ?_
  ·rintro i x σ Ha hx ⟨e1,e2,e3,e4,e5,e6,e7,rfl,ga,tba⟩
   obtain⟨z,rfl⟩:=int_at hx
   refine gName_to ?_
   refine⟨_,rfl,z,7,rfl,by decide,by decide,fun tl ts H1 t1 t7 s1 ftl gtl=>?_⟩
   refine gName_to ?_
   refine⟨_,rfl,tl,_,rfl,.inl (SqL.of gtl),?_⟩
   refine gName_eq (v':=.int (ts.length:Int)) (congrArg (fun z:Nat=>V.int (z:Int)) (List.length_map ..)) ?_
   refine⟨_,rfl,_,_,rfl,rfl,⟨by decide,by decide,by decide⟩,_,_,rfl,rfl,p60,?_⟩
   refine gName_int fun r _=>?_
   have htl:isTl ts:=⟨t1,by omega⟩
   have hcs:=cnt_small t7
   refine⟨_,rfl,tl,_,rfl,.inl (SqL.of gtl),fun la fla=>?_⟩
   have s2:=same_upd (o:=.lst (ts.map V.int)) fla
   refine⟨la,ts,rfl,.inl (SqL.of upd_same),⟨fun _ _ H3 s3=>?_,fun h=>absurd htl h,fun _ h=>absurd h (by omega)⟩⟩
   refine gName_to ?_
   have s13:=s2.trans s3
   have g3:=s13 _ _ gtl
   refine⟨_,rfl,_,rfl,_,_,rfl,rfl,⟨by decide,by decide⟩,tl,ts,_,rfl,SqL.of g3,by omega,fun l4 us H4 s4 f4 g4 pm=>?_⟩
   have hul:=pm.length_eq
   refine⟨l4,us,rfl,.inl (SqL.of g4),⟨fun _ _ H5 s5=>?_,fun h=>absurd (show isTl us from ⟨by omega,by omega⟩) h,fun _ h=>absurd h (by omega)⟩⟩
   refine⟨_,rfl,rfl,_,rfl,iteNS (by rw[cnt_pi us ts pm]) ?_⟩
   have g5:=(s4.trans s5) _ _ g3
   refine⟨_,rfl,tl,rfl,⟨_,SqL.of g5⟩,fun D hD=>comp_list (K:=K) (a:=tl) (D:=D) (ys:=ts.map V.int) (fun m xs σ' H'=>(∃ v,σ'=[v,some (.int (ts.length:Int))])/\Same H5 H'/\H' D=some (.lst xs)/\xs=(co ((ts.length:Int) - 1) (ts.take m)).map V.int)
    ⟨⟨none,rfl⟩,same_upd hD,upd_same,rfl⟩ (by rw[List.length_map];omega) (fun m xs σ' H' hm ⟨_,s6,h6,e6⟩=>⟨SqL.of (s6 _ _ g5),h6,by rw[e6,List.length_map,co_len,List.length_take];omega⟩) ?_ ?_⟩
   ·rintro m xs x σ' H' N kN hx ⟨⟨v,rfl⟩,s6,h6,rfl⟩
    obtain⟨y,hy,rfl⟩:=int_get hx
    refine gName_to (tTrue_if ?_)
    refine⟨_,rfl,_,_,rfl,rfl,_,rfl,_,_,rfl,rfl,h6,kN _ _ _ ⟨⟨_,rfl⟩,s6.upd hD,upd_same,?_⟩⟩
    rw[List.take_add_one,hy]
    unfold co
    rw[List.map_append,List.map_append]
    rfl
   rintro xs6 σ' H6 ⟨⟨v,rfl⟩,s6,h6,rfl⟩
   rw[List.take_of_length_le (by rw[List.length_map];exact Nat.le_refl _)]at h6
   have hcl:=co_len ((ts.length:Int) - 1) ts
   refine⟨D,co ((ts.length:Int) - 1) ts,rfl,.inl (SqL.of h6),⟨fun _ _ H7 s7=>?_,fun h=>absurd (show isTl (co ((ts.length:Int) - 1) ts) from ⟨by omega,by omega⟩) h,fun _ h=>absurd h (by omega)⟩⟩
   refine⟨_,rfl,rfl,_,rfl,iteNS (by rw[cnt_co (c:=ts) rfl]) ?_⟩
   have g7:=(s6.trans s7) _ _ g5
   have sA7:=((s1.trans s13).trans (s4.trans s5)).trans (s6.trans s7)
   have tb7:=tba.same sA7
   have ga7:=ga.trans (sA7.grow PT)
   refine⟨fun σ Hc=>σ=[some (.ref sc),some (.int z),some (.ref tl),some (.int (ts.length:Int)),some (.int r),some (.int (cnt ts:Int)),e6,e7]/\Grow PT HL Hc/\Tb PT Hc/\Hc tl=some (.lst (ts.map V.int)),?_,?_⟩
   ·refine⟨_,rfl,_,_,rfl,rfl,_,rfl,tl,_,rfl,.inl (SqL.of g7),fun lb flb=>?_⟩
    have sb:=same_upd (o:=.lst (ts.map V.int)) flb
    refine⟨lb,ts,rfl,.inl (SqL.of upd_same),by omega,fun _=>⟨tb7.same sb,fun rA HA gA tbA ans=>?_⟩,fun h=>absurd htl h⟩
    have gAA:=(ga7.trans (sb.grow PT)).trans gA
    have gtA:=grow_lst gA (tb7.same sb) (sb _ _ g7)
    rcases ans with⟨x,b,k1,k2,k3,k4⟩ | ⟨_,b,ks7,k1,k2⟩
    ·have a0:atI ([.str "wall",.ref b]:List V) 0=some (.str "wall"):=atI_nat (j:=0) rfl
     refine⟨rA,_,_,_,rfl,rfl,SqT.of k3,a0,rfl,rfl,_,rfl,iteNS ?_ ⟨rfl,gAA,tbA,gtA⟩⟩
     rw[no_cnt k2 k1]
     rfl
    ·have a0:atI ([.str "web",.ref b]:List V) 0=some (.str "web"):=atI_nat (j:=0) rfl
     obtain⟨_,_,w4,w5,w6,w7⟩:=k2
     have hpos:(0:Int)<(cnt ts:Int):=by
      have:=(cntw_pos (ts:=ts) rfl).mpr ⟨ks7,asc_of w6 w7 w4,w6,w5⟩
      omega
     refine⟨rA,_,_,_,rfl,rfl,SqT.of k1,a0,rfl,rfl,_,rfl,iteNS ?_ ⟨rfl,gAA,tbA,gtA⟩⟩
     show V.bl (decide ((0:Int)<(cnt ts:Int)))=V.bl (decide (V.str (Str.ofString "web")=V.str (Str.ofString "web")))
     rw[decide_eq_true hpos,decide_eq_true rfl]
   clear s1 ftl gtl s2 s3 s13 g3 s4 f4 g4 s5 g5 s6 h6 s7 g7 sA7 tb7 ga7
   rintro σ Hb ⟨rfl,gb,tbb,gtb⟩
   refine⟨fun σ Hc=>σ=[some (.ref sc),some (.int z),some (.ref tl),some (.int (ts.length:Int)),some (.int r),some (.int (cnt ts:Int)),e6,e7]/\Grow PT HL Hc/\Tb PT Hc/\Hc tl=some (.lst (ts.map V.int)),?_,?_⟩
   ·refine⟨_,rfl,_,_,rfl,rfl,_,rfl,?_⟩
    by_cases hc:(0:Int)<(cnt ts:Int)
    ·rw[decide_eq_true hc]
     have m0:=Int.emod_nonneg (r / 11) (show (cnt ts:Int)≠0 by omega)
     have m1:=Int.emod_lt_of_pos (r / 11) hc
     refine iteT ⟨_,rfl,_,rfl,_,rfl,_,_,rfl,rfl,⟨by decide,by decide⟩,_,rfl,_,_,rfl,rfl,hc,tl,ts,_,rfl,.inl (SqL.of gtb),⟨fun _ _ _ _ Es hV hrk r6 H6 s6 hW=>?_,fun h=>absurd htl h,fun _ h=>absurd h (by omega),fun _ _ h=>absurd ⟨m0,m1⟩ h⟩⟩
     refine⟨(by show 2<=sizeLine;decide),fun p fp=>?_⟩
     have sp:=same_upd (o:=.tup [.str "web",.ref r6]) fp
     obtain⟨_,t9,zs9,w1,w2,w3⟩:=hW
     have hgd:=vld_gd hV
     have hel:=vld_len hV
     have T:=tld_asc (lay_asc (p:=0) hgd) (lay_ups hgd hel)
     have htal:tal ts.length (layE 0 Es)=ts:=by rw[<- talF_zero];exact vld_tal hV
     refine⟨tl,p,r6,ts,ts.length,layE 0 Es,rfl,.inl (SqL.of ((s6.trans sp) _ _ gtb)),htl,SqT.of upd_same,⟨t9,zs9,SqT.of (sp _ _ w1),SqT.of (sp _ _ w2),sp.tups w3⟩,t1,by omega,T,fun H8 s8=>?_⟩
     have s68:=(s6.trans sp).trans s8
     rw[decide_eq_true htal]
     exact⟨_,_,rfl,rfl,_,rfl,iteNS rfl ⟨rfl,gb.trans (s68.grow PT),tbb.same s68,s68 _ _ gtb⟩⟩
    ·rw[decide_eq_false hc]
     exact iteF (iteF ⟨rfl,gb,tbb,gtb⟩)
   clear gb tbb gtb
   rintro σ Hc ⟨rfl,gc,tbc,gtc⟩
   have hn0:(0:Int)<(ts.length:Int):=by omega
   refine⟨_,rfl,_,_,rfl,rfl,⟨by decide,by decide⟩,_,rfl,_,_,rfl,rfl,hn0,?_⟩
   obtain⟨p,hp1,hp2⟩:=mod_nat (r / 3) (show 0<ts.length by omega)
   refine gName_eq (congrArg V.int hp1) ?_
   refine⟨_,rfl,_,_,rfl,rfl,⟨by decide,by decide⟩,_,rfl,_,_,rfl,rfl,hn0,?_⟩
   obtain⟨j,hj1,hj2⟩:=mod_nat (r / 21) (show 0<ts.length by omega)
   refine gName_eq (congrArg V.int hj1) ?_
   refine⟨_,rfl,_,rfl,rfl,_,rfl,?_⟩
   rw[dec_i]
   by_cases hpj:(p:Int)=(j:Int)
   ·rw[decide_eq_true hpj]
    exact iteF (iteF ⟨_,_,_,_,_,_,_,rfl,gc,tbc⟩)
   ·rw[decide_eq_false hpj]
    refine iteT ⟨_,rfl,_,rfl,_,rfl,_,rfl,tl,ts,p,j,rfl,SqL.of gtc,t1,t7,hp2,hj2,by omega,fun Hd sd=>?_⟩
    exact⟨_,rfl,iteF ⟨_,_,_,_,_,_,_,rfl,gc.trans (sd.grow PT),tbc.same sd⟩⟩
  ·rintro σ Ha ⟨e1,e2,e3,e4,e5,e6,e7,rfl,ga,tba⟩
   exact q _
theorem ok_law {f fI fP fU fV fK fι fT fO fG fA fβ fω fW fF fL fY fX fν fα fQ fφ fC fS fE fB fN fD fH fψ fJ fR fδ fσ fM fρ fτ CB CM CX CN CW c PT:Addr}{fd fdI fdP fdU fdV fdK fdι fdT fdO fdG fdA fdβ fdω fdW fdF fdL fdY fdX fdν fdα fdQ fdφ fdC fdS fdE fdB fdN fdD fdH fdψ fdJ fdR fdδ fdσ fdM fdρ fdτ:FuncData}{tk tC:Tok}(F0:Fun K "law" "law" sLaw f fd)(Bx:Bn mg)(mo:mg "MOST_PLACES"=some (.int 24 tk))(mc:mg "MOST_COUNTED"=some (.int 7 tC))
  (FI:Fun K "is_place" "is_place" sIsP fI fdI)(bI:Binds K fdI ["places","number"] [])(mI:mg "is_place"=some (.ref fI))
  (FP:Fun K "check_place" "check_place" sChk fP fdP)(bP:Binds K fdP ["places","number"] [])(mP:mg "check_place"=some (.ref fP))
  (FU:Fun K "turned_up" "turned_up" sUp fU fdU)(bU:Binds K fdU ["places","tie"] [])(mU:mg "turned_up"=some (.ref fU))
  (FV:Fun K "made" "made" sMade fV fdV)(bV:Binds K fdV ["places","ties"] [])(mV:mg "made"=some (.ref fV))
  (FK:Fun K "tally_of" "tally_of" sTally fK fdK)(bK:Binds K fdK ["web"] [])(mK:mg "tally_of"=some (.ref fK))
  (Fι:Fun K "is_told" "is_told" sIsTold fι fdι)(bι:Binds K fdι ["web"] [])(mι:mg "is_told"=some (.ref fι))
  (FT:Fun K "check_tally" "check_tally" sChT fT fdT)(bT:Binds K fdT ["tally"] [])(mT:mg "check_tally"=some (.ref fT))
  (FO:Fun K "order_of" "order_of" sOrd fO fdO)(bO:Binds K fdO ["tally"] [])(mO:mg "order_of"=some (.ref fO))
  (FG:Fun K "falling" "falling" sFall fG fdG)(bG:Binds K fdG ["tally"] [])(mG:mg "falling"=some (.ref fG))
  (FA:Fun K "room_among" "room_among" sAmong fA fdA)(bA:Binds K fdA ["numbers","most","r"] [])(mA:mg "room_among"=some (.ref fA))
  (Fβ:Fun K "places_below" "places_below" sBelow fβ fdβ)(bβ:Binds K fdβ ["numbers"] [])(mβ:mg "places_below"=some (.ref fβ))
  (Fω:Fun K "wall_with" "wall_with" sWallW fω fdω)(bω:Binds K fdω ["tally","most"] [])(mω:mg "wall_with"=some (.ref fω))
  (FW:Fun K "wall_of" "wall_of" sWall fW fdW)(bW:Binds K fdW ["tally"] [])(mW:mg "wall_of"=some (.ref fW))
  (FF:Fun K "first_of_order" "first_of_order" sFirst fF fdF)(bF:Binds K fdF ["tally","many","passed_over"] [])(mF:mg "first_of_order"=some (.ref fF))
  (FL:Fun K "left_of_others" "left_of_others" sLeft fL fdL)(bL:Binds K fdL ["tally","place","ends"] [])(mL:mg "left_of_others"=some (.ref fL))
  (FY:Fun K "laid_around" "laid_around" sLaid fY fdY)(bY:Binds K fdY ["tally","place","ends"] [])(mY:mg "laid_around"=some (.ref fY))
  (FX:Fun K "answered" "answered" sAns fX fdX)(bX:Binds K fdX ["tally"] [])(mX:mg "answered"=some (.ref fX))
  (Fν:Fun K "is_web_of" "is_web_of" sIsWeb fν fdν)(bν:Binds K fdν ["tally","web"] [])(mν:mg "is_web_of"=some (.ref fν))
  (Fα:Fun K "answer_shows" "answer_shows" sAnsS fα fdα)(bα:Binds K fdα ["tally","told"] [])(mα:mg "answer_shows"=some (.ref fα))
  (FQ:Fun K "check_pair" "check_pair" sChP fQ fdQ)(bQ:Binds K fdQ ["places","one","other"] [])(mQ:mg "check_pair"=some (.ref fQ))
  (Fφ:Fun K "check_few" "check_few" sFew fφ fdφ)(bφ:Binds K fdφ ["places"] [])(mφ:mg "check_few"=some (.ref fφ))
  (FC:Fun K "check_counted" "check_counted" sChC fC fdC)(bC:Binds K fdC ["tally"] [])(mC:mg "check_counted"=some (.ref fC))
  (FS:Fun K "choices" "choices" sChs fS fdS)(bS:Binds K fdS ["places","many"] [])(mS:mg "choices"=some (.ref fS))
  (FE:Fun K "first_ends" "first_ends" sFE fE fdE)(bE:Binds K fdE ["left"] [])(mE:mg "first_ends"=some (.ref fE))
  (FB:Fun K "count_behind" "count_behind" sBeh fB fdB)(bB:Binds K fdB ["left","ends","known"] [])(mB:mg "count_behind"=some (.ref fB))
  (FN:Fun K "count_of" "count_of" sCnt fN fdN)(bN:Binds K fdN ["left","known"] [])(mN:mg "count_of"=some (.ref fN))
  (FD:Fun K "count_ahead" "count_ahead" sAhd fD fdD)(bD:Binds K fdD ["left","ends","known"] [])(mD:mg "count_ahead"=some (.ref fD))
  (FH:Fun K "how_many" "how_many" sHow fH fdH)(bH:Binds K fdH ["tally"] [])(mH:mg "how_many"=some (.ref fH))
  (Fψ:Fun K "web_at" "web_at" sWAt fψ fdψ)(bψ:Binds K fdψ ["tally","number"] [])(mψ:mg "web_at"=some (.ref fψ))
  (FJ:Fun K "in_how_many" "in_how_many" sInH fJ fdJ)(bJ:Binds K fdJ ["tally","one","other"] [])(mJ:mg "in_how_many"=some (.ref fJ))
  (FR:Fun K "_law_row" "_law_row" sRow fR fdR)(bR:Binds K fdR ["cell","many","size"] [])(mR:mg "_law_row"=some (.ref fR))
  (Fδ:Fun K "_law_ties" "_law_ties" sTies fδ fdδ)(bδ:Binds K fdδ ["places","cell"] [])(mδ:mg "_law_ties"=some (.ref fδ))
  (Fσ:Fun K "_law_sums" "_law_sums" sSums fσ fdσ)(bσ:Binds K fdσ ["places","ties"] [])(mσ:mg "_law_sums"=some (.ref fσ))
  (FM:Fun K "_law_small" "_law_small" sSmall fM fdM)(bM:Binds K fdM ["cell","most"] [])(mM:mg "_law_small"=some (.ref fM))
  (Fρ:Fun K "_law_renamed" "_law_renamed" sRen fρ fdρ)(bρ:Binds K fdρ ["tally","rest"] [])(mρ:mg "_law_renamed"=some (.ref fρ))
  (Fτ:Fun K "_law_two_right" "_law_two_right" sTwo fτ fdτ)(bτ:Binds K fdτ ["tally","one","other","many"] [])(mτ:mg "_law_two_right"=some (.ref fτ))
  (xB:mg "BadTally"=some (.ref CB))(yB:ExcC K CB)(xM:mg "TooMany"=some (.ref CM))(yM:ExcC K CM)(xX:mg "BadNumber"=some (.ref CX))(yX:ExcC K CX)(xN:mg "NoPlace"=some (.ref CN))(yN:ExcC K CN)(xW:mg "BadWeb"=some (.ref CW))(yW:ExcC K CW)(hc:fdO.code=.ref c)(LB:LamB base mg c PT):FnOk P w K mg base CX0 26 f fd ["script"] (spLaw K PT):=by
 have GT:FnOk P w K mg base (CXE P w) 1 fT fdT ["tally"] (spChT K CB):=ok_chT FT Bx mo xB yB
 have Gφ:FnOk P w K mg base (CXE P w) 1 fφ fdφ ["places"] (spFew CM):=ok_few Fφ mc xM yM
 have GC:FnOk P w K mg base (CXE P w) 2 fC fdC ["tally"] (spChC K CB CM):=ok_chC FC Bx FT bT mT GT Fφ bφ mφ Gφ
 have GE:FnOk P w K mg base CX0 8 fE fdE ["left"] (spFE K):=ok_fe FE Bx FS bS mS
 have GN:∀ m,FnOk P w K mg base CX0 (2*m+9) fN fdN ["left","known"] (spCnt K m):=ok_cnt FN bN mN Bx FG bG mG FE bE mE GE FB bB mB FL bL mL
 have GB:FnOk P w K mg base CX0 22 fB fdB ["left","ends","known"] (spBeh K 6):=ok_beh (n:=20) FB Bx FL bL mL FN bN mN (GN 6)
 have GQ:FnOk P w K mg base (CXE P w) 3 fQ fdQ ["places","one","other"] (spChP CN):=ok_chP FQ FP bP mP FI bI mI xN yN
 have GD:FnOk P w K mg base CX0 23 fD fdD ["left","ends","known"] (spAhd K):=ok_ahd FD Bx FE bE mE (GE.mono (by decide)) FB bB mB GB
 have GV:FnOk P w K mg base CX0 3 fV fdV ["places","ties"] (spMade K):=ok_made FV Bx FI bI mI FU bU mU mo
 have GL:FnOk P w K mg base CX0 1 fL fdL ["tally","place","ends"] (spLeft K):=ok_left FL Bx
 have GH:=ok_how (P:=P) (w:=w) (base:=base) FH FC bC mC (GC.mono (by decide)) FN bN mN (GN 7)
 have Gψ:=ok_wAt (P:=P) (w:=w) (base:=base) Fψ Bx FC bC mC (GC.mono (by decide)) FN bN mN (GN 7) FE bE mE (GE.mono (by decide)) FD bD mD GD FL bL mL (GL.mono (by decide)) FV bV mV (GV.mono (by decide)) xX yX
 have GJ:=ok_inH (P:=P) (w:=w) (base:=base) FJ Bx FC bC mC (GC.mono (by decide)) FQ bQ mQ (GQ.mono (by decide)) FE bE mE (GE.mono (by decide)) FB bB mB GB
 have GX:FnOk P w K mg base (CXE P w) 5 fX fdX ["tally"] (spAns K CB PT):=ok_ans FX Bx FI bI mI FU bU mU FV bV mV FO bO mO hc LB FT bT mT FF bF mF FL bL mL FY bY mY FW bW mW FG bG mG FA bA mA Fβ bβ mβ Fω bω mω mo xB yB
 have Gι:FnOk P w K mg base CX0 4 fι fdι ["web"] (spTold K):=ok_told Fι FV bV mV GV xW
 have Gν:FnOk P w K mg base CX0 5 fν fdν ["tally","web"] (spIsO K):=ok_isO Fν Bx Fι bι mι Gι FK bK mK
 have Gα:FnOk P w K mg base CX0 6 fα fdα ["tally","told"] (spAnsW K):=ok_ansW Fα FT bT mT (GT.mono (by decide)) Fν bν mν Gν
 have Gτ:=ok_two (P:=P) (w:=w) (base:=base) Fτ Bx FH bH mH (GH.mono (by decide)) FJ bJ mJ (GJ.mono (by decide))
 exact ok_law0 F0 Bx FM bM mM ((ok_small FM Bx FR bR mR Fδ bδ mδ Fσ bσ mσ).mono (by decide)) FH bH mH (GH.mono (by decide)) Fρ bρ mρ ((ok_ren Fρ Bx).mono (by decide)) FX bX mX (GX.mono (by decide)) Fψ bψ mψ (Gψ.mono (by decide)) Fα bα mα (Gα.mono (by decide)) Fτ bτ mτ Gτ
end
end Web
namespace Web
open PySem L2
def tsOf (K:W.Frag):List (Addr × Addr):=match PySem.W.tabIn K "order_of" with
 | some q=>[q]
 | none=>[]
def ptOf (K:W.Frag):Addr:=((PySem.W.tabIn K "order_of").getD (0,0)).2
theorem ls1 {p:List Value->Prop}(h:∀ x0,p [x0]):∀ us,us.length=1->p us
 | [x0],_=>h x0
theorem ls2 {p:List Value->Prop}(h:∀ x0 x1,p [x0,x1]):∀ us,us.length=2->p us
 | [x0,x1],_=>h x0 x1
theorem ls3 {p:List Value->Prop}(h:∀ x0 x1 x2,p [x0,x1,x2]):∀ us,us.length=3->p us
 | [x0,x1,x2],_=>h x0 x1 x2
theorem ls4 {p:List Value->Prop}(h:∀ x0 x1 x2 x3,p [x0,x1,x2,x3]):∀ us,us.length=4->p us
 | [x0,x1,x2,x3],_=>h x0 x1 x2 x3
set_option maxHeartbeats 0 in
theorem all_mk {l:PySem.W.OpenLaw}{w:World}{K:W.Frag}{h:Heap}{mg:Str->Option Value}{fa fI fP fU fV fK fι fT fO fG fA fβ fω fW fF fL fY fX fν fα fQ fφ fC fS fE fB fN fD fH fψ fJ fR fδ fσ fM fρ fτ fZ CBadTally CTooMany CBadNumber CNoPlace CBadWeb:Addr}{tk:Tok}{tC:Tok}(X:K.In h)(G:h.Ns mainGlobals mg)(hfa:mg "law"=some (.ref fa))
  {odI anI odP anP odU anU odV anV odK anK odι anι odT anT odO anO odG anG odA anA odβ anβ odω anω odW anW odF anF odL anL odY anY odX anX odν anν odα anα odQ anQ odφ anφ odC anC odS anS odE anE odB anB odN anN odD anD odH anH odψ anψ odJ anJ odR anR odδ anδ odσ anσ odM anM odρ anρ odτ anτ odZ anZ:Option Addr}{slI slP slU slV slK slι slT slO slG slA slβ slω slW slF slL slY slX slν slα slQ slφ slC slS slE slB slN slD slH slψ slJ slR slδ slσ slM slρ slτ slZ:Array (Option Value)}
  {ocI kVI dcI pmI cdI ctI ocP kVP dcP pmP cdP ctP ocU kVU dcU pmU cdU ctU ocV kVV dcV pmV cdV ctV ocK kVK dcK pmK cdK ctK ocι kVι dcι pmι cdι ctι ocT kVT dcT pmT cdT ctT ocO kVO dcO pmO cdO ctO ocG kVG dcG pmG cdG ctG ocA kVA dcA pmA cdA ctA ocβ kVβ dcβ pmβ cdβ ctβ ocω kVω dcω pmω cdω ctω ocW kVW dcW pmW cdW ctW ocF kVF dcF pmF cdF ctF ocL kVL dcL pmL cdL ctL ocY kVY dcY pmY cdY ctY ocX kVX dcX pmX cdX ctX ocν kVν dcν pmν cdν ctν ocα kVα dcα pmα cdα ctα ocQ kVQ dcQ pmQ cdQ ctQ ocφ kVφ dcφ pmφ cdφ ctφ ocC kVC dcC pmC cdC ctC ocS kVS dcS pmS cdS ctS ocE kVE dcE pmE cdE ctE ocB kVB dcB pmB cdB ctB ocN kVN dcN pmN cdN ctN ocD kVD dcD pmD cdD ctD ocH kVH dcH pmH cdH ctH ocψ kVψ dcψ pmψ cdψ ctψ ocJ kVJ dcJ pmJ cdJ ctJ ocR kVR dcR pmR cdR ctR ocδ kVδ dcδ pmδ cdδ ctδ ocσ kVσ dcσ pmσ cdσ ctσ ocM kVM dcM pmM cdM ctM ocρ kVρ dcρ pmρ cdρ ctρ ocτ kVτ dcτ pmτ cdτ ctτ ocZ kVZ dcZ pmZ cdZ ctZ:Value}
  (aI:PySem.W.nsIn K mainGlobals "is_place"=some (some (.ref fI)))(lI:K.lookup fI=some ⟨ocI,odI,.func (PySem.W.fnOf "is_place" "is_place" (defArgs sIsP) (defBody sIsP) (defScope sIsP) .none kVI dcI pmI anI cdI ctI),slI⟩)(cI:PySem.W.codeIn K cdI "is_place"=true)(kI:PySem.W.keepIn K (.ref fI)=true)
  (aP:PySem.W.nsIn K mainGlobals "check_place"=some (some (.ref fP)))(lP:K.lookup fP=some ⟨ocP,odP,.func (PySem.W.fnOf "check_place" "check_place" (defArgs sChk) (defBody sChk) (defScope sChk) .none kVP dcP pmP anP cdP ctP),slP⟩)(cP:PySem.W.codeIn K cdP "check_place"=true)(kP:PySem.W.keepIn K (.ref fP)=true)
  (aU:PySem.W.nsIn K mainGlobals "turned_up"=some (some (.ref fU)))(lU:K.lookup fU=some ⟨ocU,odU,.func (PySem.W.fnOf "turned_up" "turned_up" (defArgs sUp) (defBody sUp) (defScope sUp) .none kVU dcU pmU anU cdU ctU),slU⟩)(cU:PySem.W.codeIn K cdU "turned_up"=true)(kU:PySem.W.keepIn K (.ref fU)=true)
  (aV:PySem.W.nsIn K mainGlobals "made"=some (some (.ref fV)))(lV:K.lookup fV=some ⟨ocV,odV,.func (PySem.W.fnOf "made" "made" (defArgs sMade) (defBody sMade) (defScope sMade) .none kVV dcV pmV anV cdV ctV),slV⟩)(cV:PySem.W.codeIn K cdV "made"=true)(kV:PySem.W.keepIn K (.ref fV)=true)
  (aK:PySem.W.nsIn K mainGlobals "tally_of"=some (some (.ref fK)))(lK:K.lookup fK=some ⟨ocK,odK,.func (PySem.W.fnOf "tally_of" "tally_of" (defArgs sTally) (defBody sTally) (defScope sTally) .none kVK dcK pmK anK cdK ctK),slK⟩)(cK:PySem.W.codeIn K cdK "tally_of"=true)(kK:PySem.W.keepIn K (.ref fK)=true)
  (aι:PySem.W.nsIn K mainGlobals "is_told"=some (some (.ref fι)))(lι:K.lookup fι=some ⟨ocι,odι,.func (PySem.W.fnOf "is_told" "is_told" (defArgs sIsTold) (defBody sIsTold) (defScope sIsTold) .none kVι dcι pmι anι cdι ctι),slι⟩)(cι:PySem.W.codeIn K cdι "is_told"=true)(kι:PySem.W.keepIn K (.ref fι)=true)
  (aT:PySem.W.nsIn K mainGlobals "check_tally"=some (some (.ref fT)))(lT:K.lookup fT=some ⟨ocT,odT,.func (PySem.W.fnOf "check_tally" "check_tally" (defArgs sChT) (defBody sChT) (defScope sChT) .none kVT dcT pmT anT cdT ctT),slT⟩)(cT:PySem.W.codeIn K cdT "check_tally"=true)(kT:PySem.W.keepIn K (.ref fT)=true)
  (aO:PySem.W.nsIn K mainGlobals "order_of"=some (some (.ref fO)))(lO:K.lookup fO=some ⟨ocO,odO,.func (PySem.W.fnOf "order_of" "order_of" (defArgs sOrd) (defBody sOrd) (defScope sOrd) .none kVO dcO pmO anO cdO ctO),slO⟩)(cO:PySem.W.codeIn K cdO "order_of"=true)(kO:PySem.W.keepIn K (.ref fO)=true)
  (aG:PySem.W.nsIn K mainGlobals "falling"=some (some (.ref fG)))(lG:K.lookup fG=some ⟨ocG,odG,.func (PySem.W.fnOf "falling" "falling" (defArgs sFall) (defBody sFall) (defScope sFall) .none kVG dcG pmG anG cdG ctG),slG⟩)(cG:PySem.W.codeIn K cdG "falling"=true)(kG:PySem.W.keepIn K (.ref fG)=true)
  (aA:PySem.W.nsIn K mainGlobals "room_among"=some (some (.ref fA)))(lA:K.lookup fA=some ⟨ocA,odA,.func (PySem.W.fnOf "room_among" "room_among" (defArgs sAmong) (defBody sAmong) (defScope sAmong) .none kVA dcA pmA anA cdA ctA),slA⟩)(cA:PySem.W.codeIn K cdA "room_among"=true)(kA:PySem.W.keepIn K (.ref fA)=true)
  (aβ:PySem.W.nsIn K mainGlobals "places_below"=some (some (.ref fβ)))(lβ:K.lookup fβ=some ⟨ocβ,odβ,.func (PySem.W.fnOf "places_below" "places_below" (defArgs sBelow) (defBody sBelow) (defScope sBelow) .none kVβ dcβ pmβ anβ cdβ ctβ),slβ⟩)(cβ:PySem.W.codeIn K cdβ "places_below"=true)(kβ:PySem.W.keepIn K (.ref fβ)=true)
  (aω:PySem.W.nsIn K mainGlobals "wall_with"=some (some (.ref fω)))(lω:K.lookup fω=some ⟨ocω,odω,.func (PySem.W.fnOf "wall_with" "wall_with" (defArgs sWallW) (defBody sWallW) (defScope sWallW) .none kVω dcω pmω anω cdω ctω),slω⟩)(cω:PySem.W.codeIn K cdω "wall_with"=true)(kω:PySem.W.keepIn K (.ref fω)=true)
  (aW:PySem.W.nsIn K mainGlobals "wall_of"=some (some (.ref fW)))(lW:K.lookup fW=some ⟨ocW,odW,.func (PySem.W.fnOf "wall_of" "wall_of" (defArgs sWall) (defBody sWall) (defScope sWall) .none kVW dcW pmW anW cdW ctW),slW⟩)(cW:PySem.W.codeIn K cdW "wall_of"=true)(kW:PySem.W.keepIn K (.ref fW)=true)
  (aF:PySem.W.nsIn K mainGlobals "first_of_order"=some (some (.ref fF)))(lF:K.lookup fF=some ⟨ocF,odF,.func (PySem.W.fnOf "first_of_order" "first_of_order" (defArgs sFirst) (defBody sFirst) (defScope sFirst) .none kVF dcF pmF anF cdF ctF),slF⟩)(cF:PySem.W.codeIn K cdF "first_of_order"=true)(kF:PySem.W.keepIn K (.ref fF)=true)
  (aL:PySem.W.nsIn K mainGlobals "left_of_others"=some (some (.ref fL)))(lL:K.lookup fL=some ⟨ocL,odL,.func (PySem.W.fnOf "left_of_others" "left_of_others" (defArgs sLeft) (defBody sLeft) (defScope sLeft) .none kVL dcL pmL anL cdL ctL),slL⟩)(cL:PySem.W.codeIn K cdL "left_of_others"=true)(kL:PySem.W.keepIn K (.ref fL)=true)
  (aY:PySem.W.nsIn K mainGlobals "laid_around"=some (some (.ref fY)))(lY:K.lookup fY=some ⟨ocY,odY,.func (PySem.W.fnOf "laid_around" "laid_around" (defArgs sLaid) (defBody sLaid) (defScope sLaid) .none kVY dcY pmY anY cdY ctY),slY⟩)(cY:PySem.W.codeIn K cdY "laid_around"=true)(kY:PySem.W.keepIn K (.ref fY)=true)
  (aX:PySem.W.nsIn K mainGlobals "answered"=some (some (.ref fX)))(lX:K.lookup fX=some ⟨ocX,odX,.func (PySem.W.fnOf "answered" "answered" (defArgs sAns) (defBody sAns) (defScope sAns) .none kVX dcX pmX anX cdX ctX),slX⟩)(cX:PySem.W.codeIn K cdX "answered"=true)(kX:PySem.W.keepIn K (.ref fX)=true)
  (aν:PySem.W.nsIn K mainGlobals "is_web_of"=some (some (.ref fν)))(lν:K.lookup fν=some ⟨ocν,odν,.func (PySem.W.fnOf "is_web_of" "is_web_of" (defArgs sIsWeb) (defBody sIsWeb) (defScope sIsWeb) .none kVν dcν pmν anν cdν ctν),slν⟩)(cν:PySem.W.codeIn K cdν "is_web_of"=true)(kν:PySem.W.keepIn K (.ref fν)=true)
  (aα:PySem.W.nsIn K mainGlobals "answer_shows"=some (some (.ref fα)))(lα:K.lookup fα=some ⟨ocα,odα,.func (PySem.W.fnOf "answer_shows" "answer_shows" (defArgs sAnsS) (defBody sAnsS) (defScope sAnsS) .none kVα dcα pmα anα cdα ctα),slα⟩)(cα:PySem.W.codeIn K cdα "answer_shows"=true)(kα:PySem.W.keepIn K (.ref fα)=true)
  (aQ:PySem.W.nsIn K mainGlobals "check_pair"=some (some (.ref fQ)))(lQ:K.lookup fQ=some ⟨ocQ,odQ,.func (PySem.W.fnOf "check_pair" "check_pair" (defArgs sChP) (defBody sChP) (defScope sChP) .none kVQ dcQ pmQ anQ cdQ ctQ),slQ⟩)(cQ:PySem.W.codeIn K cdQ "check_pair"=true)(kQ:PySem.W.keepIn K (.ref fQ)=true)
  (aφ:PySem.W.nsIn K mainGlobals "check_few"=some (some (.ref fφ)))(lφ:K.lookup fφ=some ⟨ocφ,odφ,.func (PySem.W.fnOf "check_few" "check_few" (defArgs sFew) (defBody sFew) (defScope sFew) .none kVφ dcφ pmφ anφ cdφ ctφ),slφ⟩)(cφ:PySem.W.codeIn K cdφ "check_few"=true)(kφ:PySem.W.keepIn K (.ref fφ)=true)
  (aC:PySem.W.nsIn K mainGlobals "check_counted"=some (some (.ref fC)))(lC:K.lookup fC=some ⟨ocC,odC,.func (PySem.W.fnOf "check_counted" "check_counted" (defArgs sChC) (defBody sChC) (defScope sChC) .none kVC dcC pmC anC cdC ctC),slC⟩)(cC:PySem.W.codeIn K cdC "check_counted"=true)(kC:PySem.W.keepIn K (.ref fC)=true)
  (aS:PySem.W.nsIn K mainGlobals "choices"=some (some (.ref fS)))(lS:K.lookup fS=some ⟨ocS,odS,.func (PySem.W.fnOf "choices" "choices" (defArgs sChs) (defBody sChs) (defScope sChs) .none kVS dcS pmS anS cdS ctS),slS⟩)(cS:PySem.W.codeIn K cdS "choices"=true)(kS:PySem.W.keepIn K (.ref fS)=true)
  (aE:PySem.W.nsIn K mainGlobals "first_ends"=some (some (.ref fE)))(lE:K.lookup fE=some ⟨ocE,odE,.func (PySem.W.fnOf "first_ends" "first_ends" (defArgs sFE) (defBody sFE) (defScope sFE) .none kVE dcE pmE anE cdE ctE),slE⟩)(cE:PySem.W.codeIn K cdE "first_ends"=true)(kE:PySem.W.keepIn K (.ref fE)=true)
  (aB:PySem.W.nsIn K mainGlobals "count_behind"=some (some (.ref fB)))(lB:K.lookup fB=some ⟨ocB,odB,.func (PySem.W.fnOf "count_behind" "count_behind" (defArgs sBeh) (defBody sBeh) (defScope sBeh) .none kVB dcB pmB anB cdB ctB),slB⟩)(cB:PySem.W.codeIn K cdB "count_behind"=true)(kB:PySem.W.keepIn K (.ref fB)=true)
  (aN:PySem.W.nsIn K mainGlobals "count_of"=some (some (.ref fN)))(lN:K.lookup fN=some ⟨ocN,odN,.func (PySem.W.fnOf "count_of" "count_of" (defArgs sCnt) (defBody sCnt) (defScope sCnt) .none kVN dcN pmN anN cdN ctN),slN⟩)(cN:PySem.W.codeIn K cdN "count_of"=true)(kN:PySem.W.keepIn K (.ref fN)=true)
  (aD:PySem.W.nsIn K mainGlobals "count_ahead"=some (some (.ref fD)))(lD:K.lookup fD=some ⟨ocD,odD,.func (PySem.W.fnOf "count_ahead" "count_ahead" (defArgs sAhd) (defBody sAhd) (defScope sAhd) .none kVD dcD pmD anD cdD ctD),slD⟩)(cD:PySem.W.codeIn K cdD "count_ahead"=true)(kD:PySem.W.keepIn K (.ref fD)=true)
  (aH:PySem.W.nsIn K mainGlobals "how_many"=some (some (.ref fH)))(lH:K.lookup fH=some ⟨ocH,odH,.func (PySem.W.fnOf "how_many" "how_many" (defArgs sHow) (defBody sHow) (defScope sHow) .none kVH dcH pmH anH cdH ctH),slH⟩)(cH:PySem.W.codeIn K cdH "how_many"=true)(kH:PySem.W.keepIn K (.ref fH)=true)
  (aψ:PySem.W.nsIn K mainGlobals "web_at"=some (some (.ref fψ)))(lψ:K.lookup fψ=some ⟨ocψ,odψ,.func (PySem.W.fnOf "web_at" "web_at" (defArgs sWAt) (defBody sWAt) (defScope sWAt) .none kVψ dcψ pmψ anψ cdψ ctψ),slψ⟩)(cψ:PySem.W.codeIn K cdψ "web_at"=true)(kψ:PySem.W.keepIn K (.ref fψ)=true)
  (aJ:PySem.W.nsIn K mainGlobals "in_how_many"=some (some (.ref fJ)))(lJ:K.lookup fJ=some ⟨ocJ,odJ,.func (PySem.W.fnOf "in_how_many" "in_how_many" (defArgs sInH) (defBody sInH) (defScope sInH) .none kVJ dcJ pmJ anJ cdJ ctJ),slJ⟩)(cJ:PySem.W.codeIn K cdJ "in_how_many"=true)(kJ:PySem.W.keepIn K (.ref fJ)=true)
  (aR:PySem.W.nsIn K mainGlobals "_law_row"=some (some (.ref fR)))(lR:K.lookup fR=some ⟨ocR,odR,.func (PySem.W.fnOf "_law_row" "_law_row" (defArgs sRow) (defBody sRow) (defScope sRow) .none kVR dcR pmR anR cdR ctR),slR⟩)(cR:PySem.W.codeIn K cdR "_law_row"=true)(kR:PySem.W.keepIn K (.ref fR)=true)
  (aδ:PySem.W.nsIn K mainGlobals "_law_ties"=some (some (.ref fδ)))(lδ:K.lookup fδ=some ⟨ocδ,odδ,.func (PySem.W.fnOf "_law_ties" "_law_ties" (defArgs sTies) (defBody sTies) (defScope sTies) .none kVδ dcδ pmδ anδ cdδ ctδ),slδ⟩)(cδ:PySem.W.codeIn K cdδ "_law_ties"=true)(kδ:PySem.W.keepIn K (.ref fδ)=true)
  (aσ:PySem.W.nsIn K mainGlobals "_law_sums"=some (some (.ref fσ)))(lσ:K.lookup fσ=some ⟨ocσ,odσ,.func (PySem.W.fnOf "_law_sums" "_law_sums" (defArgs sSums) (defBody sSums) (defScope sSums) .none kVσ dcσ pmσ anσ cdσ ctσ),slσ⟩)(cσ:PySem.W.codeIn K cdσ "_law_sums"=true)(kσ:PySem.W.keepIn K (.ref fσ)=true)
  (aM:PySem.W.nsIn K mainGlobals "_law_small"=some (some (.ref fM)))(lM:K.lookup fM=some ⟨ocM,odM,.func (PySem.W.fnOf "_law_small" "_law_small" (defArgs sSmall) (defBody sSmall) (defScope sSmall) .none kVM dcM pmM anM cdM ctM),slM⟩)(cM:PySem.W.codeIn K cdM "_law_small"=true)(kM:PySem.W.keepIn K (.ref fM)=true)
  (aρ:PySem.W.nsIn K mainGlobals "_law_renamed"=some (some (.ref fρ)))(lρ:K.lookup fρ=some ⟨ocρ,odρ,.func (PySem.W.fnOf "_law_renamed" "_law_renamed" (defArgs sRen) (defBody sRen) (defScope sRen) .none kVρ dcρ pmρ anρ cdρ ctρ),slρ⟩)(cρ:PySem.W.codeIn K cdρ "_law_renamed"=true)(kρ:PySem.W.keepIn K (.ref fρ)=true)
  (aτ:PySem.W.nsIn K mainGlobals "_law_two_right"=some (some (.ref fτ)))(lτ:K.lookup fτ=some ⟨ocτ,odτ,.func (PySem.W.fnOf "_law_two_right" "_law_two_right" (defArgs sTwo) (defBody sTwo) (defScope sTwo) .none kVτ dcτ pmτ anτ cdτ ctτ),slτ⟩)(cτ:PySem.W.codeIn K cdτ "_law_two_right"=true)(kτ:PySem.W.keepIn K (.ref fτ)=true)
  (aZ:PySem.W.nsIn K mainGlobals "law"=some (some (.ref fZ)))(lZ:K.lookup fZ=some ⟨ocZ,odZ,.func (PySem.W.fnOf "law" "law" (defArgs sLaw) (defBody sLaw) (defScope sLaw) .none kVZ dcZ pmZ anZ cdZ ctZ),slZ⟩)(cZ:PySem.W.codeIn K cdZ "law"=true)(kZ:PySem.W.keepIn K (.ref fZ)=true)
  (mo:PySem.W.nsIn K mainGlobals "MOST_PLACES"=some (some (.int 24 tk)))
  (mc:PySem.W.nsIn K mainGlobals "MOST_COUNTED"=some (some (.int 7 tC)))
  (aBadTally:PySem.W.nsIn K mainGlobals "BadTally"=some (some (.ref CBadTally)))
  (aTooMany:PySem.W.nsIn K mainGlobals "TooMany"=some (some (.ref CTooMany)))
  (aBadNumber:PySem.W.nsIn K mainGlobals "BadNumber"=some (some (.ref CBadNumber)))
  (aNoPlace:PySem.W.nsIn K mainGlobals "NoPlace"=some (some (.ref CNoPlace)))
  (aBadWeb:PySem.W.nsIn K mainGlobals "BadWeb"=some (some (.ref CBadWeb)))
  (qBadTally:PySem.W.excIn K CBadTally [.type "ValueError",.type "Exception",.type "BaseException",.type "object"] "ValueError.__new__"=true)
  (xmBadTally:PySem.W.exmOne K (.ref CBadTally) (.ref CBadTally)=some true)
  (qTooMany:PySem.W.excIn K CTooMany [.type "ValueError",.type "Exception",.type "BaseException",.type "object"] "ValueError.__new__"=true)
  (xmTooMany:PySem.W.exmOne K (.ref CTooMany) (.ref CTooMany)=some true)
  (qBadNumber:PySem.W.excIn K CBadNumber [.type "ValueError",.type "Exception",.type "BaseException",.type "object"] "ValueError.__new__"=true)
  (xmBadNumber:PySem.W.exmOne K (.ref CBadNumber) (.ref CBadNumber)=some true)
  (qNoPlace:PySem.W.excIn K CNoPlace [.type "ValueError",.type "Exception",.type "BaseException",.type "object"] "ValueError.__new__"=true)
  (xmNoPlace:PySem.W.exmOne K (.ref CNoPlace) (.ref CNoPlace)=some true)
  (qBadWeb:PySem.W.excIn K CBadWeb [.type "ValueError",.type "Exception",.type "BaseException",.type "object"] "ValueError.__new__"=true)
  (xmBadWeb:PySem.W.exmOne K (.ref CBadWeb) (.ref CBadWeb)=some true)
  (tb:(PySem.W.tabIn K "order_of").isSome=true)
  (z1:PySem.W.nsIn K mainGlobals "len"=some none)
  (z2:PySem.W.nsIn K mainGlobals "range"=some none)
  (z3:PySem.W.nsIn K mainGlobals "enumerate"=some none)
  (z4:PySem.W.nsIn K mainGlobals "list"=some none)
  (z5:PySem.W.nsIn K mainGlobals "tuple"=some none)
  (z6:PySem.W.nsIn K mainGlobals "sorted"=some none)
  (z7:PySem.W.nsIn K mainGlobals "set"=some none)
  (z8:PySem.W.nsIn K mainGlobals "isinstance"=some none)
  (z9:PySem.W.nsIn K mainGlobals "int"=some none)
  (z10:PySem.W.nsIn K mainGlobals "bool"=some none)
  (z11:PySem.W.nsIn K mainGlobals "min"=some none)
  (z12:PySem.W.nsIn K mainGlobals "max"=some none)
  (z13:PySem.W.nsIn K mainGlobals "sum"=some none)
  (z14:PySem.W.nsIn K mainGlobals "str"=some none)
  (z15:PySem.W.nsIn K mainGlobals "ValueError"=some none)
  (z16:PySem.W.nsIn K mainGlobals "reversed"=some none) :
  ∃ fd:FuncData,(∀ (s:Shared) (v:Value),BindsTo s fd ⟨[v],[]⟩ [("script",v)])/\∀ base:Heap,K.In base->base.Ns mainGlobals mg->(∀ q∈tsOf K,LamB base mg q.1 q.2)->FnOk l.prog w K mg base CX0 26 fa fd ["script"] (spLaw K (ptOf K)):=by
 have e:=hfa.symm.trans (PySem.W.mg_of X G aZ)
 cases e
 have B:Bn mg:=⟨PySem.W.mg_none_of X G z1,PySem.W.mg_none_of X G z2,PySem.W.mg_none_of X G z3,PySem.W.mg_none_of X G z4,PySem.W.mg_none_of X G z5,PySem.W.mg_none_of X G z6,PySem.W.mg_none_of X G z7,PySem.W.mg_none_of X G z8,PySem.W.mg_none_of X G z9,PySem.W.mg_none_of X G z10,PySem.W.mg_none_of X G z11,PySem.W.mg_none_of X G z12,PySem.W.mg_none_of X G z13,PySem.W.mg_none_of X G z14,PySem.W.mg_none_of X G z15,PySem.W.mg_none_of X G z16⟩
 have FI:=fun_mk (st:=sIsP) lI cI kI
 have bI:=FI.binds (ps:=["places","number"]) fun _ _ _ _ _ _=>ls2 fun _ _=>rfl
 have FP:=fun_mk (st:=sChk) lP cP kP
 have bP:=FP.binds (ps:=["places","number"]) fun _ _ _ _ _ _=>ls2 fun _ _=>rfl
 have FU:=fun_mk (st:=sUp) lU cU kU
 have bU:=FU.binds (ps:=["places","tie"]) fun _ _ _ _ _ _=>ls2 fun _ _=>rfl
 have FV:=fun_mk (st:=sMade) lV cV kV
 have bV:=FV.binds (ps:=["places","ties"]) fun _ _ _ _ _ _=>ls2 fun _ _=>rfl
 have FK:=fun_mk (st:=sTally) lK cK kK
 have bK:=FK.binds (ps:=["web"]) fun _ _ _ _ _ _=>ls1 fun _=>rfl
 have Fι:=fun_mk (st:=sIsTold) lι cι kι
 have bι:=Fι.binds (ps:=["web"]) fun _ _ _ _ _ _=>ls1 fun _=>rfl
 have FT:=fun_mk (st:=sChT) lT cT kT
 have bT:=FT.binds (ps:=["tally"]) fun _ _ _ _ _ _=>ls1 fun _=>rfl
 have FO:=fun_mk (st:=sOrd) lO cO kO
 have bO:=FO.binds (ps:=["tally"]) fun _ _ _ _ _ _=>ls1 fun _=>rfl
 have FG:=fun_mk (st:=sFall) lG cG kG
 have bG:=FG.binds (ps:=["tally"]) fun _ _ _ _ _ _=>ls1 fun _=>rfl
 have FA:=fun_mk (st:=sAmong) lA cA kA
 have bA:=FA.binds (ps:=["numbers","most","r"]) fun _ _ _ _ _ _=>ls3 fun _ _ _=>rfl
 have Fβ:=fun_mk (st:=sBelow) lβ cβ kβ
 have bβ:=Fβ.binds (ps:=["numbers"]) fun _ _ _ _ _ _=>ls1 fun _=>rfl
 have Fω:=fun_mk (st:=sWallW) lω cω kω
 have bω:=Fω.binds (ps:=["tally","most"]) fun _ _ _ _ _ _=>ls2 fun _ _=>rfl
 have FW:=fun_mk (st:=sWall) lW cW kW
 have bW:=FW.binds (ps:=["tally"]) fun _ _ _ _ _ _=>ls1 fun _=>rfl
 have FF:=fun_mk (st:=sFirst) lF cF kF
 have bF:=FF.binds (ps:=["tally","many","passed_over"]) fun _ _ _ _ _ _=>ls3 fun _ _ _=>rfl
 have FL:=fun_mk (st:=sLeft) lL cL kL
 have bL:=FL.binds (ps:=["tally","place","ends"]) fun _ _ _ _ _ _=>ls3 fun _ _ _=>rfl
 have FY:=fun_mk (st:=sLaid) lY cY kY
 have bY:=FY.binds (ps:=["tally","place","ends"]) fun _ _ _ _ _ _=>ls3 fun _ _ _=>rfl
 have FX:=fun_mk (st:=sAns) lX cX kX
 have bX:=FX.binds (ps:=["tally"]) fun _ _ _ _ _ _=>ls1 fun _=>rfl
 have Fν:=fun_mk (st:=sIsWeb) lν cν kν
 have bν:=Fν.binds (ps:=["tally","web"]) fun _ _ _ _ _ _=>ls2 fun _ _=>rfl
 have Fα:=fun_mk (st:=sAnsS) lα cα kα
 have bα:=Fα.binds (ps:=["tally","told"]) fun _ _ _ _ _ _=>ls2 fun _ _=>rfl
 have FQ:=fun_mk (st:=sChP) lQ cQ kQ
 have bQ:=FQ.binds (ps:=["places","one","other"]) fun _ _ _ _ _ _=>ls3 fun _ _ _=>rfl
 have Fφ:=fun_mk (st:=sFew) lφ cφ kφ
 have bφ:=Fφ.binds (ps:=["places"]) fun _ _ _ _ _ _=>ls1 fun _=>rfl
 have FC:=fun_mk (st:=sChC) lC cC kC
 have bC:=FC.binds (ps:=["tally"]) fun _ _ _ _ _ _=>ls1 fun _=>rfl
 have FS:=fun_mk (st:=sChs) lS cS kS
 have bS:=FS.binds (ps:=["places","many"]) fun _ _ _ _ _ _=>ls2 fun _ _=>rfl
 have FE:=fun_mk (st:=sFE) lE cE kE
 have bE:=FE.binds (ps:=["left"]) fun _ _ _ _ _ _=>ls1 fun _=>rfl
 have FB:=fun_mk (st:=sBeh) lB cB kB
 have bB:=FB.binds (ps:=["left","ends","known"]) fun _ _ _ _ _ _=>ls3 fun _ _ _=>rfl
 have FN:=fun_mk (st:=sCnt) lN cN kN
 have bN:=FN.binds (ps:=["left","known"]) fun _ _ _ _ _ _=>ls2 fun _ _=>rfl
 have FD:=fun_mk (st:=sAhd) lD cD kD
 have bD:=FD.binds (ps:=["left","ends","known"]) fun _ _ _ _ _ _=>ls3 fun _ _ _=>rfl
 have FH:=fun_mk (st:=sHow) lH cH kH
 have bH:=FH.binds (ps:=["tally"]) fun _ _ _ _ _ _=>ls1 fun _=>rfl
 have Fψ:=fun_mk (st:=sWAt) lψ cψ kψ
 have bψ:=Fψ.binds (ps:=["tally","number"]) fun _ _ _ _ _ _=>ls2 fun _ _=>rfl
 have FJ:=fun_mk (st:=sInH) lJ cJ kJ
 have bJ:=FJ.binds (ps:=["tally","one","other"]) fun _ _ _ _ _ _=>ls3 fun _ _ _=>rfl
 have FR:=fun_mk (st:=sRow) lR cR kR
 have bR:=FR.binds (ps:=["cell","many","size"]) fun _ _ _ _ _ _=>ls3 fun _ _ _=>rfl
 have Fδ:=fun_mk (st:=sTies) lδ cδ kδ
 have bδ:=Fδ.binds (ps:=["places","cell"]) fun _ _ _ _ _ _=>ls2 fun _ _=>rfl
 have Fσ:=fun_mk (st:=sSums) lσ cσ kσ
 have bσ:=Fσ.binds (ps:=["places","ties"]) fun _ _ _ _ _ _=>ls2 fun _ _=>rfl
 have FM:=fun_mk (st:=sSmall) lM cM kM
 have bM:=FM.binds (ps:=["cell","most"]) fun _ _ _ _ _ _=>ls2 fun _ _=>rfl
 have Fρ:=fun_mk (st:=sRen) lρ cρ kρ
 have bρ:=Fρ.binds (ps:=["tally","rest"]) fun _ _ _ _ _ _=>ls2 fun _ _=>rfl
 have Fτ:=fun_mk (st:=sTwo) lτ cτ kτ
 have bτ:=Fτ.binds (ps:=["tally","one","other","many"]) fun _ _ _ _ _ _=>ls4 fun _ _ _ _=>rfl
 have FZ:=fun_mk (st:=sLaw) lZ cZ kZ
 obtain⟨⟨c,PT⟩,hcp⟩:=Option.isSome_iff_exists.mp tb
 have hc:=tab_code hcp aO lO
 have ept:ptOf K=PT:=by unfold ptOf;rw[hcp];rfl
 have ets:tsOf K=[(c,PT)]:=by unfold tsOf;rw[hcp]
 rw[ept,ets]
 exact⟨PySem.W.fnOf "law" "law" (defArgs sLaw) (defBody sLaw) (defScope sLaw) .none kVZ dcZ pmZ anZ cdZ ctZ,fun s v=>.of_eq rfl,fun base _ _ hL=>ok_law FZ B (PySem.W.mg_of X G mo) (PySem.W.mg_of X G mc) FI bI (PySem.W.mg_of X G aI) FP bP (PySem.W.mg_of X G aP) FU bU (PySem.W.mg_of X G aU) FV bV (PySem.W.mg_of X G aV) FK bK (PySem.W.mg_of X G aK) Fι bι (PySem.W.mg_of X G aι) FT bT (PySem.W.mg_of X G aT) FO bO (PySem.W.mg_of X G aO) FG bG (PySem.W.mg_of X G aG) FA bA (PySem.W.mg_of X G aA) Fβ bβ (PySem.W.mg_of X G aβ) Fω bω (PySem.W.mg_of X G aω) FW bW (PySem.W.mg_of X G aW) FF bF (PySem.W.mg_of X G aF) FL bL (PySem.W.mg_of X G aL) FY bY (PySem.W.mg_of X G aY) FX bX (PySem.W.mg_of X G aX) Fν bν (PySem.W.mg_of X G aν) Fα bα (PySem.W.mg_of X G aα) FQ bQ (PySem.W.mg_of X G aQ) Fφ bφ (PySem.W.mg_of X G aφ) FC bC (PySem.W.mg_of X G aC) FS bS (PySem.W.mg_of X G aS) FE bE (PySem.W.mg_of X G aE) FB bB (PySem.W.mg_of X G aB) FN bN (PySem.W.mg_of X G aN) FD bD (PySem.W.mg_of X G aD) FH bH (PySem.W.mg_of X G aH) Fψ bψ (PySem.W.mg_of X G aψ) FJ bJ (PySem.W.mg_of X G aJ) FR bR (PySem.W.mg_of X G aR) Fδ bδ (PySem.W.mg_of X G aδ) Fσ bσ (PySem.W.mg_of X G aσ) FM bM (PySem.W.mg_of X G aM) Fρ bρ (PySem.W.mg_of X G aρ) Fτ bτ (PySem.W.mg_of X G aτ) (PySem.W.mg_of X G aBadTally) ⟨qBadTally⟩ (PySem.W.mg_of X G aTooMany) ⟨qTooMany⟩ (PySem.W.mg_of X G aBadNumber) ⟨qBadNumber⟩ (PySem.W.mg_of X G aNoPlace) ⟨qNoPlace⟩ (PySem.W.mg_of X G aBadWeb) ⟨qBadWeb⟩ hc (hL (c,PT) List.mem_cons_self)⟩
theorem walk {l:PySem.W.OpenLaw} {q:Program} {loose:List Str} {XP:(Str->Option Value)->Heap->Prop} {YP:World->Heap->Prop} {d:DefRec} {K:Params->PySem.W.Frag} (hn:l.most=some 63) (hdf:d.params.defaults=[])
  (hY:∀ (w:World) (h:Heap),YP w h->(K w.params).In h) (hK0:∀ w:World,PySem.W.noTabs (K w.params)=true) (hrec:((PyProof.Rows.recsOf q).find? (fun e=>e.name == ("order_of":Str))).isSome=true) (htb:∀ w:World,(PySem.W.tabIn (K w.params) "order_of").isSome=true)
  (F : ∀ (w : World) (mg : Str -> Option Value) (fa : Addr) (h : Heap), (K w.params).In h -> h.Ns mainGlobals mg -> mg d.name = some (.ref fa) ->
   ∃ fd:FuncData,(∀ (s:Shared) (u:Value),BindsTo s fd ⟨[u],[]⟩ [("script",u)])/\∀ base:Heap,(K w.params).In base->base.Ns mainGlobals mg->(∀ q∈tsOf (K w.params),LamB base mg q.1 q.2)->FnOk l.prog w (K w.params) mg base CX0 26 fa fd ["script"] (spLaw (K w.params) (ptOf (K w.params)))) :
  PySem.W.WalkO q loose XP YP l.row.toRowW d [] (fun f vs=>PySem.call f vs):=by
 refine L2.walk_ofT (n:=63) (k:=26) (x:="script") (CX:=fun _=>CX0) (sp:=fun w _=>spLaw (K w.params) (ptOf (K w.params))) (ts:=fun w=>tsOf (K w.params)) hn (by decide) hdf ⟨rfl,by decide,by decide⟩ hY hK0 (fun w loose mean mg mb h T X=>?_) F (fun w H a ns hl hT hS=>?_) fun _ _ _ _ _ z=>z
 ·obtain⟨⟨c,PT⟩,hcp⟩:=Option.isSome_iff_exists.mp (htb w)
  obtain⟨d',hd'⟩:=Option.isSome_iff_exists.mp hrec
  have ets:tsOf (K w.params)=[(c,PT)]:=by unfold tsOf;rw[hcp]
  show PySem.W.TabsAt (tsOf (K w.params)) h
  rw[ets]
  intro r hr
  rw[List.mem_singleton.mp hr]
  exact PySem.W.tab_of T X hd' hcp
 ·obtain⟨⟨c,PT⟩,hcp⟩:=Option.isSome_iff_exists.mp (htb w)
  have ets:tsOf (K w.params)=[(c,PT)]:=by unfold tsOf;rw[hcp]
  have ept:ptOf (K w.params)=PT:=by unfold ptOf;rw[hcp];rfl
  refine⟨a,ns,rfl,hS,hl,?_,fun _=>rfl⟩
  rw[ept]
  exact⟨#[],hT (c,PT) (by show (c,PT)∈tsOf (K w.params);rw[ets];exact List.mem_cons_self),trivial,.inl rfl⟩
end Web
set_option Elab.async false
namespace PySem.W.Fast
def tw4706964161374746272:=0
def tw1455212952547598467:=0
def tw17378391532780789432:=0
def tw586469347388334333:=0
def tw7119269399615211296:=0
def tw11266951741114010316:=0
def tw18124935478472579791:=0
def tw6506434152471278632:=0
def tw397565561038497002:=0
def tw3241500578513367881:=0
def tw14730209258630219275:=0
def tw15375710772978755834:=0
def tw7979682700204831192:=0
def tw11349700292703512747:=0
def tw9455376659628667168:=0
def tw4999635319451124322:=0
def tw4251161230851151383:=0
def tw10871926861082221769:=0
def tw9343456931532773782:=0
def tw6923798001649053642:=0
def tw503883727594218539:=0
def tw1108165743522462601:=0
def tw8163563538997710352:=0
def tw1645147482595518190:=0
def tw6377289081176233265:=0
def tw3135650072067038932:=0
def tw15330868930704662821:=0
def tw5158057605418704635:=0
def tw16235184814462479624:=0
def tw15168224901059936906:=0
def tw1261596729744735994:=0
def tw525416315159921732:=0
def tw4848140554947984327:=0
def tw2496477666102194448:=0
def tw9576991214845050188:=0
def tw7102676546774757325:=0
def tw6924081161291980157:=0
def tw10242641268837953806:=0
def tw9884354649347445840:=0
def tw11755766008534466130:=0
def tw3518463203723310814:=0
def tw14017911855131293557:=0
def tw17753954147924164876:=0
def tw14876872565965437656:=0
def tw9851754611592463620:=0
def tw14859700686709395939:=0
def tw2025399762443619853:=0
def tw5424200235047798827:=0
def tw14124277237210086628:=0
def tw2460477871792445700:=0
def tw2501821679848710200:=0
def tw16646236525443521101:=0
def tw20774821682720713:=0
def tw6535961033103044914:=0
def tw16131919536619529659:=0
def tw11003330736095039876:=0
def tw6776308394550806049:=0
def tw5487090556510422818:=0
def tw6896290395948034592:=0
def tw3527264842451136671:=0
def tw981192249447654819:=0
def tw14367815934294187414:=0
def tw5899115429809284801:=0
def tw18036001376808952593:=0
def tw2498975627406244845:=0
def tw18300771716593040609:=0
def tw15444195615289839989:=0
def tw16404282048122378438:=0
def tw4792416324483401155:=0
def tw13403179102942263319:=0
def tw14768047781104794535:=0
def tw3526573646850755731:=0
def tw15512544149088972624:=0
def tw14681155469795994980:=0
def tw4525582488107880278:=0
def tw8432923374190169980:=0
def tw11716374648722641341:=0
def tw12590708317953329999:=0
def tw17447980822842794443:=0
def tw3418763320346833359:=0
def tw16321266056982358474:=0
def tw4833715898208796760:=0
def tw16405951309240418030:=0
def tw7553272095920734516:=0
def tw10370405401488734094:=0
def tw2797646409214028189:=0
def tw675796896206711658:=0
def tw1734076992319490248:=0
def tw17042489215214994996:=0
def tw10130879995375701029:=0
def tw12997356594645720928:=0
def tw4371760964970553679:=0
def tw10163392385406841711:=0
def tw6566807868325171156:=0
def tw8684566431108042482:=0
def tw10705236476950174809:=0
def tw11363716430792175102:=0
def tw7001639439187618151:=0
def tw77667666731595360:=0
def tw13271992981201428892:=0
def tw8185069446854641441:=0
def tw12123824703779831980:=0
def tw5447213924004353675:=0
def tw8523070732861513386:=0
def tw16349035618361507905:=0
def tw10178708629352272765:=0
def tw8871831302830319765:=0
def tw6475978811540325423:=0
def tw14603879482419700482:=0
def tw5998244512635568871:=0
def tw577965858905729326:=0
def tw3695121326209797748:=0
def tw18236651819353541227:=0
def tw7190887962065199759:=0
def tw5419273346074888922:=0
def tw14663879303968325112:=0
def tw4724815294782112015:=0
def tw10938340187870470927:=0
def tw912589586425453193:=0
def tw5155782610122201502:=0
def tw16373048760954754261:=0
def tw4111441200755928973:=0
def tw2531452744554328679:=0
def tw13889803727369679253:=0
def tw2238477131551131829:=0
def tw7204735861562429461:=0
def tw8805530108191408901:=0
def tw1746720591187519778:=0
def tw17844761292527562943:=0
def tw18089652579372157014:=0
def tw8283609693890186760:=0
def tw3156756478876615701:=0
def tw15611090587483579752:=0
def tw10887637999057966434:=0
def tw16601422438678562555:=0
def tw8728708788137973017:=0
def tw16382230867954334434:=0
def tw14352895279504779816:=0
def tw15346035010142164761:=0
def tw9225988083078720066:=0
def tw17076793308712685849:=0
def tw17806803125313503323:=0
def tw6946205938507653639:=0
def tw18314356847933797208:=0
def tw17369400297623519819:=0
def tw13709854719004164589:=0
def tw11480582182617466751:=0
def tw8122310186289892016:=0
def tw11999969590322410255:=0
def tw9673566355256699137:=0
def tw9797510397402621403:=0
def tw14595461854350047619:=0
def tw12167420777366894777:=0
def tw3822190877717085242:=0
def tw2271192181049146046:=0
def tw3904665564373927465:=0
def tw3008975885403378833:=0
def tw12388969788940121258:=0
def tw2009076157002841024:=0
def tw2635617004375452308:=0
def tw3433967120448025722:=0
def tw11358323798207050840:=0
def tw3033397512129733887:=0
def tw2778897489106366231:=0
def tw5055679289700893328:=0
def tw8285056514062662962:=0
def tw10683549045002019839:=0
def tw3393039638411024:=0
def tw17223565107190416393:=0
def tw11984537391671295507:=0
def tw2606902276707408201:=0
def tw12976665044403352475:=0
def tw9281801007356863381:=0
def tw8385053715171818104:=0
def tw5669430821290265595:=0
def tw14132440890986260777:=0
def tw15662680308131756425:=0
def tw18182703373576461581:=0
def tw9877509920085314028:=0
def tw4947780436657261781:=0
def tw18377428601436508864:=0
def tw9533959310370958744:=0
def tw3739860480908177512:=0
def tw11558808172039976882:=0
def tw10530497562733957586:=0
def tw6735655439934373539:=0
def tw11710793737979169167:=0
def tw11345414025969371488:=0
def tw6365388407263187497:=0
def tw13119218671710908976:=0
def tw5251219356453667855:=0
def tw5354197024957337054:=0
def tw2786122154597020926:=0
def tw10035699884121741950:=0
def tw13510980544064561096:=0
def tw15973895055768982097:=0
def tw8467506409983675049:=0
def tw8211164407304809109:=0
def tw7918964347480922731:=0
def tw10799976143731534610:=0
def tw8217847028940219076:=0
def tw1821836475188315755:=0
def tw9211760920583952322:=0
def tw4290444558842311870:=0
def tw3170939778761194873:=0
end PySem.W.Fast
open PySem PySem.W PyProof.Rows
set_option maxRecDepth 100000 in
set_option maxHeartbeats 0 in
theorem PySem.Challenge.cw_tallyweb_k58_whole_other_webs_counted_holds : PySem.Challenge.rw_tallyweb_k58_whole_other_webs_counted.Holds := by
 w_on; o_law; k_head; (case hw => w_witness2)
 k_fill
 refine Web.walk (l := PySem.Challenge.rw_tallyweb_k58_whole_other_webs_counted) rfl rfl (fun w h Y => PySem.W.km_in_of Y) ?hN0 ?hR0 ?hT0 ?F
 case hN0 => intro w; kernel_rfl
 case hR0 => kernel_rfl
 case hT0 => intro w; kernel_rfl
 case F =>
  intro w mg fa h KX G hmg
  refine' Web.all_mk KX G hmg ?aI ?lI ?cI ?kI ?aP ?lP ?cP ?kP ?aU ?lU ?cU ?kU ?aV ?lV ?cV ?kV ?aK ?lK ?cK ?kK ?aι ?lι ?cι ?kι ?aT ?lT ?cT ?kT ?aO ?lO ?cO ?kO ?aG ?lG ?cG ?kG ?aA ?lA ?cA ?kA ?aβ ?lβ ?cβ ?kβ ?aω ?lω ?cω ?kω ?aW ?lW ?cW ?kW ?aF ?lF ?cF ?kF ?aL ?lL ?cL ?kL ?aY ?lY ?cY ?kY ?aX ?lX ?cX ?kX ?aν ?lν ?cν ?kν ?aα ?lα ?cα ?kα ?aQ ?lQ ?cQ ?kQ ?aφ ?lφ ?cφ ?kφ ?aC ?lC ?cC ?kC ?aS ?lS ?cS ?kS ?aE ?lE ?cE ?kE ?aB ?lB ?cB ?kB ?aN ?lN ?cN ?kN ?aD ?lD ?cD ?kD ?aH ?lH ?cH ?kH ?aψ ?lψ ?cψ ?kψ ?aJ ?lJ ?cJ ?kJ ?aR ?lR ?cR ?kR ?aδ ?lδ ?cδ ?kδ ?aσ ?lσ ?cσ ?kσ ?aM ?lM ?cM ?kM ?aρ ?lρ ?cρ ?kρ ?aτ ?lτ ?cτ ?kτ ?aZ ?lZ ?cZ ?kZ ?mo ?mc ?aBadTally ?aTooMany ?aBadNumber ?aNoPlace ?aBadWeb ?qBadTally ?xmBadTally ?qTooMany ?xmTooMany ?qBadNumber ?xmBadNumber ?qNoPlace ?xmNoPlace ?qBadWeb ?xmBadWeb ?tb ?z1 ?z2 ?z3 ?z4 ?z5 ?z6 ?z7 ?z8 ?z9 ?z10 ?z11 ?z12 ?z13 ?z14 ?z15 ?z16
  (case aI => k_is); (case lI => k_is); (case cI => k_is); (case kI => k_is)
  (case aP => k_is); (case lP => k_is); (case cP => k_is); (case kP => k_is)
  (case aU => k_is); (case lU => k_is); (case cU => k_is); (case kU => k_is)
  (case aV => k_is); (case lV => k_is); (case cV => k_is); (case kV => k_is)
  (case aK => k_is); (case lK => k_is); (case cK => k_is); (case kK => k_is)
  (case aι => k_is); (case lι => k_is); (case cι => k_is); (case kι => k_is)
  (case aT => k_is); (case lT => k_is); (case cT => k_is); (case kT => k_is)
  (case aO => k_is); (case lO => k_is); (case cO => k_is); (case kO => k_is)
  (case aG => k_is); (case lG => k_is); (case cG => k_is); (case kG => k_is)
  (case aA => k_is); (case lA => k_is); (case cA => k_is); (case kA => k_is)
  (case aβ => k_is); (case lβ => k_is); (case cβ => k_is); (case kβ => k_is)
  (case aω => k_is); (case lω => k_is); (case cω => k_is); (case kω => k_is)
  (case aW => k_is); (case lW => k_is); (case cW => k_is); (case kW => k_is)
  (case aF => k_is); (case lF => k_is); (case cF => k_is); (case kF => k_is)
  (case aL => k_is); (case lL => k_is); (case cL => k_is); (case kL => k_is)
  (case aY => k_is); (case lY => k_is); (case cY => k_is); (case kY => k_is)
  (case aX => k_is); (case lX => k_is); (case cX => k_is); (case kX => k_is)
  (case aν => k_is); (case lν => k_is); (case cν => k_is); (case kν => k_is)
  (case aα => k_is); (case lα => k_is); (case cα => k_is); (case kα => k_is)
  (case aQ => k_is); (case lQ => k_is); (case cQ => k_is); (case kQ => k_is)
  (case aφ => k_is); (case lφ => k_is); (case cφ => k_is); (case kφ => k_is)
  (case aC => k_is); (case lC => k_is); (case cC => k_is); (case kC => k_is)
  (case aS => k_is); (case lS => k_is); (case cS => k_is); (case kS => k_is)
  (case aE => k_is); (case lE => k_is); (case cE => k_is); (case kE => k_is)
  (case aB => k_is); (case lB => k_is); (case cB => k_is); (case kB => k_is)
  (case aN => k_is); (case lN => k_is); (case cN => k_is); (case kN => k_is)
  (case aD => k_is); (case lD => k_is); (case cD => k_is); (case kD => k_is)
  (case aH => k_is); (case lH => k_is); (case cH => k_is); (case kH => k_is)
  (case aψ => k_is); (case lψ => k_is); (case cψ => k_is); (case kψ => k_is)
  (case aJ => k_is); (case lJ => k_is); (case cJ => k_is); (case kJ => k_is)
  (case aR => k_is); (case lR => k_is); (case cR => k_is); (case kR => k_is)
  (case aδ => k_is); (case lδ => k_is); (case cδ => k_is); (case kδ => k_is)
  (case aσ => k_is); (case lσ => k_is); (case cσ => k_is); (case kσ => k_is)
  (case aM => k_is); (case lM => k_is); (case cM => k_is); (case kM => k_is)
  (case aρ => k_is); (case lρ => k_is); (case cρ => k_is); (case kρ => k_is)
  (case aτ => k_is); (case lτ => k_is); (case cτ => k_is); (case kτ => k_is)
  (case aZ => k_is); (case lZ => k_is); (case cZ => k_is); (case kZ => k_is)
  (case mo => k_is); (case mc => k_is); (case aBadTally => k_is); (case aTooMany => k_is)
  (case aBadNumber => k_is); (case aNoPlace => k_is); (case aBadWeb => k_is); (case qBadTally => k_exc)
  (case xmBadTally => kts_exm); (case qTooMany => k_exc); (case xmTooMany => kts_exm); (case qBadNumber => k_exc)
  (case xmBadNumber => kts_exm); (case qNoPlace => k_exc); (case xmNoPlace => kts_exm); (case qBadWeb => k_exc)
  (case xmBadWeb => kts_exm); (case tb => kernel_rfl); (case z1 => k_is); (case z2 => k_is)
  (case z3 => k_is); (case z4 => k_is); (case z5 => k_is); (case z6 => k_is)
  (case z7 => k_is); (case z8 => k_is); (case z9 => k_is); (case z10 => k_is)
  (case z11 => k_is); (case z12 => k_is); (case z13 => k_is); (case z14 => k_is)
  (case z15 => k_is); (case z16 => k_is)
#print axioms PySem.Challenge.cw_tallyweb_k58_whole_other_webs_counted_holds

