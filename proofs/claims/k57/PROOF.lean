import PyProof.Rows.All
import Wide.All
import OpenK.AllK
import Wide.FinOn
import Lean
import PyProof.EqAt
import PyProof.EqKinds
import PyProof.TupleCall
import PyProof.Rows.SortRunsK
import PyProof.Rows.SortShellK
import KE.KSortTup
import PyProof.TupleKey
import PySem.SetOps
import PyProof.Rows.SetFrom
import PyProof.EnumFor
import PyProof.EnumStmt
import PyProof.EnumMake
import PyProof.P3Eq
import PyProof.NeData
import PyProof.P3In
import PyProof.Rows.SumAny
import KE.KLam
import KE.KSortKey
import PyProof.ListRange
import KE.KTryMore
import PyProof.NsDelKeeps
import PyProof.RulesAs
import PyProof.ExcBaseAll.ValueError
import PyProof.ExcArgsOwn
import KE.KIsAll
import PyProof.Rows.SortRev
import PyProof.TupleOfSeq
import PyProof.Draws
import KE.KTupSum
import Wide.Txt2
import PyProof.ListOps
import PyProof.AutoSeq1
import KE.RegKIsAll
import KE.RegKTryMore
import PySem.Challenge.RW_tallyweb_k57_ties_at_a_place
set_option autoImplicit false
set_option linter.all false
set_option Elab.async false
set_option maxRecDepth 100000
namespace L2
open PySem PySem.Spec PyProof.Rows
abbrev Key:=Sum Int Str
def keyIs:Key->Value->Bool
 | .inl k,v=>Value.isInt k v
 | .inr x,v=>Value.isStrOf x v
def keyH (w:World):Key->Int
 | .inl k=>hashInt k
 | .inr x=>hashStr w x
theorem keyIs_shape:∀ {k:Key} {v:Value},keyIs k v=true->(∃ i t,k=Sum.inl i/\v=Value.int i t)\/(∃ x t,k=Sum.inr x/\v=Value.str x t)
 | .inl i,v,h=>by
  obtain⟨t,e⟩:=Value.isInt_shape (k:=i) (v:=v) h
  exact .inl ⟨i,t,rfl,e⟩
 | .inr x,v,h=>by
  obtain⟨t,e⟩:=Value.isStrOf_shape (x:=x) (v:=v) h
  exact .inr ⟨x,t,rfl,e⟩
theorem keyIs_int (i:Int)(t:Tok):keyIs (.inl i) (.int i t)=true:=by simp[keyIs,Value.isInt]
theorem keyIs_str (x:Str)(t:Tok):keyIs (.inr x) (.str x t)=true:=by simp[keyIs,Value.isStrOf]
theorem key_ll (a b:Int):decide ((Sum.inl a:Key)=Sum.inl b)=(a == b):=by
 by_cases e:a=b
 ·subst e;simp
 ·have h:¬ (Sum.inl a:Key)=Sum.inl b:=fun q=>e (Sum.inl.inj q)
  rw[decide_eq_false h]
  exact(beq_eq_false_iff_ne.mpr e).symm
theorem key_rr (a b:Str):decide ((Sum.inr a:Key)=Sum.inr b)=decide (a=b):=by
 by_cases e:a=b
 ·subst e;simp
 ·have h:¬ (Sum.inr a:Key)=Sum.inr b:=fun q=>e (Sum.inr.inj q)
  rw[decide_eq_false h,decide_eq_false e]
theorem key_lr (a:Int)(b:Str):decide ((Sum.inl a:Key)=Sum.inr b)=false:=decide_eq_false (fun q=>nomatch q)
theorem key_rl (a:Str)(b:Int):decide ((Sum.inr a:Key)=Sum.inl b)=false:=decide_eq_false (fun q=>nomatch q)
def mixKind (prog:Program) (w:World):PySem.KeyKind prog w Key where
  is:=keyIs
  hash:=keyH w
  inj:=fun v a b ha hb=>by
    rcases keyIs_shape ha with⟨i,t,rfl,rfl⟩ | ⟨x,t,rfl,rfl⟩
    · rcases keyIs_shape hb with⟨j,u,rfl,e⟩ | ⟨y,u,rfl,e⟩
      · injection e with e1 _;rw[e1]
      · exact nomatch e
    · rcases keyIs_shape hb with⟨j,u,rfl,e⟩ | ⟨y,u,rfl,e⟩
      · exact nomatch e
      · injection e with e1 _;rw[e1]
  byValue := fun k v h => by
    rcases keyIs_shape h with⟨i,t,rfl,rfl⟩ | ⟨x,t,rfl,rfl⟩<;>rfl
  pyHash:=fun hv h=>by
    rcases keyIs_shape hv with⟨i,t,rfl,rfl⟩ | ⟨x,t,rfl,rfl⟩
    · exact wpAny_pyHash_int h
    · exact wpAny_pyHash_str h
  eqBool:=fun hu hv h=>by
    rcases keyIs_shape hu with⟨i,t,rfl,rfl⟩ | ⟨x,t,rfl,rfl⟩
    · rcases keyIs_shape hv with⟨j,u,rfl,rfl⟩ | ⟨y,u,rfl,rfl⟩
      · rw[key_ll]at h;exact wpAny_eqBool_int h
      · rw[key_lr]at h;exact SeqAt.EqAt.int_str i t y u _ _ _ _ h
    · rcases keyIs_shape hv with⟨j,u,rfl,rfl⟩ | ⟨y,u,rfl,rfl⟩
      · rw[key_rl]at h;exact SeqAt.EqAt.str_int x t j u _ _ _ _ h
      · rw[key_rr]at h;exact wpAny_eqBool_str h
  «strs»:=fun k x t v h=>by
    rcases keyIs_shape h with⟨i,u,rfl,e⟩ | ⟨y,u,rfl,e⟩
    · exact nomatch e
    · injection e with e1 _
      subst e1
      cases v<;>rfl
theorem mixKind_int (prog:Program)(w:World)(i:Int)(t:Tok):(mixKind prog w).is (.inl i) (.int i t)=true:=keyIs_int i t
theorem mixKind_str (prog:Program)(w:World)(x:Str)(t:Tok):(mixKind prog w).is (.inr x) (.str x t)=true:=keyIs_str x t
inductive V where
 | non | bl (b:Bool) | int (i:Int) | str (x:Str) | byt (b:Array UInt8) | flt (b:UInt64) | ref (a:Addr) | ty (n:String)
 deriving DecidableEq
def RelV:V->Value->Prop
 | .non,u=>u=Value.none
 | .bl b,u=>u=Value.bool b
 | .int i,u=>∃ t,u=Value.int i t
 | .str x,u=>∃ t,u=Value.str x t
 | .byt b,u=>∃ t,u=Value.bytes b t
 | .flt b,u=>∃ t,u=Value.float b t
 | .ref a,u=>u=Value.ref a
 | .ty n,u=>u=Value.type n
abbrev Vals:List V->List Value->Prop:=Paired RelV
theorem Vals.length {xs:List V}{us:List Value}(r:Vals xs us):xs.length=us.length:=Paired.length r
theorem Vals.get:∀ {xs:List V} {us:List Value} {i:Nat} {x:V},Vals xs us->xs[i]?=some x->∃ u,us[i]?=some u/\RelV x u
 | _,_,_,_,.nil,e=>by simp at e
 | _,_,0,_,.cons r _,e=>by simp at e;subst e;exact⟨_,rfl,r⟩
 | _,_,i+1,x,.cons _ t,e=>by
  obtain⟨u,h1,h2⟩:=Vals.get (i:=i) (x:=x) t (by simpa using e)
  exact⟨u,by simpa using h1,h2⟩
theorem Vals.set {x:V}{u:Value}(r:RelV x u):∀ {xs:List V} {us:List Value} (i:Nat),Vals xs us->Vals (xs.set i x) (us.set i u)
 | _,_,_,.nil=>.nil
 | _,_,0,.cons _ t=>.cons r t
 | _,_,i+1,.cons q t=>.cons q (Vals.set r i t)
theorem Vals.append:∀ {xs ys:List V} {us ws:List Value},Vals xs us->Vals ys ws->Vals (xs++ys) (us++ws)
 | _,_,_,_,.nil,s=>s
 | _,_,_,_,.cons r t,s=>.cons r (Vals.append t s)
theorem Vals.take:∀ {xs:List V} {us:List Value} (n:Nat),Vals xs us->Vals (xs.take n) (us.take n)
 | _,_,0,_=>.nil
 | _,_,_+1,.nil=>.nil
 | _,_,n+1,.cons r t=>.cons r (Vals.take n t)
theorem Vals.drop:∀ {xs:List V} {us:List Value} (n:Nat),Vals xs us->Vals (xs.drop n) (us.drop n)
 | _,_,0,r=>r
 | _,_,_+1,.nil=>.nil
 | _,_,n+1,.cons _ t=>Vals.drop n t
def RelO:Option V->Option Value->Prop
 | some v,some u=>RelV v u
 | none,none=>True
 | _,_=>False
def KV {κ:Type}:List (κ × V)->List (κ × Value)->Prop:=Paired fun(p:κ × V) (q:κ × Value)=>p.1=q.1/\RelV p.2 q.2
def kV:Key->V
 | .inl i=>.int i
 | .inr x=>.str x
inductive HO where
  | lst (xs:List V)
  | tup (xs:List V)
  | dK (kvs:List (Key × V)) | dT (kvs:List (List Key × V))
  | set (S:Int->Bool) (n:Nat)
  | ins (C dx:Addr) (fs:List (Str × V))
  | own (x:Addr)
  | xd (fs:List (Str × V))
  | met (f x:Addr)
  | rng (lo hi:Int)
  | frz (o:Obj) (u:HO)
  | tbl (ps:Array Value)
  | ext (φ:Heap->Prop)
abbrev Hp:=Addr->Option HO
def upd (H:Hp)(a:Addr)(o:HO):Hp:=fun b=>if b=a then some o else H b
theorem upd_same {H:Hp}{a:Addr}{o:HO}:upd H a o a=some o:=by unfold upd;rw[if_pos rfl]
theorem upd_ne {H:Hp}{a b:Addr}{o:HO}(h:b≠a):upd H a o b=H b:=by unfold upd;rw[if_neg h]
theorem upd_upd {H:Hp}{a:Addr}{o u:HO}:upd (upd H a o) a u=upd H a u:=by
 funext b;unfold upd;split<;>rfl
theorem ne_of {H:Hp}{a b:Addr}{o u:HO}(h:H a=some o)(h':H b=some u)(d:o≠u):a≠b:=by
 intro e;subst e;rw[h]at h';exact d (Option.some.inj h')
theorem ne_of_none {H:Hp}{a b:Addr}{o:HO}(h:H a=some o)(h':H b=none):a≠b:=by
 intro e;subst e;rw[h]at h';cases h'
section
variable (P:Program) (w:World)
def ObjOk (H:Hp)(h:Heap)(a:Addr):HO->Prop
 | .lst xs=>xs.length<=sizeLine/\∃ (its:List Value) (n:Nat),Vals xs its/\h.get? a=some { cls:=.type "list",data:=.seq its.toArray n }
 | .tup xs=>xs.length<=sizeLine/\∃ its:List Value,Vals xs its/\IsTup h a its.toArray
 | .dK kvs=>kvs.length<=sizeLine/\(a == sysModules)=false/\∃ vs,KV kvs vs/\h.DictOf (mixKind P w) a vs
 | .dT kvs=>kvs.length<=sizeLine/\(a == sysModules)=false/\∃ xs:List (List Key × Addr × Value),
   Paired (fun(p:List Key × V) (q:List Key × Addr × Value)=>p.1=q.1/\H q.2.1=some (.tup (p.1.map kV))/\RelV p.2 q.2.2) kvs xs /\
   ∃ o es ep,h.get? a=some o/\o.ExactDict/\o.data=.dict es ep/\es.toList=xs.map (entryOfKey (tupleKind (mixKind P w)))/\(xs.map (·.1)).Nodup
 | .set S n=>h.SetOf (intKind P w) a S n
 | .ins C dx fs=>H dx=some (.own a)/\fs.length<=1000/\dx≠a/\h.get? a=some (PySem.W.instObj C dx) /\
   ∃ mA,h.Ns1 dx mA/\(∀ f,RelO (fs.lookup f) (mA f))/\PySem.Within mA (fs.map (·.1))
 | .own _=>∃ o,h.get? a=some o
 | .xd fs=>∃ mA,h.Ns1 a mA/\∀ f,RelO (fs.lookup f) (mA f)
 | .rng lo hi=>∃ t u v,h.get? a=some { cls:=.type "range",data:=.fields #[.int lo t,.int hi u,.int 1 v] }
 | .frz o u=>h.get? a=some o/\ObjOk H h a u
 | .tbl ps=>h.get? a=some { cls:=.none,data:=.fields ps }
 | .met f x=>h.get? a=some (PySem.W.methodObj (.ref f) (.ref x))
 | .ext φ=>φ h/\(∃ o,h.get? a=some o)/\∀ h1 h2:Heap,φ h1->(∀ o,h1.get? a=some o->h2.get? a=some o)->φ h2
def HOk (H:Hp)(h:Heap):Prop:=∀ a o,H a=some o->ObjOk P w H h a o
end
section
variable {P:Program} {w:World} {H H':Hp} {h h':Heap} {a:Addr} {o:HO}
theorem ObjOk.lt (x:ObjOk P w H h a o):a<h.objs.size:=by
 cases o with
 | lst xs=>obtain⟨_,_,_,_,e⟩:=x;exact Heap.lt_size e
 | tup xs=>obtain⟨_,_,_,p⟩:=x;exact p.lt
 | dK kvs=>obtain⟨_,_,_,_,o,_,_,e,_⟩:=x;exact Heap.lt_size e
 | dT kvs=>obtain⟨_,_,_,_,o,_,_,e,_⟩:=x;exact Heap.lt_size e
 | set S n=>obtain⟨o,_,_,_,e,_⟩:=x;exact Heap.lt_size e
 | ins C dx fs=>obtain⟨_,_,_,e,_⟩:=x;exact Heap.lt_size e
 | own y=>obtain⟨_,e⟩:=x;exact Heap.lt_size e
 | xd fs=>obtain⟨_,⟨_,_,_,e,_⟩,_⟩:=x;exact Heap.lt_size e
 | rng lo hi=>obtain⟨_,_,_,e⟩:=x;exact Heap.lt_size e
 | frz ob u=>obtain⟨e,_⟩:=x;exact Heap.lt_size e
 | tbl ps=>exact Heap.lt_size (show h.get? a=some _ from x)
 | met f y=>exact Heap.lt_size (show h.get? a=some _ from x)
 | ext φ=>obtain⟨_,⟨_,e⟩,_⟩:=x;exact Heap.lt_size e
theorem Paired.mapP {α β:Type}{F G:α->β->Prop}:∀ {l₁:List α} {l₂:List β},Paired F l₁ l₂->(∀ a b,F a b->G a b)->Paired G l₁ l₂
 | _,_,.nil,_=>.nil
 | _,_,.cons r t,f=>.cons (f _ _ r) (Paired.mapP t f)
theorem ObjOk.stay (x:ObjOk P w H h a o)(k:∀ b u,(b=a\/H b=some (.own a))->h.get? b=some u->h'.get? b=some u)
  (ho:∀ b,H b=some (.own a)->H' b=some (.own a))(ht:∀ b xs,H b=some (.tup xs)->H' b=some (.tup xs)):ObjOk P w H' h' a o:=by
 induction o with
 | lst xs=>obtain⟨z,its,n,r,e⟩:=x;exact⟨z,its,n,r,k _ _ (.inl rfl) e⟩
 | tup xs=>obtain⟨z,its,r,ob,e,c⟩:=x;exact⟨z,its,r,ob,k _ _ (.inl rfl) e,c⟩
 | dK kvs=>obtain⟨z,y,vs,r,ob,es,ep,e,c⟩:=x;exact⟨z,y,vs,r,ob,es,ep,k _ _ (.inl rfl) e,c⟩
 | dT kvs =>
  obtain⟨z,y,xs,r,ob,es,ep,e,c⟩:=x
  exact⟨z,y,xs,Paired.mapP r fun p q z=>⟨z.1,ht _ _ z.2.1,z.2.2⟩,ob,es,ep,k _ _ (.inl rfl) e,c⟩
 | set S n=>obtain⟨ob,es,ep,t,e,c⟩:=x;exact⟨ob,es,ep,t,k _ _ (.inl rfl) e,c⟩
 | ins C dx fs =>
  obtain⟨d,z,ne,e,mA,⟨od,es,ep,e2,c⟩,r⟩:=x
  exact⟨ho _ d,z,ne,k _ _ (.inl rfl) e,mA,⟨od,es,ep,k _ _ (.inr d) e2,c⟩,r⟩
 | own y=>obtain⟨ob,e⟩:=x;exact⟨ob,k _ _ (.inl rfl) e⟩
 | xd fs=>obtain⟨mA,⟨od,es,ep,e,c⟩,r⟩:=x;exact⟨mA,⟨od,es,ep,k _ _ (.inl rfl) e,c⟩,r⟩
 | rng lo hi=>obtain⟨t,u,v,e⟩:=x;exact⟨t,u,v,k _ _ (.inl rfl) e⟩
 | frz ob u ih=>obtain⟨e,q⟩:=x;exact⟨k _ _ (.inl rfl) e,ih q⟩
 | tbl ps =>
  have e:h.get? a=some { cls:=.none,data:=.fields ps }:=x
  show h'.get? a=some { cls:=.none,data:=.fields ps }
  exact k a _ (.inl rfl) e
 | met f y =>
  have e:h.get? a=some (PySem.W.methodObj (.ref f) (.ref y)):=x
  show h'.get? a=some (PySem.W.methodObj (.ref f) (.ref y))
  exact k a _ (.inl rfl) e
 | ext φ=>obtain⟨p,⟨o,e⟩,st⟩:=x;exact⟨st _ _ p fun o q=>k _ _ (.inl rfl) q,⟨o,k _ _ (.inl rfl) e⟩,st⟩
theorem HOk.lt (x:HOk P w H h)(e:H a=some o):a<h.objs.size:=(x a o e).lt
theorem HOk.fresh (x:HOk P w H h)(e:h.objs.size<=a):H a=none:=by
 cases q:H a with
 | none=>rfl
 | some u=>exact absurd (Nat.lt_of_lt_of_le (x.lt q) e) (Nat.lt_irrefl _)
theorem HOk.kept (x:HOk P w H h)(k:∀ b u,h.get? b=some u->h'.get? b=some u):HOk P w H h':=fun a o e =>
 (x a o e).stay (fun b u _ q=>k b u q) (fun _ q=>q) fun _ _ q=>q
theorem HOk.laid (x:HOk P w H h)(k:∀ b u,h.get? b=some u->h'.get? b=some u)(hp:h.objs.size<=a)(new:ObjOk P w (upd H a o) h' a o):HOk P w (upd H a o) h':=fun b u e=>by
 have hn:=x.fresh hp
 by_cases hb:b=a
 ·subst hb;rw[upd_same]at e;cases e;exact new
 ·rw[upd_ne hb]at e
  exact(x b u e).stay (fun c v _ q=>k c v q) (fun c q=>by rw[upd_ne (ne_of_none q hn)];exact q) fun c xs q=>by rw[upd_ne (ne_of_none q hn)];exact q
end
def Rd (H:Hp)(a:Addr)(u:HO):Prop:=H a=some u\/∃ o,H a=some (.frz o u)
theorem Rd.ok {P:Program}{w:World}{H:Hp}{h:Heap}{a:Addr}{u:HO}(r:Rd H a u)(x:HOk P w H h):ObjOk P w H h a u:=by
 rcases r with r | ⟨o,r⟩
 ·exact x a u r
 ·obtain⟨_,q⟩:=x a _ r
  exact q
def Mut:Option HO->Prop
 | some (.lst _)=>True
 | some (.dK _)=>True
 | some (.dT _)=>True
 | some (.set _ _)=>True
 | some (.ins _ _ _)=>True
 | some (.ext _)=>True
 | _=>False
section
variable {P:Program} {w:World} {H:Hp} {h h':Heap} {x e:Addr} {o':HO}
theorem HOk.write (ok:HOk P w H h)(mu:Mut (H x))(he:e=x\/H e=some (.own x))(k:∀ b u,b≠e->h.get? b=some u->h'.get? b=some u)(heo:∃ u,h'.get? e=some u)
  (new:ObjOk P w (upd H x o') h' x o'):HOk P w (upd H x o') h':=fun b u q=>by
 have nown:∀ c y,H c=some (.own y)->c≠x:=fun c y r z=>by subst z;rw[r]at mu;exact mu
 have ntup:∀ c xs,H c=some (.tup xs)->c≠x:=fun c xs r z=>by subst z;rw[r]at mu;exact mu
 by_cases hb:b=x
 ·subst hb;rw[upd_same]at q;cases q;exact new
 ·rw[upd_ne hb]at q
  by_cases hbe:b=e
  ·have q':H b=some (.own x):=by
    rcases he with z | z
    ·exact absurd (hbe.trans z) hb
    ·rw[hbe];exact z
   rw[q]at q';cases q'
   obtain⟨v,hv⟩:=heo
   exact⟨v,by rw[hbe];exact hv⟩
  ·refine(ok b u q).stay (fun c v hc r=>k c v ?_ r) (fun c r=>by rw[upd_ne (nown c b r)];exact r) fun c xs r=>by rw[upd_ne (ntup c xs r)];exact r
   rcases hc with rfl | hc
   ·exact hbe
   ·rintro rfl
    rcases he with z | z
    ·exact nown c b hc z
    ·rw[hc]at z;cases z;exact hb rfl
end
structure Un (fs ex:List Addr) (H H':Hp) (h h':Heap):Prop where
 keep:∀ b o,h.get? b=some o->H b=none->b∉fs->b∉ex->h'.get? b=some o
 slot:∀ b o,h.get? b=some o->H b=none->b∈fs->b∉ex->∃ sl,h'.get? b=some { o with slots:=sl }
 free:∀ b o,h.get? b=some o->H b=none->b∉ex->H' b=none
 there:∀ b o,h.get? b=some o->b∉ex->∃ o',h'.get? b=some o'
 tups:∀ b xs,H b=some (.tup xs)->H' b=some (.tup xs)
 frzs:∀ b o u,H b=some (.frz o u)->H' b=some (.frz o u)
 tbls:∀ b ps,H b=some (.tbl ps)->∃ more,H' b=some (.tbl (ps++more))
section
variable {fs fs' ex ex':List Addr} {H H1 H2:Hp} {h h1 h2 h':Heap} {a x e:Addr} {o:HO}
theorem Un.any (u:Un fs ex H H1 h h1){b:Addr}{ob:Obj}(q:h.get? b=some ob)(n:H b=none)(hx:b∉ex):∃ sl,h1.get? b=some { ob with slots:=sl }:=by
 by_cases hb:b∈fs
 ·exact u.slot b ob q n hb hx
 ·exact⟨ob.slots,u.keep b ob q n hb hx⟩
theorem Un.kept (k:∀ b u,h.get? b=some u->h'.get? b=some u):Un fs ex H H h h':=
 ⟨fun b ob q _ _ _=>k b ob q,fun b ob q _ _ _=>⟨ob.slots,k b ob q⟩,fun _ _ _ n _=>n,fun b ob q _=>⟨ob,k b ob q⟩,fun _ _ q=>q,fun _ _ _ q=>q,fun _ ps q=>⟨#[],by rw[q];simp⟩⟩
theorem Un.refl:Un fs ex H H h h:=Un.kept fun _ _ q=>q
theorem Un.laid (k:∀ b u,h.get? b=some u->h'.get? b=some u)(hp:h.objs.size<=a)(hn:H a=none):Un fs ex H (upd H a o) h h' where
 keep:=fun b u q _ _ _=>k b u q
 slot:=fun b u q _ _ _=>⟨u.slots,k b u q⟩
 free:=fun b u q n _=>by rw[upd_ne (Nat.ne_of_lt (Nat.lt_of_lt_of_le (Heap.lt_size q) hp))];exact n
 there:=fun b u q _=>⟨u,k b u q⟩
 tups:=fun b xs q=>by rw[upd_ne (ne_of_none q hn)];exact q
 frzs:=fun b u xs q=>by rw[upd_ne (ne_of_none q hn)];exact q
 tbls:=fun b ps q=>⟨#[],by rw[upd_ne (ne_of_none q hn),q];simp⟩
theorem Un.write (mu:Mut (H x))(he:e=x\/H e=some (.own x))(k:∀ b u,b≠e->h.get? b=some u->h'.get? b=some u)(heo:∃ u,h'.get? e=some u):Un fs ex H (upd H x o) h h':=by
 have hx:∀ b,H b=none->b≠x:=fun b n z=>by subst z;rw[n]at mu;exact mu
 have hb:∀ b,H b=none->b≠e:=fun b n z=>by
  subst z
  rcases he with r | r
  ·exact hx b n r
  ·rw[n]at r;cases r
 have hm:∀ b u,H b=some u->¬ Mut (some u)->b≠x:=fun b u q nm z=>by subst z;rw[q]at mu;exact nm mu
 refine⟨fun b u q n _ _=>k b u (hb b n) q,fun b u q n _ _=>⟨u.slots,k b u (hb b n) q⟩,fun b u q n _=>by rw[upd_ne (hx b n)];exact n,fun b u q _=>?_,
  fun b xs q=>by rw[upd_ne (hm b _ q fun z=>z)];exact q,fun b u xs q=>by rw[upd_ne (hm b _ q fun z=>z)];exact q,fun b ps q=>⟨#[],by rw[upd_ne (hm b _ q fun z=>z),q];simp⟩⟩
 by_cases hbe:b=e
 ·subst hbe;exact heo
 ·exact⟨u,k b u hbe q⟩
end
def trk (h:Heap)(H:Hp):List Addr:=(List.range h.objs.size).filter fun a=>(H a).isSome
def hidT (h:Heap)(H:Hp):Heap:=PySem.W.hideAll h (trk h H)
theorem hidT_size (h:Heap)(H:Hp):(hidT h H).objs.size=h.objs.size:=PySem.W.hideAll_size _ _
theorem hidT_get {h:Heap}{H:Hp}{b:Addr}{o:Obj}(e:h.get? b=some o)(n:H b=none):(hidT h H).get? b=some o:=
 PySem.W.hideAll_get _ e fun hm=>by
  have q:(H b).isSome=true:=(List.mem_filter.mp hm).2
  rw[n]at q;simp at q
theorem of_hidT {h:Heap}{H:Hp}{b:Addr}{o:Obj}(e:(hidT h H).get? b=some o):h.get? b=some o/\H b=none:=by
 have e':h.get? b=some o:=PySem.W.of_hideAll (trk h H) e
 refine⟨e',?_⟩
 cases q:H b with
 | none=>rfl
 | some x =>
  have hm:b∈trk h H:=List.mem_filter.mpr ⟨List.mem_range.mpr (Heap.lt_size e'),by simp[q]⟩
  have z:(hidT h H).get? b=none:=PySem.W.hideAll_none (trk h H) hm
  rw[z]at e;cases e
def allNews (g h:Heap)(L:Addr):List (Addr × Obj):=(List.range h.objs.size).filterMap fun a=>if a=L\/(g.get? a).isSome=true then none else (h.get? a).map fun o=>(a,o)
def rest (g h:Heap)(L d:Addr):List (Addr × Obj):=(allNews g h L).filter fun p=>decide (p.1≠d)
structure Mod (K:W.Frag) (mg:Str->Option Value) (base:Heap):Prop where
 kin:K.In base
 glob:base.Ns mainGlobals mg
 blt:∃ mb,base.Ns builtinsNs mb/\∀ x:Str,x≠"__name__"->mb x=bootBuiltins x
 nolimit:base.NoLimit
structure Cx where
 prog:Program
 w:World
 K:W.Frag
 mg:Str->Option Value
 base:Heap
 A:Around
 N:List Str
 s₀:Shared
 H₀:Hp
 env:Env
 outer:List Env
 stack:List Env
 ex:List Addr
 fn:Str->Bool
 calm:Bool
 pn:List (Addr × Obj)
 xe:Value->Shared->Prop
def frs (l:List Env):List Addr:=l.filterMap (·.frame)
abbrev Cx.fs (X:Cx):List Addr:=frs X.outer
def Vis (sc:Scope)(x:Str):Prop:=sc.names.lookup x=some .local\/sc.names.lookup x=some .cell\/sc.names.lookup x=some .free
def Loc (sc:Scope)(x:Str):Prop:=sc.names.lookup x=some .local\/sc.names.lookup x=some .cell
def Look (env:Env)(h:Heap)(m:Str->Option Value)(x:Str)(u:Value):Prop:=
 (env.kindOf x=some .local/\m x=some u)\/((env.kindOf x=some .cell\/env.kindOf x=some .free)/\∃ c,env.cells.lookup x=some c/\h.IsCell c (some u))
structure Cx.Ok (X:Cx):Prop where
 mod:Mod X.K X.mg X.base
 kind:X.env.scope.kind=.function
 glob:X.env.globals=mainGlobals
 blt:X.env.builtins=builtinsNs
 above:X.s₀.heap.objs.size<=X.env.locals
 inj:∀ x y c,X.env.cells.lookup x=some c->X.env.cells.lookup y=some c->x=y
 has:∀ x,(X.env.kindOf x=some .cell\/X.env.kindOf x=some .free)->∃ c,X.env.cells.lookup x=some c
 cab:∀ x c,X.fn x=true->X.env.cells.lookup x=some c->X.s₀.heap.objs.size<=c
 hd:X.calm=true->X.A.handled=none
 frames:X.A.frames=some X.stack
 stk:X.stack=X.outer\/(X.stack=X.env::X.outer/\X.env.frame=some X.env.locals)
 exf:∀ b∈X.ex,b≠X.env.locals/\∀ x c,X.env.cells.lookup x=some c->c≠b
 bs:∀ b o,X.base.get? b=some o->X.s₀.heap.get? b=some o/\X.H₀ b=none
 bsz:X.base.objs.size<=X.s₀.heap.objs.size
 noex:∀ b o,X.base.get? b=some o->b∉X.ex
 exfs:∀ b∈X.ex,b∉X.fs
 funs:X.s₀.heap.FunFrames X.base X.outer
 frf:∀ b∈X.fs,X.H₀ b=none
structure Inv (X:Cx) (pins:List (Addr × Obj)) (σ:List (Option V)) (H:Hp) (s:Shared):Prop where
 ok:X.Ok
 os:s.os=X.s₀.os
 bare:AllBare s.gens
 base:Un X.fs X.ex X.H₀ H X.s₀.heap s.heap
 loc:∃ m,s.heap.Ns X.env.locals m/\∀ (i:Nat) (x:Str) (v:V),X.N[i]?=some x->σ[i]?=some (some v)->Vis X.env.scope x->∃ u,RelV v u/\Look X.env s.heap m x u
 cell:∀ x c,X.env.cells.lookup x=some c->∃ v,s.heap.IsCell c v
 free:H X.env.locals=none
 freeC:∀ x c,X.env.cells.lookup x=some c->H c=none
 pin:∀ p∈X.pn++pins,s.heap.get? p.1=some p.2/\H p.1=none/\p.1≠X.env.locals/\p.1∉X.fs/\∀ v,p.2.data≠.cell v
 hok:HOk X.prog X.w H s.heap
 len:σ.length=X.N.length
section
variable {X:Cx} {pins:List (Addr × Obj)} {σ:List (Option V)} {H H':Hp} {s:Shared} {h':Heap}
theorem Cx.Ok.nofr (ok:X.Ok){b:Addr}{o:Obj}(e:X.base.get? b=some o):b∉X.fs:=fun hb=>by
 have:=(ok.funs.mem hb).1
 rw[e]at this;cases this
theorem Inv.bs (I:Inv X pins σ H s):∀ b o,X.base.get? b=some o->s.heap.get? b=some o/\H b=none:=fun b o e =>
 ⟨I.base.keep b o (I.ok.bs b o e).1 (I.ok.bs b o e).2 (I.ok.nofr e) (I.ok.noex b o e),I.base.free b o (I.ok.bs b o e).1 (I.ok.bs b o e).2 (I.ok.noex b o e)⟩
theorem Inv.bk (I:Inv X pins σ H s):∀ b o,X.base.get? b=some o->s.heap.get? b=some o:=fun b o e=>(I.bs b o e).1
theorem Inv.mod (I:Inv X pins σ H s):Mod X.K X.mg X.base:=I.ok.mod
theorem Inv.kIn (I:Inv X pins σ H s):X.K.In s.heap:=I.ok.mod.kin.keeps I.bk
theorem Inv.lt (I:Inv X pins σ H s):X.env.locals<s.heap.objs.size:=let ⟨_,hn,_⟩:=I.loc;hn.lt
theorem Inv.sz (I:Inv X pins σ H s):X.s₀.heap.objs.size<=s.heap.objs.size:=Nat.le_trans I.ok.above (Nat.le_of_lt I.lt)
theorem Inv.nofs (I:Inv X pins σ H s){a:Addr}(h:s.heap.objs.size<=a):a∉X.fs:=fun hb=>by
 obtain⟨_,o,ho,_⟩:=I.ok.funs.mem hb
 exact absurd (Nat.lt_of_lt_of_le (Heap.lt_size ho) (Nat.le_trans I.sz h)) (Nat.lt_irrefl _)
theorem Inv.cne (I:Inv X pins σ H s):∀ x c,X.env.cells.lookup x=some c->c≠X.env.locals:=fun x c e z=>by
 obtain⟨v,o,ho,hd⟩:=I.cell x c e
 obtain⟨m,⟨o',es,ep,ho',hd',_⟩,_⟩:=I.loc
 rw[z,ho']at ho;cases ho;rw[hd']at hd;cases hd
theorem Inv.funs (I:Inv X pins σ H s):s.heap.FunFrames X.base X.outer:=by
 have all:∀ (l:List Env),(∀ b∈frs l,b∈X.fs)->X.s₀.heap.FunFrames X.base l->s.heap.FunFrames X.base l:=by
  intro l
  induction l with
  | nil=>intro _ _;trivial
  | cons env r ih =>
   intro hs hl
   obtain⟨hk,⟨L,o,hf,hn,ho,hd⟩,hr⟩:=hl
   have hL:L∈X.fs:=hs L (by unfold frs;rw[List.filterMap_cons,hf];exact List.mem_cons_self)
   obtain⟨sl,e⟩:=I.base.slot L o ho (I.ok.frf L hL) hL fun z=>I.ok.exfs L z hL
   exact⟨hk,⟨L,_,hf,hn,e,hd⟩,ih (fun b hb=>hs b (by unfold frs;rw[List.filterMap_cons,hf];exact List.mem_cons_of_mem _ hb)) hr⟩
 exact all X.outer (fun _ hb=>hb) I.ok.funs
theorem Inv.stack (I:Inv X pins σ H s):s.heap.FunFrames X.base X.stack:=by
 rcases I.ok.stk with e | ⟨e,hf⟩
 ·rw[e];exact I.funs
 ·rw[e]
  obtain⟨m,hn,_⟩:=I.loc
  refine .cons (by rw[I.ok.kind];decide) hf hn ?_ I.funs
  exact Heap.get?_none_of_le (Nat.le_trans I.ok.bsz I.ok.above)
theorem Inv.stkSub (I:Inv X pins σ H s):∀ b∈frs X.stack,b∈X.env.locals::X.fs:=fun b hb=>by
 rcases I.ok.stk with e | ⟨e,hf⟩
 ·rw[e]at hb;exact List.mem_cons_of_mem _ hb
 ·rw[e]at hb
  unfold frs at hb
  rw[List.filterMap_cons,hf]at hb
  exact hb
theorem Inv.stkFree (I:Inv X pins σ H s):∀ b∈frs X.stack,H b=none:=fun b hb=>by
 rcases List.mem_cons.mp (I.stkSub b hb) with e | hb
 ·rw[e];exact I.free
 ·obtain⟨_,o,ho,_⟩:=I.ok.funs.mem hb
  exact I.base.free b o ho (I.ok.frf b hb) fun z=>I.ok.exfs b z hb
theorem Inv.step {g':Array GenState}{t':Nat}{d':Drawn}{ch:List Addr}(I:Inv X pins σ H s)
  (hch:∀ b∈ch,(b∈X.ex\/X.s₀.heap.objs.size<=b)/\b≠X.env.locals/\(∀ x c,X.env.cells.lookup x=some c->c≠b)/\∀ p∈X.pn++pins,p.1≠b)
  (keep:∀ b o,b≠X.env.locals->b∉X.fs->b∉ch->s.heap.get? b=some o->H b=none->h'.get? b=some o)
  (slot:∀ b o,b≠X.env.locals->b∈X.fs->b∉ch->s.heap.get? b=some o->H b=none->∃ sl,h'.get? b=some { o with slots:=sl })(free:∀ b o,b∉ch->s.heap.get? b=some o->H b=none->H' b=none)
  (there:∀ b o,b∉ch->s.heap.get? b=some o->∃ o',h'.get? b=some o')
  (tups:∀ b xs,H b=some (.tup xs)->H' b=some (.tup xs))(frzs:∀ b o u,H b=some (.frz o u)->H' b=some (.frz o u))(tbls:∀ b ps,H b=some (.tbl ps)->∃ more,H' b=some (.tbl (ps++more)))
  (ns:∀ m,s.heap.Ns X.env.locals m->h'.Ns X.env.locals m)(hok:HOk X.prog X.w H' h')(hg:AllBare g') :
  Inv X pins σ H' { s with heap:=h',gens:=g',drawn:=d',toks:=t' }:=by
 have neL:∀ b o,X.s₀.heap.get? b=some o->b≠X.env.locals:=fun b o e=>Nat.ne_of_lt (Nat.lt_of_lt_of_le (Heap.lt_size e) I.ok.above)
 have neC:∀ b o,X.s₀.heap.get? b=some o->b∉X.ex->b∉ch:=fun b o e hx hb=>by
  rcases(hch b hb).1 with z | z
  ·exact hx z
  ·exact absurd (Nat.lt_of_lt_of_le (Heap.lt_size e) z) (Nat.lt_irrefl _)
 have cellK:∀ x c,X.env.cells.lookup x=some c->∀ v,s.heap.IsCell c v->h'.IsCell c v:=fun x c e v ⟨o,ho,hd⟩=>by
  have nch:c∉ch:=fun z=>(hch c z).2.2.1 x c e rfl
  by_cases hc:c∈X.fs
  ·obtain⟨sl,q⟩:=slot c o (I.cne x c e) hc nch ho (I.freeC x c e)
   exact⟨_,q,hd⟩
  ·exact⟨o,keep c o (I.cne x c e) hc nch ho (I.freeC x c e),hd⟩
 refine⟨I.ok,I.os,hg,⟨fun b o e n hb hx=>?_,fun b o e n hb hx=>?_,fun b o e n hx=>?_,fun b o e hx=>?_,fun b xs e=>tups b xs (I.base.tups b xs e),fun b o xs e=>frzs b o xs (I.base.frzs b o xs e),fun b ps e=>?_⟩,?_,fun x c e=>?_,?_,fun x c e=>?_,fun p hp=>?_,hok,I.len⟩
 ·exact keep b o (neL b o e) hb (neC b o e hx) (I.base.keep b o e n hb hx) (I.base.free b o e n hx)
 ·obtain⟨sl,e1⟩:=I.base.slot b o e n hb hx
  obtain⟨sl',e2⟩:=slot b _ (neL b o e) hb (neC b o e hx) e1 (I.base.free b o e n hx)
  exact⟨sl',e2⟩
 ·obtain⟨o',e1⟩:=I.base.there b o e hx
  exact free b o' (neC b o e hx) e1 (I.base.free b o e n hx)
 ·obtain⟨o',e1⟩:=I.base.there b o e hx
  exact there b o' (neC b o e hx) e1
 ·obtain⟨m1,e1⟩:=I.base.tbls b ps e
  obtain⟨m2,e2⟩:=tbls b _ e1
  exact⟨m1++m2,by rw[e2,Array.append_assoc]⟩
 ·obtain⟨m,hn,hl⟩:=I.loc
  refine⟨m,ns m hn,fun i x v e1 e2 e3=>?_⟩
  obtain⟨u,r,l⟩:=hl i x v e1 e2 e3
  refine⟨u,r,?_⟩
  rcases l with l | ⟨k,c,e,z⟩
  ·exact .inl l
  ·exact .inr ⟨k,c,e,cellK x c e _ z⟩
 ·obtain⟨v,z⟩:=I.cell x c e
  exact⟨v,cellK x c e v z⟩
 ·obtain⟨m,⟨o,_,_,ho,_⟩,_⟩:=I.loc
  exact free _ o (fun z=>(hch _ z).2.1 rfl) ho I.free
 ·obtain⟨v,o,ho,hd⟩:=I.cell x c e
  exact free c o (fun z=>(hch c z).2.2.1 x c e rfl) ho (I.freeC x c e)
 ·obtain⟨e,n,ne,nf,d⟩:=I.pin p hp
  have nch:p.1∉ch:=fun z=>(hch p.1 z).2.2.2 p hp rfl
  exact⟨keep p.1 p.2 ne nf nch e n,free p.1 p.2 nch e n,ne,nf,d⟩
theorem Inv.un {t':Nat}(I:Inv X pins σ H s)(u:Un X.fs [] H H' s.heap h')(hok:HOk X.prog X.w H' h'):Inv X pins σ H' { s with heap:=h',toks:=t' }:=by
 obtain⟨m,⟨o,es,ep,ho,r⟩,_⟩:=id I.loc
 obtain⟨sl,hL⟩:=u.any ho I.free (by simp)
 exact I.step (g':=s.gens) (d':=s.drawn) (ch:=[]) (fun _ z=>nomatch z) (fun b o _ hb _ e n=>u.keep b o e n hb (by simp)) (fun b o _ hb _ e n=>u.slot b o e n hb (by simp)) (fun b o _ e n=>u.free b o e n (by simp)) (fun b o _ e=>u.there b o e (by simp)) u.tups u.frzs u.tbls (fun m' hm=>by
  obtain⟨o',es',ep',ho',r'⟩:=hm
  rw[ho]at ho';cases ho'
  exact⟨_,es',ep',hL,r'⟩) hok I.bare
theorem Inv.call {g':Array GenState}{t':Nat}{d':Drawn}{ch:List Addr}(I:Inv X pins σ H s)(u:Un (frs X.stack) ch H H' s.heap h')(hok:HOk X.prog X.w H' h')(hg:AllBare g')
  (hch:∀ b∈ch,(b∈X.ex\/X.s₀.heap.objs.size<=b)/\b≠X.env.locals/\(∀ x c,X.env.cells.lookup x=some c->c≠b)/\∀ p∈X.pn++pins,p.1≠b) :
  Inv X pins σ H' { s with heap:=h',gens:=g',drawn:=d',toks:=t' }:=by
 obtain⟨m,⟨o,es,ep,ho,r⟩,_⟩:=id I.loc
 obtain⟨sl,hL⟩:=u.any ho I.free fun z=>(hch _ z).2.1 rfl
 exact I.step (ch:=ch) hch (fun b o hL hb hc e n=>u.keep b o e n (fun z=>(List.mem_cons.mp (I.stkSub b z)).elim hL hb) hc) (fun b o _ _ hc e n=>u.any e n hc) (fun b o hc e n=>u.free b o e n hc) (fun b o hc e=>u.there b o e hc) u.tups u.frzs u.tbls (fun m' hm=>by
  obtain⟨o',es',ep',ho',r'⟩:=hm
  rw[ho]at ho';cases ho'
  exact⟨_,es',ep',hL,r'⟩) hok hg
theorem Inv.turned {t':Nat}{it:Addr}(I:Inv X pins σ H s)(k:∀ b o,b≠it->s.heap.get? b=some o->h'.get? b=some o)(hn:H it=none)(hL:it≠X.env.locals)
  (h1:it∈X.ex\/X.s₀.heap.objs.size<=it)(h2:∀ x c,X.env.cells.lookup x=some c->c≠it)(h3:∀ p∈X.pn++pins,p.1≠it):Inv X pins σ H { s with heap:=h',toks:=t' }:=by
 have nit:∀ b u,H b=some u->b≠it:=fun b u e z=>by rw[z,hn]at e;cases e
 refine I.step (g':=s.gens) (d':=s.drawn) (ch:=[it]) (fun b hb=>?_) (fun b o _ _ hc e _=>k b o (fun z=>hc (by simp[z])) e) (fun b o _ _ hc e _=>⟨o.slots,k b o (fun z=>hc (by simp[z])) e⟩) (fun _ _ _ _ n=>n)
  (fun b o hc e=>⟨o,k b o (fun z=>hc (by simp[z])) e⟩) (fun _ _ e=>e) (fun _ _ _ e=>e) (fun b ps e=>⟨#[],by rw[e];simp⟩) (fun m hm=>?_) (fun b u e=>?_) I.bare
 ·have e:b=it:=by simpa using hb
  subst e
  exact⟨h1,hL,h2,h3⟩
 ·obtain⟨o,es,ep,ho,r⟩:=hm
  exact⟨o,es,ep,k _ o (Ne.symm hL) ho,r⟩
 ·refine(I.hok b u e).stay (fun c v hc q=>k c v ?_ q) (fun _ q=>q) fun _ _ q=>q
  rcases hc with z | z
  ·rw[z];exact nit b u e
  ·exact nit c _ z
theorem Inv.tok (I:Inv X pins σ H s)(t:Nat):Inv X pins σ H { s with toks:=t }:=I.un (h':=s.heap) (t':=t) Un.refl I.hok
theorem Inv.kept {t':Nat}(I:Inv X pins σ H s)(k:∀ b u,s.heap.get? b=some u->h'.get? b=some u):Inv X pins σ H { s with heap:=h',toks:=t' }:=I.un (Un.kept k) (I.hok.kept k)
theorem Inv.laid {a:Addr}{o:HO}{t':Nat}(I:Inv X pins σ H s)(k:∀ b u,s.heap.get? b=some u->h'.get? b=some u)(hp:s.heap.objs.size<=a)(new:ObjOk X.prog X.w (upd H a o) h' a o) :
  Inv X pins σ (upd H a o) { s with heap:=h',toks:=t' }:=I.un (Un.laid k hp (I.hok.fresh hp)) (I.hok.laid k hp new)
theorem Inv.write {x e:Addr}{o:HO}{t':Nat}(I:Inv X pins σ H s)(mu:Mut (H x))(he:e=x\/H e=some (.own x))(k:∀ b u,b≠e->s.heap.get? b=some u->h'.get? b=some u)(heo:∃ u,h'.get? e=some u)
  (new:ObjOk X.prog X.w (upd H x o) h' x o):Inv X pins σ (upd H x o) { s with heap:=h',toks:=t' }:=I.un (Un.write mu he k heo) (I.hok.write mu he k heo new)
theorem Inv.pins_of {pins':List (Addr × Obj)}(I:Inv X pins σ H s)(h:∀ p∈pins',s.heap.get? p.1=some p.2/\H p.1=none/\p.1≠X.env.locals/\p.1∉X.fs/\∀ v,p.2.data≠.cell v):Inv X pins' σ H s:=
 ⟨I.ok,I.os,I.bare,I.base,I.loc,I.cell,I.free,I.freeC,fun p hp=>(List.mem_append.mp hp).elim (fun z=>I.pin p (List.mem_append_left _ z)) (h p),I.hok,I.len⟩
theorem nodup_ix {N:List Str}(hN:N.Nodup){i j:Nat}{x:Str}(a:N[i]?=some x)(b:N[j]?=some x):i=j:=by
 obtain⟨h1,e1⟩:=List.getElem?_eq_some_iff.mp a
 obtain⟨h2,e2⟩:=List.getElem?_eq_some_iff.mp b
 exact(List.getElem_inj hN).mp (e1.trans e2.symm)
theorem store_ok2 {M:Model}{A:Around}{E:Value->Shared->Prop}{i:Nat}{x:Str}{v:V}{u:Value}{Q:Unit->Shared->Prop}(I:Inv X pins σ H s)(hN:X.N.Nodup)(hi:X.N[i]?=some x)(hx:Loc X.env.scope x)(r:RelV v u)
  (h:∀ s',Inv X pins (σ.set i (some v)) H s'->(∃ a,Heap.SameBut a s.heap s'.heap/\(a=X.env.locals\/X.env.cells.lookup x=some a))->Q () s')(hf:X.fn x=true\/X.env.scope.names.lookup x=some .local:=by first | exact .inl rfl | exact .inr rfl | assumption):wpAny M A (storeName X.env x u) Q E s:=by
 obtain⟨m,hn,hl⟩:=id I.loc
 have hcls:(X.env.scope.kind == .class || (X.env.scope.kind == .module && X.env.locals != X.env.globals))=false:=by rw[I.ok.kind];rfl
 have hiσ:i<σ.length:=by rw[I.len];exact(List.getElem?_eq_some_iff.mp hi).1
 have cne:=I.cne
 have tracked:∀ {a:Addr} {h':Heap},(∃ o,s.heap.get? a=some o/\H a=none)->Heap.SameBut a s.heap h'->HOk X.prog X.w H h':=fun {a h'} ha hs b ob e=>by
  obtain⟨_,_,hfree⟩:=ha
  refine(I.hok b ob e).stay (fun c w' hc q=>(hs.2 c ?_).trans q) (fun _ q=>q) fun _ _ q=>q
  rintro rfl
  rcases hc with rfl | hc
  ·rw[hfree]at e;cases e
  ·rw[hfree]at hc;cases hc
 rcases hx with hk | hk
 ·refine wpAny_storeName_local hk hn (fun h' hn' hs=>?_) hcls
  obtain⟨oL,_,_,hoL,_⟩:=id hn
  refine h _ ⟨I.ok,I.os,I.bare,⟨fun b o e n hb hx=>?_,fun b o e n hb hx=>?_,I.base.free,fun b o e hx=>?_,I.base.tups,I.base.frzs,I.base.tbls⟩,⟨_,hn',fun j y v' e1 e2 e3=>?_⟩,fun y c e=>?_,I.free,I.freeC,fun p hp=>?_,tracked ⟨oL,hoL,I.free⟩ hs,by simpa using I.len⟩ ⟨_,hs,.inl rfl⟩
  ·exact(hs.2 b (Nat.ne_of_lt (Nat.lt_of_lt_of_le (Heap.lt_size e) I.ok.above))).trans (I.base.keep b o e n hb hx)
  ·obtain⟨sl,e1⟩:=I.base.slot b o e n hb hx
   exact⟨sl,(hs.2 b (Nat.ne_of_lt (Nat.lt_of_lt_of_le (Heap.lt_size e) I.ok.above))).trans e1⟩
  ·obtain⟨o',e1⟩:=I.base.there b o e hx
   exact⟨o',(hs.2 b (Nat.ne_of_lt (Nat.lt_of_lt_of_le (Heap.lt_size e) I.ok.above))).trans e1⟩
  ·by_cases hj:j=i
   ·subst hj
    rw[hi]at e1;cases e1
    rw[List.getElem?_set_self hiσ]at e2
    cases e2
    exact⟨u,r,.inl ⟨hk,by simp⟩⟩
   ·rw[List.getElem?_set_ne (Ne.symm hj)]at e2
    obtain⟨u',r',q⟩:=hl j y v' e1 e2 e3
    refine⟨u',r',?_⟩
    rcases q with⟨k,e⟩ | ⟨k,c,e,z⟩
    ·refine .inl ⟨k,?_⟩
     have:y≠x:=fun e=>hj (nodup_ix hN e1 (e ▸ hi))
     simp[this,e]
    ·exact .inr ⟨k,c,e,z.sameBut hs (cne y c e)⟩
  ·obtain⟨w',z⟩:=I.cell y c e
   exact⟨w',z.sameBut hs (cne y c e)⟩
  ·obtain⟨e,n,ne,nf,d⟩:=I.pin p hp
   exact⟨(hs.2 p.1 ne).trans e,n,ne,nf,d⟩
 ·have hfn:X.fn x=true:=by
   rcases hf with z | z
   ·exact z
   ·rw[z]at hk;cases hk
  obtain⟨c,hc⟩:=I.ok.has x (.inl hk)
  obtain⟨w',z⟩:=I.cell x c hc
  refine wpAny_storeName_cell I.ok.kind hk hc z (fun h' hc' hs=>?_)
  obtain⟨oc,hoc,hocd⟩:=id z
  refine h { s with heap:=h' } ⟨I.ok,I.os,I.bare,⟨fun b o e n hb hx=>?_,fun b o e n hb hx=>?_,I.base.free,fun b o e hx=>?_,I.base.tups,I.base.frzs,I.base.tbls⟩,⟨m,hn.sameBut hs (Ne.symm (cne x c hc)),fun j y v' e1 e2 e3=>?_⟩,fun y c' e=>?_,I.free,I.freeC,fun p hp=>?_,tracked ⟨oc,hoc,I.freeC x c hc⟩ hs,by simpa using I.len⟩ ⟨c,hs,.inr hc⟩
  ·exact(hs.2 b (Nat.ne_of_lt (Nat.lt_of_lt_of_le (Heap.lt_size e) (I.ok.cab x c hfn hc)))).trans (I.base.keep b o e n hb hx)
  ·obtain⟨sl,e1⟩:=I.base.slot b o e n hb hx
   exact⟨sl,(hs.2 b (Nat.ne_of_lt (Nat.lt_of_lt_of_le (Heap.lt_size e) (I.ok.cab x c hfn hc)))).trans e1⟩
  ·obtain⟨o',e1⟩:=I.base.there b o e hx
   exact⟨o',(hs.2 b (Nat.ne_of_lt (Nat.lt_of_lt_of_le (Heap.lt_size e) (I.ok.cab x c hfn hc)))).trans e1⟩
  ·by_cases hj:j=i
   ·subst hj
    rw[hi]at e1;cases e1
    rw[List.getElem?_set_self hiσ]at e2
    cases e2
    exact⟨u,r,.inr ⟨.inl hk,c,hc,hc'⟩⟩
   ·rw[List.getElem?_set_ne (Ne.symm hj)]at e2
    obtain⟨u',r',q⟩:=hl j y v' e1 e2 e3
    refine⟨u',r',?_⟩
    rcases q with q | ⟨k,c',e,z'⟩
    ·exact .inl q
    ·refine .inr ⟨k,c',e,z'.sameBut hs ?_⟩
     rintro rfl
     exact hj (nodup_ix hN e1 (I.ok.inj _ _ _ e hc ▸ hi))
  ·by_cases hcc:c'=c
   ·subst hcc;exact⟨_,hc'⟩
   ·obtain⟨w2,z2⟩:=I.cell y c' e
    exact⟨w2,z2.sameBut hs hcc⟩
  ·obtain⟨e,n,ne,nf,d⟩:=I.pin p hp
   refine⟨(hs.2 p.1 ?_).trans e,n,ne,nf,d⟩
   intro q
   rw[q,hoc]at e
   have q':oc=p.2:=Option.some.inj e
   exact d w' (by rw[<- q'];exact hocd)
theorem store_ok {M:Model}{A:Around}{E:Value->Shared->Prop}{i:Nat}{x:Str}{v:V}{u:Value}{Q:Unit->Shared->Prop}(I:Inv X pins σ H s)(hN:X.N.Nodup)(hi:X.N[i]?=some x)(hx:Loc X.env.scope x)(r:RelV v u)
  (h:∀ s',Inv X pins (σ.set i (some v)) H s'->Q () s')(hf:X.fn x=true\/X.env.scope.names.lookup x=some .local:=by first | exact .inl rfl | exact .inr rfl | assumption):wpAny M A (storeName X.env x u) Q E s:=
 store_ok2 I hN hi hx r (fun s' I' _=>h s' I') hf
theorem Inv.call' {s':Shared}{ch:List Addr}(I:Inv X pins σ H s)(ho:s'.os=s.os)(u:Un (frs X.stack) ch H H' s.heap s'.heap)(hok:HOk X.prog X.w H' s'.heap)(hg:AllBare s'.gens)
  (hch:∀ b∈ch,(b∈X.ex\/X.s₀.heap.objs.size<=b)/\b≠X.env.locals/\(∀ x c,X.env.cells.lookup x=some c->c≠b)/\∀ p∈X.pn++pins,p.1≠b):Inv X pins σ H' s':=by
 obtain⟨h',g',d',t',o'⟩:=s'
 have e:o'=s.os:=ho
 subst e
 exact I.call (g':=g') (t':=t') (d':=d') u hok hg hch
end
abbrev XK:=Value->Option Addr->Hp->Prop
abbrev St:=List (Option V)
abbrev VK:=V->Hp->Prop
abbrev TE:=St->Hp->VK->Prop
abbrev TT:=St->Hp->(Bool->Hp->Prop)->Prop
abbrev TA:=St->Hp->(List V->Hp->Prop)->Prop
structure Ends where
 nx:St->Hp->Prop
 rt:VK
 bk:St->Hp->Prop:=fun _ _=>False
 ct:St->Hp->Prop:=fun _ _=>False
abbrev TS:=Ends->St->Hp->Prop
def EP (X:Cx)(pins:List (Addr × Obj))(σ:St)(Q:VK)(u:Value)(s':Shared):Prop:=∃ v H',Inv X pins σ H' s'/\RelV v u/\Q v H'
def TP (X:Cx)(pins:List (Addr × Obj))(σ:St)(Q:Bool->Hp->Prop)(b:Bool)(s':Shared):Prop:=∃ H',Inv X pins σ H' s'/\Q b H'
def AP (X:Cx)(pins:List (Addr × Obj))(σ:St)(Q:List V->Hp->Prop)(us:List Value)(s':Shared):Prop:=∃ vs H',Inv X pins σ H' s'/\Vals vs us/\Q vs H'
def SP (X:Cx)(pins:List (Addr × Obj))(D:Ends)(f:Flow)(s':Shared):Prop:=
 match f with
 | .next=>∃ σ' H',Inv X pins σ' H' s'/\D.nx σ' H'
 | .brk=>∃ σ' H',Inv X pins σ' H' s'/\D.bk σ' H'
 | .cont=>∃ σ' H',Inv X pins σ' H' s'/\D.ct σ' H'
 | .ret u=>∃ v σ' H',Inv X pins σ' H' s'/\RelV v u/\D.rt v H'
def PE (X:Cx)(e:Expr)(t:TE):Prop:=
 ∀ (pins:List (Addr × Obj)) (s:Shared) (σ:St) (H:Hp) (Q:VK),Inv X pins σ H s->t σ H Q->wpAny (model X.prog X.w) X.A (eval e X.env) (EP X pins σ Q) X.xe s
def PT (X:Cx)(e:Expr)(t:TT):Prop:=
 ∀ (pins:List (Addr × Obj)) (s:Shared) (σ:St) (H:Hp) (Q:Bool->Hp->Prop),Inv X pins σ H s->t σ H Q->wpAny (model X.prog X.w) X.A (isTrue e X.env (eval e X.env)) (TP X pins σ Q) X.xe s
def PW (X:Cx)(e:Expr)(t:TT):Prop:=
 ∀ (whole:Sem Value) (pins:List (Addr × Obj)) (s:Shared) (σ:St) (H:Hp) (Q:Bool->Hp->Prop),Inv X pins σ H s->t σ H Q->wpAny (model X.prog X.w) X.A (isTrue e X.env whole) (TP X pins σ Q) X.xe s
theorem PW.pt {X:Cx}{e:Expr}{t:TT}(h:PW X e t):PT X e t:=h _
def PA (X:Cx)(es:List Expr)(t:TA):Prop:=
 ∀ (pos:Pos) (pins:List (Addr × Obj)) (s:Shared) (σ:St) (H:Hp) (Q:List V->Hp->Prop),Inv X pins σ H s->t σ H Q->wpAny (model X.prog X.w) X.A (spliced (backTo pos (starEach es X.env))) (AP X pins σ Q) X.xe s
def PS (X:Cx)(st:Stmt)(t:TS):Prop:=
 ∀ (pins:List (Addr × Obj)) (s:Shared) (σ:St) (H:Hp) (D:Ends),Inv X pins σ H s->t D σ H->wpAny (model X.prog X.w) X.A (exec st X.env) (SP X pins D) X.xe s
def PSs (X:Cx)(st:List Stmt)(t:TS):Prop:=
 ∀ (pins:List (Addr × Obj)) (s:Shared) (σ:St) (H:Hp) (D:Ends),Inv X pins σ H s->t D σ H->wpAny (model X.prog X.w) X.A (execs st X.env) (SP X pins D) X.xe s
theorem thn {α:Type}{t:Sem α}{Q Q':α->Shared->Prop}{M:Model}{A:Around}{E:Value->Shared->Prop}{s:Shared}(h:wpAny M A t Q E s)(hQ:∀ a s,Q a s->Q' a s):wpAny M A t Q' E s:=wpAny_mono h hQ fun _ _ x=>x
section
variable {X:Cx}
theorem bin {a b:Expr}{ta tb:TE}(ha:PE X a ta)(hb:PE X b tb){pins:List (Addr × Obj)}{s:Shared}{σ:St}{H:Hp}{R:V->V->Hp->Prop}(I:Inv X pins σ H s)(h:ta σ H fun x H1=>tb σ H1 fun y H2=>R x y H2)
  {α:Type}{Q:α->Shared->Prop}{f:Value->Value->Sem α}
  (hf:∀ v u s2 x y H2,Inv X pins σ H2 s2->RelV x v->RelV y u->R x y H2->wpAny (model X.prog X.w) X.A (f v u) Q X.xe s2) :
  wpAny (model X.prog X.w) X.A (eval a X.env) (fun v s₁=>wpAny (model X.prog X.w) X.A (eval b X.env) (fun u s₂=>wpAny (model X.prog X.w) X.A (f v u) Q X.xe s₂) X.xe s₁) X.xe s:=by
 refine thn (ha pins s σ H _ I h) fun v s1 ⟨x,H1,I1,r1,q1⟩=>?_
 refine thn (hb pins s1 σ H1 _ I1 q1) fun u s2 ⟨y,H2,I2,r2,q2⟩=>?_
 exact hf v u s2 x y H2 I2 r1 r2 q2
def tVar (i:Nat):TE:=fun σ H Q=>∃ v,σ[i]?=some (some v)/\Q v H
def tC (v:V):TE:=fun _ H Q=>Q v H
theorem pe_var {i:Nat}{x:Str}{pos:Pos}(hN:X.N[i]?=some x)(hv:Vis X.env.scope x)(hd:(x == ("__debug__":Str))=false:=by decide)(hcd:(x == ("__classdict__":Str))=false:=by decide):PE X (.Name x pos) (tVar i):=by
 intro pins s σ H Q I h
 obtain⟨v,e,h⟩:=h
 obtain⟨m,hn,hl⟩:=I.loc
 obtain⟨u,r,l⟩:=hl i x v hN e hv
 have fin:EP X pins σ Q u s:=⟨v,H,I,r,h⟩
 rcases l with⟨hk,hm⟩ | ⟨hk,c,hc,hcell⟩
 ·exact wpAny_Name (wpAny_loadName_local I.ok.kind hk hn hm fin) hd
 ·rcases hk with hk | hk
  ·exact wpAny_Name (wpAny_loadName_cell I.ok.kind hk hc hcell fin) hd
  ·exact wpAny_Name (wpAny_loadName_free I.ok.kind hk hc hcell fin hcd) hd
theorem pe_int {i j pos}:PE X (.Constant (.int i) j pos) (tC (.int i)):=fun _ _ _ H _ I h=>wpAny_Constant_int ⟨.int i,H,I.tok _,⟨_,rfl⟩,h⟩
theorem pe_bl {b j pos}:PE X (.Constant (.bool b) j pos) (tC (.bl b)):=fun _ _ _ H _ I h=>Constant_bool ⟨.bl b,H,I,rfl,h⟩
def Gl (X:Cx)(x:Str):Prop:=X.env.kindOf x=some .globalImplicit
theorem ld_glob {E:Value->Shared->Prop}{pins:List (Addr × Obj)}{s:Shared}{σ:St}{H:Hp}{x:Str}{u:Value}{pos:Pos}{Q:Value->Shared->Prop}(I:Inv X pins σ H s)(hg:Gl X x)(hm:X.mg x=some u)(h:Q u s)
  (hd:(x == ("__debug__":Str))=false:=by decide):wpAny (model X.prog X.w) X.A (eval (.Name x pos) X.env) Q E s :=
 Calls.Name_function_global I.ok.kind hg (Calls.loadGlobal_global (by rw[I.ok.glob];exact I.mod.glob.keeps I.bk) hm h) hd
theorem ld_blt {E:Value->Shared->Prop}{pins:List (Addr × Obj)}{s:Shared}{σ:St}{H:Hp}{x:Str}{u:Value}{pos:Pos}{Q:Value->Shared->Prop}(I:Inv X pins σ H s)(hg:Gl X x)(hm:X.mg x=none)(hv:bootBuiltins x=some u)(h:Q u s)
  (hn:x≠"__name__":=by decide)(hd:(x == ("__debug__":Str))=false:=by decide):wpAny (model X.prog X.w) X.A (eval (.Name x pos) X.env) Q E s:=by
 obtain⟨mb,h1,h2⟩:=I.mod.blt
 exact Calls.Name_function_global I.ok.kind hg (Calls.loadGlobal_builtin (by rw[I.ok.glob];exact I.mod.glob.keeps I.bk) hm (by rw[I.ok.blt];exact h1.keeps I.bk) ((h2 x hn).trans hv) h) hd
theorem pe_glob {x:Str}{v:V}{u:Value}{pos:Pos}(hg:Gl X x)(hm:X.mg x=some u)(r:RelV v u)(hd:(x == ("__debug__":Str))=false:=by decide):PE X (.Name x pos) (tC v) :=
 fun _ _ _ H _ I h=>ld_glob I hg hm ⟨v,H,I,r,h⟩ hd
theorem pe_bltn {x:Str}{v:V}{u:Value}{pos:Pos}(hg:Gl X x)(hm:X.mg x=none)(hv:bootBuiltins x=some u)(r:RelV v u)(hn:x≠"__name__":=by decide)(hd:(x == ("__debug__":Str))=false:=by decide):PE X (.Name x pos) (tC v) :=
 fun _ _ _ H _ I h=>ld_blt I hg hm hv ⟨v,H,I,r,h⟩ hn hd
variable {a b:Expr} {ta tb:TE} {pos:Pos}
def PC (X:Cx)(op:CmpOp)(a b:Expr)(t:TE):Prop:=
 ∀ (pins:List (Addr × Obj)) (s:Shared) (σ:St) (H:Hp) (Q:VK),Inv X pins σ H s->t σ H Q ->
  wpAny (model X.prog X.w) X.A (eval a X.env) (fun v s₁=>wpAny (model X.prog X.w) X.A (eval b X.env) (fun u s₂=>wpAny (model X.prog X.w) X.A (compareOp op v u) (EP X pins σ Q) X.xe s₂) X.xe s₁) X.xe s
def tB (t:TE):TT:=fun σ H Q=>t σ H fun x H1=>∃ c,x=.bl c/\Q c H1
theorem pt_cmp {op:CmpOp}{t:TE}(h:PC X op a b t)(h1:behindInMarks op b=false:=by first | exact nobehind _ (by decide) (by decide) | rfl):PT X (.Compare a [op] [b] pos) (tB t):=by
 intro pins s σ H Q I hw
 refine wpAny_isTrue_Compare1 (thn (h pins s σ H _ I hw) fun v s1 h1=>thn h1 fun u s2 h2=>thn h2 fun c s3 ⟨x,H1,I1,r1,q1⟩=>?_) h1
 obtain⟨d,rfl,q⟩:=q1
 cases r1
 exact wpAny_truthy_bool ⟨H1,I1,q⟩
theorem pt_val {e:Expr}{t:TE}(h:PE X e t)(he:∀ whole,isTrue e X.env whole=(do let v <- whole;standAt e.pos;holding [v] (truthy v)):=by intro _;rfl):PT X e (tB t):=by
 intro pins s σ H Q I hw
 refine isTrue_plain (thn (h pins s σ H _ I hw) fun v s1 ⟨x,H1,I1,r1,q1⟩=>?_) (he _)
 obtain⟨d,rfl,q⟩:=q1
 cases r1
 exact wpAny_truthy_bool ⟨H1,I1,q⟩
variable {tA tB':TT} {rest:List Expr}
def tAnd (t u:TT):TT:=fun σ H Q=>t σ H fun c H1=>if c=true then u σ H1 Q else Q false H1
def tOr (t u:TT):TT:=fun σ H Q=>t σ H fun c H1=>if c=true then Q true H1 else u σ H1 Q
def tNot (t:TT):TT:=fun σ H Q=>t σ H fun c H1=>Q (!c) H1
theorem pw_and1 (ha:PT X a tA):PW X (.BoolOp .And [a] pos) tA:=by
 intro wh pins s σ H Q I h
 refine isTrue_and (thn (ha pins s σ H Q I h) fun c s1 e=>?_)
 cases c with
 | true=>exact isTrue_and_nil e
 | false=>exact e
theorem pw_or1 (ha:PT X a tA):PW X (.BoolOp .Or [a] pos) tA:=by
 intro wh pins s σ H Q I h
 refine isTrue_or (thn (ha pins s σ H Q I h) fun c s1 e=>?_)
 cases c with
 | false=>exact isTrue_or_nil e
 | true=>exact e
theorem pw_and (ha:PT X a tA)(hb:PW X (.BoolOp .And (b::rest) pos) tB'):PW X (.BoolOp .And (a::b::rest) pos) (tAnd tA tB'):=by
 intro wh pins s σ H Q I h
 refine isTrue_and (thn (ha pins s σ H _ I h) fun c s1 ⟨H1,I1,q1⟩=>?_)
 cases c with
 | true=>exact hb wh pins s1 σ H1 Q I1 q1
 | false=>exact⟨H1,I1,q1⟩
theorem pw_or (ha:PT X a tA)(hb:PW X (.BoolOp .Or (b::rest) pos) tB'):PW X (.BoolOp .Or (a::b::rest) pos) (tOr tA tB'):=by
 intro wh pins s σ H Q I h
 refine isTrue_or (thn (ha pins s σ H _ I h) fun c s1 ⟨H1,I1,q1⟩=>?_)
 cases c with
 | true=>exact⟨H1,I1,q1⟩
 | false=>exact hb wh pins s1 σ H1 Q I1 q1
theorem pt_not (ha:PT X a tA):PT X (.UnaryOp .Not a pos) (tNot tA):=by
 intro pins s σ H Q I h
 exact isTrue_not (ha pins s σ H (fun c H1=>Q (!c) H1) I h)
def tAndV (ta tb:TE):TE:=fun σ H Q=>ta σ H fun x H1=>∃ c,x=.bl c/\if c=true then tb σ H1 Q else Q (.bl false) H1
def tNotV (ta:TE):TE:=fun σ H Q=>ta σ H fun x H1=>∃ c,x=.bl c/\Q (.bl (!c)) H1
theorem pe_one {op}{t:TE}(h:PE X a t):PE X (.BoolOp op [a] pos) t:=fun pins s σ H Q I hw=>BoolOp_one (h pins s σ H Q I hw)
theorem pe_and (ha:PE X a ta)(hb:PE X (.BoolOp .And (b::rest) pos) tb):PE X (.BoolOp .And (a::b::rest) pos) (tAndV ta tb):=by
 intro pins s σ H Q I h
 refine BoolOp_and (thn (ha pins s σ H _ I h) fun v s1 ⟨x,H1,I1,r1,q1⟩=>?_)
 obtain⟨c,rfl,q1⟩:=q1
 cases r1
 refine wpAny_truthy_bool ?_
 cases c with
 | true=>exact hb pins s1 σ H1 Q I1 q1
 | false=>exact⟨.bl false,H1,I1,rfl,q1⟩
theorem pe_not (ha:PE X a ta):PE X (.UnaryOp .Not a pos) (tNotV ta):=by
 intro pins s σ H Q I h
 refine UnaryOp_ (thn (ha pins s σ H _ I h) fun v s1 ⟨x,H1,I1,r1,q1⟩=>?_)
 obtain⟨c,rfl,q1⟩:=q1
 cases r1
 exact not_of (wpAny_truthy_bool ⟨.bl (!c),H1,I1,rfl,q1⟩)
def tIf (t:TT)(ta tb:TE):TE:=fun σ H Q=>t σ H fun c H1=>if c=true then ta σ H1 Q else tb σ H1 Q
theorem pe_ifExp {c:Expr}(hc:PT X c tA)(ha:PE X a ta)(hb:PE X b tb):PE X (.IfExp c a b pos) (tIf tA ta tb):=by
 intro pins s σ H Q I h
 refine wpAny_IfExp (thn (hc pins s σ H _ I h) fun d s1 ⟨H1,I1,q1⟩=>?_)
 cases d with
 | true=>exact ha pins s1 σ H1 Q I1 q1
 | false=>exact hb pins s1 σ H1 Q I1 q1
end
def SqL (K:W.Frag)(H:Hp)(a:Addr)(xs:List V):Prop:=
 Rd H a (.lst xs) \/
  ∃ (o:Obj) (its:Array Value) (n:Nat),K.lookup a=some o/\o.cls=.type "list"/\o.dict=none/\o.data=.seq its n/\its.size<=sizeLine/\Vals xs its.toList
def SqT (K:W.Frag)(H:Hp)(a:Addr)(xs:List V):Prop:=
 Rd H a (.tup xs) \/
  ∃ (o:Obj) (its:Array Value) (n:Nat),K.lookup a=some o/\o.cls=.type "tuple"/\o.data=.seq its n/\its.size<=sizeLine/\Vals xs its.toList
def absV:Value->Option V
 | .none=>some .non
 | .bool b=>some (.bl b)
 | .int i _=>some (.int i)
 | .str x _=>some (.str x)
 | .bytes b _=>some (.byt b)
 | .float b _=>some (.flt b)
 | .ref a=>some (.ref a)
 | .type n=>some (.ty n)
 | _=>none
theorem RelV.abs {x:V}{u:Value}(r:RelV x u):absV u=some x:=by
 cases x with
 | non=>cases r;rfl
 | bl _=>cases r;rfl
 | int _=>obtain⟨t,rfl⟩:=r;rfl
 | str _=>obtain⟨t,rfl⟩:=r;rfl
 | byt _=>obtain⟨t,rfl⟩:=r;rfl
 | flt _=>obtain⟨t,rfl⟩:=r;rfl
 | ref _=>cases r;rfl
 | ty _=>cases r;rfl
theorem RelV.inj {x y:V}{u:Value}(r:RelV x u)(q:RelV y u):x=y:=Option.some.inj (r.abs.symm.trans q.abs)
theorem Vals.inj:∀ {xs ys:List V} {us:List Value},Vals xs us->Vals ys us->xs=ys
 | _,_,_,.nil,.nil=>rfl
 | _,_,_,.cons r t,.cons r' t'=>by rw[r.inj r',Vals.inj t t']
section
variable {X:Cx} {pins:List (Addr × Obj)} {σ:St} {H:Hp} {s:Shared} {a:Addr} {xs ys:List V}
theorem SqL.of {K:W.Frag}(h:H a=some (.lst xs)):SqL K H a xs:=.inl (.inl h)
theorem SqT.of {K:W.Frag}(h:H a=some (.tup xs)):SqT K H a xs:=.inl (.inl h)
theorem Inv.list (I:Inv X pins σ H s)(h:SqL X.K H a xs):∃ its:List Value,Vals xs its/\PlainL s.heap a its.toArray/\xs.length<=sizeLine:=by
 rcases h with h | ⟨o,its,n,hk,hc,hd,hs,hz,r⟩
 ·obtain⟨z,its,n,r,e⟩:=h.ok I.hok
  exact⟨its,r,⟨_,n,e,rfl,rfl,rfl⟩,z⟩
 ·refine⟨its.toList,r,⟨o,n,I.kIn a o hk,hc,hd,by simpa using hs⟩,?_⟩
  have e:=r.length
  simp only[Array.length_toList]at e
  omega
theorem Inv.tuple (I:Inv X pins σ H s)(h:SqT X.K H a xs):∃ its:List Value,Vals xs its/\IsTup s.heap a its.toArray/\xs.length<=sizeLine:=by
 rcases h with h | ⟨o,its,n,hk,hc,hs,hz,r⟩
 ·obtain⟨z,its,r,p⟩:=h.ok I.hok
  exact⟨its,r,p,z⟩
 ·refine⟨its.toList,r,⟨o,I.kIn a o hk,hc,n,by simpa using hs⟩,?_⟩
  have e:=r.length
  simp only[Array.length_toList]at e
  omega
theorem Inv.list_inj (I:Inv X pins σ H s)(h:SqL X.K H a xs)(h':SqL X.K H a ys):xs=ys:=by
 obtain⟨its,r,⟨o,n,e,_,_,d⟩,_⟩:=I.list h
 obtain⟨its',r',⟨o',n',e',_,_,d'⟩,_⟩:=I.list h'
 rw[e]at e';cases e'
 rw[d]at d'
 injection d' with d1 _
 have:its=its':=by simpa using congrArg Array.toList d1
 subst this
 exact r.inj r'
theorem Inv.tuple_inj (I:Inv X pins σ H s)(h:SqT X.K H a xs)(h':SqT X.K H a ys):xs=ys:=by
 obtain⟨its,r,⟨o,e,_,n,d⟩,_⟩:=I.tuple h
 obtain⟨its',r',⟨o',e',_,n',d'⟩,_⟩:=I.tuple h'
 rw[e]at e';cases e'
 rw[d]at d'
 injection d' with d1 _
 have:its=its':=by simpa using congrArg Array.toList d1
 subst this
 exact r.inj r'
end
abbrev Cx.wish (X:Cx)(E:Value->Shared->Prop):Cx:={ X with xe:=E }
abbrev Cx.nox (X:Cx):Cx:=X.wish fun _ _=>False
theorem Cx.Ok.wish {X:Cx}(ok:X.Ok)(E:Value->Shared->Prop):(X.wish E).Ok:=
 ⟨ok.mod,ok.kind,ok.glob,ok.blt,ok.above,ok.inj,ok.has,ok.cab,ok.hd,ok.frames,ok.stk,ok.exf,ok.bs,ok.bsz,ok.noex,ok.exfs,ok.funs,ok.frf⟩
theorem Cx.Ok.unwish {X:Cx}{E:Value->Shared->Prop}(ok:(X.wish E).Ok):X.Ok:=
 ⟨ok.mod,ok.kind,ok.glob,ok.blt,ok.above,ok.inj,ok.has,ok.cab,ok.hd,ok.frames,ok.stk,ok.exf,ok.bs,ok.bsz,ok.noex,ok.exfs,ok.funs,ok.frf⟩
section
variable {X:Cx} {pins:List (Addr × Obj)} {σ:St} {H:Hp} {s:Shared} {E:Value->Shared->Prop}
theorem Inv.wish (I:Inv X pins σ H s)(E:Value->Shared->Prop):Inv (X.wish E) pins σ H s:=⟨I.ok.wish E,I.os,I.bare,I.base,I.loc,I.cell,I.free,I.freeC,I.pin,I.hok,I.len⟩
theorem Inv.unwish (I:Inv (X.wish E) pins σ H s):Inv X pins σ H s:=⟨I.ok.unwish,I.os,I.bare,I.base,I.loc,I.cell,I.free,I.freeC,I.pin,I.hok,I.len⟩
theorem SP.unwish {D:Ends}{f:Flow}{s':Shared}(h:SP (X.wish E) pins D f s'):SP X pins D f s':=by
 cases f with
 | next=>obtain⟨σ',H',I,q⟩:=h;exact⟨σ',H',I.unwish,q⟩
 | brk=>obtain⟨σ',H',I,q⟩:=h;exact⟨σ',H',I.unwish,q⟩
 | cont=>obtain⟨σ',H',I,q⟩:=h;exact⟨σ',H',I.unwish,q⟩
 | ret u=>obtain⟨v,σ',H',I,r,q⟩:=h;exact⟨v,σ',H',I.unwish,r,q⟩
theorem PSs.nox {st:List Stmt}{t:TS}(h:PSs X.nox st t):PSs X st t:=fun pins s σ H D I hw =>
 wpAny_mono (h pins s σ H D (I.wish _) hw) (fun _ _ q=>q.unwish) fun _ _ z=>False.elim z
end
section
variable {X:Cx} {st:Stmt} {rest:List Stmt} {t u:TS} {e:Expr} {te:TE} {pos:Pos}
def tNext:TS:=fun D σ H=>D.nx σ H
def tSeq (t u:TS):TS:=fun D σ H=>t { D with nx:=u D } σ H
theorem pss_nil:PSs X [] tNext:=fun _ _ σ H _ I h=>wpAny_execs_nil ⟨σ,H,I,h⟩
theorem pss_cons (h1:PS X st t)(h2:PSs X rest u):PSs X (st::rest) (tSeq t u):=by
 intro pins s σ H D I h
 refine wpAny_execs_cons (thn (h1 pins s σ H { D with nx:=u D } I h) fun f s1 q=>?_)
 cases f with
 | next =>
  obtain⟨σ',H',I',q⟩:=q
  exact h2 pins s1 σ' H' D I' q
 | ret v=>exact q
 | brk=>exact q
 | cont=>exact q
theorem pss_one (h1:PS X st t):PSs X [st] t:=by
 intro pins s σ H D I h
 refine wpAny_execs_cons (thn (h1 pins s σ H D I h) fun f s1 q=>?_)
 cases f with
 | next=>exact wpAny_execs_nil q
 | ret v=>exact q
 | brk=>exact q
 | cont=>exact q
theorem Inv.quiet {pins:List (Addr × Obj)}{σ:St}{H:Hp}{s:Shared}(I:Inv X pins σ H s):interactive X.env=false:=by simp[interactive,I.ok.kind]
def tDrop (te:TE):TS:=fun D σ H=>te σ H fun _ H1=>D.nx σ H1
theorem ps_expr (he:PE X e te)(hs:swapsWith e none pos.line X.env=pure false:=by rfl):PS X (.Expr e pos) (tDrop te):=by
 intro pins s σ H D I h
 exact wpAny_Expr_any (thn (he pins s σ H _ I h) fun v s1 ⟨x,H1,I1,r1,q1⟩=>⟨σ,H1,I1,q1⟩) I.quiet hs
def tRet (te:TE):TS:=fun D σ H=>te σ H D.rt
theorem ps_ret (he:PE X e te):PS X (.Return (some e) pos) (tRet te):=by
 intro pins s σ H D I h
 exact wpAny_Return_some (thn (he pins s σ H _ I h) fun v s1 ⟨x,H1,I1,r1,q1⟩=>⟨x,σ,H1,I1,r1,q1⟩)
def tIfS (c:TT)(t u:TS):TS:=fun D σ H=>c σ H fun b H1=>if b=true then t D σ H1 else u D σ H1
theorem ps_if {c:Expr}{a b:List Stmt}{tc:TT}(hc:PT X c tc)(ha:PSs X a t)(hb:PSs X b u):PS X (.If c a b pos) (tIfS tc t u):=by
 intro pins s σ H D I h
 refine wpAny_If (thn (hc pins s σ H _ I h) fun d s1 ⟨H1,I1,q1⟩=>?_)
 cases d with
 | true=>exact ha pins s1 σ H1 D I1 q1
 | false=>exact hb pins s1 σ H1 D I1 q1
def tNever:TS:=fun _ _ _=>False
theorem pss_never {sts:List Stmt}:PSs X sts tNever:=fun _ _ _ _ _ _ h=>h.elim
end
abbrev TG:=V->St->Hp->(St->Hp->Prop)->Prop
abbrev TGs:=List V->St->Hp->(St->Hp->Prop)->Prop
def PG (X:Cx)(target:Expr)(t:TG):Prop:=
 ∀ (pins:List (Addr × Obj)) (s:Shared) (σ:St) (H:Hp) (v:V) (u:Value) (Q:St->Hp->Prop),Inv X pins σ H s->RelV v u->t v σ H Q ->
  wpAny (model X.prog X.w) X.A (assign target X.env u) (fun _ s'=>∃ σ' H',Inv X pins σ' H' s'/\Q σ' H') X.xe s
def PGs (X:Cx)(ts:List Expr)(t:TGs):Prop:=
 ∀ (pins:List (Addr × Obj)) (s:Shared) (σ:St) (H:Hp) (vs:List V) (us:List Value) (Q:St->Hp->Prop),Inv X pins σ H s->Vals vs us->t vs σ H Q ->
  wpAny (model X.prog X.w) X.A (assignInOrder ((assignEach ts X.env).map (·.2)) us) (fun _ s'=>∃ σ' H',Inv X pins σ' H' s'/\Q σ' H') X.xe s
abbrev TSet:=V->V->V->Hp->(Hp->Prop)->Prop
def PSet (X:Cx)(t:TSet):Prop:=
 ∀ (pins:List (Addr × Obj)) (s:Shared) (σ:St) (H:Hp) (o i v:V) (ov iv u:Value) (Q:Hp->Prop),Inv X pins σ H s->RelV o ov->RelV i iv->RelV v u->t o i v H Q ->
  wpAny (model X.prog X.w) X.A (setItem ov iv u) (fun _ s'=>∃ H',Inv X pins σ H' s'/\Q H') X.xe s
abbrev TIp:=V->V->Hp->VK->Prop
def PIp (X:Cx)(op:Operator)(t:TIp):Prop:=
 ∀ (pins:List (Addr × Obj)) (s:Shared) (σ:St) (H:Hp) (x y:V) (v u:Value) (Q:VK),Inv X pins σ H s->RelV x v->RelV y u->t x y H Q ->
  wpAny (model X.prog X.w) X.A (inplaceOp op v u) (EP X pins σ Q) X.xe s
section
variable {X:Cx} {pos:Pos}
def gName (i:Nat):TG:=fun v σ H Q=>Q (σ.set i (some v)) H
theorem pg_name {i:Nat}{x:Str}(hN:X.N.Nodup)(hi:X.N[i]?=some x)(hx:Loc X.env.scope x)(hf:X.fn x=true\/X.env.scope.names.lookup x=some .local:=by first | exact .inl rfl | exact .inr rfl | assumption):PG X (.Name x pos) (gName i):=by
 intro pins s σ H v u Q I r h
 exact wpAny_assign_Name (store_ok I hN hi hx r (fun s' I'=>⟨_,H,I',h⟩) hf)
def gNil:TGs:=fun vs σ H Q=>vs=[]/\Q σ H
def gCons (t:TG)(u:TGs):TGs:=fun vs σ H Q=>∃ v r,vs=v::r/\t v σ H fun σ' H'=>u r σ' H' Q
theorem pgs_nil:PGs X [] gNil:=by
 intro pins s σ H vs us Q I r h
 obtain⟨e,h⟩:=h
 subst e
 cases r
 exact assignInOrder_nil ⟨σ,H,I,h⟩
theorem pgs_cons {e:Expr}{es:List Expr}{t:TG}{u:TGs}(h1:PG X e t)(h2:PGs X es u)
  (hs:(assignEach (e::es) X.env).map (·.2)=assign e X.env::(assignEach es X.env).map (·.2):=by rfl):PGs X (e::es) (gCons t u):=by
 intro pins s σ H vs us Q I r h
 obtain⟨v,vr,e1,h⟩:=h
 subst e1
 cases r with
 | cons r rr =>
  rw[hs]
  refine assignInOrder_cons (thn (h1 pins s σ H _ _ _ I r h) fun _ s1 ⟨σ1,H1,I1,q1⟩=>?_)
  exact h2 pins s1 σ1 H1 _ _ Q I1 rr q1
def gTup (K:W.Frag)(n:Nat)(t:TGs):TG:=fun v σ H Q=>∃ a xs,v=.ref a/\SqT K H a xs/\xs.length=n/\t xs σ H Q
theorem pg_tup {es:List Expr}{k:Nat}{t:TGs}{n:Nat}(hc:X.calm=true)(h:PGs X es t)
  (hn:(assignEach es X.env).length=n:=by rfl)(hst:(assignEach es X.env).findIdx? (·.1)=none:=by rfl):PG X (.Tuple es k pos) (gTup X.K n t):=by
 intro pins s σ H v u Q I r hw
 obtain⟨a,xs,e1,hq,hl,hw⟩:=hw
 subst e1
 cases r
 obtain⟨its,rv,ht,hz⟩:=I.tuple hq
 refine assign_Tuple_tuple (I.ok.hd hc) ht (by simp[hn,<- hl,rv.length]) hst fun h' hx=>?_
 have I1:Inv X pins σ H { s with heap:=h' }:=I.kept (t':=s.toks) fun b o e=>hx b o (Nat.ne_of_lt (Heap.lt_size e)) e
 exact h pins _ σ H xs _ Q I1 (by simpa using rv) hw
def gSub (to ti:TE)(t:TSet):TG:=fun v σ H Q=>to σ H fun o H1=>ti σ H1 fun i H2=>t o i v H2 fun H3=>Q σ H3
theorem pg_sub {o i:Expr} {to ti:TE} {t:TSet} (ho:PE X o to) (hi:PE X i ti) (hs:PSet X t)
  (ha : ∀ v, assign (.Subscript o i pos) X.env v = (do
   let ov <- holding [v] (eval o X.env)
   let iv <- holding [v,ov] (eval i X.env)
   standAt pos
   holding [v,ov,iv] (setItem ov iv v)
   release [v,ov,iv] []):=by intro _;rfl):PG X (.Subscript o i pos) (gSub to ti t):=by
 intro pins s σ H v u Q I r h
 rw[ha]
 refine wpAny_bind (wpAny_holding (thn (ho pins s σ H _ I h) fun ov s1 ⟨x,H1,I1,r1,q1⟩=>?_))
 refine wpAny_bind (wpAny_holding (thn (hi pins s1 σ H1 _ I1 q1) fun iv s2 ⟨y,H2,I2,r2,q2⟩=>?_))
 refine wpAny_bind (wpAny_standAt (wpAny_bind (wpAny_holding (thn (hs pins s2 σ H2 x y v ov iv u _ I2 r1 r2 r q2) fun _ s3 ⟨H3,I3,q3⟩=>?_))))
 exact wpAny_release ⟨σ,H3,I3,q3⟩
def tAsg (te:TE)(g:TG):TS:=fun D σ H=>te σ H fun x H1=>g x σ H1 D.nx
theorem ps_asg {tg e:Expr}{te:TE}{g:TG}(he:PE X e te)(hg:PG X tg g)(hs:swapsWithSole [tg] e pos.line X.env=pure false:=by rfl)(hw:swappedStores [tg] e X.env=pure none:=by rfl)
  (h1:(assignEach [tg] X.env).map (·.2)=[assign tg X.env]:=by rfl):PS X (.Assign [tg] e pos) (tAsg te g):=by
 intro pins s σ H D I h
 refine wpAny_Assign_stores (thn (he pins s σ H _ I h) fun v s1 ⟨x,H1,I1,r1,q1⟩=>?_) hs hw
 rw[h1]
 exact thn (hg pins s1 σ H1 x v _ I1 r1 q1) fun _ s2 q=>q
theorem ps_set {i:Nat}{x:Str}{e:Expr}{te:TE}{pos':Pos}(hN:X.N.Nodup)(hi:X.N[i]?=some x)(hx:Loc X.env.scope x)(he:PE X e te)(hs:swapsWith e (some (.Name x pos')) pos.line X.env=pure false:=by rfl)(hf:X.fn x=true\/X.env.scope.names.lookup x=some .local:=by first | exact .inl rfl | exact .inr rfl | assumption) :
  PS X (.Assign [.Name x pos'] e pos) (tAsg te (gName i)):=by
 intro pins s σ H D I h
 refine wpAny_Assign_Name (thn (he pins s σ H _ I h) fun v s1 ⟨y,H1,I1,r1,q1⟩=>?_) hs
 exact store_ok I1 hN hi hx r1 (fun s2 I2=>⟨_,H1,I2,q1⟩) hf
def tAug (i:Nat)(te:TE)(ti:TIp):TS:=fun D σ H=>∃ x,σ[i]?=some (some x)/\te σ H fun y H1=>ti x y H1 fun z H2=>D.nx (σ.set i (some z)) H2
theorem ps_aug {i:Nat}{x:Str}{e:Expr}{te:TE}{op:Operator}{ti:TIp}{pos':Pos}(hN:X.N.Nodup)(hi:X.N[i]?=some x)(hx:Loc X.env.scope x)(he:PE X e te)(ho:PIp X op ti)(hf:X.fn x=true\/X.env.scope.names.lookup x=some .local:=by first | exact .inl rfl | exact .inr rfl | assumption) :
  PS X (.AugAssign (.Name x pos') op e pos) (tAug i te ti):=by
 intro pins s σ H D I h
 obtain⟨v,e1,h⟩:=h
 obtain⟨m,hn,hl⟩:=I.loc
 have vis:Vis X.env.scope x:=by rcases hx with k | k;exact .inl k;exact .inr (.inl k)
 obtain⟨u,r,l⟩:=hl i x v hi e1 vis
 refine wpAny_AugAssign_Name ?_
 have go:wpAny (model X.prog X.w) X.A (eval e X.env) (fun w s₂=>wpAny (model X.prog X.w) X.A (inplaceOp op u w) (fun r s₃=>wpAny (model X.prog X.w) X.A (storeName X.env x r) (fun _=>SP X pins D .next) X.xe s₃) X.xe s₂) X.xe s:=by
  refine thn (he pins s σ H _ I h) fun w s1 ⟨y,H1,I1,r1,q1⟩=>?_
  refine thn (ho pins s1 σ H1 v y u w _ I1 r r1 q1) fun z s2 ⟨zv,H2,I2,r2,q2⟩=>?_
  exact store_ok I2 hN hi hx r2 (fun s3 I3=>⟨_,H2,I3,q2⟩) hf
 rcases l with⟨hk,hm⟩ | ⟨hk,c,hc,hcell⟩
 ·exact wpAny_loadName_local I.ok.kind hk hn hm go
 ·rcases hk with hk | hk
  ·exact wpAny_loadName_cell I.ok.kind hk hc hcell go
  ·rcases hx with k | k
   ·have:X.env.scope.names.lookup x=some .free:=hk
    rw[k]at this;cases this
   ·have:X.env.scope.names.lookup x=some .free:=hk
    rw[k]at this;cases this
end
section
variable {X:Cx} {pos:Pos}
end
structure It where
 go:Nat->Hp->Prop
 yld:Nat->Hp->V->Hp->Prop
 stop:Nat->Hp->Prop
def FpOk (X:Cx)(pins:List (Addr × Obj))(H:Hp)(b:Addr):Prop:=
 H b=none/\b≠X.env.locals/\b∉X.fs/\(b∈X.ex\/X.s₀.heap.objs.size<=b)/\(∀ x c,X.env.cells.lookup x=some c->c≠b)/\∀ p∈X.pn++pins,p.1≠b
theorem Inv.fpOk {X:Cx}{pins:List (Addr × Obj)}{σ:St}{H H':Hp}{s:Shared}{b:Addr}(I:Inv X pins σ H s)(hb:s.heap.objs.size<=b)(hn:H' b=none):FpOk X pins H' b:=by
 refine⟨hn,Nat.ne_of_gt (Nat.lt_of_lt_of_le I.lt hb),I.nofs hb,.inr (Nat.le_trans I.sz hb),fun x c e z=>?_,fun p hp z=>?_⟩
 ·obtain⟨v,q⟩:=I.cell x c e
  exact absurd (Nat.lt_of_lt_of_le q.lt (by rw[z];exact hb)) (Nat.lt_irrefl _)
 ·exact absurd (Nat.lt_of_lt_of_le (Heap.lt_size (I.pin p hp).1) (by rw[z];exact hb)) (Nat.lt_irrefl _)
structure Turn (P:Program) (w:World) (K:W.Frag) (tg:Expr) (J:It) (fp:List Addr) (it:Addr) (tn:Nat->Heap->Prop):Prop where
 mem:it∈fp
 obj:∀ i h,tn i h->∀ b∈fp,∃ o,h.get? b=some o/\∀ v,o.data≠.cell v
 keep:∀ i h h',tn i h->(∀ b∈fp,∀ o,h.get? b=some o->h'.get? b=some o)->tn i h'
 item:∀ (X:Cx),X.prog=P->X.w=w->X.K=K->X.calm=true->∀ (i:Nat) (pins:List (Addr × Obj)) (s:Shared) (σ:St) (H:Hp) (E:Value->Shared->Prop),Inv X pins σ H s->(∀ b∈fp,FpOk X pins H b)->tn i s.heap->J.go i H ->
  wpAny (model P w) X.A (pyNext (.ref it)) (fun r s1=>∃ u,r=some u /\
   wpAny (model P w) X.A (letOwnedTupleGo tg (.ref it) u) (fun _ s2=>∃ x H',Inv X pins σ H' s2/\RelV x u/\J.yld i H x H'/\tn (i+1) s2.heap/\∀ b∈fp,H' b=none) E s1) E s
 done:∀ (X:Cx),X.prog=P->X.w=w->X.K=K->X.calm=true->∀ (i:Nat) (pins:List (Addr × Obj)) (s:Shared) (σ:St) (H:Hp) (E:Value->Shared->Prop),Inv X pins σ H s->(∀ b∈fp,FpOk X pins H b)->tn i s.heap->J.stop i H ->
  wpAny (model P w) X.A (pyNext (.ref it)) (fun r s1=>r=none/\Inv X pins σ H s1) E s
 self:∀ (A:Around) (i:Nat) (s:Shared) (Q:Value->Shared->Prop) (E:Value->Shared->Prop),tn i s.heap->Q (.ref it) s->wpAny (model P w) A (pyIter (.ref it)) Q E s
abbrev TI:=St->Hp->(It->Hp->Prop)->Prop
def PIE (X:Cx)(pins:List (Addr × Obj))(σ:St)(tg:Expr)(R:It->Hp->Prop)(itv:Value)(s2:Shared):Prop:=
 ∃ (it:Addr) (fp:List Addr) (tn:Nat->Heap->Prop) (J:It) (H':Hp),itv=.ref it/\Inv X pins σ H' s2/\Turn X.prog X.w X.K tg J fp it tn/\tn 0 s2.heap/\(∀ b∈fp,FpOk X pins H' b)/\R J H'
def PI (X:Cx)(tg iter:Expr)(wi:TI):Prop:=
 ∀ (pins:List (Addr × Obj)) (s:Shared) (σ:St) (H:Hp) (R:It->Hp->Prop),Inv X pins σ H s->wi σ H R ->
  wpAny (model X.prog X.w) X.A (eval iter X.env) (fun v s1=>wpAny (model X.prog X.w) X.A (pyIter v) (PIE X pins σ tg R) X.xe s1) X.xe s
theorem go_of {M:Model} {A:Around} {E:Value->Shared->Prop} {s:Shared} {tg:Expr} {it:Addr} {u:Value} {o:Obj} {n:String} {vs:Array Value} {Q:Unit->Shared->Prop} (ho:s.heap.get? it=some o) (hc:o.cls=.type n) (hd:o.data=.fields vs)
    (hn:["enumerate","zip","dict_itemiterator","dict_reverseitemiterator","odict_iterator","itertools.zip_longest","itertools.pairwise"].contains n=false) (hQ:Q () s):wpAny M A (letOwnedTupleGo tg (.ref it) u) Q E s:=by
  unfold letOwnedTupleGo
  cases tg<;>first
    | exact wpAny_pure hQ
    | (cases u<;>first
        | exact wpAny_pure hQ
        | (refine wpAny_bind (wpAny_load ho ?_)
           rw[hc,hd]
           show wpAny M A (if (["enumerate","zip","dict_itemiterator","dict_reverseitemiterator","odict_iterator","itertools.zip_longest","itertools.pairwise"].contains n && vs[0]? == some (rawInt _))=true then _ else _) Q E s
           rw[if_neg (by intro h;rw[hn,Bool.false_and]at h;cases h)]
           exact wpAny_pure hQ))
def Itl (K:W.Frag)(a:Addr):It:=
 ⟨fun i H=>∃ xs x,SqL K H a xs/\xs[i]?=some x,fun i H x H'=>H'=H/\∀ xs,SqL K H a xs->xs[i]?=some x,fun i H=>∃ xs,SqL K H a xs/\xs.length<=i⟩
def Itr (lo:Int)(n:Nat):It:=⟨fun i _=>i<n,fun i H x H'=>H'=H/\x=.int (lo+i),fun i _=>n<=i⟩
theorem turn_list {P:Program}{w:World}{K:W.Frag}{tg:Expr}(a it:Addr):Turn P w K tg (Itl K a) [it] it (fun i h=>h.IsListIter it a i) where
 mem:=by simp
 obj:=fun i h st b hb=>by
  have e:b=it:=by simpa using hb
  subst e
  obtain⟨o,e,c,d⟩:=st
  exact⟨o,e,fun v z=>by rw[d]at z;cases z⟩
 keep:=fun i h h' st k=>st.at fun o e=>k it (by simp) o e
 item:=by
  intro X hP hw hK hc i pins s σ H E I hf st hg
  subst hP hw hK
  obtain⟨xs,x,hq,hx⟩:=hg
  obtain⟨its,rv,p,hz⟩:=I.list hq
  obtain⟨u,hu,ru⟩:=rv.get hx
  obtain⟨f0,f1,f2,f3,f4,f5⟩:=hf it (by simp)
  refine wpAny_pyNext_list_item st p.isList (x:=u) (by simpa using hu) fun h' st' sb=>?_
  have I1:Inv X pins σ H { s with heap:=h' }:=I.turned (t':=s.toks) (fun b o hb e=>(sb.2 b hb).trans e) f0 f1 f3 f4 f5
  obtain⟨o,e,c,d⟩:=id st'
  exact⟨u,rfl,go_of (s:={ s with heap:=h' }) e c d (by decide) ⟨x,H,I1,ru,⟨rfl,fun ys hy=>by rw[I.list_inj hy hq];exact hx⟩,st',fun b hb=>(hf b hb).1⟩⟩
 done:=by
  intro X hP hw hK hc i pins s σ H E I hf st hg
  subst hP hw hK
  obtain⟨xs,hq,hx⟩:=hg
  obtain⟨its,rv,p,hz⟩:=I.list hq
  obtain⟨f0,f1,f2,f3,f4,f5⟩:=hf it (by simp)
  have hl:=rv.length
  exact wpAny_pyNext_list_end (I.ok.hd hc) st p.isList (by simp;omega) fun h' eb=>⟨rfl,I.turned (t':=s.toks) (fun b o hb e=>eb b o hb e) f0 f1 f3 f4 f5⟩
 self:=fun _ _ _ _ _ st h=>wpAny_pyIter_listiter st h
theorem turn_range {P:Program}{w:World}{K:W.Frag}{tg:Expr}(it:Addr)(lo:Int)(n:Nat):Turn P w K tg (Itr lo n) [it] it (fun i h=>IsRangeIter h it (lo+(i:Nat)*1) ((n:Int) - (i:Nat)) 1) where
 mem:=by simp
 obj:=fun i h st b hb=>by
  have e:b=it:=by simpa using hb
  subst e
  exact⟨_,st,fun v z=>by
   have z':Data.fields _=Data.cell v:=z
   cases z'⟩
 keep:=fun i h h' st k=>k it (by simp) _ st
 item:=by
  intro X hP hw hK hc i pins s σ H E I hf st hg
  subst hP hw hK
  obtain⟨f0,f1,f2,f3,f4,f5⟩:=hf it (by simp)
  have W:=Walks.range (prog:=X.prog) (w:=X.w) (I.ok.hd hc) it lo 1 n
  refine W.item i s _ _ hg st fun v h' tk hv st' kk=>?_
  obtain⟨t,rfl⟩:=hv
  have I1:Inv X pins σ H { s with heap:=h',toks:=tk }:=I.turned (fun b o hb e=>kk b o (by simpa using hb) e) f0 f1 f3 f4 f5
  refine⟨_,rfl,go_of (s:={ s with heap:=h',toks:=tk }) (n:="range_iterator") st' rfl rfl (by decide) ⟨.int (lo+i),H,I1,⟨t,?_⟩,⟨rfl,rfl⟩,st',fun b hb=>(hf b hb).1⟩⟩
  rw[Int.mul_one]
 done:=by
  intro X hP hw hK hc i pins s σ H E I hf st hg
  subst hP hw hK
  obtain⟨f0,f1,f2,f3,f4,f5⟩:=hf it (by simp)
  exact wpAny_pyNext_range_end (I.ok.hd hc) st (by have:n<=i:=hg;omega) fun h' eb=>⟨rfl,I.turned (t':=s.toks) (fun b o hb e=>eb b o hb e) f0 f1 f3 f4 f5⟩
 self:=fun _ _ _ _ _ st h=>wpAny_pyIter_rangeiter st h
section
variable {X:Cx} {tg:Expr}
def iList (K:W.Frag)(tl:TE):TI:=fun σ H R=>tl σ H fun x H1=>∃ a,x=.ref a/\(∃ xs,SqL K H1 a xs)/\R (Itl K a) H1
theorem pi_list {l:Expr}{tl:TE}(hl:PE X l tl):PI X tg l (iList X.K tl):=by
 intro pins s σ H R I h
 refine thn (hl pins s σ H _ I h) fun v s1 ⟨x,H1,I1,r1,q1⟩=>?_
 obtain⟨a,e,⟨xs,hq⟩,q⟩:=q1
 subst e
 cases r1
 obtain⟨its,rv,p,hz⟩:=I1.list hq
 refine wpAny_pyIter_list p.isList ?_
 refine⟨s1.heap.objs.size,[s1.heap.objs.size],_,_,H1,rfl,I1.kept (t':=s1.toks) fun b o e=>Heap.get?_push_of_some _ e,turn_list a _,⟨_,Heap.get?_push_size _ rfl,rfl,rfl⟩,fun b hb=>?_,q⟩
 have e:b=s1.heap.objs.size:=by simpa using hb
 subst e
 exact I1.fpOk (Nat.le_refl _) (I1.hok.fresh (Nat.le_refl _))
theorem range_it {pins:List (Addr × Obj)}{σ:St}{H:Hp}{s:Shared}{R:It->Hp->Prop}{E:Value->Shared->Prop}{lo hi:Int}{t u v:Tok}{tk:Nat}(I:Inv X pins σ H s)(h1:-(2 ^ 62)<=lo)(h2:lo<2 ^ 62)(h3:-(2 ^ 62)<=hi)(h4:hi<2 ^ 62)
  (q:R (Itr lo (hi - lo).toNat) H):wpAny (model X.prog X.w) X.A (pyIter (.ref s.heap.objs.size)) (PIE X pins σ tg R) E { s with heap:=s.heap.push { cls:=.type "range",data:=.fields #[.int lo t,.int hi u,.int 1 v] },toks:=tk }:=by
 refine wpAny_pyIter_range (IsRange.new ..) (small_one h1 h2 h3 h4) ?_
 have I1:Inv X pins σ H { s with heap:=s.heap.push { cls:=.type "range",data:=.fields #[.int lo t,.int hi u,.int 1 v] },toks:=tk }:=I.kept fun b o e=>Heap.get?_push_of_some _ e
 refine⟨(s.heap.push { cls:=.type "range",data:=.fields #[.int lo t,.int hi u,.int 1 v] }).objs.size,[(s.heap.push { cls:=.type "range",data:=.fields #[.int lo t,.int hi u,.int 1 v] }).objs.size],_,_,H,rfl,
  I1.kept (t':=tk) fun b o e=>Heap.get?_push_of_some _ e,turn_range _ lo (hi - lo).toNat,?_,fun b hb=>?_,q⟩
 ·have e1:lo+((0:Nat):Int)*1=lo:=by simp
  have e2:(((hi - lo).toNat:Nat):Int) - ((0:Nat):Int)=Builtin.Range.rangeSize lo hi 1:=by rw[rangeSize_one];split<;>omega
  show IsRangeIter _ _ (lo+((0:Nat):Int)*1) ((((hi - lo).toNat:Nat):Int) - ((0:Nat):Int)) 1
  rw[e1,e2]
  exact Heap.get?_push_size _ rfl
 ·have e:b=(s.heap.push { cls:=.type "range",data:=.fields #[.int lo t,.int hi u,.int 1 v] }).objs.size:=by simpa using hb
  subst e
  exact I1.fpOk (Nat.le_refl _) (I1.hok.fresh (Nat.le_refl _))
def iRng1 (ta:TA):TI:=fun σ H R=>ta σ H fun vs H1=>∃ j:Int,vs=[.int j] /\ -(2 ^ 62)<=j/\j<2 ^ 62/\R (Itr 0 j.toNat) H1
def iRng2 (ta:TA):TI:=fun σ H R=>ta σ H fun vs H1=>∃ i j:Int,vs=[.int i,.int j]/\(-(2 ^ 62)<=i/\i<2 ^ 62 /\ -(2 ^ 62)<=j/\j<2 ^ 62)/\R (Itr i (j - i).toNat) H1
theorem pi_range1 {a:Expr}{ta:TA}{p pos:Pos}(hg:Gl X "range")(hm:X.mg "range"=none)(ha:PA X [a] ta)(hs:starEach [a] X.env=[(false,eval a X.env)]:=by rfl):PI X tg (.Call (.Name "range" p) [a] [] pos) (iRng1 ta):=by
 intro pins s σ H R I h
 refine Call_ (ld_blt I hg hm boot_range (PyProof.Rows.callWith_type1 (thn (ha pos pins s σ H _ I h) fun us s1 ⟨vs,H1,I1,r1,q1⟩=>?_) hs rfl))
 obtain⟨j,e,q1,q2,q⟩:=q1
 subst e
 cases r1 with
 | cons r rr =>
  cases rr
  obtain⟨t,rfl⟩:=r
  exact call_range_1 (range_it I1 (by omega) (by omega) q1 q2 (by simpa using q))
theorem pi_range2 {a b:Expr}{ta:TA}{p pos:Pos}(hg:Gl X "range")(hm:X.mg "range"=none)(ha:PA X [a,b] ta)(hs:starEach [a,b] X.env=[(false,eval a X.env),(false,eval b X.env)]:=by rfl)(hs2:starEach [b] X.env=[(false,eval b X.env)]:=by rfl) :
  PI X tg (.Call (.Name "range" p) [a,b] [] pos) (iRng2 ta):=by
 intro pins s σ H R I h
 refine Call_ (ld_blt I hg hm boot_range (PyProof.Rows.callWith_type1 (thn (ha pos pins s σ H _ I h) fun us s1 ⟨vs,H1,I1,r1,q1⟩=>?_) (by rw[hs,hs2]) (by rw[hs2];rfl)))
 obtain⟨i,j,e,⟨q1,q2,q3,q4⟩,q⟩:=q1
 subst e
 cases r1 with
 | cons r rr =>
  cases rr with
  | cons r' rr =>
   cases rr
   obtain⟨t,rfl⟩:=r
   obtain⟨t',rfl⟩:=r'
   exact call_range_2 (range_it I1 q1 q2 q3 q4 q)
def tFor (wi:TI)(g:TG)(tb:TS):TS:=fun D σ H=>wi σ H fun J H1=>∃ W:Nat->Nat->St->Hp->Prop,(∃ m,W 0 m σ H1)/\∀ i m σ H,W i m σ H ->
 (J.stop i H/\D.nx σ H)\/(J.go i H/\∃ N:St->Hp->Prop,(∀ σ' H',N σ' H'->∃ m',m'<m/\W (i+1) m' σ' H')/\∀ x H',J.yld i H x H'->g x σ H' fun σ2 H2=>tb { D with nx:=N,ct:=N,bk:=D.nx } σ2 H2)
def pinsAt (fp:List Addr)(h:Heap):List (Addr × Obj):=fp.filterMap fun b=>(h.get? b).map fun o=>(b,o)
theorem mem_pinsAt {fp:List Addr}{h:Heap}{b:Addr}{o:Obj}(hb:b∈fp)(e:h.get? b=some o):(b,o)∈pinsAt fp h:=List.mem_filterMap.mpr ⟨b,hb,by rw[e];rfl⟩
theorem of_pinsAt {fp:List Addr}{h:Heap}{p:Addr × Obj}(hp:p∈pinsAt fp h):p.1∈fp/\h.get? p.1=some p.2:=by
 obtain⟨b,hb,e⟩:=List.mem_filterMap.mp hp
 cases q:h.get? b with
 | none=>rw[q]at e;cases e
 | some o =>
  rw[q]at e
  have e':(b,o)=p:=Option.some.inj e
  subst e'
  exact⟨hb,q⟩
theorem Inv.pinned {pins:List (Addr × Obj)}{σ:St}{H:Hp}{s:Shared}{fp:List Addr}(I:Inv X pins σ H s)(hf:∀ b∈fp,FpOk X pins H b)(ho:∀ b∈fp,∃ o,s.heap.get? b=some o/\∀ v,o.data≠.cell v):Inv X (pins++pinsAt fp s.heap) σ H s:=
 I.pins_of fun p hp=>(List.mem_append.mp hp).elim (fun z=>I.pin p (List.mem_append_right _ z)) fun z=>by
  obtain⟨hb,e⟩:=of_pinsAt z
  obtain⟨f0,f1,f2,_⟩:=hf p.1 hb
  obtain⟨o,e',d⟩:=ho p.1 hb
  rw[e]at e';cases e'
  exact⟨e,f0,f1,f2,d⟩
theorem Inv.unpinned {pins pl:List (Addr × Obj)}{σ:St}{H:Hp}{s:Shared}(I:Inv X (pins++pl) σ H s):Inv X pins σ H s:=I.pins_of fun p hp=>I.pin p (List.mem_append_right _ (List.mem_append_left _ hp))
theorem ps_for {iter:Expr}{body:List Stmt}{wi:TI}{g:TG}{tb:TS}{pos:Pos}(hp:PassesOwn (model X.prog X.w) X.A X.env X.xe)(hc:X.calm=true)(hi:PI X tg iter wi)(hg:PG X tg g)(hb:PSs X body tb)
  (hs:∀ x,foldedSetIterable iter X.env x=pure x:=by intro _;rfl):PS X (.For tg iter body [] pos) (tFor wi g tb):=by
 intro pins s σ H D I h
 refine wpAny_For (thn (hi pins s σ H _ I h) fun v s1 h1=>thn h1 fun itv s2 h2=>?_) hs
 obtain⟨it,fp,tn,J,H2,e,I2,T,st2,f2,W,⟨m0,w0⟩,turn⟩:=h2
 subst e
 have stat:∀ {H':Hp},(∀ b∈fp,H' b=none)->∀ b∈fp,FpOk X pins H' b:=fun hn b hb=>⟨hn b hb,(f2 b hb).2⟩
 refine codeAny_forLoop_any (fun n s'=>∃ i σ' H',Inv X pins σ' H' s'/\tn i s'.heap/\(∀ b∈fp,H' b=none)/\W i n σ' H') ?_ m0 ⟨0,σ,H2,I2,st2,fun b hb=>(f2 b hb).1,w0⟩
 rintro n s3 ⟨i,σ3,H3,I3,st3,fr3,w3⟩
 rcases turn i n σ3 H3 w3 with⟨stop,qn⟩ | ⟨go,N,hN,step⟩
 ·refine wpAny_passesOwn hp (thn (T.done X rfl rfl rfl hc i pins s3 σ3 H3 X.xe I3 (stat fr3) st3 stop) fun r s4 ⟨hr,I4⟩=>?_)
  subst hr
  exact wpAny_execs_nil ⟨σ3,H3,I4,qn⟩
 ·refine wpAny_passesOwn hp (thn (T.item X rfl rfl rfl hc i pins s3 σ3 H3 X.xe I3 (stat fr3) st3 go) fun r s4 ⟨u,hr,h4⟩=>?_)
  subst hr
  refine wpAny_passesOwn hp (thn h4 fun _ s5 ⟨x,H5,I5,r5,y5,st5,fr5⟩=>?_)
  have I5':=I5.pinned (stat fr5) (T.obj _ _ st5)
  refine wpAny_passesOwn hp (thn (hg _ s5 σ3 H5 x u _ I5' r5 (step x H5 y5)) fun _ s6 ⟨σ6,H6,I6,q6⟩=>?_)
  refine wpAny_passesOwn hp (thn (hb _ s6 σ6 H6 _ I6 q6) fun f s7 q7=>?_)
  have again:∀ {σ7:St} {H7:Hp},Inv X (pins++pinsAt fp s5.heap) σ7 H7 s7->N σ7 H7->∃ m,m<n/\∃ i σ' H',Inv X pins σ' H' s7/\tn i s7.heap/\(∀ b∈fp,H' b=none)/\W i m σ' H':=fun {σ7 H7} I7 n7=>by
   obtain⟨m',hm,w7⟩:=hN σ7 H7 n7
   refine⟨m',hm,i+1,σ7,H7,I7.unpinned,T.keep _ _ _ st5 fun b hb o e=>(I7.pin (b,o) (List.mem_append_right _ (List.mem_append_right _ (mem_pinsAt hb e)))).1,fun b hb=>?_,w7⟩
   obtain⟨o,e,d⟩:=T.obj _ _ st5 b hb
   exact(I7.pin (b,o) (List.mem_append_right _ (List.mem_append_right _ (mem_pinsAt hb e)))).2.1
  cases f with
  | next=>obtain⟨σ7,H7,I7,n7⟩:=q7;exact again I7 n7
  | cont=>obtain⟨σ7,H7,I7,n7⟩:=q7;exact again I7 n7
  | brk=>obtain⟨σ7,H7,I7,q7⟩:=q7;exact⟨σ7,H7,I7.unpinned,q7⟩
  | ret v=>obtain⟨x7,σ7,H7,I7,r7,q7⟩:=q7;exact⟨x7,σ7,H7,I7.unpinned,r7,q7⟩
end
theorem for_list {K:W.Frag}{a:Addr}{xs:List V}{g:TG}{tb:TS}{D:Ends}{σ:St}{H:Hp}(Pv:Nat->St->Hp->Prop)(h0:Pv 0 σ H)(hl:∀ i σ H,i<=xs.length->Pv i σ H->SqL K H a xs)
  (hs:∀ i x σ H,xs[i]?=some x->Pv i σ H->g x σ H fun σ2 H2=>tb { D with nx:=Pv (i+1),ct:=Pv (i+1),bk:=D.nx } σ2 H2)(hd:∀ σ H,Pv xs.length σ H->D.nx σ H) :
  ∃ W:Nat->Nat->St->Hp->Prop,(∃ m,W 0 m σ H)/\∀ i m σ H,W i m σ H ->
   ((Itl K a).stop i H/\D.nx σ H)\/((Itl K a).go i H/\∃ N:St->Hp->Prop,(∀ σ' H',N σ' H'->∃ m',m'<m/\W (i+1) m' σ' H')/\∀ x H',(Itl K a).yld i H x H'->g x σ H' fun σ2 H2=>tb { D with nx:=N,ct:=N,bk:=D.nx } σ2 H2):=by
 refine⟨fun i m σ H=>m=xs.length - i/\i<=xs.length/\Pv i σ H,⟨xs.length,by simp,Nat.zero_le _,h0⟩,?_⟩
 rintro i m σ H ⟨rfl,hi,p⟩
 have q:=hl i σ H hi p
 by_cases hlt:i<xs.length
 ·refine .inr ⟨⟨xs,xs[i],q,by simp[hlt]⟩,Pv (i+1),fun σ' H' p'=>⟨xs.length - (i+1),by omega,rfl,hlt,p'⟩,fun x H' y=>?_⟩
  obtain⟨e,y⟩:=y
  subst e
  exact hs i x σ _ (y xs q) p
 ·have e:i=xs.length:=by omega
  subst e
  exact .inl ⟨⟨xs,q,Nat.le_refl _⟩,hd σ H p⟩
theorem for_range {lo:Int}{n:Nat}{g:TG}{tb:TS}{D:Ends}{σ:St}{H:Hp}(Pv:Nat->St->Hp->Prop)(h0:Pv 0 σ H)
  (hs:∀ i σ H,i<n->Pv i σ H->g (.int (lo+i)) σ H fun σ2 H2=>tb { D with nx:=Pv (i+1),ct:=Pv (i+1),bk:=D.nx } σ2 H2)(hd:∀ σ H,Pv n σ H->D.nx σ H) :
  ∃ W:Nat->Nat->St->Hp->Prop,(∃ m,W 0 m σ H)/\∀ i m σ H,W i m σ H ->
   ((Itr lo n).stop i H/\D.nx σ H)\/((Itr lo n).go i H/\∃ N:St->Hp->Prop,(∀ σ' H',N σ' H'->∃ m',m'<m/\W (i+1) m' σ' H')/\∀ x H',(Itr lo n).yld i H x H'->g x σ H' fun σ2 H2=>tb { D with nx:=N,ct:=N,bk:=D.nx } σ2 H2):=by
 refine⟨fun i m σ H=>m=n - i/\i<=n/\Pv i σ H,⟨n,by simp,Nat.zero_le _,h0⟩,?_⟩
 rintro i m σ H ⟨rfl,hi,p⟩
 by_cases hlt:i<n
 ·refine .inr ⟨hlt,Pv (i+1),fun σ' H' p'=>⟨n - (i+1),by omega,rfl,hlt,p'⟩,fun x H' y=>?_⟩
  obtain⟨e,y⟩:=y
  subst e y
  exact hs i σ _ hlt p
 ·have e:i=n:=by omega
  subst e
  exact .inl ⟨Nat.le_refl _,hd σ H p⟩
abbrev R2:=V->V->Hp->VK->Prop
def OpR (X:Cx)(f:Value->Value->Sem Value)(r:R2):Prop:=
 ∀ (pins:List (Addr × Obj)) (s:Shared) (σ:St) (H:Hp) (x y:V) (v u:Value) (Q:VK),Inv X pins σ H s->RelV x v->RelV y u->r x y H Q ->
  wpAny (model X.prog X.w) X.A (f v u) (EP X pins σ Q) X.xe s
def CallR (X:Cx)(f:Value)(r:List V->Hp->VK->Prop):Prop:=
 ∀ (pins:List (Addr × Obj)) (s:Shared) (σ:St) (H:Hp) (xs:List V) (us:List Value) (Q:VK),Inv X pins σ H s->Vals xs us->r xs H Q ->
  wpAny (model X.prog X.w) X.A (call f us) (EP X pins σ Q) X.xe s
def TruR (X:Cx)(r:V->Hp->(Bool->Hp->Prop)->Prop):Prop:=
 ∀ (pins:List (Addr × Obj)) (s:Shared) (σ:St) (H:Hp) (x:V) (v:Value) (Q:Bool->Hp->Prop),Inv X pins σ H s->RelV x v->r x H Q ->
  wpAny (model X.prog X.w) X.A (truthy v) (TP X pins σ Q) X.xe s
def tOp (r:R2)(ta tb:TE):TE:=fun σ H Q=>ta σ H fun x H1=>tb σ H1 fun y H2=>r x y H2 Q
def rI (C:Int->Int->Prop)(g:Int->Int->V):R2:=fun x y H Q=>∃ i j,x=.int i/\y=.int j/\C i j/\Q (g i j) H
def rI0 (g:Int->Int->V):R2:=fun x y H Q=>∃ i j,x=.int i/\y=.int j/\Q (g i j) H
section
variable {X:Cx} {a b c:Expr} {ta tb tc:TE} {pos:Pos}
theorem binT (ha:PE X a ta)(hb:PE X b tb){pins:List (Addr × Obj)}{s:Shared}{σ:St}{H:Hp}{R:V->V->Hp->Prop}(I:Inv X pins σ H s)
  (h:ta σ H fun x H1=>tb σ H1 fun y H2=>R x y H2){Q:Value->Shared->Prop}{f:Value->Value->Sem Value}
  (hf:∀ v u s2 x y H2,Inv X pins σ H2 s2->RelV x v->RelV y u->R x y H2->wpAny (model X.prog X.w) X.A (f v u) Q X.xe s2) :
  wpAny (model X.prog X.w) X.A (eval a X.env) (fun v s₁=>wpAny (model X.prog X.w) X.A (eval b X.env) (fun u s₂=>wpAny (model X.prog X.w) X.A (f v u) Q X.xe s₂) X.xe s₁) X.xe s:=by
 refine thn (ha pins s σ H _ I h) fun v s1 ⟨x,H1,I1,r1,q1⟩=>?_
 refine thn (hb pins s1 σ H1 _ I1 q1) fun u s2 ⟨y,H2,I2,r2,q2⟩=>?_
 exact hf v u s2 x y H2 I2 r1 r2 q2
theorem pe_op {op:Operator}{r:R2}(ho:OpR X (binaryOp op) r)(ha:PE X a ta)(hb:PE X b tb):PE X (.BinOp a op b pos) (tOp r ta tb):=by
 intro pins s σ H Q I h
 exact wpAny_BinOp (binT ha hb I h fun v u s2 x y H2 I2 rx ry q=>ho pins s2 σ H2 x y v u Q I2 rx ry q)
theorem opI {f:Value->Value->Sem Value}{C:Int->Int->Prop}{g:Int->Int->Int}
  (rule:∀ (i j:Int) (t u:Tok) (s:Shared) (Q:Value->Shared->Prop) (E:Value->Shared->Prop),C i j->Q (.int (g i j) s.toks) { s with toks:=s.toks+1 }->wpAny (model X.prog X.w) X.A (f (.int i t) (.int j u)) Q E s) :
  OpR X f (rI C fun i j=>.int (g i j)):=by
 intro pins s σ H x y v u Q I rx ry h
 obtain⟨i,j,rfl,rfl,hc,q⟩:=h
 obtain⟨t,rfl⟩:=rx
 obtain⟨t',rfl⟩:=ry
 exact rule i j t t' s _ _ hc ⟨.int (g i j),H,I.tok _,⟨_,rfl⟩,q⟩
theorem opI0 {f:Value->Value->Sem Value}{g:Int->Int->Int}
  (rule:∀ (i j:Int) (t u:Tok) (s:Shared) (Q:Value->Shared->Prop) (E:Value->Shared->Prop),Q (.int (g i j) s.toks) { s with toks:=s.toks+1 }->wpAny (model X.prog X.w) X.A (f (.int i t) (.int j u)) Q E s) :
  OpR X f (rI0 fun i j=>.int (g i j)):=by
 intro pins s σ H x y v u Q I rx ry h
 obtain⟨i,j,rfl,rfl,q⟩:=h
 obtain⟨t,rfl⟩:=rx
 obtain⟨t',rfl⟩:=ry
 exact rule i j t t' s _ _ ⟨.int (g i j),H,I.tok _,⟨_,rfl⟩,q⟩
theorem opB0 {f:Value->Value->Sem Value}{g:Int->Int->Bool}
  (rule:∀ (i j:Int) (t u:Tok) (s:Shared) (Q:Value->Shared->Prop) (E:Value->Shared->Prop),Q (.bool (g i j)) s->wpAny (model X.prog X.w) X.A (f (.int i t) (.int j u)) Q E s) :
  OpR X f (rI0 fun i j=>.bl (g i j)):=by
 intro pins s σ H x y v u Q I rx ry h
 obtain⟨i,j,rfl,rfl,q⟩:=h
 obtain⟨t,rfl⟩:=rx
 obtain⟨t',rfl⟩:=ry
 exact rule i j t t' s _ _ ⟨.bl (g i j),H,I,rfl,q⟩
def CDiv (i j:Int):Prop:=0<j/\j<1073741824
def CPow (i j:Int):Prop:=0<=j/\j<=1000000/\i.natAbs<2 ^ 64
def CMul (i j:Int):Prop:=(-(2 ^ 64)<i/\i<2 ^ 64)\/(-(2 ^ 64)<j/\j<2 ^ 64)
theorem CMul.ok {i j:Int}(h:CMul i j):IntMulOk i j:=by
 rcases h with⟨h1,h2⟩ | ⟨h1,h2⟩
 ·exact .of_left (intBits_le_64 h1 h2)
 ·exact .of_right (intBits_le_64 h1 h2)
theorem op_add:OpR X (binaryOp .Add) (rI0 fun i j=>.int (i+j)):=opI0 fun _ _ _ _ _ _ _ q=>add_int q
theorem op_sub:OpR X (binaryOp .Sub) (rI0 fun i j=>.int (i - j)):=opI0 fun _ _ _ _ _ _ _ q=>sub_int q
theorem op_mul:OpR X (binaryOp .Mult) (rI CMul fun i j=>.int (i*j)):=opI fun _ _ _ _ _ _ _ hc q=>mul_int q hc.ok
theorem op_fdiv:OpR X (binaryOp .FloorDiv) (rI CDiv fun i j=>.int (i / j)):=opI fun i j _ _ _ _ _ hc q=>by
 have h1:(0:Int)<j:=hc.1
 have h2:j<1073741824:=hc.2
 exact floordiv_int (by omega) (by rw[Int.fdiv_eq_ediv_of_nonneg i (by omega)];exact q) (.inl (PyProof.noPylong_small (by omega)))
theorem op_mod:OpR X (binaryOp .Mod) (rI (fun _ j=>0<j) fun i j=>.int (i % j)):=opI fun i j _ _ _ _ _ hc q=>by
 have h1:(0:Int)<j:=hc
 exact mod_int' (by omega) (by rw[Int.fmod_eq_emod_of_nonneg i (by omega)];exact q)
theorem op_pow:OpR X (binaryOp .Pow) (rI CPow fun i j=>.int (i ^ j.toNat)):=opI fun _ _ _ _ _ _ _ hc q=>pow_int_small hc.1 hc.2.1 hc.2.2 q
end
def scal:V->V->Bool
 | .non,.non=>true | .non,.int _=>true | .int _,.non=>true | .non,.bl _=>true | .bl _,.non=>true | .non,.str _=>true | .str _,.non=>true
 | .int _,.int _=>true | .bl _,.bl _=>true | .str _,.str _=>true | .byt _,.byt _=>true
 | .int _,.str _=>true | .str _,.int _=>true | .bl _,.str _=>true | .str _,.bl _=>true
 | _,_=>false
def rEq:R2:=fun x y H Q=>scal x y=true/\Q (.bl (decide (x=y))) H
def rNe:R2:=fun x y H Q=>scal x y=true/\Q (.bl (!decide (x=y))) H
theorem dec_int {i j:Int}:decide (V.int i=V.int j)=(i == j):=by
 rw[Bool.eq_iff_iff]
 simp
theorem dec_bl {i j:Bool}:decide (V.bl i=V.bl j)=(i == j):=by
 rw[Bool.eq_iff_iff]
 simp
theorem dec_str {i j:Str}:decide (V.str i=V.str j)=(i == j):=by
 rw[Bool.eq_iff_iff]
 simp
theorem dec_byt {i j:Array UInt8}:decide (V.byt i=V.byt j)=(i.toList == j.toList):=by
 rw[Bool.eq_iff_iff]
 cases i
 cases j
 simp
section
variable {X:Cx} {a b c:Expr} {ta tb tc:TE} {pos:Pos}
theorem fin_bl {pins:List (Addr × Obj)}{σ:St}{H:Hp}{s:Shared}{Q:VK}{k k':Bool}(I:Inv X pins σ H s)(q:Q (.bl k) H)(e:k=k'):EP X pins σ Q (.bool k') s:=by
 subst e
 exact⟨.bl k,H,I,rfl,q⟩
theorem op_eq:OpR X (compareOp .Eq) rEq:=by
 intro pins s σ H x y v u Q I rx ry h
 obtain⟨hs,q⟩:=h
 cases x with
 | non =>
  cases rx
  cases y with
  | non=>cases ry;exact PySem.EqNone.eq_none_none (fin_bl I q (by simp))
  | bl j=>cases ry;exact PySem.EqNone.eq_none_bool (fin_bl I q (by simp))
  | int j=>obtain⟨t',rfl⟩:=ry;exact PySem.EqNone.eq_none_int (fin_bl I q (by simp))
  | str j=>obtain⟨t',rfl⟩:=ry;exact PySem.EqNone.eq_none_str (fin_bl I q (by simp))
  | _=>exact absurd (show false=true from hs) Bool.false_ne_true
 | bl i =>
  cases rx
  cases y with
  | non=>cases ry;exact PySem.EqNone.eq_bool_none (fin_bl I q (by simp))
  | bl j=>cases ry;exact eq_bool (fin_bl I q dec_bl)
  | str j=>obtain⟨t',rfl⟩:=ry;exact PySem.EqMixed.eq_bool_str (fin_bl I q (by simp))
  | _=>exact absurd (show false=true from hs) Bool.false_ne_true
 | int i =>
  obtain⟨t,rfl⟩:=rx
  cases y with
  | non=>cases ry;exact PySem.EqNone.eq_int_none (fin_bl I q (by simp))
  | int j=>obtain⟨t',rfl⟩:=ry;exact eq_int (fin_bl I q dec_int)
  | str j=>obtain⟨t',rfl⟩:=ry;exact PySem.EqMixed.eq_int_str (fin_bl I q (by simp))
  | _=>exact absurd (show false=true from hs) Bool.false_ne_true
 | str i =>
  obtain⟨t,rfl⟩:=rx
  cases y with
  | non=>cases ry;exact PySem.EqNone.eq_str_none (fin_bl I q (by simp))
  | bl j=>cases ry;exact PySem.EqMixed.eq_str_bool (fin_bl I q (by simp))
  | int j=>obtain⟨t',rfl⟩:=ry;exact PySem.EqMixed.eq_str_int (fin_bl I q (by simp))
  | str j=>obtain⟨t',rfl⟩:=ry;exact eq_str (fin_bl I q dec_str)
  | _=>exact absurd (show false=true from hs) Bool.false_ne_true
 | byt i =>
  obtain⟨t,rfl⟩:=rx
  cases y with
  | byt j=>obtain⟨t',rfl⟩:=ry;exact PySem.W.eq_bytes (fin_bl I q dec_byt)
  | _=>exact absurd (show false=true from hs) Bool.false_ne_true
 | _=>cases y<;>exact absurd (show false=true from hs) Bool.false_ne_true
theorem op_ne:OpR X (compareOp .NotEq) rNe:=by
 intro pins s σ H x y v u Q I rx ry h
 obtain⟨hs,q⟩:=h
 cases x with
 | non =>
  cases rx
  cases y with
  | non=>cases ry;exact PySem.EqNone.ne_none_none (fin_bl I q (by simp))
  | bl j=>cases ry;exact PySem.EqNone.ne_none_bool (fin_bl I q (by simp))
  | int j=>obtain⟨t',rfl⟩:=ry;exact PySem.EqNone.ne_none_int (fin_bl I q (by simp))
  | str j=>obtain⟨t',rfl⟩:=ry;exact PySem.EqNone.ne_none_str (fin_bl I q (by simp))
  | _=>exact absurd (show false=true from hs) Bool.false_ne_true
 | bl i =>
  cases rx
  cases y with
  | non=>cases ry;exact PySem.EqNone.ne_bool_none (fin_bl I q (by simp))
  | bl j=>cases ry;exact ne_bool (fin_bl I q (congrArg not dec_bl))
  | str j=>obtain⟨t',rfl⟩:=ry;exact PySem.EqMixed.ne_bool_str (fin_bl I q (by simp))
  | _=>exact absurd (show false=true from hs) Bool.false_ne_true
 | int i =>
  obtain⟨t,rfl⟩:=rx
  cases y with
  | non=>cases ry;exact PySem.EqNone.ne_int_none (fin_bl I q (by simp))
  | int j=>obtain⟨t',rfl⟩:=ry;exact ne_int (fin_bl I q (congrArg not dec_int))
  | str j=>obtain⟨t',rfl⟩:=ry;exact PySem.EqMixed.ne_int_str (fin_bl I q (by simp))
  | _=>exact absurd (show false=true from hs) Bool.false_ne_true
 | str i =>
  obtain⟨t,rfl⟩:=rx
  cases y with
  | non=>cases ry;exact PySem.EqNone.ne_str_none (fin_bl I q (by simp))
  | bl j=>cases ry;exact PySem.EqMixed.ne_str_bool (fin_bl I q (by simp))
  | int j=>obtain⟨t',rfl⟩:=ry;exact PySem.EqMixed.ne_str_int (fin_bl I q (by simp))
  | str j=>obtain⟨t',rfl⟩:=ry;exact ne_str (fin_bl I q (congrArg not dec_str))
  | _=>exact absurd (show false=true from hs) Bool.false_ne_true
 | byt i =>
  obtain⟨t,rfl⟩:=rx
  cases y with
  | byt j=>obtain⟨t',rfl⟩:=ry;exact PySem.W.ne_bytes (fin_bl I q (congrArg not dec_byt))
  | _=>exact absurd (show false=true from hs) Bool.false_ne_true
 | _=>cases y<;>exact absurd (show false=true from hs) Bool.false_ne_true
theorem op_lt:OpR X (compareOp .Lt) (rI0 fun i j=>.bl (decide (i<j))):=opB0 fun _ _ _ _ _ _ _ q=>lt_int q
theorem op_le:OpR X (compareOp .LtE) (rI0 fun i j=>.bl (decide (i<=j))):=opB0 fun _ _ _ _ _ _ _ q=>le_int q
theorem op_gt:OpR X (compareOp .Gt) (rI0 fun i j=>.bl (decide (j<i))):=opB0 fun _ _ _ _ _ _ _ q=>gt_int q
theorem nomark (b:Expr){op:CmpOp}(h:op≠.In:=by decide)(h2:op≠.NotIn:=by decide):behindInMarks op b=false:=by
 have e1:(op == CmpOp.In)=false:=by cases op<;>first | rfl | exact absurd rfl h
 have e2:(op == CmpOp.NotIn)=false:=by cases op<;>first | rfl | exact absurd rfl h2
 cases b<;>simp[behindInMarks,e1,e2]
theorem pe_cmpR {op:CmpOp}{r:R2}(ho:OpR X (compareOp op) r)(ha:PE X a ta)(hb:PE X b tb)(hm:behindInMarks op b=false):PE X (.Compare a [op] [b] pos) (tOp r ta tb):=by
 intro pins s σ H Q I h
 exact wpAny_Compare1 (binT ha hb I h fun v u s2 x y H2 I2 rx ry q=>ho pins s2 σ H2 x y v u Q I2 rx ry q) hm
def tTest (t:TE):TT:=fun σ H Q=>t σ H fun x H'=>∃ k,x=.bl k/\Q k H'
theorem pt_cmpR {op:CmpOp}{r:R2}(ho:OpR X (compareOp op) r)(ha:PE X a ta)(hb:PE X b tb)(hm:behindInMarks op b=false):PT X (.Compare a [op] [b] pos) (tTest (tOp r ta tb)):=by
 intro pins s σ H Q I h
 refine wpAny_isTrue_Compare1 (thn (ha pins s σ H _ I h) fun v s1 ⟨x,H1,I1,r1,q1⟩=>thn (hb pins s1 σ H1 _ I1 q1) fun u s2 ⟨y,H2,I2,r2,q2⟩ =>
  thn (ho pins s2 σ H2 x y v u _ I2 r1 r2 q2) fun c s3 ⟨z,H3,I3,r3,k,e,q3⟩=>?_) hm
 subst e
 cases r3
 exact wpAny_truthy_bool ⟨H3,I3,q3⟩
def tChain (r r':R2)(ta tb tc:TE):TE:=fun σ H Q=>ta σ H fun x H1=>tb σ H1 fun y H2=>r x y H2 fun z H3=>∃ k,z=.bl k /\
 (if k=true then tc σ H3 fun w' H4=>r' y w' H4 Q else Q (.bl false) H3)
theorem pe_chain {op op':CmpOp}{r r':R2}(ho:OpR X (compareOp op) r)(ho':OpR X (compareOp op') r')(ha:PE X a ta)(hb:PE X b tb)(hc:PE X c tc)
  (hm:lastMarks [op,op'] [b,c]=false:=by with_unfolding_all rfl):PE X (.Compare a [op,op'] [b,c] pos) (tChain r r' ta tb tc):=by
 intro pins s σ H Q I h
 refine Compare_chain (thn (ha pins s σ H _ I h) fun v s1 ⟨x,H1,I1,r1,q1⟩=>chain_link (thn (hb pins s1 σ H1 _ I1 q1) fun u s2 ⟨y,H2,I2,r2,q2⟩ =>
  thn (ho pins s2 σ H2 x y v u _ I2 r1 r2 q2) fun d s3 ⟨z,H3,I3,r3,k,e,q3⟩=>?_)) hm
 subst e
 cases r3
 refine wpAny_truthy_bool ?_
 cases k with
 | false=>exact ite_ff ⟨.bl false,H3,I3,rfl,q3⟩
 | true=>exact ite_tt (chain_last (thn (hc pins s3 σ H3 _ I3 q3) fun w' s4 ⟨z',H4,I4,r4,q4⟩=>ho' pins s4 σ H4 y z' u w' Q I4 r2 r4 q4))
theorem pt_chain {op op':CmpOp}{r r':R2}(ho:OpR X (compareOp op) r)(ho':OpR X (compareOp op') r')(ha:PE X a ta)(hb:PE X b tb)(hc:PE X c tc)
  (hm:lastMarks [op,op'] [b,c]=false:=by with_unfolding_all rfl):PT X (.Compare a [op,op'] [b,c] pos) (tTest (tChain r r' ta tb tc)):=by
 intro pins s σ H Q I h
 refine isTrue_chain (thn (ha pins s σ H _ I h) fun v s1 ⟨x,H1,I1,r1,q1⟩=>test_link (thn (hb pins s1 σ H1 _ I1 q1) fun u s2 ⟨y,H2,I2,r2,q2⟩ =>
  thn (ho pins s2 σ H2 x y v u _ I2 r1 r2 q2) fun d s3 ⟨z,H3,I3,r3,k,e,q3⟩=>?_)) hm
 subst e
 cases r3
 refine wpAny_truthy_bool ?_
 cases k with
 | false =>
  obtain⟨k',e',q'⟩:=q3
  cases e'
  exact ite_ff ⟨H3,I3,q'⟩
 | true =>
  refine ite_tt (test_last (thn (hc pins s3 σ H3 _ I3 q3) fun w' s4 ⟨z',H4,I4,r4,q4⟩=>thn (ho' pins s4 σ H4 y z' u w' _ I4 r2 r4 q4) fun d' s5 ⟨z2,H5,I5,r5,k2,e2,q5⟩=>?_))
  subst e2
  cases r5
  exact wpAny_truthy_bool ⟨H5,I5,q5⟩
def TruV (K:W.Frag)(x:V)(H:Hp)(k:Bool):Prop:=
 match x with
 | .non=>k=false
 | .bl b=>k=b
 | .int i=>k=(i != 0)
 | .str y=>y.length<=sizeLine/\k=((y.length:Int) != 0)
 | .byt y=>y.size<=sizeLine/\k=((y.size:Int) != 0)
 | .ref p=>(∃ xs,SqL K H p xs/\k=!xs.isEmpty)\/(∃ xs,SqT K H p xs/\k=!xs.isEmpty)\/∃ kvs,H p=some (.dK kvs)/\k=!kvs.isEmpty
 | _=>False
theorem isEmpty_kv {κ:Type}{kvs:List (κ × V)}{vs:List (κ × Value)}(r:KV kvs vs):(!vs.isEmpty)=!kvs.isEmpty:=by
 cases r<;>rfl
theorem isEmpty_of {xs:List V}{its:List Value}(r:Vals xs its):(!its.toArray.isEmpty)=!xs.isEmpty:=by
 cases r<;>simp
theorem line63:(sizeLine:Nat)<2 ^ 63:=by rw[sizeLine_eq];decide
theorem tru_ok:TruR X (fun x H Q=>∃ k,TruV X.K x H k/\Q k H):=by
 intro pins s σ H x v Q I rx h
 obtain⟨k,e,q⟩:=h
 have hl:=line63
 have hs:sizeLine=16777216:=sizeLine_eq
 cases x with
 | non =>
  cases rx
  have e':k=false:=e
  subst e'
  exact truthy_none ⟨H,I,q⟩
 | bl b =>
  cases rx
  have e':k=b:=e
  subst e'
  exact wpAny_truthy_bool ⟨H,I,q⟩
 | int i =>
  obtain⟨t,rfl⟩:=rx
  have e':k=(i != 0):=e
  subst e'
  exact PySem.P.truthy_int ⟨H,I,q⟩
 | str y =>
  obtain⟨t,rfl⟩:=rx
  obtain⟨hy,e'⟩:y.length<=sizeLine/\k=((y.length:Int) != 0):=e
  subst e'
  exact PySem.P.truthy_str (by omega) ⟨H,I.tok _,q⟩
 | byt y =>
  obtain⟨t,rfl⟩:=rx
  obtain⟨hy,e'⟩:y.size<=sizeLine/\k=((y.size:Int) != 0):=e
  subst e'
  exact PySem.W.truthy_bytes (by omega) ⟨H,I.tok _,q⟩
 | ref p =>
  cases rx
  have e':(∃ xs,SqL X.K H p xs/\k=!xs.isEmpty)\/(∃ xs,SqT X.K H p xs/\k=!xs.isEmpty)\/∃ kvs,H p=some (.dK kvs)/\k=!kvs.isEmpty:=e
  rcases e' with⟨xs,hx,e'⟩ | ⟨xs,hx,e'⟩ | ⟨kvs,hx,e'⟩
  ·subst e'
   obtain⟨its,r,pl,hz⟩:=I.list hx
   have hlen:=r.length
   exact wpAny_truthy_list pl.isList (by simp only[List.size_toArray];omega) ⟨H,I.tok _,by rw[isEmpty_of r];exact q⟩
  ·subst e'
   obtain⟨its,r,pl,hz⟩:=I.tuple hx
   have hlen:=r.length
   exact truthy_tuple pl (by simp only[List.size_toArray];omega) ⟨H,I.tok _,by rw[isEmpty_of r];exact q⟩
  ·subst e'
   obtain⟨hz,hS,vs,r,m⟩:kvs.length<=sizeLine/\(p == sysModules)=false/\∃ vs,KV kvs vs/\s.heap.DictOf (mixKind X.prog X.w) p vs:=I.hok p _ hx
   have hlen:kvs.length=vs.length:=Paired.length r
   exact wpAny_truthy_dict hS m (by omega) ⟨H,I.tok _,by rw[isEmpty_kv r];exact q⟩
 | _=>exact(show False from e).elim
theorem pt_truth (ha:PE X a ta)(he:∀ whole,isTrue a X.env whole=(do let v <- whole;standAt a.pos;holding [v] (truthy v))) :
  PT X a (fun σ H Q=>ta σ H fun x H'=>∃ k,TruV X.K x H' k/\Q k H'):=by
 intro pins s σ H Q I h
 exact isTrue_plain (thn (ha pins s σ H _ I h) fun v s1 ⟨x,H1,I1,r1,q1⟩=>tru_ok pins s1 σ H1 x v Q I1 r1 q1) (he _)
theorem vals1 {x:V}{us:List Value}(r:Vals [x] us):∃ u,us=[u]/\RelV x u:=by
 cases r with
 | cons r1 r2=>cases r2;exact⟨_,rfl,r1⟩
theorem vals2 {x y:V}{us:List Value}(r:Vals [x,y] us):∃ u w',us=[u,w']/\RelV x u/\RelV y w':=by
 cases r with
 | cons r1 r2 =>
  cases r2 with
  | cons r3 r4=>cases r4;exact⟨_,_,rfl,r1,r3⟩
theorem call_max2 (hc:X.calm=true):CallR X (.builtin "max") (fun xs H Q=>∃ i j,xs=[.int i,.int j]/\Q (.int (if j > i then j else i)) H):=by
 intro pins s σ H xs us Q I r h
 obtain⟨i,j,rfl,q⟩:=h
 obtain⟨u,w',rfl,⟨t,rfl⟩,⟨t',rfl⟩⟩:=vals2 r
 refine max_two_ints (I.ok.hd hc) fun h' tk k=>⟨_,H,I.kept k,?_,q⟩
 by_cases hj:j > i
 ·rw[if_pos hj,if_pos hj];exact⟨_,rfl⟩
 ·rw[if_neg hj,if_neg hj];exact⟨_,rfl⟩
theorem call_int1:CallR X (.type "int") (fun xs H Q=>(∃ i,xs=[.int i]/\Q (.int i) H)\/∃ k,xs=[.bl k]/\Q (.int (if k then 1 else 0)) H):=by
 intro pins s σ H xs us Q I r h
 rcases h with⟨i,rfl,q⟩ | ⟨k,rfl,q⟩
 ·obtain⟨u,rfl,t,rfl⟩:=vals1 r
  exact call_int_int ⟨.int i,H,I,⟨_,rfl⟩,q⟩
 ·obtain⟨u,rfl,r1⟩:=vals1 r
  cases r1
  exact call_int_bool ⟨.int (if k then 1 else 0),H,I.tok _,⟨_,rfl⟩,q⟩
end
structure ObjM (h:Heap) (x dx C:Addr) (mA:Str->Option Value):Prop where
 obj:h.get? x=some (PySem.W.instObj C dx)
 ns:h.Ns1 dx mA
 ne:dx≠x
theorem lookIn_ns {h:Heap}{dx:Addr}{mA:Str->Option Value}(n:h.Ns1 dx mA):∃ od,h.get? dx=some od/\∀ name,PySem.W.lookIn name od=some (mA name):=by
 obtain⟨o,es,ep,ho,hd,hk,_,hm⟩:=n
 refine⟨o,ho,fun name=>?_⟩
 have e:=hm name
 unfold nsFind findBy at e
 rw[<- Array.find?_toList]at e
 unfold PySem.W.lookIn
 rw[hd]
 dsimp only
 split
 ·rename_i y q
  rw[q]at e
  exact congrArg some e
 ·rename_i q
  rw[q]at e
  have a:es.toList.any (·.refKey)=false:=by
   rw[List.any_eq_false]
   intro y hy
   obtain⟨z,t,hkey⟩:=hk y (Array.mem_toList_iff.mp hy)
   simp[DictEntry.refKey,hkey]
  have a':¬ es.toList.any (·.refKey)=true:=by rw[a];exact Bool.false_ne_true
  rw[if_neg a']
  exact congrArg some e
theorem ObjM.look {h:Heap}{x dx C:Addr}{mA:Str->Option Value}(I:ObjM h x dx C mA):∃ od,PySem.W.InstAt h x (PySem.W.instObj C dx) C (some od)/\∀ name,PySem.W.lookIn name od=some (mA name):=
 let ⟨od,ho,hl⟩:=lookIn_ns I.ns
 ⟨od,⟨I.obj,rfl,rfl,ho⟩,hl⟩
section
variable {prog:Program} {w:World} {A:Around} {E:Value->Shared->Prop} {s:Shared} {K:W.Frag} {x dx C f:Addr} {mA:Str->Option Value} {name:Str} {v:Value}
end
theorem RelO.some_of {v:V}{o:Option Value}(r:RelO (some v) o):∃ u,o=some u/\RelV v u:=by
 cases o with
 | none=>exact(show False from r).elim
 | some u=>exact⟨u,rfl,r⟩
section
variable {P:Program} {w:World} {H H':Hp} {h h':Heap} {a C dx:Addr} {fs fs':List (Str × V)}
theorem ins_get (hok:HOk P w H h)(e:H a=some (.ins C dx fs)):∃ mA,ObjM h a dx C mA/\(∀ f,RelO (fs.lookup f) (mA f))/\PySem.Within mA (fs.map (·.1))/\fs.length<=1000/\H dx=some (.own a):=by
 obtain⟨d,z,ne,ob,mA,n,r,q⟩:=(show ObjOk P w H h a (.ins C dx fs) from hok a _ e)
 exact⟨mA,⟨ob,n,ne⟩,r,q,z,d⟩
end
structure Cls (K:W.Frag) (C:Addr):Prop where
 pg:PySem.W.plainGet K C Str.empty=true
 hd:PySem.W.hasDictIn K C=true
 po:PySem.W.plainOver K C=true
 sa:PySem.W.findIn K (.ref C) "__setattr__"=some (some (.builtin "object.__setattr__"))
theorem Cls.get {K:W.Frag}{C:Addr}(c:Cls K C)(f:Str):PySem.W.plainGet K C f=true:=c.pg
structure Con (K:W.Frag) (C:Addr) (f:Str) (v:V) (u:Value):Prop where
 at_:PySem.W.findIn K (.ref C) f=some (some u)
 rel:RelV v u
 get:PySem.W.specialIn K u "__get__"=some none
 cp:PySem.W.copiedNames.contains f=false
structure Meth (K:W.Frag) (C:Addr) (m:Str) (f:Addr):Prop where
 at_:PySem.W.findIn K (.ref C) m=some (some (.ref f))
 fn:PySem.W.isFn K (.ref f)=true
 kp:PySem.W.keepIn K (.ref f)=true
section
variable {X:Cx} {pins:List (Addr × Obj)} {σ:St} {H:Hp} {s:Shared} {a C dx:Addr} {fs:List (Str × V)} {f:Str} {v:V} {A:Around} {E:Value->Shared->Prop}
end
section
variable {X:Cx} {o e value:Expr} {f:Str} {pos pos' tpos:Pos} {ta tv:TE}
end
section
variable {X:Cx} {pins:List (Addr × Obj)} {σ:St} {H:Hp} {s:Shared} {A:Around} {E:Value->Shared->Prop} {Q:Value->Shared->Prop} {c:Value} {b:Bool}
inductive TyOf (K:W.Frag) (H:Hp):V->Value->Prop where
 | non:TyOf K H .non (.type "NoneType")
 | bl (x:Bool):TyOf K H (.bl x) (.type "bool")
 | int (i:Int):TyOf K H (.int i) (.type "int")
 | str (x:Str):TyOf K H (.str x) (.type "str")
 | flt (x:UInt64):TyOf K H (.flt x) (.type "float")
 | lst {a:Addr} {xs:List V} (e:H a=some (.lst xs)):TyOf K H (.ref a) (.type "list")
 | frz {a:Addr} {o:Obj} {xs:List V} (e:H a=some (.frz o (.lst xs))):TyOf K H (.ref a) (.type "list")
 | tup {a:Addr} {xs:List V} (e:H a=some (.tup xs)):TyOf K H (.ref a) (.type "tuple")
 | dK {a:Addr} {kvs:List (Key × V)} (e:H a=some (.dK kvs)):TyOf K H (.ref a) (.type "dict")
 | dT {a:Addr} {kvs:List (List Key × V)} (e:H a=some (.dT kvs)):TyOf K H (.ref a) (.type "dict")
 | ins {a C dx:Addr} {fs:List (Str × V)} (e:H a=some (.ins C dx fs)) (cl:Cls K C) (ha:PySem.W.findIn K (.ref C) "__class__"=some (some (.builtin "object.__class__")))
   (hn:PySem.W.specialIn K (.builtin "object.__class__") "__get__"=some (some (.builtin "getset_descriptor.__get__"))) (htk:PySem.W.takesIn K (.builtin "object.__class__")=some true)
   (hm:PySem.W.mroIn K C (.type "object")=some true):TyOf K H (.ref a) (.ref C)
theorem isinst_ok {x:V}{u t:Value}(I:Inv X pins σ H s)(rx:RelV x u)(ty:TyOf X.K H x t)(e:PySem.W.kitOne X.K t c=some b)(h:∀ tk,Q (.bool b) { s with toks:=tk }) :
  wpAny (model X.prog X.w) A (call (.builtin "isinstance") [u,c]) Q E s:=by
 cases ty with
 | non=>cases (show u=Value.none from rx);exact PySem.W.kia_one PySem.W.kitx_none I.kIn True.intro e (fun z=>nomatch z) h
 | bl y=>cases (show u=Value.bool y from rx);exact PySem.W.kia_one PySem.W.kitx_bool I.kIn True.intro e (fun z=>nomatch z) h
 | int i=>obtain⟨t,q⟩:=(show ∃ t,u=Value.int i t from rx);cases q;exact PySem.W.kia_one PySem.W.kitx_int I.kIn True.intro e (fun z=>nomatch z) h
 | str y=>obtain⟨t,q⟩:=(show ∃ t,u=Value.str y t from rx);cases q;exact PySem.W.kia_one PySem.W.kitx_str I.kIn True.intro e (fun z=>nomatch z) h
 | flt y=>obtain⟨t,q⟩:=(show ∃ t,u=Value.float y t from rx);cases q;exact PySem.W.kia_one PySem.W.kitx_float I.kIn True.intro e (fun z=>nomatch z) h
 | @lst a xs ea =>
  cases (show u=Value.ref a from rx)
  obtain⟨_,_,n,_,h1⟩:=(show ObjOk X.prog X.w H s.heap a (.lst xs) from I.hok a _ ea)
  exact PySem.W.kia_one PySem.W.kitx_list I.kIn ⟨_,h1,rfl⟩ e (fun z=>nomatch z) h
 | @frz a ob xs ea =>
  cases (show u=Value.ref a from rx)
  obtain⟨_,_,_,n,_,h1⟩:=(show ObjOk X.prog X.w H s.heap a (.frz ob (.lst xs)) from I.hok a _ ea)
  exact PySem.W.kia_one PySem.W.kitx_list I.kIn ⟨_,h1,rfl⟩ e (fun z=>nomatch z) h
 | @tup a xs ea =>
  cases (show u=Value.ref a from rx)
  obtain⟨_,_,_,p⟩:=(show ObjOk X.prog X.w H s.heap a (.tup xs) from I.hok a _ ea)
  obtain⟨o,h1,h2,_⟩:=p
  exact PySem.W.kia_one PySem.W.kitx_tuple I.kIn ⟨o,h1,h2⟩ e (fun z=>nomatch z) h
 | @dK a kvs ea =>
  cases (show u=Value.ref a from rx)
  obtain⟨_,_,vs,_,p⟩:=(show ObjOk X.prog X.w H s.heap a (.dK kvs) from I.hok a _ ea)
  obtain⟨o,es,ep,h1,h2,_⟩:=p
  exact PySem.W.kia_one PySem.W.kitx_dict I.kIn ⟨o,h1,h2.1⟩ e (fun z=>nomatch z) h
 | @dT a kvs ea =>
  cases (show u=Value.ref a from rx)
  obtain⟨_,_,xs,_,o,es,ep,h1,h2,_⟩:=(show ObjOk X.prog X.w H s.heap a (.dT kvs) from I.hok a _ ea)
  exact PySem.W.kia_one PySem.W.kitx_dict I.kIn ⟨o,h1,h2.1⟩ e (fun z=>nomatch z) h
 | @ins a C dx fs ea cl ha hn htk hm =>
  cases (show u=Value.ref a from rx)
  obtain⟨mA,O,_⟩:=ins_get I.hok ea
  obtain⟨od,J,_⟩:=O.look
  exact PySem.W.kia_one (PySem.W.kitx_own (cl.get _) cl.hd ha hn htk hm) I.kIn J e (fun z=>nomatch z) h
end
structure Room (k:Nat) (A:Around):Prop where
 hd:A.handled=none
 dp:A.depth+3*k+5<recursionLimit
 un:A.units+16*k+200<cLine
theorem Room.mono {j k:Nat}{A:Around}(r:Room k A)(h:j<=k):Room j A:=⟨r.hd,by have:=r.dp;omega,by have:=r.un;omega⟩
theorem Room.deeper {k:Nat}{A:Around}(r:Room (k+1) A)(env:Env):Room k (A.deeper env):=
 ⟨r.hd,by have:=r.dp;show A.depth+1+3*k+5<_;omega,by have:=r.un;show A.units+3+16*k+200<_;omega⟩
theorem Room.depth {k:Nat}{A:Around}(r:Room k A):A.depth<recursionLimit:=by have:=r.dp;omega
theorem Room.units {k:Nat}{A:Around}(r:Room k A):A.units+64<cLine:=by have:=r.un;omega
def tNil:TA:=fun _ H Q=>Q [] H
def tCons (ta:TE)(tr:TA):TA:=fun σ H Q=>ta σ H fun x H1=>tr σ H1 fun xs H2=>Q (x::xs) H2
section
variable {X:Cx} {e:Expr} {es:List Expr} {te:TE} {t:TA} {pos:Pos}
theorem pa_nil:PA X [] tNil:=fun _ _ _ _ H Q I h=>Calls.spliced_nil ⟨[],H,I,.nil,h⟩
theorem pa_cons (ha:PE X e te)(hr:PA X es t)(hs:starEach (e::es) X.env=(false,eval e X.env)::starEach es X.env:=by rfl):PA X (e::es) (tCons te t):=by
 intro pos pins s σ H Q I h
 rw[hs]
 show wpAny _ _ (spliced ((false,eval e X.env)::backTo pos (starEach es X.env))) _ _ s
 refine Calls.spliced_cons (thn (ha pins s σ H _ I h) fun u s1 ⟨x,H1,I1,r1,q1⟩=>?_)
 exact thn (hr pos pins s1 σ H1 _ I1 q1) fun us s2 ⟨xs,H2,I2,r2,q2⟩=>⟨x::xs,H2,I2,.cons r1 r2,q2⟩
def tTup (t:TA):TE:=fun σ H Q=>t σ H fun xs H1=>xs.length<=sizeLine/\∀ p,H1 p=none->Q (.ref p) (upd H1 p (.tup xs))
def tLst (t:TA):TE:=fun σ H Q=>t σ H fun xs H1=>xs.length<=sizeLine/\∀ p,H1 p=none->Q (.ref p) (upd H1 p (.lst xs))
theorem pe_tup {x1}(h:PA X es t):PE X (.Tuple es x1 pos) (tTup t):=by
 intro pins s σ H Q I hq
 refine wpAny_Tuple_spliced (thn (h pos pins s σ H _ I hq) fun us s1 ⟨xs,H1,I1,r,z,q⟩=>⟨by rw[<- r.length];exact z,?_⟩)
 have hf:H1 s1.heap.objs.size=none:=I1.hok.fresh (Nat.le_refl _)
 refine⟨.ref s1.heap.objs.size,upd H1 s1.heap.objs.size (.tup xs),I1.laid (t':=s1.toks) (fun b u e=>Heap.get?_push_of_some _ e) (Nat.le_refl _) ?_,rfl,q _ hf⟩
 exact⟨z,us,r,⟨_,Heap.get?_push_size _ rfl,rfl,_,rfl⟩⟩
theorem pe_lst (h:PA X es t):PE X (.List es pos) (tLst t):=by
 intro pins s σ H Q I hq
 refine wpAny_List_spliced (thn (h pos pins s σ H _ I hq) fun us s1 ⟨xs,H1,I1,r,z,q⟩=>⟨by rw[<- r.length];exact z,?_⟩)
 have hf:H1 s1.heap.objs.size=none:=I1.hok.fresh (Nat.le_refl _)
 refine⟨.ref s1.heap.objs.size,upd H1 s1.heap.objs.size (.lst xs),I1.laid (t':=s1.toks) (fun b u e=>Heap.get?_push_of_some _ e) (Nat.le_refl _) ?_,rfl,q _ hf⟩
 exact⟨z,us,0,r,Heap.get?_push_size _ rfl⟩
end
abbrev Sp:=List V->Hp->VK->XK->Prop
abbrev CXT:=List Env->Hp->Shared->XK->Value->Shared->Prop
structure Env0 (P:Program) (w:World) (K:W.Frag) (mg:Str->Option Value) (base:Heap) (A:Around) (outer:List Env) (s:Shared) (H:Hp):Prop where
 frames:A.frames=some outer
 mod:Mod K mg base
 bs:∀ b o,base.get? b=some o->s.heap.get? b=some o/\H b=none
 bsz:base.objs.size<=s.heap.objs.size
 funs:s.heap.FunFrames base outer
 frf:∀ b∈frs outer,H b=none
 hok:HOk P w H s.heap
 bare:AllBare s.gens
def CE (outer:List Env)(P:Program)(w:World)(H:Hp)(s:Shared)(Q:VK)(u:Value)(s':Shared):Prop:=
 ∃ v H',s'.os=s.os/\AllBare s'.gens/\Un (frs outer) [] H H' s.heap s'.heap/\HOk P w H' s'.heap/\RelV v u/\Q v H'
def CR (CX:CXT)(outer:List Env)(P:Program)(w:World)(H:Hp)(s:Shared)(Q:VK)(E:XK)(r:Result)(s':Shared):Prop:=
 match r with
 | .ok (.ret u)=>CE outer P w H s Q u s'
 | .ok _=>False
 | .error e=>CX outer H s E e s'
structure FnOk (P:Program) (w:World) (K:W.Frag) (mg:Str->Option Value) (base:Heap) (CX:CXT) (k:Nat) (f:Addr) (fd:FuncData) (ps:List Str) (sp:Sp):Prop where
 len:∀ vs H Q E,sp vs H Q E->vs.length=ps.length
 run:∀ (A:Around) (outer:List Env) (s:Shared) (H:Hp) (args:Args) (us:List Value) (vs:List V) (Q:VK) (E:XK),Room k A->Env0 P w K mg base A outer s H->BindsTo s fd args (ps.zip us)->Vals vs us->sp vs H Q E ->
  codeAny (model P w) A (.call (.ref f) args) (CR CX outer P w H s Q E) s
theorem FnOk.mono {P:Program}{w:World}{K:W.Frag}{mg:Str->Option Value}{base:Heap}{CX:CXT}{j k:Nat}{f:Addr}{fd:FuncData}{ps:List Str}{sp:Sp}(F:FnOk P w K mg base CX j f fd ps sp)(h:j<=k) :
  FnOk P w K mg base CX k f fd ps sp:=⟨F.len,fun A outer s H args us vs Q E hr=>F.run A outer s H args us vs Q E (hr.mono h)⟩
section
variable {X:Cx} {pins:List (Addr × Obj)} {σ:St} {H:Hp} {s s':Shared}
theorem Inv.env0 (I:Inv X pins σ H s):Env0 X.prog X.w X.K X.mg X.base X.A X.stack s H:=
 ⟨I.ok.frames,I.ok.mod,I.bs,Nat.le_trans I.ok.bsz I.sz,I.stack,I.stkFree,I.hok,I.bare⟩
theorem Inv.after {Q:VK}{u:Value}(I:Inv X pins σ H s)(h:CE X.stack X.prog X.w H s Q u s'):EP X pins σ Q u s':=by
 obtain⟨v,H',os,bare,un,hok,r,q⟩:=h
 obtain⟨hh,g,d,t,os'⟩:=s'
 obtain rfl:os'=s.os:=os
 exact⟨v,H',I.call (h':=hh) (g':=g) (d':=d) (t':=t) (ch:=[]) un hok bare (fun b z=>absurd z (by simp)),r,q⟩
end
def tCall (sp:Sp)(dvs:List V)(E:XK)(t:TA):TE:=fun σ H Q=>t σ H fun vs H1=>sp (vs++dvs) H1 Q E
def Binds (K:W.Frag)(fd:FuncData)(ps:List Str)(ds:List Value):Prop:=
 ∀ (s:Shared) (us:List Value),K.In s.heap->(us++ds).length=ps.length->BindsTo s fd ⟨us,[]⟩ (ps.zip (us++ds))
theorem Binds.all {K:W.Frag}{fd:FuncData}{ps:List Str}(h:∀ us:List Value,us.length=ps.length->bindArgs fd ⟨us,[]⟩=pure (ps.zip us)):Binds K fd ps []:=fun s us _ hl=>by
 rw[List.append_nil]at hl ⊢
 exact .of_eq (h us hl)
def Passes (CX:CXT)(X:Cx)(E:XK):Prop:=∀ (pins:List (Addr × Obj)) (σ:St) (H:Hp) (s:Shared) (e:Value) (s':Shared),Inv X pins σ H s->CX X.stack H s E e s'->X.xe e s'
section
variable {X:Cx} {CX:CXT} {k:Nat} {f C:Addr} {fd:FuncData} {ps:List Str} {sp:Sp} {dvs:List V} {ds:List Value} {E:XK} {x m:Str} {p pos apos:Pos} {e o:Expr} {es:List Expr} {ta:TE} {t:TA}
theorem run_fn {pins:List (Addr × Obj)}{σ:St}{H:Hp}{s:Shared}{Q:VK}{us:List Value}{vs:List V}(F:FnOk X.prog X.w X.K X.mg X.base CX k f fd ps sp)(hr:Room k X.A)(hb:Binds X.K fd ps ds)(hd:Vals dvs ds)(hx:Passes CX X E)
  (I:Inv X pins σ H s)(r:Vals vs us)(h:sp (vs++dvs) H Q E):wpAny (model X.prog X.w) X.A (call (.ref f) us) (EP X pins σ Q) X.xe s:=by
 have r2:Vals (vs++dvs) (us++ds):=r.append hd
 have hl:(us++ds).length=ps.length:=by rw[<- r2.length];exact F.len _ _ _ _ h
 refine wpAny_call (codeAny_mono (F.run X.A X.stack s H ⟨us,[]⟩ (us++ds) (vs++dvs) Q E hr I.env0 (hb s us I.kIn hl) r2 h) fun r s' hq=>?_)
 cases r with
 | error e=>exact hx pins σ H s e s' I hq
 | ok fl =>
  cases fl with
  | ret u=>exact I.after hq
  | next=>exact False.elim hq
  | brk=>exact False.elim hq
  | cont=>exact False.elim hq
theorem pe_call (F:FnOk X.prog X.w X.K X.mg X.base CX k f fd ps sp)(hr:Room k X.A)(hg:Gl X x)(hm:X.mg x=some (.ref f))(hk:PySem.W.keepIn X.K (.ref f)=true)(hb:Binds X.K fd ps ds)(hd:Vals dvs ds)(hx:Passes CX X E)
  (ha:PA X (e::es) t)(hdb:(x == ("__debug__":Str))=false:=by decide)(he:starEach (e::es) X.env=(false,eval e X.env)::starEach es X.env:=by rfl)(hpl:(backTo pos (starEach es X.env)).any (·.1)=false:=by rfl) :
  PE X (.Call (.Name x p) (e::es) [] pos) (tCall sp dvs E t):=by
 intro pins s σ H Q I h
 refine wpAny_Call_Name_kw (ld_glob I hg hm ?_ hdb)
 refine PySem.W.callWith_K (h₀:=X.base) I.ok.mod.kin hk (thn (ha pos pins s σ H _ I h) fun us s1 ⟨vs,H1,I1,r,q⟩=>⟨I1.kIn,?_⟩) he hpl
 exact run_fn F hr hb hd hx I1 r q
structure Mk (K:W.Frag) (C f:Addr):Prop where
 makes:PySem.W.makesIn K C=true
 init:PySem.W.findIn K (.ref C) "__init__"=some (some (.ref f))
 fn:PySem.W.isFn K (.ref f)=true
 kp:PySem.W.keepIn K (.ref C)=true
end
def PK (X:Cx)(kws:List Keyword)(t:TA):Prop:=
 ∀ (pos:Pos) (pins:List (Addr × Obj)) (s:Shared) (σ:St) (H:Hp) (Q:List V->Hp->Prop),Inv X pins σ H s->t σ H Q->wpAny (model X.prog X.w) X.A (evalAll ((backToKw pos (keywordEach kws X.env)).map (·.2))) (AP X pins σ Q) X.xe s
section
variable {X:Cx} {CX:CXT} {k:Nat} {f C:Addr} {fd:FuncData} {ps ks:List Str} {sp:Sp} {E:XK} {x m:Str} {p pos apos kpos:Pos} {e o:Expr} {es:List Expr} {kws:List Keyword} {te ta:TE} {t tk:TA} {nm:Option Str}
theorem pk_nil:PK X [] tNil:=fun _ _ _ _ H Q I h=>wpAny_evalAll_nil ⟨[],H,I,.nil,h⟩
theorem pk_cons (ha:PE X e te)(hr:PK X kws t):PK X (⟨nm,e,kpos⟩::kws) (tCons te t):=by
 intro pos pins s σ H Q I h
 show wpAny _ _ (evalAll ((do let v <- eval e X.env;standAt pos;pure v)::(backToKw pos (keywordEach kws X.env)).map (·.2))) _ _ s
 refine wpAny_evalAll_cons (wpAny_bind (thn (ha pins s σ H _ I h) fun u s1 ⟨x,H1,I1,r1,q1⟩=>wpAny_bind (wpAny_standAt (wpAny_pure ?_))))
 exact thn (hr pos pins s1 σ H1 _ I1 q1) fun us s2 ⟨xs,H2,I2,r2,q2⟩=>⟨x::xs,H2,I2,.cons r1 r2,q2⟩
structure KBinds (K:W.Frag) (fd:FuncData) (ps ks:List Str) (g:List Value->List Value->List Value) (gV:List V->List V->List V):Prop where
 to:∀ (s:Shared) (us ws:List Value),K.In s.heap->(g us ws).length=ps.length->BindsTo s fd ⟨us,ks.zip ws⟩ (ps.zip (g us ws))
 rel:∀ {vs:List V} {us:List Value} {zs:List V} {ws:List Value},Vals vs us->Vals zs ws->Vals (gV vs zs) (g us ws)
variable {g:List Value->List Value->List Value} {gV:List V->List V->List V}
end
structure FnScope (N P:List Str) (sc:Scope):Prop where
 kind:sc.kind=.function
 co:sc.isCoroutine=false
 gen:sc.isGenerator=false
 nd:N.Nodup
 pre:N.take P.length=P
 par:∀ x∈P,sc.names.lookup x=some .local\/sc.names.lookup x=some .cell
 nofree:∀ y∈sc.names,y.2≠.free
theorem bindL_out {kindOf:Str->Option NameKind}{x:Str}:∀ {binds:List (Str × Value)} {m:Str->Option Value},(∀ v,(x,v)∉binds)->bindL kindOf binds m x=m x
 | [],_,_=>rfl
 | (n,v)::r,m,h=>by
  unfold bindL
  rw[bindL_out fun w hw=>h w (List.mem_cons_of_mem _ hw)]
  split
  ·have:x≠n:=by rintro rfl;exact h v List.mem_cons_self
   simp[this]
  ·rfl
theorem bindC_out {kindOf:Str->Option NameKind}{x:Str}:∀ {binds:List (Str × Value)} {m:Str->Option Value},(∀ v,(x,v)∉binds)->bindC kindOf binds m x=m x
 | [],_,_=>rfl
 | (n,v)::r,m,h=>by
  unfold bindC
  rw[bindC_out fun w hw=>h w (List.mem_cons_of_mem _ hw)]
  split
  ·rfl
  ·have:x≠n:=by rintro rfl;exact h v List.mem_cons_self
   simp[this]
theorem bindL_get {kindOf:Str->Option NameKind}{x:Str}{v:Value}:∀ {P:List Str} {vs:List Value} {i:Nat} {m:Str->Option Value},P.Nodup->P[i]?=some x->vs[i]?=some v->kindOf x=some .local ->
  bindL kindOf (P.zip vs) m x=some v
 | [],_,_,_,_,h,_,_=>by simp at h
 | _::_,[],_,_,_,_,h,_=>by simp at h
 | p::P,w::vs,0,m,nd,h1,h2,hk=>by
  simp at h1 h2;subst h1;subst h2
  show bindL kindOf ((p,w)::P.zip vs) m p=_
  unfold bindL
  rw[bindL_out fun v hv=>(List.nodup_cons.mp nd).1 (List.of_mem_zip hv).1,if_pos hk]
  simp
 | p::P,w::vs,i+1,m,nd,h1,h2,hk=>by
  show bindL kindOf ((p,w)::P.zip vs) m x=_
  unfold bindL
  exact bindL_get (i:=i) (List.nodup_cons.mp nd).2 (by simpa using h1) (by simpa using h2) hk
theorem bindC_get {kindOf:Str->Option NameKind}{x:Str}{v:Value}:∀ {P:List Str} {vs:List Value} {i:Nat} {m:Str->Option Value},P.Nodup->P[i]?=some x->vs[i]?=some v->kindOf x≠some .local ->
  bindC kindOf (P.zip vs) m x=some v
 | [],_,_,_,_,h,_,_=>by simp at h
 | _::_,[],_,_,_,_,h,_=>by simp at h
 | p::P,w::vs,0,m,nd,h1,h2,hk=>by
  simp at h1 h2;subst h1;subst h2
  show bindC kindOf ((p,w)::P.zip vs) m p=_
  unfold bindC
  rw[bindC_out fun v hv=>(List.nodup_cons.mp nd).1 (List.of_mem_zip hv).1,if_neg hk]
  simp
 | p::P,w::vs,i+1,m,nd,h1,h2,hk=>by
  show bindC kindOf ((p,w)::P.zip vs) m x=_
  unfold bindC
  exact bindC_get (i:=i) (List.nodup_cons.mp nd).2 (by simpa using h1) (by simpa using h2) hk
def start (N:List Str)(vs:List V):St:=vs.map some++List.replicate (N.length - vs.length) none
def cxOf (CX:CXT)(P:Program)(w:World)(K:W.Frag)(mg:Str->Option Value)(base:Heap)(N:List Str)(qual:Str)(scope:Scope)(f:Addr)(cd:Value)(A:Around)(outer:List Env)(s:Shared)(H:Hp)(E:XK):Cx where
 prog:=P
 w:=w
 K:=K
 mg:=mg
 base:=base
 A:=A.deeper (envOfC qual scope s.heap.objs.size f cd)
 N:=N
 s₀:=s
 H₀:=H
 env:=envOfC qual scope s.heap.objs.size f cd
 outer:=outer
 stack:=envOfC qual scope s.heap.objs.size f cd::outer
 ex:=[]
 calm:=true
 fn:=fun _=>true
 pn:=[]
 xe:=fun e s'=>wpAny (model P w) (A.deeper (envOfC qual scope s.heap.objs.size f cd)) (leaving (envOfC qual scope s.heap.objs.size f cd) e) (fun _ s''=>CX outer H s E e s'') (fun e' s''=>CX outer H s E e' s'') s'
theorem cell_has {sc:Scope}{n:Nat}{x:Str}(h:sc.names.lookup x=some .cell):∃ c,(cellsFrom n sc.names []).lookup x=some c:=by
 have q:=PySem.W.cellsFrom_some sc.names n [] (.inl h)
 exact Option.isSome_iff_exists.mp q
theorem inv_start {CX:CXT}{P:Program}{w:World}{K:W.Frag}{mg:Str->Option Value}{base:Heap}{N ps:List Str}{qual:Str}{scope:Scope}{f:Addr}{cd:Value}{A:Around}{outer:List Env}{s s1:Shared}{H:Hp}{E:XK}{us:List Value}{vs:List V}
  (S:FnScope N ps scope)(hd:A.handled=none)(e0:Env0 P w K mg base A outer s H)(hl:vs.length=ps.length)(r:Vals vs us)
  (x:InCallC s s.heap.objs.size (bindL (envOfC qual scope s.heap.objs.size f cd).kindOf (ps.zip us) fun _=>none) (cellsFrom (s.heap.objs.size+1) scope.names []) (bindC (envOfC qual scope s.heap.objs.size f cd).kindOf (ps.zip us) fun _=>none) s1) :
  Inv (cxOf CX P w K mg base N qual scope f cd A outer s H E) [] (start N vs) H s1:=by
 have hpl:ps.length<=N.length:=by have:=congrArg List.length S.pre;rw[List.length_take]at this;omega
 obtain⟨h1,tk,rfl,hk⟩:=x.done
 have noA:∀ b:Addr,b∉(cxOf CX P w K mg base N qual scope f cd A outer s H E).ex:=fun b z=>absurd (show b∈([]:List Addr) from z) (by simp)
 refine⟨⟨e0.mod,S.kind,rfl,rfl,Nat.le_refl _,fun y z c h1 h2=>?_,fun y hy=>?_,fun y c _ h=>?_,fun _=>hd,Around.frames_deeper e0.frames,.inr ⟨rfl,rfl⟩,fun b z=>absurd z (noA b),e0.bs,e0.bsz,fun b _ _=>noA b,fun b z=>absurd z (noA b),e0.funs,e0.frf⟩,
  rfl,e0.bare,Un.kept hk,⟨_,x.toInCall.ns,fun i y v h1 h2 h3=>?_⟩,fun y c h=>⟨_,x.cell y c h⟩,e0.hok.fresh (Nat.le_refl _),fun y c h=>?_,fun p hp=>absurd (show p∈([]:List (Addr × Obj)) from hp) (by simp),e0.hok.kept hk,?_⟩
 ·exact name_of_addr x.apart (PySem.mem_of_lookup h1) (PySem.mem_of_lookup h2)
 ·have hy:scope.names.lookup y=some .cell\/scope.names.lookup y=some .free:=hy
  rcases hy with hy | hy
  ·exact cell_has hy
  ·exact absurd rfl (S.nofree _ (PySem.mem_of_lookup hy))
 ·exact Nat.le_of_lt (x.above y c (PySem.mem_of_lookup h))
 ·have hi:i<vs.length:=by
   unfold start at h2
   by_cases hi:i<vs.length
   ·exact hi
   ·rw[List.getElem?_append_right (by simpa using hi)]at h2
    rw[List.getElem?_replicate]at h2
    split at h2<;>cases h2
  have ha:vs[i]?=some v:=by
   unfold start at h2
   rw[List.getElem?_append_left (by simpa using hi),List.getElem?_map]at h2
   cases e:vs[i]? with
   | none=>rw[e]at h2;cases h2
   | some a=>rw[e]at h2;cases h2;rfl
  obtain⟨u,hu,rv⟩:=r.get ha
  have hp:ps[i]?=some y:=by
   rw[<- S.pre,List.getElem?_take_of_lt (by omega)];exact h1
  have ndP:ps.Nodup:=by rw[<- S.pre];exact S.nd.sublist (List.take_sublist _ _)
  refine⟨u,rv,?_⟩
  rcases S.par y (List.mem_of_getElem? hp) with k | k
  ·exact .inl ⟨k,bindL_get ndP hp hu k⟩
  ·obtain⟨c,e⟩:=cell_has (n:=s.heap.objs.size+1) k
   refine .inr ⟨.inl k,c,e,?_⟩
   have q:=x.cell y c e
   rw[bindC_get ndP hp hu (by show scope.names.lookup y≠_;rw[k];decide)]at q
   exact q
 ·exact e0.hok.fresh (Nat.le_of_lt (x.above y c (PySem.mem_of_lookup h)))
 ·unfold start
  show _=N.length
  rw[List.length_append,List.length_map,List.length_replicate]
  omega
theorem fn_of {CX:CXT} {P:Program} {w:World} {K:W.Frag} {mg:Str->Option Value} {base:Heap} {k:Nat} {f:Addr} {name qual:Str} {params:Arguments} {body:List Stmt} {scope:Scope} {dV kV doc pm cdv ct oc:Value} {an od:Option Addr}
  {osl:Array (Option Value)} {N ps:List Str} {sp:Sp} (lk:K.lookup f=some ⟨oc,od,.func (PySem.W.fnOf name qual params body scope dV kV doc pm an cdv ct),osl⟩) (hcd:PySem.W.codeIn K cdv qual=true) (S:FnScope N ps scope)
  (len:∀ vs H Q E,sp vs H Q E->vs.length=ps.length)
  (hbody : ∀ (A : Around) (outer : List Env) (s : Shared) (H : Hp) (vs : List V) (Q : VK) (E : XK), Room k (A.deeper (envOfC qual scope s.heap.objs.size f cdv)) -> sp vs H Q E ->
   ∃ t,PSs (cxOf CX P w K mg base N qual scope f cdv A outer s H E) body t/\t { nx:=fun _ H'=>Q .non H',rt:=Q } (start N vs) H) :
  FnOk P w K mg base CX (k+1) f (PySem.W.fnOf name qual params body scope dV kV doc pm an cdv ct) ps sp:=by
 refine⟨len,fun A outer s H args us vs Q E hr e0 hb r hsp=>?_⟩
 have hl:=len _ _ _ _ hsp
 have KX:K.In s.heap:=e0.mod.kin.keeps fun b o e=>(e0.bs b o e).1
 have lim:s.heap.NoLimit:=e0.mod.nolimit.keeps fun b o e=>(e0.bs b o e).1
 have hkind:∀ y∈ps.zip us,scope.names.lookup y.1=some .local\/(scope.names.lookup y.1=some .cell/\((cellsFrom (s.heap.objs.size+1) scope.names []).lookup y.1).isSome=true):=fun⟨n,v⟩ hy=>by
  rcases S.par n (List.of_mem_zip hy).1 with q | q
  ·exact .inl q
  ·exact .inr ⟨q,PySem.W.cellsFrom_some _ _ _ (.inl q)⟩
 refine codeAny_call_function hr.depth (KX _ _ lk) rfl S.co S.gen rfl (PySem.W.codeRec_of KX hcd) (hb _ _ _ _ ?_)
 refine wpAny_newFunctionEnv_cells S.kind hkind fun env he s1 x=>?_
 subst he
 refine⟨lim.keeps x.toInCall.keep,codeAny_func ?_⟩
 obtain⟨t,ht,hq⟩:=hbody A outer s H vs Q E (hr.deeper _) hsp
 have I:Inv (cxOf CX P w K mg base N qual scope f cdv A outer s H E) [] (start N vs) H s1:=inv_start S hr.hd e0 hl r x
 refine wpAny_mono (ht [] s1 (start N vs) H _ I hq) (fun fl s' hs=>?_) fun e s' hs=>hs
 have fin:∀ {σ':St} {H':Hp} {v:V} {u:Value},Inv (cxOf CX P w K mg base N qual scope f cdv A outer s H E) [] σ' H' s'->RelV v u->Q v H'->CE outer P w H s Q u s':=
  fun {σ' H' v u} J rv q=>⟨v,H',J.os,J.bare,J.base,J.hok,rv,q⟩
 cases fl with
 | ret u =>
  obtain⟨v,σ',H',J,rv,q⟩:=hs
  exact fin J rv q
 | next =>
  obtain⟨σ',H',J,q⟩:=hs
  exact fin (v:=V.non) (u:=Value.none) J rfl q
 | brk =>
  obtain⟨_,_,_,q⟩:=hs
  exact False.elim q
 | cont =>
  obtain⟨_,_,_,q⟩:=hs
  exact False.elim q
section
variable {X:Cx} {x:Str} {p pos:Pos} {e:Expr} {es:List Expr} {t:TA} {id T:String} {r:List V->Hp->VK->Prop}
def tCB (r:List V->Hp->VK->Prop)(t:TA):TE:=fun σ H Q=>t σ H fun vs H1=>r vs H1 Q
theorem pe_callB (hc:CallR X (.builtin id) r)(hg:Gl X x)(hm:X.mg x=none)(hv:bootBuiltins x=some (.builtin id))(ha:PA X (e::es) t)(hn:x≠"__name__":=by decide)(hdb:(x == ("__debug__":Str))=false:=by decide)
  (he:starEach (e::es) X.env=(false,eval e X.env)::starEach es X.env:=by rfl)(hpl:(backTo pos (starEach es X.env)).any (·.1)=false:=by rfl):PE X (.Call (.Name x p) (e::es) [] pos) (tCB r t):=by
 intro pins s σ H Q I h
 refine wpAny_Call_Name_kw (ld_blt I hg hm hv ?_ hn hdb)
 exact PyProof.Rows.callWith_builtin1 (thn (ha pos pins s σ H _ I h) fun us s1 ⟨vs,H1,I1,r1,q1⟩=>hc pins s1 σ H1 vs us Q I1 r1 q1) he hpl
theorem pe_callTy (hc:CallR X (.type T) r)(hg:Gl X x)(hm:X.mg x=none)(hv:bootBuiltins x=some (.type T))(ha:PA X (e::es) t)(hn:x≠"__name__":=by decide)(hdb:(x == ("__debug__":Str))=false:=by decide)
  (he:starEach (e::es) X.env=(false,eval e X.env)::starEach es X.env:=by rfl)(hpl:(backTo pos (starEach es X.env)).any (·.1)=false:=by rfl):PE X (.Call (.Name x p) (e::es) [] pos) (tCB r t):=by
 intro pins s σ H Q I h
 refine wpAny_Call_Name_kw (ld_blt I hg hm hv ?_ hn hdb)
 exact PyProof.Rows.callWith_type1 (thn (ha pos pins s σ H _ I h) fun us s1 ⟨vs,H1,I1,r1,q1⟩=>hc pins s1 σ H1 vs us Q I1 r1 q1) he hpl
end
end L2
namespace HT
open PySem PyProof.Rows
section
open PySem.SeqAt
open PySem.AutoSeq1 (wpAny_loadPart')
open PySem.MeetsSeq PySem.MeetsSeq2 PySem.MeetsSeq3
end
section
variable {prog:Program} {w:World} {A:Around} {E:Value->Shared->Prop} {s:Shared}
theorem cat_tup {t b:Addr}{vs ws:List Value}{Q:Value->Shared->Prop}(ht:IsTup s.heap t vs.toArray)(hb:IsTup s.heap b ws.toArray)(hv:vs≠[])
  (h1:ws=[]->Q (.ref t) s)(h2:ws≠[]->Q (.ref s.heap.objs.size) { s with heap:=s.heap.push { cls:=.type "tuple",data:=.seq (vs++ws).toArray } })
  (hsz:vs.length+ws.length<=sizeLine):wpAny (model prog w) A (binaryOp .Add (.ref t) (.ref b)) Q E s:=by
 obtain⟨⟨cls,dd,data,sl⟩,ho,hc,n,hd⟩:=id ht
 obtain⟨⟨cls2,dd2,data2,sl2⟩,ho2,hc2,n2,hd2⟩:=id hb
 simp only at hc hd hc2 hd2
 subst hc hd hc2 hd2
 have e:vs.toArray++ws.toArray=(vs++ws).toArray:=by simp
 by_cases hw:ws=[]
 ·exact concat_meets ⟨_,ho,rfl⟩ ⟨_,ho2,rfl⟩ noFill_tuple_add seq_tuple_add PySem.F.slot_tuple_add PySem.F.entry_tuple_add (PySem.F.args_tuple_add_2 _ _)
   (tuple_addW1 t b vs.toArray ws.toArray n n2 dd dd2 sl sl2 (by simpa using hv) (by simp[hw])) ⟨ho,ho2,h1 hw⟩
 ·refine concat_meets ⟨_,ho,rfl⟩ ⟨_,ho2,rfl⟩ noFill_tuple_add seq_tuple_add PySem.F.slot_tuple_add PySem.F.entry_tuple_add (PySem.F.args_tuple_add_2 _ _)
   (tuple_addW2 t b vs.toArray ws.toArray n n2 dd dd2 sl sl2 (by simpa using hv) (by simpa using hw) (by rw[List.size_toArray,List.size_toArray];exact hsz)) ⟨ho,ho2,?_⟩
  rw[e]
  exact h2 hw
def sIx (n d:Nat):Option Int->Nat
 | none=>d
 | some v=>if v<0 then (v+(n:Int)).toNat else min v.toNat n
theorem sIx_none (n d:Nat):sIx n d none=d:=rfl
theorem sIx_nat (n d k:Nat):sIx n d (some (k:Int))=min k n:=by
 show (if (k:Int)<0 then ((k:Int)+(n:Int)).toNat else min (k:Int).toNat n)=min k n
 rw[if_neg (by omega),Int.toNat_natCast]
end
end HT
namespace L2
open PySem PySem.Spec PyProof.Rows
abbrev TO:=St->Hp->(Option Int->Hp->Prop)->Prop
def PO (X:Cx)(e:Option Expr)(t:TO):Prop:=
 ∀ (pins:List (Addr × Obj)) (s:Shared) (σ:St) (H:Hp) (Q:Option Int->Hp->Prop),Inv X pins σ H s->t σ H Q ->
  wpAny (model X.prog X.w) X.A (evalPart e X.env) (fun u s'=>∃ o H',Inv X pins σ H' s'/\IsPart u o/\Q o H') X.xe s
def tNoPart:TO:=fun _ H Q=>Q none H
def tPart (t:TE):TO:=fun σ H Q=>t σ H fun x H1=>∃ i,x=.int i/\Q (some i) H1
theorem intsAre_of {ns:List Int}:∀ {us:List Value},Vals (ns.map V.int) us->IntsAre us ns:=by
 induction ns with
 | nil=>intro us r;rw[List.map_nil]at r;cases r;exact .nil
 | cons n ns ih =>
  intro us r
  rw[List.map_cons]at r
  cases r with
  | cons r1 r2 =>
   obtain⟨t,e⟩:=r1
   subst e
   exact .cons n t (ih r2)
section
variable {X:Cx} {e:Expr} {te:TE} {lo hi:Option Expr} {tl th:TO} {pos p2:Pos}
theorem po_none:PO X none tNoPart:=by
 intro pins s σ H Q I h
 rw[evalPart_none]
 exact wpAny_pure ⟨none,H,I,.none,h⟩
theorem po_some (h:PE X e te):PO X (some e) (tPart te):=by
 intro pins s σ H Q I hw
 rw[evalPart_some]
 refine thn (h pins s σ H _ I hw) fun u s1 ⟨x,H1,I1,r1,q1⟩=>?_
 obtain⟨i,rfl,q⟩:=q1
 obtain⟨t,rfl⟩:=r1
 exact⟨some i,H1,I1,.int i t,q⟩
def SlR (X:Cx)(r:V->Option Int->Option Int->Hp->VK->Prop):Prop:=
 ∀ (pins:List (Addr × Obj)) (s:Shared) (σ:St) (H:Hp) (x:V) (v vl vu:Value) (lo hi:Option Int) (sl:Addr) (Q:VK),Inv X pins σ H s->RelV x v->s.heap.IsSliceOf sl vl vu .none->IsPart vl lo->IsPart vu hi->r x lo hi H Q ->
  ∃ T id,typeLookup (.type T) "__getitem__"=pure (some (.builtin id))/\s.TypeIs v T/\wpAny (model X.prog X.w) X.A (getItem v (.ref sl)) (EP X pins σ Q) X.xe s
def tSl (r:V->Option Int->Option Int->Hp->VK->Prop)(te:TE)(tl th:TO):TE:=fun σ H Q=>te σ H fun x H1=>tl σ H1 fun l H2=>th σ H2 fun u H3=>r x l u H3 Q
theorem pe_slice {r:V->Option Int->Option Int->Hp->VK->Prop}(hr:SlR X r)(he:PE X e te)(hl:PO X lo tl)(hu:PO X hi th):PE X (.Subscript e (.Slice lo hi none p2) pos) (tSl r te tl th):=by
 intro pins s σ H Q I h
 refine Subscript_ (thn (he pins s σ H _ I h) fun v s1 ⟨x,H1,I1,r1,q1⟩=>?_)
 refine wpAny_Slice (thn (hl pins s1 σ H1 _ I1 q1) fun vl s2 ⟨l,H2,I2,pl,q2⟩=>thn (hu pins s2 σ H2 _ I2 q2) fun vu s3 ⟨u,H3,I3,pu,q3⟩=>?_)
 rw[evalPart_none]
 refine wpAny_pure ?_
 have I4:Inv X pins σ H3 { s3 with heap:=s3.heap.push { cls:=.type "slice",data:=.fields #[vl,vu,.none] } }:=I3.kept (t':=s3.toks) fun b ob q=>Heap.get?_push_of_some _ q
 obtain⟨T,id,hT,ht,hg⟩:=hr pins { s3 with heap:=s3.heap.push { cls:=.type "slice",data:=.fields #[vl,vu,.none] } } σ H3 x v vl vu l u s3.heap.objs.size Q I4 r1 (Heap.IsSliceOf.new ..) pl pu q3
 show wpAny (model X.prog X.w) X.A (subscriptTail e (.Slice lo hi none p2) v (.ref s3.heap.objs.size)) (EP X pins σ Q) X.xe { s3 with heap:=s3.heap.push { cls:=.type "slice",data:=.fields #[vl,vu,.none] } }
 exact tail_any (ops:=[.ref s3.heap.objs.size,v]) ht hT hg (by with_unfolding_all rfl)
def cutV (xs:List V)(lo hi:Option Int):List V:=(xs.drop (HT.sIx xs.length 0 lo)).take (HT.sIx xs.length xs.length hi - HT.sIx xs.length 0 lo)
theorem cutV_length (xs:List V)(lo hi:Option Int):(cutV xs lo hi).length<=xs.length:=by
 unfold cutV
 rw[List.length_take,List.length_drop]
 omega
def rCatT (K:W.Frag):R2:=fun x y H Q=>∃ a b xs ys,x=.ref a/\y=.ref b/\SqT K H a xs/\SqT K H b ys/\xs≠[]/\xs.length+ys.length<=sizeLine /\
 (ys=[]->Q (.ref a) H)/\(ys≠[]->∀ p,H p=none->Q (.ref p) (upd H p (.tup (xs++ys))))
theorem Vals.nil_iff {xs:List V}{us:List Value}(r:Vals xs us):us=[]↔xs=[]:=by
 cases r with
 | nil=>simp
 | cons _ _=>simp
theorem op_catT:OpR X (binaryOp .Add) (rCatT X.K):=by
 intro pins s σ H x y v u Q I rx ry h
 obtain⟨a,b,xs,ys,rfl,rfl,ha,hb,hx,hz,q1,q2⟩:=h
 cases rx
 cases ry
 obtain⟨its,r1,p1,_⟩:=I.tuple ha
 obtain⟨its2,r2,p2,_⟩:=I.tuple hb
 refine HT.cat_tup p1 p2 (fun z=>hx (r1.nil_iff.mp z)) (fun z=>⟨.ref a,H,I,rfl,q1 (r2.nil_iff.mp z)⟩) (fun z=>?_) (by rw[<- r1.length,<- r2.length];exact hz)
 refine⟨.ref s.heap.objs.size,_,I.laid (t':=s.toks) (o:=.tup (xs++ys)) (fun b ob q=>Heap.get?_push_of_some _ q) (Nat.le_refl _) ?_,rfl,q2 (fun w=>z (r2.nil_iff.mpr w)) _ (I.hok.fresh (Nat.le_refl _))⟩
 exact⟨by rw[List.length_append];exact hz,_,r1.append r2,IsTup.new _ _⟩
end
def ixN (n:Nat)(i:Int):Option Nat:=if 0<=i then (if i<n then some i.toNat else none) else if -(n:Int)<=i then some (i+n).toNat else none
def atI {α:Type}(xs:List α)(i:Int):Option α:=(ixN xs.length i).bind fun j=>xs[j]?
theorem ixN_seq {n:Nat}{i:Int}{j:Nat}(h:ixN n i=some j):seqIndex? i n=some j/\j<n /\ -(n:Int)<=i/\i<n:=by
 unfold ixN at h
 by_cases h0:0<=i
 ·rw[if_pos h0]at h
  by_cases h1:i<n
  ·rw[if_pos h1]at h
   have e:i.toNat=j:=Option.some.inj h
   exact⟨by rw[seqIndex_of h0 h1,e],by omega,by omega,h1⟩
  ·rw[if_neg h1]at h;cases h
 ·rw[if_neg h0]at h
  by_cases h1:-(n:Int)<=i
  ·rw[if_pos h1]at h
   have e:(i+n).toNat=j:=Option.some.inj h
   exact⟨by rw[seqIndex_neg (by omega) h1,e],by omega,h1,by omega⟩
  ·rw[if_neg h1]at h;cases h
theorem atI_get {α:Type}{xs:List α}{i:Int}{v:α}(h:atI xs i=some v):∃ j,seqIndex? i xs.length=some j/\xs[j]?=some v/\j<xs.length /\ -(xs.length:Int)<=i/\i<xs.length:=by
 unfold atI at h
 cases e:ixN xs.length i with
 | none=>rw[e]at h;cases h
 | some j =>
  rw[e]at h
  obtain⟨h1,h2,h3,h4⟩:=ixN_seq e
  exact⟨j,h1,h,h2,h3,h4⟩
theorem atI_nat {α:Type}{xs:List α}{j:Nat}{v:α}(h:xs[j]?=some v):atI xs (j:Int)=some v:=by
 have hj:j<xs.length:=(List.getElem?_eq_some_iff.mp h).1
 have e:ixN xs.length (j:Int)=some j:=by
  unfold ixN
  rw[if_pos (by omega),if_pos (by omega)];simp
 unfold atI;rw[e];exact h
def PlainIx (b:Expr):Prop:=∀ o i,subscripted b false o i=operate [o,i] (getItem o i)
def IxR (X:Cx)(r:R2):Prop:=
 ∀ (value slice:Expr) (pins:List (Addr × Obj)) (s:Shared) (σ:St) (H:Hp) (x y:V) (v u:Value) (Q:VK),Inv X pins σ H s->RelV x v->RelV y u->r x y H Q ->
  subscripted slice false v u=operate [v,u] (getItem v u)->wpAny (model X.prog X.w) X.A (subscriptTail value slice v u) (EP X pins σ Q) X.xe s
def MtR (X:Cx)(id:String)(r:V->List V->Hp->VK->Prop):Prop:=
 ∀ (pins:List (Addr × Obj)) (s:Shared) (σ:St) (H:Hp) (x:V) (xs:List V) (v:Value) (us:List Value) (Q:VK),Inv X pins σ H s->RelV x v->Vals xs us->r x xs H Q ->
  wpAny (model X.prog X.w) X.A (call (.builtin id) (v::us)) (EP X pins σ Q) X.xe s
section
variable {X:Cx} {a b:Expr} {ta tb:TE} {pos:Pos}
theorem IxR.or {r r':R2}(h:IxR X r)(h':IxR X r'):IxR X (fun x y H Q=>r x y H Q\/r' x y H Q):=by
 intro value slice pins s σ H x y v u Q I rx ry q hs
 rcases q with q | q
 ·exact h value slice pins s σ H x y v u Q I rx ry q hs
 ·exact h' value slice pins s σ H x y v u Q I rx ry q hs
theorem pe_ix {r:R2}(hr:IxR X r)(ha:PE X a ta)(hb:PE X b tb)(hs:PlainIx b):PE X (.Subscript a b pos) (tOp r ta tb):=by
 intro pins s σ H Q I h
 exact Subscript_ (binT ha hb I h fun v u s2 x y H2 I2 rx ry q=>hr a b pins s2 σ H2 x y v u Q I2 rx ry q (hs _ _))
def rIxL (K:W.Frag):R2:=fun x y H Q=>∃ p xs i v,x=.ref p/\y=.int i/\SqL K H p xs/\atI xs i=some v/\Q v H
def rIxT (K:W.Frag):R2:=fun x y H Q=>∃ p xs i v,x=.ref p/\y=.int i/\SqT K H p xs/\atI xs i=some v/\Q v H
def rIxS:R2:=fun x y H Q=>∃ z i c,x=.str z/\y=.int i/\z.length<=sizeLine/\atI z.cps.toList i=some c/\Q (.str ⟨#[c]⟩) H
theorem ix_list:IxR X (rIxL X.K):=by
 intro value slice pins s σ H x y v u Q I rx ry h hs
 obtain⟨p,xs,i,z,rfl,rfl,hq,he,q⟩:=h
 cases rx
 obtain⟨t,rfl⟩:=ry
 obtain⟨its,r,pl,hz⟩:=I.list hq
 obtain⟨j,h1,h2,h3,h4,h5⟩:=atI_get he
 obtain⟨w,ew,rw'⟩:=r.get h2
 have hl:=r.length
 have hn:=line63
 have fin:EP X pins σ Q w s:=⟨z,H,I,rw',q⟩
 by_cases h0:0<=i
 ·have hj:i.toNat=j:=by
   rw[seqIndex_of h0 h5]at h1
   exact Option.some.inj h1
  exact item_listR pl.isList h0 (by omega) (by rw[hj];simpa using ew) fin hs
 ·have hj:(i+(its.toArray.size:Int)).toNat=j:=by
   rw[seqIndex_neg (by omega) h4]at h1
   rw[List.size_toArray,<- hl]
   exact Option.some.inj h1
  exact subscriptTail_builtinR (x:=w) pl.isList.typeIs slot_list_getitem.lookup
   (wpAny_getItem_list_neg (Q:=fun r s'=>r=w/\EP X pins σ Q r s') pl.isList (by omega) (by rw[List.size_toArray]<;>omega) (by omega) (by rw[hj];simpa using ew) ⟨rfl,fin⟩) hs
theorem ix_tup:IxR X (rIxT X.K):=by
 intro value slice pins s σ H x y v u Q I rx ry h hs
 obtain⟨p,xs,i,z,rfl,rfl,hq,he,q⟩:=h
 cases rx
 obtain⟨t,rfl⟩:=ry
 obtain⟨its,r,pl,hz⟩:=I.tuple hq
 obtain⟨j,h1,h2,h3,h4,h5⟩:=atI_get he
 obtain⟨w,ew,rw'⟩:=r.get h2
 have hl:=r.length
 have hn:=line63
 have fin:EP X pins σ Q w s:=⟨z,H,I,rw',q⟩
 exact subscriptTail_builtinR (x:=w) pl.typeIs slot_tuple_getitem.lookup
  (getItem_tuple (j:=j) (Q:=fun r s'=>r=w/\EP X pins σ Q r s') pl (by omega) (by omega) (by rw[List.size_toArray,<- hl];exact h1) (by simpa using ew) ⟨rfl,fin⟩) hs
theorem ix_str:IxR X rIxS:=by
 intro value slice pins s σ H x y v u Q I rx ry h hs
 obtain⟨z,i,c,rfl,rfl,hz,he,q⟩:=h
 obtain⟨t,rfl⟩:=rx
 obtain⟨t',rfl⟩:=ry
 obtain⟨j,h1,h2,h3,h4,h5⟩:=atI_get he
 have hl:z.cps.toList.length=z.length:=by simp[Str.length]
 rw[hl]at h1 h4 h5
 have hn:=line63
 exact tail_any (typeIs_str s z t) slot_str_getitem.lookup (getItem_str (c:=c) (by
  have e1:decide (i < -(2 ^ 63:Int))=false:=decide_eq_false (by omega)
  have e2:decide (i≥2 ^ 63)=false:=decide_eq_false (by omega)
  rw[e1,e2,Bool.or_false]) (by rw[h1];simpa using h2) ⟨.str ⟨#[c]⟩,H,I.tok _,⟨_,rfl⟩,q⟩) hs
def rIx (K:W.Frag):R2:=fun x y H Q=>rIxL K x y H Q\/rIxT K x y H Q\/rIxS x y H Q
theorem ix_seq:IxR X (rIx X.K):=ix_list.or (ix_tup.or ix_str)
theorem mapSeq_set (its:List Value)(n j:Nat)(u:Value):Obj.mapSeq (·.setIfInBounds j u) { cls:=.type "list",data:=.seq its.toArray n }={ cls:=.type "list",data:=.seq (its.set j u).toArray n }:=by
 simp[Obj.mapSeq]
theorem Inv.lst {pins:List (Addr × Obj)}{σ:St}{H:Hp}{s:Shared}{p:Addr}{xs:List V}(I:Inv X pins σ H s)(h:H p=some (.lst xs)) :
  ∃ (its:List Value) (n:Nat),Vals xs its/\s.heap.get? p=some { cls:=.type "list",data:=.seq its.toArray n }/\xs.length<=sizeLine:=by
 obtain⟨z,its,n,r,e⟩:=I.hok p _ h
 exact⟨its,n,r,e,z⟩
theorem Inv.lstUpd {pins:List (Addr × Obj)}{σ:St}{H:Hp}{s:Shared}{p:Addr}{xs ys:List V}{its its':List Value}{n n':Nat}{f:Obj->Obj}(I:Inv X pins σ H s)(h:H p=some (.lst xs))
  (ho:s.heap.get? p=some { cls:=.type "list",data:=.seq its.toArray n })(hf:f { cls:=.type "list",data:=.seq its.toArray n }={ cls:=.type "list",data:=.seq its'.toArray n' })(r:Vals ys its')(hz:ys.length<=sizeLine)(t:Nat) :
  Inv X pins σ (upd H p (.lst ys)) { s with heap:=s.heap.update p f,toks:=t }:=by
 have e:(s.heap.update p f).get? p=some { cls:=.type "list",data:=.seq its'.toArray n' }:=by
  rw[Heap.get?_update_self f ho (by rw[hf]<;>rfl),hf]
 refine I.write (x:=p) (e:=p) (by rw[h];trivial) (.inl rfl) (fun b u hb q=>(Heap.get?_update_other _ _ (Ne.symm hb)).trans q) ⟨_,e⟩ ?_
 exact⟨hz,its',n',r,e⟩
def rSetL:V->V->V->Hp->(Hp->Prop)->Prop:=fun o i v H Q=>∃ p xs k j,o=.ref p/\i=.int k/\H p=some (.lst xs)/\ixN xs.length k=some j/\Q (upd H p (.lst (xs.set j v)))
theorem set_list:PSet X rSetL:=by
 intro pins s σ H o i v ov iv u Q I ro ri rv h
 obtain⟨p,xs,k,j,rfl,rfl,hp,hj,q⟩:=h
 cases ro
 obtain⟨t,rfl⟩:=ri
 obtain⟨its,n,r,ho,hz⟩:=I.lst hp
 obtain⟨h1,h2,h3,h4⟩:=ixN_seq hj
 have hl:=r.length
 have hn:=line63
 have I':Inv X pins σ (upd H p (.lst (xs.set j v))) { s with heap:=s.heap.update p (Obj.mapSeq (·.setIfInBounds j u)) }:=
  I.lstUpd hp ho (mapSeq_set its n j u) (r.set rv j) (by rw[List.length_set];exact hz) s.toks
 by_cases h0:0<=k
 ·have hk:k.toNat=j:=by
   rw[seqIndex_of h0 h4]at h1
   exact Option.some.inj h1
  exact PySem.W.ki_setAt ho h0 (by omega) (by rw[List.size_toArray,<- hl];exact h4) (by rw[hk];exact⟨_,I',q⟩)
 ·have hk:(k+(its.toArray.size:Int)).toNat=j:=by
   rw[seqIndex_neg (by omega) h3]at h1
   rw[List.size_toArray,<- hl]
   exact Option.some.inj h1
  exact PySem.W.ki_setBack ho (by omega) (by rw[List.size_toArray,<- hl];exact h3) (by omega) (by rw[hk];exact⟨_,I',q⟩)
theorem slice_bounds (lo hi:Option Int)(n:Nat):(sliceBounds lo hi none n).1=((HT.sIx n 0 lo:Nat):Int)/\(sliceBounds lo hi none n).2.1=((HT.sIx n n hi:Nat):Int)/\(sliceBounds lo hi none n).2.2=1:=by
 refine⟨?_,?_,rfl⟩
 ·cases lo with
  | none=>simp[sliceBounds,HT.sIx]
  | some i =>
   simp only[sliceBounds,HT.sIx,Option.getD_none,show (1:Int) > 0 by decide,if_true]
   by_cases h:i<0
   ·simp only[h,if_true]<;>omega
   ·simp only[h,if_false]<;>omega
 ·cases hi with
  | none=>simp[sliceBounds,HT.sIx]
  | some i =>
   simp only[sliceBounds,HT.sIx,Option.getD_none,show (1:Int) > 0 by decide,if_true]
   by_cases h:i<0
   ·simp only[h,if_true]<;>omega
   ·simp only[h,if_false]<;>omega
theorem slicePick_cut (its:List Value)(lo hi:Option Int):slicePick its.toArray lo hi none=((its.drop (HT.sIx its.length 0 lo)).take (HT.sIx its.length its.length hi - HT.sIx its.length 0 lo)).toArray:=by
 obtain⟨h1,h2,h3⟩:=slice_bounds lo hi its.toArray.size
 unfold slicePick
 rw[h1,h2,h3]
 simp only[sliceRange_one,pick_run,List.size_toArray]<;>rfl
def rSlL (K:W.Frag):V->Option Int->Option Int->Hp->VK->Prop:=fun x lo hi H Q=>∃ a xs,x=.ref a/\SqL K H a xs/\∀ p,H p=none->Q (.ref p) (upd H p (.lst (cutV xs lo hi)))
theorem sl_list:SlR X (rSlL X.K):=by
 intro pins s σ H x v vl vu lo hi sl Q I rx hs pl pu h
 obtain⟨a,xs,rfl,hx,q⟩:=h
 cases rx
 obtain⟨its,r,ht,hz⟩:=I.list hx
 have hlen:=r.length
 refine⟨"list",_,slot_list_getitem.lookup,ht.isList.typeIs,?_⟩
 refine wpAny_getItem_list_slice ht.isList hs pl pu .none (by simp) ?_ (by rw[List.size_toArray]<;>omega)
 rw[slicePick_cut,<- hlen]
 refine⟨.ref s.heap.objs.size,_,I.laid (t':=s.toks) (o:=.lst (cutV xs lo hi)) (fun b ob q=>Heap.get?_push_of_some _ q) (Nat.le_refl _) ?_,rfl,q _ (I.hok.fresh (Nat.le_refl _))⟩
 exact⟨Nat.le_trans (cutV_length xs lo hi) hz,_,0,(r.drop (HT.sIx xs.length 0 lo)).take (HT.sIx xs.length xs.length hi - HT.sIx xs.length 0 lo),Heap.get?_push_size _ rfl⟩
theorem call_len_seq:CallR X (.builtin "len") (fun xs H Q=>∃ p ys,xs=[.ref p]/\(SqL X.K H p ys\/SqT X.K H p ys)/\Q (.int ys.length) H):=by
 intro pins s σ H xs us Q I r h
 obtain⟨p,ys,rfl,hq,q⟩:=h
 obtain⟨u,rfl,rx⟩:=vals1 r
 cases rx
 have hn:=line63
 rcases hq with hq | hq
 ·obtain⟨its,r',pl,hz⟩:=I.list hq
  have hlen:=r'.length
  exact Calls.call_len_list pl.isList (by simp only[List.size_toArray]<;>omega) ⟨.int ys.length,H,I.tok _,⟨s.toks+1,by rw[List.size_toArray,hlen]⟩,q⟩
 ·obtain⟨its,r',pl,hz⟩:=I.tuple hq
  have hlen:=r'.length
  exact len_tuple pl (by simp only[List.size_toArray]<;>omega) ⟨.int ys.length,H,I.tok _,⟨s.toks+1,by rw[List.size_toArray,hlen]⟩,q⟩
theorem call_list_of:CallR X (.type "list") (fun xs H Q=>∃ p ys,xs=[.ref p]/\(SqL X.K H p ys\/SqT X.K H p ys)/\∀ l,H l=none->Q (.ref l) (upd H l (.lst ys))):=by
 intro pins s σ H xs us Q I r h
 obtain⟨p,ys,rfl,hq,q⟩:=h
 obtain⟨u,rfl,rx⟩:=vals1 r
 cases rx
 have fin:∀ (its:List Value),Vals ys its->ys.length<=sizeLine->∀ (h':Heap) (c':Nat),(∀ b o',s.heap.get? b=some o'->h'.get? b=some o') ->
   h'.get? s.heap.objs.size=some { cls:=.type "list",dict:=none,data:=.seq its.toArray c',slots:=#[] }->EP X pins σ Q (.ref s.heap.objs.size) { s with heap:=h' }:=fun its r' hz h' c' kp e =>
  ⟨.ref s.heap.objs.size,_,I.laid (t':=s.toks) kp (Nat.le_refl _) (show ObjOk X.prog X.w _ h' _ (.lst ys) from ⟨hz,its,c',r',e⟩),rfl,q _ (I.hok.fresh (Nat.le_refl _))⟩
 rcases hq with hq | hq
 ·obtain⟨its,r',pl,hz⟩:=I.list hq
  have hlen:=r'.length
  obtain⟨o,ho,hc,n,hd⟩:=pl.isList
  exact call_list_seq p (.inl rfl) ho hc hd (fun h' c' kp e=>fin its r' hz h' c' kp e) (by simp only[List.size_toArray]<;>omega)
 ·obtain⟨its,r',pl,hz⟩:=I.tuple hq
  have hlen:=r'.length
  obtain⟨o,ho,hc,n,hd⟩:=pl
  exact call_list_seq p (.inr rfl) ho hc hd (fun h' c' kp e=>fin its r' hz h' c' kp e) (by simp only[List.size_toArray]<;>omega)
theorem call_tuple_of:CallR X (.type "tuple") (fun xs H Q=>∃ p ys,xs=[.ref p]/\((SqL X.K H p ys/\∀ l,H l=none->Q (.ref l) (upd H l (.tup ys)))\/(SqT X.K H p ys/\Q (.ref p) H))):=by
 intro pins s σ H xs us Q I r h
 obtain⟨p,ys,rfl,h⟩:=h
 obtain⟨u,rfl,rx⟩:=vals1 r
 cases rx
 rcases h with⟨hq,q⟩ | ⟨hq,q⟩
 ·obtain⟨its,r',pl,hz⟩:=I.list hq
  have hlen:=r'.length
  refine call_tuple_list pl.isList (fun h' kp=>?_) (by simp only[List.size_toArray]<;>omega)
  have I1:Inv X pins σ H { s with heap:=h' }:=I.kept (t':=s.toks) kp
  have I2:Inv X pins σ (upd H h'.objs.size (.tup ys)) { s with heap:=h'.push { cls:=.type "tuple",data:=.seq its.toArray } } :=
   I1.laid (t':=s.toks) (fun b o e=>Heap.get?_push_of_some _ e) (Nat.le_refl _) (show ObjOk X.prog X.w _ _ _ (.tup ys) from ⟨hz,its,r',IsTup.new _ _⟩)
  exact⟨.ref h'.objs.size,_,I2,rfl,q _ (I1.hok.fresh (Nat.le_refl _))⟩
 ·obtain⟨its,r',pl,hz⟩:=I.tuple hq
  exact call_tuple_same pl ⟨.ref p,H,I,rfl,q⟩
def tyV (K:W.Frag)(T:String)(x:V)(H:Hp):Prop:=match x with
 | .str _=>T="str"
 | .int _=>T="int"
 | .ref p=>(T="list"/\∃ xs,SqL K H p xs)\/(T="tuple"/\∃ o,K.lookup p=some o/\o.cls=.type "tuple"/\o.dict=none) \/
   (T="dict"/\((∃ kvs,H p=some (.dK kvs))\/∃ kvs,H p=some (.dT kvs)))\/(T="set"/\∃ S n,H p=some (.set S n))
 | _=>False
theorem tyV_is {pins:List (Addr × Obj)}{σ:St}{H:Hp}{s:Shared}{T:String}{x:V}{v:Value}(I:Inv X pins σ H s)(r:RelV x v)(ty:tyV X.K T x H) :
  s.TypeIs v T/\∀ a,v=.ref a->∃ ob,s.heap.get? a=some ob/\ob.dict=none:=by
 cases x with
 | str z =>
  obtain⟨t,rfl⟩:=r
  cases (show T="str" from ty)
  exact⟨typeIs_str s z t,fun _ e=>nomatch e⟩
 | int i =>
  obtain⟨t,rfl⟩:=r
  cases (show T="int" from ty)
  exact⟨typeIs_int s i t,fun _ e=>nomatch e⟩
 | ref p =>
  cases r
  rcases ty with⟨rfl,xs,hq⟩ | ⟨rfl,o,hk,hc,hd⟩ | ⟨rfl,hk⟩ | ⟨rfl,S,n,hk⟩
  ·obtain⟨its,_,pl,_⟩:=I.list hq
   refine⟨pl.isList.typeIs,fun a e=>?_⟩
   cases e
   obtain⟨o,n,e,c,hd,_⟩:=pl
   exact⟨o,e,hd⟩
  ·refine⟨⟨o,I.kIn p o hk,hc⟩,fun a e=>?_⟩
   cases e
   exact⟨o,I.kIn _ o hk,hd⟩
  ·have z:∃ o,s.heap.get? p=some o/\o.ExactDict:=by
    rcases hk with⟨kvs,hk⟩ | ⟨kvs,hk⟩
    ·obtain⟨_,_,_,_,o,_,_,e,ex,_⟩:=I.hok p _ hk
     exact⟨o,e,ex⟩
    ·obtain⟨_,_,_,_,o,_,_,e,ex,_⟩:=I.hok p _ hk
     exact⟨o,e,ex⟩
   obtain⟨o,e,ex⟩:=z
   refine⟨⟨o,e,ex.1⟩,fun a e2=>?_⟩
   cases e2
   exact⟨o,e,ex.2.1⟩
  ·obtain⟨o,_,_,_,e,ex,_⟩:=I.hok p _ hk
   refine⟨⟨o,e,ex.1⟩,fun a e2=>?_⟩
   cases e2
   exact⟨o,e,ex.2.1⟩
 | _=>exact False.elim ty
def tBM (K:W.Frag)(T:String)(r:V->List V->Hp->VK->Prop)(to:TE)(t:TA):TE:=fun σ H Q=>to σ H fun x H1=>tyV K T x H1/\t σ H1 fun xs H2=>r x xs H2 Q
variable {o e:Expr} {es:List Expr} {to:TE} {t:TA} {name:Str} {apos cpos:Pos} {T id:String} {r:V->List V->Hp->VK->Prop}
theorem pe_bm (pa:PlainAttrs T) (slot:Slot T name id) (hty:typeOf (.builtin id)=pure (.type "method_descriptor")) (hm:MtR X id r) (ho:PE X o to) (ha:PA X (e::es) t)
  (hbase:attributeBase o name X.env (eval o X.env)=eval o X.env:=by rfl)
  (hfew : ((backTo cpos (starEach (e :: es) X.env)).all (fun x => !x.1) && (backToKw cpos (keywordEach [] X.env)).all (fun x => x.1.isSome)
   && decide ((e::es).length+([]:List Keyword).length+(if ([]:List Keyword).isEmpty then 0 else 1)<30))=true:=by rfl)
  (hline:(apos.endLine == cpos.line)=true:=by rfl) (hs:starEach (e::es) X.env=(false,eval e X.env)::starEach es X.env:=by rfl) (hplain:(backTo cpos (starEach es X.env)).any (·.1)=false:=by rfl) :
  PE X (.Call (.Attribute o name apos) (e::es) [] cpos) (tBM X.K T r to t):=by
 intro pins s σ H Q I h
 refine wpAny_Call_method_late hbase hfew hline rfl (thn (ho pins s σ H _ I h) fun v s1 ⟨x,H1,I1,r1,ty,q1⟩=>?_)
 obtain⟨h1,h2⟩:=tyV_is I1 r1 ty
 refine⟨T,id,pa,slot,hty,h1,h2,?_⟩
 have hA:=ha cpos pins s1 σ H1 _ I1 q1
 rw[hs]at hA ⊢
 refine Calls.callWith_builtin (by show (false || (backTo cpos (starEach es X.env)).any (·.1))=false;rw[hplain]<;>rfl) (Calls.evalArgs_plain ?_)
 exact thn hA fun us s2 ⟨vs,H2,I2,r2,q2⟩=>hm pins s2 σ H2 x vs v us Q I2 r1 r2 q2
/- xs.append(e),list.index on a module's tuple .. are MtR facts of 06m -/
end
def MtM (X:Cx)(id:String)(r:V->List V->Hp->VK->Prop):Prop:=
 ∀ (pins:List (Addr × Obj)) (s:Shared) (σ:St) (H:Hp) (x:V) (xs:List V) (v:Value) (us:List Value) (Q:VK),Inv X pins σ H s->RelV x v->Vals xs us->r x xs H Q ->
  wpAny (model X.prog X.w) X.A (call (.builtin id) (v::us)) (EP X pins σ Q) X.xe s
theorem Vals.one:∀ {x:V} {us:List Value},Vals [x] us->∃ u,us=[u]/\RelV x u
 | _,_,.cons r .nil=>⟨_,rfl,r⟩
theorem Vals.two:∀ {x y:V} {us:List Value},Vals [x,y] us->∃ u v,us=[u,v]/\RelV x u/\RelV y v
 | _,_,_,.cons r (.cons q .nil)=>⟨_,_,rfl,r,q⟩
theorem Vals.rep {xs:List V}{us:List Value}(h:Vals xs us):∀ k:Nat,Vals (List.replicate k xs).flatten (List.replicate k us).flatten
 | 0=>.nil
 | k+1=>by
  rw[List.replicate_succ,List.replicate_succ,List.flatten_cons,List.flatten_cons]
  exact Vals.append h (Vals.rep h k)
theorem foldl_rep (its:List Value):∀ (k:Nat) (acc:List Value),
  List.foldl (fun x1 x2=>x1++x2) acc.toArray (List.replicate k its.toArray)=(acc++(List.replicate k its).flatten).toArray
 | 0,acc=>by simp
 | k+1,acc=>by
  have e:acc.toArray++its.toArray=(acc++its).toArray:=by simp
  have e2:(acc++its)++(List.replicate k its).flatten=acc++(List.replicate (k+1) its).flatten:=by
   rw[List.replicate_succ,List.flatten_cons,List.append_assoc]
  rw[<- e2,<- foldl_rep its k (acc++its),<- e,List.replicate_succ,List.foldl_cons]
section
variable {X:Cx} {pins:List (Addr × Obj)} {σ:St} {H:Hp} {s:Shared} {l b:Addr} {xs ys zs:List V}
theorem Inv.lset {its its':List Value}{n:Nat}{f:Array Value->Array Value}{t':Nat}(I:Inv X pins σ H s)(hH:H l=some (.lst xs))
  (e:s.heap.get? l=some { cls:=.type "list",data:=.seq its.toArray n })(hf:f its.toArray=its'.toArray)(hv:Vals ys its')(hz:ys.length<=sizeLine) :
  Inv X pins σ (upd H l (.lst ys)) { s with heap:=s.heap.update l (Obj.mapSeq f),toks:=t' }:=by
 have q:=PySem.IsL.update e f
 rw[hf]at q
 refine I.write (x:=l) (e:=l) (by rw[hH];exact trivial) (.inl rfl) (fun b' u hb hu=>(Heap.get?_update_other s.heap (Obj.mapSeq f) (Ne.symm hb)).trans hu) ⟨_,q⟩ ?_
 exact⟨hz,its',_,hv,q⟩
theorem Inv.lnew {its:List Value}{t':Nat}(I:Inv X pins σ H s)(hv:Vals ys its)(hz:ys.length<=sizeLine) :
  Inv X pins σ (upd H s.heap.objs.size (.lst ys)) { s with heap:=s.heap.push { cls:=.type "list",data:=.seq its.toArray },toks:=t' } :=
 I.laid (fun _ _ q=>Heap.get?_push_of_some _ q) (Nat.le_refl _) ⟨hz,its,0,hv,Heap.get?_push_size _ rfl⟩
theorem Inv.fresh (I:Inv X pins σ H s):H s.heap.objs.size=none:=I.hok.fresh (Nat.le_refl _)
theorem Inv.lstM (I:Inv X pins σ H s)(hH:H l=some (.lst xs)):xs.length<=sizeLine/\∃ (its:List Value) (n:Nat),Vals xs its/\xs.length=its.length/\s.heap.get? l=some { cls:=.type "list",data:=.seq its.toArray n }:=by
 obtain⟨z,its,n,r,e⟩:=I.hok l _ hH
 exact⟨z,its,n,r,r.length,e⟩
theorem notLongL {n:Nat}(h:n<=sizeLine):Builtin.List.listTooLong n=false:=by
 unfold Builtin.List.listTooLong
 exact decide_eq_false (by omega)
end
section
variable {X:Cx}
def rAppend:V->List V->Hp->VK->Prop:=fun x vs H Q=>∃ l xs y,x=.ref l/\vs=[y]/\H l=some (.lst xs)/\xs.length<sizeLine/\Q .non (upd H l (.lst (xs++[y])))
theorem mt_append:MtM X "list.append" rAppend:=by
 intro pins s σ H x vs v us Q I rx rv h
 obtain⟨l,xs,y,rfl,rfl,hH,hz,q⟩:=h
 cases rx
 obtain⟨u,rfl,ru⟩:=rv.one
 obtain⟨z,its,n,r,hl,e⟩:=I.lstM hH
 refine call_meets F.slot_list_append ⟨_,e,rfl⟩ F.entry_list_append (F.args_list_append_2 _ _) (PySem.list_append l its.toArray n u (by rw[List.size_toArray];omega)) ⟨e,?_⟩
 refine⟨.non,_,I.lset (its':=its++[u]) hH e (by simp) (r.append (.cons ru .nil)) ?_,rfl,q⟩
 rw[List.length_append,List.length_singleton]
 omega
def rCat:R2:=fun x y H Q=>∃ l b xs zs,x=.ref l/\y=.ref b/\H l=some (.lst xs)/\H b=some (.lst zs)/\xs.length+zs.length<=sizeLine/\∀ p,H p=none->Q (.ref p) (upd H p (.lst (xs++zs)))
theorem op_cat:OpR X (binaryOp .Add) rCat:=by
 intro pins s σ H x y v u Q I rx ry h
 obtain⟨l,b,xs,zs,rfl,rfl,hH,hB,hz,q⟩:=h
 cases rx
 cases ry
 obtain⟨z,its,n,r,hl,e⟩:=I.lstM hH
 obtain⟨z2,its2,n2,r2,hl2,e2⟩:=I.lstM hB
 refine PySem.P.add_list e e2 ?_ (by rw[List.size_toArray,List.size_toArray];omega)
 have ea:its.toArray++its2.toArray=(its++its2).toArray:=by simp
 rw[ea]
 exact⟨.ref _,_,I.lnew (t':=s.toks) (r.append r2) (by rw[List.length_append];omega),rfl,q _ I.fresh⟩
def rRep:R2:=fun x y H Q=>∃ l k xs,x=.ref l/\y=.int k/\H l=some (.lst xs) /\ -(2 ^ 63)<=k/\k<2 ^ 63/\xs.length*k.toNat<=sizeLine /\
 ∀ p,H p=none->Q (.ref p) (upd H p (.lst (List.replicate k.toNat xs).flatten))
theorem len_rep {α:Type}(xs:List α)(k:Nat):(List.replicate k xs).flatten.length=k*xs.length:=by
 induction k with
 | zero=>simp
 | succ k ih=>rw[List.replicate_succ,List.flatten_cons,List.length_append,ih,Nat.succ_mul,Nat.add_comm]
theorem op_rep:OpR X (binaryOp .Mult) rRep:=by
 intro pins s σ H x y v u Q I rx ry h
 obtain⟨l,k,xs,rfl,rfl,hH,h1,h2,hz,q⟩:=h
 cases rx
 obtain⟨t,rfl⟩:=ry
 obtain⟨z,its,n,r,hl,e⟩:=I.lstM hH
 have hlen:its.toArray.size*k.toNat<=sizeLine:=by rw[List.size_toArray,<- hl];exact hz
 have hcap:¬ its.toArray.size*k.toNat > (2 ^ 63 - 1) / 8:=by
  have:(sizeLine:Nat)<=(2 ^ 63 - 1) / 8:=by decide
  omega
 have hfit:¬ (!Builtin.List.listFitsIndex k)=true:=by
  rw[fitsIndex_both h1 h2]
  exact Bool.false_ne_true
 have hlong:¬ Builtin.List.listTooLong (its.toArray.size*k.toNat)=true:=by
  rw[notLongL hlen]
  exact Bool.false_ne_true
 have hnew:List.foldl (fun x1 x2=>x1++x2) #[] (List.replicate (if its.toArray.isEmpty=true then 0 else k.toNat) its.toArray)=(List.replicate k.toNat its).flatten.toArray:=by
  have f0:∀ m:Nat,List.foldl (fun x1 x2=>x1++x2) #[] (List.replicate m its.toArray)=(List.replicate m its).flatten.toArray:=fun m=>by
   have:=foldl_rep its m []
   rw[List.nil_append]at this
   exact this
  rw[f0]
  cases its with
  | nil=>simp
  | cons a r'=>rw[if_neg (by simp)]
 refine wpAny_binaryOp_repeat_ref (T:="list") (U:="int") (by decide) ⟨_,e,rfl⟩ (fun s'=>typeIs_int s' k t) noFill_list_mul F.fills_int_mul F.slot_int_rmul repeat_list F.slot_int_index.lookup
  (call_meets F.slot_int_rmul (typeIs_int s k t) F.entry_int_rmul (F.args_int_rmul_2 _ _) (int___rmul___int_list k t l its.toArray n)
   ⟨e,rfl,⟨_,e,rfl⟩,call_meets F.slot_list_mul ⟨_,e,rfl⟩ F.entry_list_mul (F.args_list_mul_2 _ _) (AutoListH.list___mul___list_int_3 l its.toArray n k t hfit hcap hlong) ⟨e,?_⟩⟩)
 rw[hnew]
 exact⟨.ref _,_,I.lnew (t':=s.toks) (r.rep k.toNat) (by rw[len_rep,Nat.mul_comm];exact hz),rfl,q _ I.fresh⟩
end
section
variable {prog:Program} {w:World} {A:Around} {E:Value->Shared->Prop} {s:Shared}
end
section
variable {X:Cx}
end
end L2
namespace Att
open PySem PySem.W PySem.Calls PyProof.Rows
theorem ints_of_wellAll {P:Params}{h:Heap}:∀ (ns:List Int) (vs:List Value),WellAll P h vs (ns.map WData.int)->IntsAre vs ns:=by
 intro ns
 induction ns with
 | nil =>
  intro vs w
  rw[List.map_nil]at w
  cases w
  exact .nil
 | cons n ns ih =>
  intro vs w
  rw[List.map_cons]at w
  cases w with
  | cons a b =>
   cases a
   exact .cons _ _ (ih _ b)
theorem script_of {l:OpenLaw}{n:Nat}(hn:l.most=some n){P:Params}{h:Heap}{args:List WData}{vals:List Value}
  (hpre:l.row.toRowW.claim.pre args=true)(hwl:WellAll P h vals args) :
  ∃ a vs ns,vals=[Value.ref a]/\args=[WData.list (ns.map WData.int)]/\h.get? a=some { cls:=.type "list",data:=.seq vs.toArray }/\IntsAre vs ns/\ns.length<=n:=by
 have hsh:WShape.hasAll [] args [.list .int]=true:=(pre_splitW hpre).1
 have hc:l.pre.holds [] { args:=args }=true:=(pre_splitW hpre).2
 obtain⟨d,r,rfl,h1,h2⟩:=hasAllW_cons hsh
 obtain rfl:=hasAllW_nil h2
 obtain⟨xs,rfl,h3⟩:=hasW_list h1
 obtain⟨ns,rfl⟩:=items_int h3
 have hlen:ns.length<=n:=by
  unfold OpenLaw.pre at hc
  have h4:(WTm.not (.lt (.lit (.int (n:Int))) (.len (.arg 0)))).holds [] { args:=[.list (ns.map .int)] }=true:=by
   have h4:=(holds_andW hc).1
   rw[hn]at h4
   exact h4
  have h5:=condW_of h4 (w_not (w_lt w_lit (w_len_list (w_arg rfl))))
  rw[List.length_map]at h5
  refine Nat.le_of_not_lt fun q=>?_
  have q':(n:Int)<((ns.length:Nat):Int):=by omega
  first
   | (rw[decide_eq_true q']at h5;exact absurd h5 (by decide))
   | (simp at h5;omega)
 cases hwl with
 | cons w1 w2 =>
  cases w2
  cases w1 with
  | list ho hall=>exact⟨_,_,ns,rfl,rfl,ho,ints_of_wellAll ns _ hall,hlen⟩
theorem post_true (l:OpenLaw)(args:List WData):l.row.toRowW.claim.post args (.bool true) args=true:=
 postW_of (r:=l.row.toRowW) (X:=(true == true))
  (show WShape.has [] (.bool true) .bool=true by first | rfl | decide | simp[WShape.has,WShape.arms,WShape.armsAll])
  (show (WTm.eq .res (.lit (.bool true))).value [] { args:=args,res:=some (.bool true),after:=args }=some (.bool (true == true)) from w_eq_bool (w_res rfl) w_lit) rfl
theorem attach_call {l:OpenLaw} {n:Nat} {q:Program} {loose:List Str} {XP:(Str->Option Value)->Heap->Prop} {YP:World->Heap->Prop} {d:DefRec}
  (hn:l.most=some n) (hdf:d.params.defaults=[])
  (call : ∀ (w : World) (s₀ s₁ : Shared) (mg mb : Str -> Option Value) (fa : Addr) (o : Obj) (pm cd doc : Value) (a : Addr) (vs : List Value) (ns : List Int),
   Ground q loose [] XP w s₀ mg mb s₁.heap->YP w s₁.heap ->
   s₁.heap.get? fa=some o->o.data=.func (docDef d.name d.params d.body d.scope pm cd doc)->s₁.heap.CodeRec cd d.name->mg d.name=some (.ref fa) ->
   s₁.heap.get? a=some { cls:=.type "list",data:=.seq vs.toArray }->IntsAre vs ns->ns.length<=n->s₁.gens=#[] ->
   codeAny (model l.prog w) callerA (.call (.ref fa) ⟨[.ref a],[]⟩) (fun r s'=>r=.ok (.ret (.bool true))/\OldK s₁.heap s'.heap/\s'.os=s₁.os/\AllBare s'.gens) s₁) :
  WalkO q loose XP YP l.row.toRowW d [] (fun f vs=>PySem.call f vs):=by
 intro w s₀ s₁ mg mb G Y fa o pm cd doc dV kV ho hd hcd hD hmg hg args vals as hpre hlay hrd hwl hlo
 obtain rfl:dV=.none:=Dflts.none hD hdf
 obtain rfl:kV=.none:=Dflts.noKw hD
 obtain⟨a,vs,ns,rfl,rfl,hobj,hints,hlen⟩:=script_of hn hpre hwl
 refine enter_call (codeAny_mono (call w s₀ s₁ mg mb fa o pm cd doc a vs ns G Y ho (fd_plain hd) hcd hmg hobj hints hlen hg) fun r s' hq=>?_)
 obtain⟨rfl,h2,h3,h4⟩:=hq
 exact⟨.inl ⟨.bool true,.bool true,[],rfl,fun _=>rfl,.bool true,post_true l _,fun _=>⟨List.Pairwise.nil,fun _ hm=>(nomatch hm)⟩⟩,h2,h3,h4⟩
section
variable {prog:Program} {w:World} {A:Around} {E:Value->Shared->Prop} {s:Shared} {K:Frag}
end
end Att
namespace L2
open PySem PySem.Spec PyProof.Rows
theorem vals_ints:∀ {vs:List Value} {ns:List Int},IntsAre vs ns->Vals (ns.map V.int) vs
 | _,_,.nil=>.nil
 | _,_,.cons n t h=>.cons ⟨t,rfl⟩ (vals_ints h)
def Only (H:Hp):Prop:=∀ b,H b=none\/∃ o xs,H b=some (.frz o (.lst xs))
theorem law_call {P:Program}{w:World}{K:W.Frag}{mg mb:Str->Option Value}{CX:CXT}{k:Nat}{fa a:Addr}{fd:FuncData}{x:Str}{sp:Sp}{s₁:Shared}{vs:List Value}{ns:List Int}
  (KX:K.In s₁.heap)(hns:s₁.heap.Ns mainGlobals mg)(hb:s₁.heap.Ns builtinsNs mb)(hbb:∀ x:Str,x≠"__name__"->mb x=bootBuiltins x)(hlim:s₁.heap.NoLimit)(hg:s₁.gens=#[])
  (ha:s₁.heap.get? a=some { cls:=.type "list",data:=.seq vs.toArray })(hi:IntsAre vs ns)(hl:ns.length<=sizeLine)(hr:Room k callerA)
  (F:∀ base:Heap,K.In base->base.Ns mainGlobals mg->FnOk P w K mg base CX k fa fd [x] sp)(hbind:∀ (s:Shared) (u:Value),BindsTo s fd ⟨[u],[]⟩ [(x,u)])
  (hsp:∀ H:Hp,Only H->SqL K H a (ns.map V.int)->sp [.ref a] H (fun v _=>v=.bl true) fun _ _ _=>False)
  (hCX:∀ H e s',CX [] H s₁ (fun _ _ _=>False) e s'->False) :
  codeAny (model P w) callerA (.call (.ref fa) ⟨[.ref a],[]⟩) (fun r s'=>r=.ok (.ret (.bool true))/\OldK s₁.heap s'.heap/\s'.os=s₁.os/\AllBare s'.gens) s₁:=by
 have rv:=vals_ints hi
 have lenV:=hi.length
 have core:∀ H:Hp,Only H->SqL K H a (ns.map V.int)->HOk P w H s₁.heap->(∀ b,H b≠none->b=a)->(H a≠none->K.lookup a=none) ->
   codeAny (model P w) callerA (.call (.ref fa) ⟨[.ref a],[]⟩) (fun r s'=>r=.ok (.ret (.bool true))/\OldK s₁.heap s'.heap/\s'.os=s₁.os/\AllBare s'.gens) s₁:=by
  intro H hO hS hok hA hK
  have base_of:∀ {b:Addr} {o:Obj},s₁.heap.get? b=some o->H b=none->(hidT s₁.heap H).get? b=some o:=fun e n=>hidT_get e n
  have noA:∀ {b:Addr} {o:Obj} {es:Array DictEntry} {ep:Nat},s₁.heap.get? b=some o->o.data=.dict es ep->H b=none:=fun {b o es ep} e d=>by
   cases q:H b with
   | none=>rfl
   | some u =>
    have e':b=a:=hA b (by rw[q];simp)
    subst e'
    rw[ha]at e;cases e
    have d':Data.seq vs.toArray _=Data.dict es ep:=d
    cases d'
  have nsK:∀ {b:Addr} {m:Str->Option Value},s₁.heap.Ns b m->(hidT s₁.heap H).Ns b m:=fun {b m} ⟨o,es,ep,e,d,r⟩=>⟨o,es,ep,base_of e (noA e d),d,r⟩
  have hKb:K.In (hidT s₁.heap H):=fun b o e=>base_of (KX b o e) (by
   cases q:H b with
   | none=>rfl
   | some u =>
    have e':b=a:=hA b (by rw[q];simp)
    subst e'
    rw[hK (by rw[q];simp)]at e;cases e)
  have hM:Mod K mg (hidT s₁.heap H):=⟨hKb,nsK hns,⟨mb,nsK hb,hbb⟩,let ⟨mc,h1,h2⟩:=hlim;⟨mc,nsK h1,h2⟩⟩
  have e0:Env0 P w K mg (hidT s₁.heap H) callerA [] s₁ H:=⟨rfl,hM,fun b o e=>of_hidT e,Nat.le_of_eq (hidT_size _ _),trivial,fun b hb=>absurd (show b∈([]:List Addr) from hb) (by simp),hok,.of_eq hg⟩
  refine codeAny_mono ((F _ hKb (nsK hns)).run callerA [] s₁ H ⟨[.ref a],[]⟩ [.ref a] [.ref a] _ _ hr e0 (hbind s₁ (.ref a)) (.cons rfl .nil) (hsp H hO hS)) fun r s' h=>?_
  cases r with
  | error e=>exact(hCX H e s' h).elim
  | ok fl =>
   cases fl with
   | next=>exact False.elim h
   | brk=>exact False.elim h
   | cont=>exact False.elim h
   | ret u =>
    obtain⟨v,H',os,bare,un,hok',r',q⟩:=h
    have q':v=.bl true:=q
    subst q'
    obtain rfl:u=Value.bool true:=r'
    refine⟨rfl,OldK.of_keep fun b o e=>?_,os,bare⟩
    cases q:H b with
    | none=>exact un.keep b o e q (by intro z;exact absurd (show b∈([]:List Addr) from z) (by simp)) (by simp)
    | some u =>
     rcases hO b with z | ⟨ob,xs,z⟩
     ·rw[q]at z;cases z
     ·have z2:=un.frzs b ob _ z
      obtain⟨e1,_⟩:=hok b _ z
      obtain⟨e2,_⟩:=hok' b _ z2
      rw[e]at e1;cases e1
      exact e2
 cases hk:K.lookup a with
 | some o =>
  have e:=KX a o hk
  rw[ha]at e
  cases e
  refine core (fun _=>none) (fun _=>.inl rfl) (.inr ⟨_,vs.toArray,_,hk,rfl,rfl,rfl,by rw[List.size_toArray,lenV];exact hl,by simpa using rv⟩) (fun b u z=>by have z':(none:Option HO)=some u:=z;cases z') (fun b z=>absurd rfl z) fun z=>absurd rfl z
 | none =>
  refine core (fun b=>if b=a then some (.frz { cls:=.type "list",data:=.seq vs.toArray } (.lst (ns.map V.int))) else none) (fun b=>?_) (.inl (.inr ⟨{ cls:=.type "list",data:=.seq vs.toArray },if_pos rfl⟩)) (fun b u z=>?_) (fun b z=>?_) fun _=>hk
  ·by_cases hb:b=a
   ·exact .inr ⟨_,_,if_pos hb⟩
   ·exact .inl (if_neg hb)
  ·by_cases hb:b=a
   ·have z':=(if_pos hb).symm.trans z
    cases z'
    subst hb
    exact⟨ha,by rw[List.length_map];exact hl,vs,_,rv,ha⟩
   ·have z':=(if_neg hb).symm.trans z
    cases z'
  ·by_cases hb:b=a
   ·exact hb
   ·exact absurd (if_neg hb) z
theorem walk_of {l:PySem.W.OpenLaw} {n k:Nat} {q:Program} {loose:List Str} {XP:(Str->Option Value)->Heap->Prop} {YP:World->Heap->Prop} {d:DefRec} {K:Params->PySem.W.Frag} {CX:World->CXT} {sp:World->Sp} {x:Str}
  (hn:l.most=some n) (hn2:n<=sizeLine) (hdf:d.params.defaults=[]) (hr:Room k callerA)
  (hY:∀ (w:World) (h:Heap),YP w h->(K w.params).In h)
  (F : ∀ (w : World) (mg : Str -> Option Value) (fa : Addr) (h : Heap), (K w.params).In h -> h.Ns mainGlobals mg -> mg d.name = some (.ref fa) ->
   ∃ fd:FuncData,(∀ (s:Shared) (u:Value),BindsTo s fd ⟨[u],[]⟩ [(x,u)]) /\
    ∀ base:Heap,(K w.params).In base->base.Ns mainGlobals mg->FnOk l.prog w (K w.params) mg base (CX w) k fa fd [x] (sp w))
  (hsp:∀ (w:World) (H:Hp) (a:Addr) (ns:List Int),ns.length<=n->Only H->SqL (K w.params) H a (ns.map V.int)->sp w [.ref a] H (fun v _=>v=.bl true) fun _ _ _=>False)
  (hCX:∀ (w:World) (H:Hp) (s:Shared) (e:Value) (s':Shared),CX w [] H s (fun _ _ _=>False) e s'->False) :
  PySem.W.WalkO q loose XP YP l.row.toRowW d [] (fun f vs=>PySem.call f vs):=by
 refine Att.attach_call hn hdf fun w s₀ s₁ mg mb fa o pm cd doc a vs ns G Y ho hd hcd hmg hobj hints hlen hg=>?_
 have KX:=hY w _ Y
 obtain⟨fd,hb,hF⟩:=F w mg fa _ KX G.T.g hmg
 exact law_call KX G.T.g G.T.b G.T.builtins G.T.nolimit hg hobj hints (Nat.le_trans hlen hn2) hr hF hb (fun H hO hS=>hsp w H a ns hlen hO hS) fun H e s'=>hCX w H s₁ e s'
end L2
namespace L2
open PySem PySem.Spec PyProof.Rows
def defArgs (s:Stmt):Arguments:=match s with
 | .FunctionDef _ a _ _ _ _ _ _ _ _=>a
 | _=>{ posonlyargs:=[],args:=[],vararg:=none,kwonlyargs:=[],kw_defaults:=[],kwarg:=none,defaults:=[] }
def defBody (s:Stmt):List Stmt:=match s with
 | .FunctionDef _ _ b _ _ _ _ _ _ _=>b
 | _=>[]
def defScope (s:Stmt):Scope:=match s with
 | .FunctionDef _ _ _ _ _ _ sc _ _ _=>sc
 | _=>{ kind:=.function,names:=[],isGenerator:=false,isCoroutine:=false }
abbrev CX0:CXT:=fun _ _ _ _ _ _=>False
abbrev E0:XK:=fun _ _ _=>False
theorem pass0 {X:Cx}:Passes CX0 X E0:=fun _ _ _ _ _ _ _ h=>h.elim
structure Fun (K:W.Frag) (x qual:Str) (st:Stmt) (f:Addr) (fd:FuncData):Prop where
 ex:∃ (oc:Value) (od:Option Addr) (kV doc pm:Value) (an:Option Addr) (cdv ct:Value) (osl:Array (Option Value)),
  fd=PySem.W.fnOf x qual (defArgs st) (defBody st) (defScope st) .none kV doc pm an cdv ct/\K.lookup f=some ⟨oc,od,.func fd,osl⟩/\PySem.W.codeIn K cdv qual=true
 kp:PySem.W.keepIn K (.ref f)=true
section
variable {P:Program} {w:World} {K:W.Frag} {mg:Str->Option Value} {base:Heap}
theorem Fun.ok {x qual:Str} {st:Stmt} {f:Addr} {fd:FuncData} {N ps:List Str} {k:Nat} {sp:Sp} (F:Fun K x qual st f fd) (S:FnScope N ps (defScope st)) (len:∀ vs H Q E,sp vs H Q E->vs.length=ps.length)
  (hbody : ∀ (cdv : Value) (A : Around) (outer : List Env) (s : Shared) (H : Hp) (vs : List V) (Q : VK) (E : XK), Room k (A.deeper (envOfC qual (defScope st) s.heap.objs.size f cdv)) -> sp vs H Q E ->
   ∃ t,PSs (cxOf CX0 P w K mg base N qual (defScope st) f cdv A outer s H E).nox (defBody st) t/\t { nx:=fun _ H'=>Q .non H',rt:=Q } (start N vs) H):FnOk P w K mg base CX0 (k+1) f fd ps sp:=by
 obtain⟨oc,od,kV,doc,pm,an,cdv,ct,osl,rfl,lk,hcd⟩:=F.ex
 refine fn_of lk hcd S len fun A outer s H vs Q E hr hsp=>?_
 obtain⟨t,h,q⟩:=hbody cdv A outer s H vs Q E hr hsp
 exact⟨t,h.nox,q⟩
theorem Fun.binds {x qual:Str}{st:Stmt}{f:Addr}{fd:FuncData}{ps:List Str}(F:Fun K x qual st f fd)
  (h:∀ (kV doc pm:Value) (an:Option Addr) (cdv ct:Value) (us:List Value),us.length=ps.length->bindArgs (PySem.W.fnOf x qual (defArgs st) (defBody st) (defScope st) .none kV doc pm an cdv ct) ⟨us,[]⟩=pure (ps.zip us)):Binds K fd ps []:=by
 obtain⟨oc,od,kV,doc,pm,an,cdv,ct,osl,rfl,lk,hcd⟩:=F.ex
 exact .all (h kV doc pm an cdv ct)
theorem fun_mk {x qual:Str}{st:Stmt}{f:Addr}{oc:Value}{od an:Option Addr}{osl:Array (Option Value)}{kV doc pm cdv ct:Value}(l:K.lookup f=some ⟨oc,od,.func (PySem.W.fnOf x qual (defArgs st) (defBody st) (defScope st) .none kV doc pm an cdv ct),osl⟩)
  (c:PySem.W.codeIn K cdv qual=true)(k:PySem.W.keepIn K (.ref f)=true):Fun K x qual st f (PySem.W.fnOf x qual (defArgs st) (defBody st) (defScope st) .none kV doc pm an cdv ct):=⟨⟨oc,od,kV,doc,pm,an,cdv,ct,osl,rfl,l,c⟩,k⟩
end
section
variable {X:Cx}
theorem pv (i:Nat){x:Str}{pos:Pos}(hN:X.N[i]?=some x:=by rfl)(hv:Vis X.env.scope x:=by first | exact Or.inl rfl | exact Or.inr (Or.inl rfl) | exact Or.inr (Or.inr rfl))(hd:(x == ("__debug__":Str))=false:=by decide)
  (hcd:(x == ("__classdict__":Str))=false:=by decide):PE X (.Name x pos) (tVar i):=pe_var hN hv hd hcd
end
theorem iteF {A B:Prop}(h:B):if false=true then A else B:=by
 rw[if_neg Bool.false_ne_true]
 exact h
theorem iteT {A B:Prop}(h:A):if true=true then A else B:=by
 rw[if_pos rfl]
 exact h
theorem ite2 {c A B:Prop}[Decidable c](h1:c->A)(h2:¬ c->B):if c then A else B:=by
 by_cases h:c
 ·rw[if_pos h]
  exact h1 h
 ·rw[if_neg h]
  exact h2 h
theorem iteNS {c A B:Prop}[Decidable c](hc:c)(h:B):if (!decide c)=true then A else B:=by
 rw[decide_eq_true hc]
 exact iteF h
def Same (H H':Hp):Prop:=∀ b o,H b=some o->H' b=some o
theorem Same.refl (H:Hp):Same H H:=fun _ _ h=>h
theorem Same.trans {H H1 H2:Hp}(a:Same H H1)(b:Same H1 H2):Same H H2:=fun c o h=>b c o (a c o h)
theorem Same.free {H H':Hp}(e:Same H H'){l:Addr}(h:H' l=Option.none):H l=Option.none:=by
 cases q:H l with
 | none=>rfl
 | some o =>
  rw[e l o q]at h
  cases h
theorem Same.seq {K:W.Frag}{H H':Hp}{a:Addr}{xs:List V}(e:Same H H')(h:SqL K H a xs):SqL K H' a xs:=by
 rcases h with(h | ⟨o,h⟩) | h
 ·exact .inl (.inl (e _ _ h))
 ·exact .inl (.inr ⟨o,e _ _ h⟩)
 ·exact .inr h
end L2
namespace Tim
open PySem PyProof.Rows
structure Ord (B:Keyed->Keyed->Bool):Prop where
 irr:∀ x,B x x=false
 tr:∀ x y z,B x y=true->B y z=true->B x z=true
 ng:∀ x y z,B x z=true->B x y=true\/B y z=true
def le (B:Keyed->Keyed->Bool)(x y:Keyed):Prop:=B y x=false
section
variable {prog:Program} {w:World} {A:Around} {E:Value->Shared->Prop} {s:Shared} {κ:SortKind} {S:Keyed->Prop} {B:Keyed->Keyed->Bool}
end
structure MI (R:Keyed->Keyed->Prop) (out ra rb all:List Keyed):Prop where
 so:out.Pairwise R
 oa:∀ x∈out,∀ y∈ra,R x y
 ob:∀ x∈out,∀ y∈rb,R x y
 sa:ra.Pairwise R
 sb:rb.Pairwise R
 pm:(out++(ra++rb)).Perm all
structure Sm (st st':SortSt):Prop where
 k:kindOf st'=kindOf st
 a:arrOf st'=arrOf st
 p:pendingOf st'=pendingOf st
 f:failedOf st'=failedOf st
section
variable {prog:Program} {w:World} {A:Around} {E:Value->Shared->Prop} {s:Shared} {κ:SortKind} {S:Keyed->Prop} {B:Keyed->Keyed->Bool}
structure LoI (B:Keyed->Keyed->Bool) (a b out:Array Keyed) (ia ib:Nat):Prop where
 m:MI (le B) out.toList (a.toList.drop ia) (b.toList.drop ib) (a.toList++b.toList)
 ha:ia+1<a.size
 hb:ib<b.size
 sz:out.size=ia+ib
def Good (B:Keyed->Keyed->Bool)(a b r:Array Keyed):Prop:=r.toList.Pairwise (le B)/\r.toList.Perm (a.toList++b.toList)
end
section
variable {prog:Program} {w:World} {A:Around} {E:Value->Shared->Prop} {s:Shared} {κ:SortKind} {S:Keyed->Prop} {B:Keyed->Keyed->Bool}
abbrev HM (B:Keyed->Keyed->Bool)(a b out:Array Keyed)(na nb:Nat):Prop:=MI (fun x y=>le B y x) out.toList (a.toList.take na).reverse (b.toList.take nb).reverse (a.toList++b.toList)
structure HiI (B:Keyed->Keyed->Bool) (a b out:Array Keyed) (na nb:Nat):Prop where
 m:HM B a b out na nb
 ha:0<na
 ha':na<=a.size
 hb:1<nb
 hb':nb<=b.size
 sz:out.size+na+nb=a.size+b.size
end
section
variable {O:KeyOrd} {f:Keyed->O.α} {d:O.α}
end
structure SI (a₀:Array Keyed) (κ:SortKind) (p:Array (Nat × Nat × Nat)) (st:SortSt):Prop where
 perm:(arrOf st).Perm a₀
 kind:kindOf st=κ
 failed:failedOf st=none
 pend:pendingOf st=p
section
variable {prog:Program} {w:World} {A:Around} {E:Value->Shared->Prop} {s:Shared} {κ:SortKind} {a₀:Array Keyed} {p:Array (Nat × Nat × Nat)} {O:KeyOrd} {f:Keyed->O.α} {d:O.α}
end
def shape (ps:List (Nat × Nat × Nat)):List (Nat × Nat):=ps.map fun x=>(x.1,x.2.1)
def offs:Nat->List (List Keyed)->List (Nat × Nat)
 | _,[]=>[]
 | k,r::rs=>(k,r.length)::offs (k+r.length) rs
structure SR (a₀:Array Keyed) (κ:SortKind) (B:Keyed->Keyed->Bool) (runs:List (List Keyed)) (suf:List Keyed) (st:SortSt):Prop where
 perm:(arrOf st).Perm a₀
 kind:kindOf st=κ
 failed:failedOf st=none
 sh:shape (pendingOf st).toList=offs 0 runs
 ok:∀ r∈runs,r≠[]/\r.Pairwise (le B)
 arr:(arrOf st).toList=runs.flatten++suf
section
variable {prog:Program} {w:World} {A:Around} {E:Value->Shared->Prop} {s:Shared} {κ:SortKind} {a₀:Array Keyed} {B:Keyed->Keyed->Bool}
end
section
variable {prog:Program} {w:World} {A:Around} {E:Value->Shared->Prop} {s:Shared} {κ:SortKind} {a₀:Array Keyed} {O:KeyOrd} {f:Keyed->O.α}
end
end Tim
namespace Tim
open PySem PyProof.Rows PySem.W
def lexB:List Int->List Int->Bool
 | [],[]=>false
 | [],_::_=>true
 | _::_,[]=>false
 | a::x,b::y=>if a=b then lexB x y else decide (a<b)
section
variable {prog:Program} {w:World}
variable {A:Around} {E:Value->Shared->Prop} {s:Shared}
end
end Tim
namespace Sett
open PySem PySem.SetTable
def st (m i pt:Nat):Probe:={ j:=i,more:=runEnd m i - i,i:=i,perturb:=pt,dummy:=none }
def it (t:SetTable):Nat->Probe->Probe
 | 0,p=>p
 | n+1,p=>it t n (t.advance p)
def f5 (m i:Nat):Nat:=(i*5+1) % (m+1)
def Good (m:Nat):Prop:=m=7\/m=31\/m=127\/m=511
def Asc (xs:Array Nat):Prop:=∀ (i j a b:Nat),i<j->xs[i]?=some a->xs[j]?=some b->a<b
abbrev En:=Int × Value
structure Tb (t:SetTable) (es:Array En):Prop where
 dum:t.dummies=#[]
 len:t.place.size=es.size
 asc:Asc t.place
 bnd:∀ (i j:Nat),t.place[i]?=some j->j<=t.mask
 good:Good t.mask
 nf:es.size*5<t.mask*3
 path:∀ (i:Nat) (e:En),es[i]?=some e->∃ n,n<10*turns t.mask/\t.place[i]?=some (it t n (t.probeStart e.1)).j/\∀ k,k<n->∃ i':Nat,t.place[i']?=some (it t k (t.probeStart e.1)).j
structure Tb' (t:SetTable) (es:Array En):Prop where
 dum:t.dummies=#[]
 len:t.place.size=es.size
 asc:Asc t.place
 bnd:∀ (i j:Nat),t.place[i]?=some j->j<=t.mask
 good:Good t.mask
 fil:es.size<=t.mask
 path:∀ (i:Nat) (e:En),es[i]?=some e->∃ n,n<10*turns t.mask/\t.place[i]?=some (it t n (t.probeStart e.1)).j/\∀ k,k<n->∃ i':Nat,t.place[i']?=some (it t k (t.probeStart e.1)).j
structure LI (t:SetTable) (hs:Array Int) (owner:Array (Option Nat)) (k:Nat):Prop where
 size:owner.size=t.mask+1
 lt:∀ (j i:Nat),owner[j]?=some (some i)->i<k
 inj:∀ (j j' i:Nat),owner[j]?=some (some i)->owner[j']?=some (some i)->j=j'
 has:∀ (i:Nat) (h:Int),i<k->hs[i]?=some h->∃ n,n<10*turns t.mask/\owner[(it t n (t.probeStart h)).j]?=some (some i)/\∀ c,c<n->∃ i':Nat,owner[(it t c (t.probeStart h)).j]?=some (some i')
end Sett
namespace Sett
open PySem PySem.SetTable PyProof.Rows
def hp (n:Nat):Nat:=bits (reduceHash (Builtin.Tuple.tupleHashOf [hashInt ((n / 24:Nat):Int),hashInt ((n % 24:Nat):Int)])) % 3708
section
variable {prog:Program} {w:World}
variable {A:Around} {E:Value->Shared->Prop} {s:Shared}
end
section
variable {prog:Program} {w:World} {A:Around} {E:Value->Shared->Prop} {s:Shared}
end
section
variable {prog:Program} {w:World} {A:Around} {E:Value->Shared->Prop} {s:Shared}
end
section
variable {prog:Program} {w:World}
variable {A:Around} {E:Value->Shared->Prop} {s:Shared}
end
end Sett
namespace L2
open PySem PySem.Spec PyProof.Rows
def Tups (K:W.Frag)(H:Hp)(ys:List V)(ks:List (List Int)):Prop:=Paired (fun y k=>∃ a,y=V.ref a/\SqT K H a (k.map V.int)) ys ks
theorem Tups.len {K:W.Frag}{H:Hp}{ys:List V}{ks:List (List Int)}(t:Tups K H ys ks):ys.length=ks.length:=Paired.length t
theorem Tups.get {K:W.Frag}{H:Hp}:∀ {ys:List V} {ks:List (List Int)} {i:Nat} {y:V},Tups K H ys ks->ys[i]?=some y->∃ a k,y=V.ref a/\ks[i]?=some k/\SqT K H a (k.map V.int)
 | _,_,_,_,.nil,e=>by simp at e
 | _,_,0,_,.cons r _,e=>by
  simp at e
  subst e
  obtain⟨a,h1,h2⟩:=r
  exact⟨a,_,h1,rfl,h2⟩
 | _,_,i+1,y,.cons _ t,e=>by
  obtain⟨a,k,h1,h2,h3⟩:=Tups.get (i:=i) (y:=y) t (by simpa using e)
  exact⟨a,k,h1,by simpa using h2,h3⟩
theorem Tups.same {K:W.Frag}{H H':Hp}(hs:∀ b o,H b=some o->H' b=some o):∀ {ys:List V} {ks:List (List Int)},Tups K H ys ks->Tups K H' ys ks
 | _,_,.nil=>.nil
 | _,_,.cons r t=>by
  obtain⟨a,h1,h2⟩:=r
  refine .cons ⟨a,h1,?_⟩ (Tups.same hs t)
  rcases h2 with(h | ⟨o,h⟩) | h
  ·exact .inl (.inl (hs _ _ h))
  ·exact .inl (.inr ⟨o,hs _ _ h⟩)
  ·exact .inr h
theorem Tups.append {K:W.Frag}{H:Hp}:∀ {ys zs:List V} {ks ls:List (List Int)},Tups K H ys ks->Tups K H zs ls->Tups K H (ys++zs) (ks++ls)
 | _,_,_,_,.nil,s=>s
 | _,_,_,_,.cons r t,s=>.cons r (Tups.append t s)
section
variable {X:Cx} {pins:List (Addr × Obj)} {σ:St} {H:Hp} {s:Shared}
end
section
variable {X:Cx}
end
def compCx (X:Cx)(scope:Scope)(cl:List (Str × Addr))(N':List Str)(s₃:Shared)(H₃:Hp)(fp:List Addr)(xe':Value->Shared->Prop):Cx:=
 { X with N:=N',s₀:=s₃,H₀:=H₃,env:=compEnvC scope cl s₃.heap.objs.size X.env,outer:=X.stack,ex:=fp,fn:=fun _=>false,pn:=[],xe:=xe' }
def ClOk (env:Env):List (Str × Addr)->Prop
 | []=>True
 | (x,c)::r=>env.cells.lookup x=some c/\ClOk env r
theorem ClOk.get {env:Env}:∀ {cl:List (Str × Addr)} {x:Str} {c:Addr},ClOk env cl->cl.lookup x=some c->env.cells.lookup x=some c
 | [],_,_,_,h=>by cases h
 | (y,d)::r,x,c,⟨h1,h2⟩,h=>by
  rw[List.lookup_cons]at h
  cases e:x == y with
  | true =>
   rw[e]at h
   cases h
   rw[eq_of_beq e]
   exact h1
  | false =>
   rw[e]at h
   exact ClOk.get h2 h
def FrOk (names:List (Str × NameKind))(cl:List (Str × Addr)):Bool:=names.all fun y=>y.2 != .cell && (y.2 != .free || (cl.lookup y.1).isSome)
theorem lookup_relabel {env:Env}:∀ {names:List (Str × NameKind)} {x:Str} {k:NameKind},(names.map fun(n,k)=>if (k == NameKind.free && env.scope.kind == .function && env.kindOf n == some .cell) then (n,NameKind.cell) else (n,k)).lookup x=some k ->
  ∃ k',(x,k')∈names/\(k'=k\/(k'=.free/\k=.cell))
 | [],_,_,h=>by cases h
 | (n,k0)::r,x,k,h=>by
  rw[List.map_cons]at h
  have hn:∀ k1,(List.lookup x ((n,k1)::r.map fun(n,k)=>if (k == NameKind.free && env.scope.kind == .function && env.kindOf n == some .cell) then (n,NameKind.cell) else (n,k)))=some k->(x=n/\k1=k)\/∃ k',(x,k')∈r/\(k'=k\/(k'=.free/\k=.cell)):=fun k1 h=>by
   rw[List.lookup_cons]at h
   cases e:x == n with
   | true=>rw[e]at h;cases h;exact .inl ⟨eq_of_beq e,rfl⟩
   | false=>rw[e]at h;exact .inr (lookup_relabel h)
  dsimp only at h
  by_cases hc:(k0 == NameKind.free && env.scope.kind == .function && env.kindOf n == some .cell)=true
  ·rw[if_pos hc]at h
   rcases hn _ h with⟨rfl,rfl⟩ | ⟨k',h1,h2⟩
   ·simp only[Bool.and_eq_true]at hc
    have e0:k0=.free:=eq_of_beq hc.1.1
    exact⟨k0,List.mem_cons_self,.inr ⟨e0,rfl⟩⟩
   ·exact⟨k',List.mem_cons_of_mem _ h1,h2⟩
  ·rw[if_neg hc]at h
   rcases hn _ h with⟨rfl,rfl⟩ | ⟨k',h1,h2⟩
   ·exact⟨k0,List.mem_cons_self,.inl rfl⟩
   ·exact⟨k',List.mem_cons_of_mem _ h1,h2⟩
def capt (lk:List (Option Nat))(σ:St):St:=lk.map fun o=>o.bind fun j=>(σ[j]?).join
def LkOk (X:Cx)(N':List Str)(lk:List (Option Nat))(scope:Scope)(cl:List (Str × Addr)):Prop:=
 lk.length=N'.length/\∀ (i j:Nat) (x:Str),N'[i]?=some x->lk[i]?=some (some j)->X.N[j]?=some x/\(X.env.scope.names.lookup x=some .cell\/X.env.scope.names.lookup x=some .free)/\(cl.lookup x).isSome=true /\
  ((compEnvC scope cl 0 X.env).kindOf x=some .cell\/(compEnvC scope cl 0 X.env).kindOf x=some .free)
section
variable {X:Cx}
theorem comp_start {pins:List (Addr × Obj)}{σ:St}{H3:Hp}{s3:Shared}{h1:Heap}{tk:Nat}{scope:Scope}{cl:List (Str × Addr)}{N':List Str}{lk:List (Option Nat)}{fp:List Addr}{xe':Value->Shared->Prop}{m0:Str->Option Value}
  (I:Inv X pins σ H3 s3)(hf:∀ b∈fp,FpOk X pins H3 b)(hkind:scope.kind=.function)(hcl:ClOk X.env cl)(hfr:FrOk scope.names cl=true)(hlk:LkOk X N' lk scope cl)
  (hn:h1.Ns s3.heap.objs.size m0)(hk:∀ b u,s3.heap.get? b=some u->h1.get? b=some u)(hfs:∀ b∈fp,b<s3.heap.objs.size):Inv (compCx X scope cl N' s3 H3 fp xe') [] (capt lk σ) H3 { s3 with heap:=h1,toks:=tk }:=by
 have hC:H3 s3.heap.objs.size=none:=I.hok.fresh (Nat.le_refl _)
 have hmem:∀ y∈scope.names,y.2≠.cell/\(y.2=.free->(cl.lookup y.1).isSome=true):=fun y hy=>by
  unfold FrOk at hfr
  rw[List.all_eq_true]at hfr
  have:=hfr y hy
  rw[Bool.and_eq_true]at this
  refine⟨by simpa using this.1,fun e=>?_⟩
  have h2:=this.2
  rw[e]at h2
  simpa using h2
 have hcell:∀ x c,cl.lookup x=some c->X.env.cells.lookup x=some c:=fun x c e=>hcl.get e
 have clt:∀ x c,cl.lookup x=some c->c<s3.heap.objs.size:=fun x c e=>by
  obtain⟨v,q⟩:=I.cell x c (hcell x c e)
  exact q.lt
 refine⟨⟨I.ok.mod,hkind,I.ok.glob,I.ok.blt,Nat.le_refl _,fun x y c e1 e2=>I.ok.inj x y c (hcell x c e1) (hcell y c e2),fun x hx=>?_,(fun x c e=>by cases e),I.ok.hd,I.ok.frames,.inl rfl,fun b hb=>?_,fun b o e=>I.bs b o e,Nat.le_trans I.ok.bsz I.sz,fun b o e hb=>?_,fun b hb z=>?_,I.stack,I.stkFree⟩,
  rfl,I.bare,Un.kept hk,⟨m0,hn,fun i x v e1 e2 e3=>?_⟩,fun x c e=>?_,hC,fun x c e=>?_,(fun p hp=>nomatch hp),I.hok.kept hk,?_⟩
 ·have hx':(relabel scope X.env).names.lookup x=some .cell\/(relabel scope X.env).names.lookup x=some .free:=hx
  have:∃ k',(x,k')∈scope.names/\k'=.free:=by
   rcases hx' with h | h
   ·obtain⟨k',h1,h2⟩:=lookup_relabel h
    rcases h2 with h2 | h2
    ·exact absurd h2 (hmem _ h1).1
    ·exact⟨k',h1,h2.1⟩
   ·obtain⟨k',h1,h2⟩:=lookup_relabel h
    rcases h2 with h2 | h2
    ·exact⟨k',h1,h2⟩
    ·exact⟨k',h1,h2.1⟩
  obtain⟨k',h1,h2⟩:=this
  exact Option.isSome_iff_exists.mp ((hmem _ h1).2 h2)
 ·obtain⟨f0,f1,f2,f3,f4,f5⟩:=hf b hb
  exact⟨Nat.ne_of_lt (hfs b hb),fun x c e=>f4 x c (hcell x c e)⟩
 ·obtain⟨f0,f1,f2,f3,f4,f5⟩:=hf b hb
  rcases f3 with f3 | f3
  ·exact I.ok.noex b o e f3
  ·exact absurd (Nat.lt_of_lt_of_le (Heap.lt_size e) (Nat.le_trans I.ok.bsz f3)) (Nat.lt_irrefl _)
 ·obtain⟨f0,f1,f2,f3,f4,f5⟩:=hf b hb
  rcases List.mem_cons.mp (I.stkSub b z) with e | e
  ·exact f1 e
  ·exact f2 e
 ·-- a captured name
  have e2':(capt lk σ)[i]?=some (some v):=e2
  unfold capt at e2'
  rw[List.getElem?_map]at e2'
  cases hq:lk[i]? with
  | none=>rw[hq]at e2';cases e2'
  | some o =>
   rw[hq]at e2'
   have e2'':(o.bind fun j=>(σ[j]?).join)=some v:=Option.some.inj e2'
   cases o with
   | none=>cases e2''
   | some j =>
    obtain⟨q1,q2,q3,q4⟩:=hlk.2 i j x e1 hq
    have hσ:σ[j]?=some (some v):=by
     have z:(σ[j]?).join=some v:=e2''
     cases hh:σ[j]? with
     | none=>rw[hh]at z;cases z
     | some o=>rw[hh]at z;rw[show o=some v from z]
    obtain⟨m,hnX,hl⟩:=I.loc
    obtain⟨u,r,lo⟩:=hl j x v q1 hσ (q2.elim (fun a=>.inr (.inl a)) (fun a=>.inr (.inr a)))
    refine⟨u,r,.inr ?_⟩
    obtain⟨c,hc⟩:=Option.isSome_iff_exists.mp q3
    refine⟨q4,c,hc,?_⟩
    have hcX:=hcell x c hc
    rcases lo with⟨k,_⟩ | ⟨_,c',hc',z⟩
    ·have k':X.env.scope.names.lookup x=some .local:=k
     rw[k']at q2
     rcases q2 with q2 | q2<;>cases q2
    ·rw[hcX]at hc'
     cases hc'
     obtain⟨o,ho,hd⟩:=z
     exact⟨o,hk c o ho,hd⟩
 ·obtain⟨v,o,ho,hd⟩:=I.cell x c (hcell x c e)
  exact⟨v,o,hk c o ho,hd⟩
 ·exact I.freeC x c (hcell x c e)
 ·show (capt lk σ).length=N'.length
  unfold capt
  rw[List.length_map]
  exact hlk.1
def PTs (X:Cx)(ifs:List Expr)(t:TT):Prop:=
 ∀ (pins:List (Addr × Obj)) (s:Shared) (σ:St) (H:Hp) (Q:Bool->Hp->Prop),Inv X pins σ H s->t σ H Q->wpAny (model X.prog X.w) X.A (forIn ifs true fun c r=>if r=true then do let ok <- isTrue c X.env (eval c X.env);pure (ForInStep.yield ok) else pure (ForInStep.yield r)) (TP X pins σ Q) X.xe s
def tTrue:TT:=fun _ H Q=>Q true H
theorem pts_nil:PTs X [] tTrue:=fun pins s σ H Q I h=>wpAny_tests_nil ⟨H,I,h⟩
theorem pts_one {c:Expr}{t:TT}(h:PT X c t):PTs X [c] t:=fun pins s σ H Q I q=>wpAny_tests_one (h pins s σ H Q I q)
def tComp (wi:TI)(lk:List (Option Nat))(g:TG)(tt:TT)(te:TE):TE:=fun σ H Q=>wi σ H fun J H1=>∀ D,H1 D=none->∃ W:Nat->Nat->List V->St->Hp->Prop,(∃ m,W 0 m [] (capt lk σ) (upd H1 D (.lst [])))/\∀ i m xs σ' H',W i m xs σ' H' ->
 H' D=some (.lst xs)/\((J.stop i H'/\Q (.ref D) H')\/(J.go i H'/\xs.length<sizeLine/\∀ x H'',J.yld i H' x H''->g x σ' H'' fun σ2 H2=>tt σ2 H2 fun b H3 =>
  if b=true then te σ2 H3 fun v H4=>H4 D=some (.lst xs)/\∃ m',m'<m/\W (i+1) m' (xs++[v]) σ2 (upd H4 D (.lst (xs++[v]))) else ∃ m',m'<m/\W (i+1) m' xs σ2 H3))
theorem pe_comp {elt iter tg:Expr}{ifs:List Expr}{scope:Scope}{pos:Pos}{cl:List (Str × Addr)}{N':List Str}{lk:List (Option Nat)}{wi:TI}{g:TG}{tt:TT}{te:TE}(hc:X.calm=true)(hi:PI X tg iter wi)(hclos:closureFor scope X.env=pure cl)(hkind:scope.kind=.function)
  (hnames:∀ y∈scope.names,y.2=.local->scope.names.lookup y.1=some .local)(hcl:ClOk X.env cl)(hfr:FrOk scope.names cl=true)(hlk:LkOk X N' lk scope cl)
  (hg:∀ s3 H3 fp,PG (compCx X scope cl N' s3 H3 fp fun _ _=>False) tg g)(ht:∀ s3 H3 fp,PTs (compCx X scope cl N' s3 H3 fp fun _ _=>False) ifs tt)(he:∀ s3 H3 fp,PE (compCx X scope cl N' s3 H3 fp fun _ _=>False) elt te)
  (hs:∀ x,foldedSetIterable iter X.env x=pure x:=by intro _;rfl):PE X (.ListComp elt [⟨tg,iter,ifs,0⟩] scope pos) (tComp wi lk g tt te):=by
 intro pins s σ H Q I h
 rw[eval_ListComp]
 have hcellN:∀ y∈scope.names,y.2≠.cell:=fun y hy=>by
  unfold FrOk at hfr
  rw[List.all_eq_true]at hfr
  have:=hfr y hy
  rw[Bool.and_eq_true]at this
  simpa using this.1
 refine wpAny_comprehension_free (use:=none) rfl hs hclos hkind hnames (thn (hi pins s σ H _ I h) fun v s1 h1=>thn h1 fun itv s2 h2=>?_)
 obtain⟨it,fp,tn,J,H2,e,I2,T,st2,f2,q⟩:=h2
 subst e
 refine wpAny_newList ?_ (Nat.zero_le _)
 have hD:H2 s2.heap.objs.size=none:=I2.hok.fresh (Nat.le_refl _)
 have I3:=I2.lnew (ys:=[]) (its:=[]) (t':=s2.toks) .nil (Nat.zero_le _)
 obtain⟨W,⟨m0,w0⟩,turn⟩:=q s2.heap.objs.size hD
 have fpl:∀ b∈fp,b<s2.heap.objs.size:=fun b hb=>by
  obtain⟨o,ho,_⟩:=T.obj 0 s2.heap st2 b hb
  exact Heap.lt_size ho
 refine wpAny_newFunctionEnv hcellN (by intro y hy;cases hy) (fun h1 hns1 hsb1=>?_) hkind
 dsimp only at hns1 hsb1 ⊢
 have e3:s2.heap.push { cls:=.type "list",dict:=none,data:=.seq ([]:List Value).toArray }=s2.heap.push { cls:=.type "list",data:=.seq ([]:List Value).toArray }:=rfl
 generalize hh3:s2.heap.push { cls:=.type "list",dict:=none,data:=.seq ([]:List Value).toArray }=h3 at *
 have I3':Inv X pins σ (upd H2 s2.heap.objs.size (.lst [])) { s2 with heap:=h3,toks:=s2.toks }:=I3
 have size3:h3.objs.size=s2.heap.objs.size+1:=by rw[<- hh3,Heap.size_push]
 have f3:∀ b∈fp,FpOk X pins (upd H2 s2.heap.objs.size (.lst [])) b:=fun b hb=>by
  obtain⟨f0,fr⟩:=f2 b hb
  exact⟨by rw[upd_ne (Nat.ne_of_lt (fpl b hb))];exact f0,fr⟩
 have up:∀ b u,h3.get? b=some u->h1.get? b=some u:=fun b u eb=>by
  rw[hsb1.2 b (Nat.ne_of_lt (Heap.lt_size eb))]
  exact Heap.get?_push_of_some _ eb
 have I4:Inv (compCx X scope cl N' { s2 with heap:=h3,toks:=s2.toks } (upd H2 s2.heap.objs.size (.lst [])) fp fun _ _=>False) [] (capt lk σ) (upd H2 s2.heap.objs.size (.lst [])) { s2 with heap:=h1,toks:=s2.toks+([]:List (Str × Value)).length }:=
  comp_start (s3:={ s2 with heap:=h3,toks:=s2.toks }) I3' f3 hkind hcl hfr hlk hns1 up fun b hb=>by show b<h3.objs.size;rw[size3];exact Nat.lt_succ_of_lt (fpl b hb)
 have st4:tn 0 h1:=T.keep 0 s2.heap h1 st2 fun b hb o eb=>up b o (by rw[<- hh3];exact Heap.get?_push_of_some _ eb)
 have hCs:h3.objs.size=(compEnvC scope cl h3.objs.size X.env).locals:=rfl
 have stat:∀ {H':Hp},(∀ b∈fp,H' b=none)->∀ b∈fp,FpOk (compCx X scope cl N' { s2 with heap:=h3,toks:=s2.toks } (upd H2 s2.heap.objs.size (.lst [])) fp fun _ _=>False) [] H' b:=fun {H'} hn b hb=>by
  obtain⟨f0,f1,f2',f3',f4,f5⟩:=f3 b hb
  refine⟨hn b hb,?_,fun z=>?_,.inl hb,fun x c ex=>f4 x c (hcl.get ex),fun p hp=>nomatch hp⟩
  ·show b≠h3.objs.size
   rw[size3]
   exact Nat.ne_of_lt (Nat.lt_succ_of_lt (fpl b hb))
  ·rcases List.mem_cons.mp (I3'.stkSub b z) with q | q
   ·exact f1 q
   ·exact f2' q
 have fin:∀ (s':Shared) (σ':St) (H':Hp),Inv (compCx X scope cl N' { s2 with heap:=h3,toks:=s2.toks } (upd H2 s2.heap.objs.size (.lst [])) fp fun _ _=>False) [] σ' H' s'->Q (.ref s2.heap.objs.size) H' ->
   compPost (model X.prog X.w) X.A X.xe none (EP X pins σ Q) (.ref s2.heap.objs.size) h3.objs.size (.ok .next) s':=fun s' σ' H' I' q'=>by
  obtain⟨m,hm,_⟩:=id I'.loc
  have I5:Inv X pins σ H' s':=I3'.call' (ch:=fp) I'.os I'.base I'.hok I'.bare fun b hb=>by
   obtain⟨f0,f1,f2',f3',f4,f5⟩:=f3 b hb
   exact⟨f3',f1,f4,f5⟩
  refine⟨m,hm,fun h' hsb=>?_⟩
  refine⟨.ref s2.heap.objs.size,H',?_,rfl,q'⟩
  have hfc:H' h3.objs.size=none:=I'.free
  have hcl1:∀ b o,h3.get? b=some o->b≠h3.objs.size:=fun b o eb=>Nat.ne_of_lt (Heap.lt_size eb)
  obtain⟨h0',g0,d0,t0,o0⟩:=s'
  refine I5.turned (t':=t0) (it:=h3.objs.size) (fun b o hb eb=>(hsb.2 b hb).trans eb) hfc ?_ (.inr I3'.sz) (fun x c ex z=>?_) (fun p hp z=>?_)
  ·exact Nat.ne_of_gt I3'.lt
  ·obtain⟨v',q2⟩:=I3'.cell x c ex
   exact absurd q2.lt (by rw[z];exact Nat.lt_irrefl _)
  ·exact absurd (Heap.lt_size (I3'.pin p hp).1) (by rw[z];exact Nat.lt_irrefl _)
 have loop:∀ s5:Shared,s5={ s2 with heap:=h1,toks:=s2.toks+([]:List (Str × Value)).length } ->
   codeAny (model X.prog X.w) X.A (.compLoop (.ListComp elt [⟨tg,iter,ifs,0⟩] scope pos) 0 (.ref it) (.ref s2.heap.objs.size) (compEnvC scope cl h3.objs.size X.env)) (compPost (model X.prog X.w) X.A X.xe none (EP X pins σ Q) (.ref s2.heap.objs.size) h3.objs.size) s5:=by
  rintro s5 rfl
  refine codeAny_loop rfl (fun n s'=>∃ i xs σ' H',Inv (compCx X scope cl N' { s2 with heap:=h3,toks:=s2.toks } (upd H2 s2.heap.objs.size (.lst [])) fp fun _ _=>False) [] σ' H' s'/\tn i s'.heap/\(∀ b∈fp,H' b=none)/\W i n xs σ' H')
   (fun n s6 hI=>?_) m0 ⟨0,[],capt lk σ,_,I4,st4,fun b hb=>(f3 b hb).1,w0⟩
  obtain⟨i,xs,σ6,H6,I6,st6,fr6,w6⟩:=hI
  show wpAny _ X.A ((compTurn (.ListComp elt [⟨tg,iter,ifs,0⟩] scope pos) 0 (.ref it) (.ref s2.heap.objs.size) (compEnvC scope cl h3.objs.size X.env)).onRaise (fun x=>do noteFrame x (compEnvC scope cl h3.objs.size X.env);theTreesLotGoes x)) _ _ s6
  refine wpAny_noted ?_
  rw[compTurn_list]
  refine wpAny_bind (wpAny_standAt (wpAny_bind ?_))
  obtain⟨hD6,hw⟩:=turn i n xs σ6 H6 w6
  rcases hw with⟨stop,qn⟩ | ⟨go,hlen,step⟩
  ·refine thn (T.done (compCx X scope cl N' { s2 with heap:=h3,toks:=s2.toks } (upd H2 s2.heap.objs.size (.lst [])) fp fun _ _=>False) rfl rfl rfl hc i [] s6 σ6 H6 _ I6 (stat fr6) st6 stop) fun r s7 ⟨hr,I7⟩=>?_
   subst hr
   exact wpAny_pure (fin s7 σ6 H6 I7 qn)
  ·refine thn (T.item (compCx X scope cl N' { s2 with heap:=h3,toks:=s2.toks } (upd H2 s2.heap.objs.size (.lst [])) fp fun _ _=>False) rfl rfl rfl hc i [] s6 σ6 H6 _ I6 (stat fr6) st6 go) fun r s7 ⟨u,hr,h7⟩=>?_
   subst hr
   refine wpAny_bind (thn h7 fun _ s8 ⟨x,H8,I8,r8,y8,st8,fr8⟩=>?_)
   have I8':=I8.pinned (stat fr8) (T.obj _ _ st8)
   refine wpAny_bind (wpAny_mono (hg _ _ _ _ s8 σ6 H8 x u _ I8' r8 (step x H8 y8)) (fun _ s9 ⟨σ9,H9,I9,q9⟩=>?_) (fun _ _ z=>False.elim z))
   refine wpAny_bind (wpAny_mono (ht _ _ _ _ s9 σ9 H9 _ I9 q9) (fun ok s10 ⟨H10,I10,q10⟩=>?_) (fun _ _ z=>False.elim z))
   have again:∀ {σ':St} {H':Hp} {ys:List V} {s':Shared},Inv (compCx X scope cl N' { s2 with heap:=h3,toks:=s2.toks } (upd H2 s2.heap.objs.size (.lst [])) fp fun _ _=>False) ([]++pinsAt fp s8.heap) σ' H' s'->(∃ m',m'<n/\W (i+1) m' ys σ' H') ->
     ∃ m',m'<n/\∃ i xs σ' H',Inv (compCx X scope cl N' { s2 with heap:=h3,toks:=s2.toks } (upd H2 s2.heap.objs.size (.lst [])) fp fun _ _=>False) [] σ' H' s'/\tn i s'.heap/\(∀ b∈fp,H' b=none)/\W i m' xs σ' H':=fun {σ' H' ys s'} I' ⟨m',hm,w'⟩=>by
    refine⟨m',hm,i+1,ys,σ',H',I'.unpinned,T.keep _ _ _ st8 fun b hb o eb=>(I'.pin (b,o) (List.mem_append_right _ (List.mem_append_right _ (mem_pinsAt hb eb)))).1,fun b hb=>?_,w'⟩
    obtain⟨o,eb,_⟩:=T.obj _ _ st8 b hb
    exact(I'.pin (b,o) (List.mem_append_right _ (List.mem_append_right _ (mem_pinsAt hb eb)))).2.1
   cases ok with
   | false =>
    have q10':∃ m',m'<n/\W (i+1) m' xs σ9 H10:=by simpa using q10
    exact wpAny_pure ⟨rfl,again I10 q10'⟩
   | true =>
    rw[if_pos rfl]at q10
    refine wpAny_bind (wpAny_bind (wpAny_mono (he _ _ _ _ s10 σ9 H10 _ I10 q10) (fun y s11 ⟨v11,H11,I11,r11,hD11,q11⟩=>?_) (fun _ _ z=>False.elim z)))
    refine wpAny_bind (wpAny_mono (mt_append (X:=compCx X scope cl N' { s2 with heap:=h3,toks:=s2.toks } (upd H2 s2.heap.objs.size (.lst [])) fp fun _ _=>False) _ s11 σ9 H11 (.ref s2.heap.objs.size) [v11] (.ref s2.heap.objs.size) [y] (fun _ H'=>∃ m',m'<n/\W (i+1) m' (xs++[v11]) σ9 H') I11 rfl (.cons r11 .nil) ⟨s2.heap.objs.size,xs,v11,rfl,rfl,hD11,hlen,q11⟩) (fun _ s12 ⟨_,H12,I12,_,q12⟩=>?_) (fun _ _ z=>False.elim z))
    exact wpAny_pure (wpAny_pure ⟨rfl,again I12 q12⟩)
 exact codeAny_compStart_list (loop _ rfl) (T.self X.A 0 _ _ _ st4 (loop _ rfl))
end
def Itn (K:W.Frag)(a:Addr):It:=
 ⟨fun i H=>∃ xs x,SqL K H a xs/\xs[i]?=some x,fun i H x H'=>∃ t v,H t=none/\x=.ref t/\(∀ xs,SqL K H a xs->xs[i]?=some v)/\H'=upd H t (.tup [.int i,v]),fun i H=>∃ xs,SqL K H a xs/\xs.length<=i⟩
def iEnum (K:W.Frag)(ta:TA):TI:=fun σ H R=>ta σ H fun vs H1=>∃ a,vs=[.ref a]/\(∃ xs,SqL K H1 a xs)/\R (Itn K a) H1
theorem turn_enum {P:Program}{w:World}{K:W.Frag}{elts:List Expr}{x1:Nat}{pos:Pos}(a it e:Addr)(hne:e≠it):Turn P w K (.Tuple elts x1 pos) (Itn K a) [e,it] e (fun i h=>(∃ old,IsEnum h e it (i:Int) old)/\h.IsListIter it a i) where
 mem:=by simp
 obj:=fun i h st b hb=>by
  obtain⟨⟨old,he⟩,o,ho,hc,hd⟩:=st
  rcases List.mem_cons.mp hb with rfl | hb
  ·exact⟨_,he,fun v z=>by cases z⟩
  ·have eb:b=it:=by simpa using hb
   subst eb
   exact⟨o,ho,fun v z=>by rw[hd]at z;cases z⟩
 keep:=fun i h h' st k=>by
  obtain⟨⟨old,he⟩,hit⟩:=st
  exact⟨⟨old,k e (by simp) _ he⟩,hit.at fun o q=>k it (by simp) o q⟩
 item:=by
  intro X hP hw hK hc i pins s σ H E I hf st hg
  subst hP hw hK
  obtain⟨xs,x,hq,hx⟩:=hg
  obtain⟨⟨old,he⟩,hit⟩:=st
  obtain⟨its,rv,p,hz⟩:=I.list hq
  obtain⟨u,hu,ru⟩:=rv.get hx
  obtain⟨f0,f1,f2,f3,f4,f5⟩:=hf e (by simp)
  obtain⟨g0,g1,g2,g3,g4,g5⟩:=hf it (by simp)
  refine wpAny_pyNext_enum_item he hit p.isList (x:=u) (by simpa using hu) hne fun h1 heo hit1 ht1 hz1 hk1=>?_
  refine⟨_,rfl,?_⟩
  refine wpAny_letOwnedTupleGo_enum heo fun h2 he2 hs2=>?_
  have hlt:e<s.heap.objs.size:=Heap.lt_size he
  have hs2':Heap.SameBut e h1 h2:=hs2
  have ht2:h2.get? s.heap.objs.size=some { cls:=.type "tuple",data:=.seq #[.int i s.toks,u] }:=(hs2'.2 _ (Nat.ne_of_gt hlt)).trans ht1
  have kp:∀ b o,b≠e->b≠it->s.heap.get? b=some o->h2.get? b=some o:=fun b o h1' h2' q=>(hs2'.2 b h1').trans (hk1 b o h1' h2' q)
  have hT:H s.heap.objs.size=none:=I.hok.fresh (Nat.le_refl _)
  have nH:∀ b,H b≠none->b≠e/\b≠it:=fun b hb=>⟨fun z=>hb (z ▸ f0),fun z=>hb (z ▸ g0)⟩
  have keepH:∀ b o,H b=some o->upd H s.heap.objs.size (.tup [.int i,x]) b=some o:=fun b o q=>by rw[upd_ne (ne_of_none q hT)];exact q
  have hok2:HOk X.prog X.w (upd H s.heap.objs.size (.tup [.int i,x])) h2:=fun b o eb=>by
   by_cases hb:b=s.heap.objs.size
   ·subst hb
    rw[upd_same]at eb
    cases eb
    exact⟨by show 2<=sizeLine;decide,[.int i s.toks,u],.cons ⟨_,rfl⟩ (.cons ru .nil),⟨_,ht2,rfl,_,rfl⟩⟩
   ·rw[upd_ne hb]at eb
    refine(I.hok b o eb).stay (fun c v hcc q=>kp c v ?_ ?_ q) (fun c q=>keepH c _ q) fun c ys q=>keepH c _ q
    ·rcases hcc with z | z
     ·exact(nH c (by rw[z,eb];simp)).1
     ·exact(nH c (by rw[z];simp)).1
    ·rcases hcc with z | z
     ·exact(nH c (by rw[z,eb];simp)).2
     ·exact(nH c (by rw[z];simp)).2
  have I2:Inv X pins σ (upd H s.heap.objs.size (.tup [.int i,x])) { s with heap:=h2,toks:=s.toks+1 }:=by
   refine I.step (g':=s.gens) (d':=s.drawn) (t':=s.toks+1) (ch:=[e,it]) (fun b hb=>?_) (fun b o _ _ hcc q _=>kp b o (fun z=>hcc (by simp[z])) (fun z=>hcc (by simp[z])) q) (fun b o _ _ hcc q _=>⟨o.slots,kp b o (fun z=>hcc (by simp[z])) (fun z=>hcc (by simp[z])) q⟩) (fun b o _ q n=>?_)
    (fun b o hcc q=>⟨o,kp b o (fun z=>hcc (by simp[z])) (fun z=>hcc (by simp[z])) q⟩) (fun b ys q=>keepH b _ q) (fun b o v q=>keepH b _ q) (fun b ps q=>⟨#[],by rw[keepH b _ q];simp⟩) (fun m hm=>?_) hok2 I.bare
   ·rcases List.mem_cons.mp hb with rfl | hb
    ·exact⟨f3,f1,f4,f5⟩
    ·have eb:b=it:=by simpa using hb
     subst eb
     exact⟨g3,g1,g4,g5⟩
   ·rw[upd_ne (Nat.ne_of_lt (Heap.lt_size q))]
    exact n
   ·obtain⟨o,es,ep,ho,r⟩:=hm
    exact⟨o,es,ep,kp _ o (Ne.symm f1) (Ne.symm g1) ho,r⟩
  have hilt:it<s.heap.objs.size:=by
   obtain⟨o,ho,_⟩:=id hit
   exact Heap.lt_size ho
  refine⟨.ref s.heap.objs.size,_,I2,rfl,⟨s.heap.objs.size,x,hT,rfl,fun ys hy=>by rw[I.list_inj hy hq];exact hx,rfl⟩,⟨⟨u,?_⟩,?_⟩,fun b hb=>?_⟩
  ·have:=he2
   rw[show ((i:Int)+1)=(((i+1:Nat):Int)) by simp]at this
   exact this
  ·exact hit1.at fun o q=>(hs2'.2 it (Ne.symm hne)).trans q
  ·rcases List.mem_cons.mp hb with rfl | hb
   ·rw[upd_ne (Nat.ne_of_lt hlt)];exact f0
   ·have eb:b=it:=by simpa using hb
    subst eb
    rw[upd_ne (Nat.ne_of_lt hilt)]
    exact g0
 done:=by
  intro X hP hw hK hc i pins s σ H E I hf st hg
  subst hP hw hK
  obtain⟨xs,hq,hx⟩:=hg
  obtain⟨⟨old,he⟩,hit⟩:=st
  obtain⟨its,rv,p,hz⟩:=I.list hq
  obtain⟨g0,g1,g2,g3,g4,g5⟩:=hf it (by simp)
  have hl:=rv.length
  exact wpAny_pyNext_enum_end (I.ok.hd hc) he hit p.isList (by simp;omega) fun h' eb=>⟨rfl,I.turned (t':=s.toks) (fun b o hb q=>eb b o hb q) g0 g1 g3 g4 g5⟩
 self:=fun _ _ _ _ _ st h=>by
  obtain⟨⟨old,he⟩,_⟩:=st
  exact wpAny_pyIter_enum he h
section
variable {X:Cx}
theorem pi_enum {a:Expr}{ta:TA}{elts:List Expr}{x1:Nat}{tpos p pos:Pos}(hg:Gl X "enumerate")(hm:X.mg "enumerate"=none)(ha:PA X [a] ta)(hv:bootBuiltins "enumerate"=some (.type "enumerate"):=by rfl)(hs:starEach [a] X.env=[(false,eval a X.env)]:=by rfl) :
  PI X (.Tuple elts x1 tpos) (.Call (.Name "enumerate" p) [a] [] pos) (iEnum X.K ta):=by
 intro pins s σ H R I h
 refine Call_ (ld_blt I hg hm hv (PyProof.Rows.callWith_type1 (thn (ha pos pins s σ H _ I h) fun us s1 ⟨vs,H1,I1,r1,q1⟩=>?_) hs rfl))
 obtain⟨b,e,⟨xs,hq⟩,q⟩:=q1
 subst e
 obtain⟨u,rfl,rx⟩:=vals1 r1
 cases rx
 obtain⟨its,rv,pl,hz⟩:=I1.list hq
 refine call_enumerate_list pl.isList fun h' he hit hsz kp=>?_
 refine wpAny_pyIter_enum he ?_
 have hne:s1.heap.objs.size+1≠s1.heap.objs.size:=Nat.succ_ne_self _
 refine⟨s1.heap.objs.size+1,[s1.heap.objs.size+1,s1.heap.objs.size],_,_,H1,rfl,I1.kept (t':=s1.toks) kp,turn_enum b s1.heap.objs.size (s1.heap.objs.size+1) hne,⟨⟨_,he⟩,hit⟩,fun c hc=>?_,q⟩
 rcases List.mem_cons.mp hc with rfl | hc
 ·exact I1.fpOk (Nat.le_succ _) (I1.hok.fresh (Nat.le_succ _))
 ·have e:c=s1.heap.objs.size:=by simpa using hc
  subst e
  exact I1.fpOk (Nat.le_refl _) (I1.hok.fresh (Nat.le_refl _))
end
theorem for_enum {K:W.Frag}{a:Addr}{xs:List V}{g:TG}{tb:TS}{D:Ends}{σ:St}{H:Hp}(Pv:Nat->St->Hp->Prop)(h0:Pv 0 σ H)(hl:∀ i σ H,i<=xs.length->Pv i σ H->SqL K H a xs)
  (hs:∀ i x t σ H,xs[i]?=some x->Pv i σ H->H t=none->g (.ref t) σ (upd H t (.tup [.int i,x])) fun σ2 H2=>tb { D with nx:=Pv (i+1),ct:=Pv (i+1),bk:=D.nx } σ2 H2)(hd:∀ σ H,Pv xs.length σ H->D.nx σ H) :
  ∃ W:Nat->Nat->St->Hp->Prop,(∃ m,W 0 m σ H)/\∀ i m σ H,W i m σ H ->
   ((Itn K a).stop i H/\D.nx σ H)\/((Itn K a).go i H/\∃ N:St->Hp->Prop,(∀ σ' H',N σ' H'->∃ m',m'<m/\W (i+1) m' σ' H')/\∀ x H',(Itn K a).yld i H x H'->g x σ H' fun σ2 H2=>tb { D with nx:=N,ct:=N,bk:=D.nx } σ2 H2):=by
 refine⟨fun i m σ H=>m=xs.length - i/\i<=xs.length/\Pv i σ H,⟨xs.length,by simp,Nat.zero_le _,h0⟩,?_⟩
 rintro i m σ H ⟨rfl,hi,p⟩
 have q:=hl i σ H hi p
 by_cases hlt:i<xs.length
 ·refine .inr ⟨⟨xs,xs[i],q,by simp[hlt]⟩,Pv (i+1),fun σ' H' p'=>⟨xs.length - (i+1),by omega,rfl,hlt,p'⟩,fun x H' y=>?_⟩
  obtain⟨t,v,ht,e,hv,e'⟩:=y
  subst e e'
  exact hs i v t σ H (hv xs q) p ht
 ·have e:i=xs.length:=by omega
  subst e
  exact .inl ⟨⟨xs,q,Nat.le_refl _⟩,hd σ H p⟩
theorem comp_list {K:W.Frag}{a D:Addr}{ys:List V}{g:TG}{tt:TT}{te:TE}{Qd:Hp->Prop}{σ0:St}{H0:Hp}(Pv:Nat->List V->St->Hp->Prop)(h0:Pv 0 [] σ0 H0)(hz:ys.length<=sizeLine)(hl:∀ i xs σ H,i<=ys.length->Pv i xs σ H->SqL K H a ys/\H D=some (.lst xs)/\xs.length<=i)
  (hs:∀ i xs x σ H (N:List V->St->Hp->Prop),(∀ xs' σ' H',Pv (i+1) xs' σ' H'->N xs' σ' H')->ys[i]?=some x->Pv i xs σ H->g x σ H fun σ2 H2=>tt σ2 H2 fun b H3=>if b=true then te σ2 H3 fun v H4=>H4 D=some (.lst xs)/\N (xs++[v]) σ2 (upd H4 D (.lst (xs++[v]))) else N xs σ2 H3)
  (hd:∀ xs σ H,Pv ys.length xs σ H->Qd H) :
  ∃ W:Nat->Nat->List V->St->Hp->Prop,(∃ m,W 0 m [] σ0 H0)/\∀ i m xs σ' H',W i m xs σ' H'->H' D=some (.lst xs)/\(((Itl K a).stop i H'/\Qd H')\/((Itl K a).go i H'/\xs.length<sizeLine/\∀ x H'',(Itl K a).yld i H' x H''->g x σ' H'' fun σ2 H2=>tt σ2 H2 fun b H3 =>
   if b=true then te σ2 H3 fun v H4=>H4 D=some (.lst xs)/\∃ m',m'<m/\W (i+1) m' (xs++[v]) σ2 (upd H4 D (.lst (xs++[v]))) else ∃ m',m'<m/\W (i+1) m' xs σ2 H3)):=by
 refine⟨fun i m xs σ H=>m=ys.length - i/\i<=ys.length/\Pv i xs σ H,⟨ys.length,by simp,Nat.zero_le _,h0⟩,?_⟩
 rintro i m xs σ H ⟨rfl,hi,p⟩
 obtain⟨q,hD,hx⟩:=hl i xs σ H hi p
 refine⟨hD,?_⟩
 by_cases hlt:i<ys.length
 ·refine .inr ⟨⟨ys,ys[i],q,by simp[hlt]⟩,by omega,fun x H'' y=>?_⟩
  obtain⟨e,y⟩:=y
  subst e
  exact hs i xs x σ _ (fun zs σ' H'=>∃ m',m'<ys.length - i/\m'=ys.length - (i+1)/\i+1<=ys.length/\Pv (i+1) zs σ' H') (fun zs σ' H' r=>⟨_,by omega,rfl,hlt,r⟩) (y ys q) p
 ·have e:i=ys.length:=by omega
  subst e
  exact .inl ⟨⟨ys,q,Nat.le_refl _⟩,hd xs σ H p⟩
mutual
def Dt (K:W.Frag)(H:Hp):PyData->V->Prop
 | .none,v=>v=.non
 | .bool b,v=>v=.bl b
 | .int i,v=>v=.int i
 | .str x,v=>v=.str x
 | .list ds,v=>∃ a xs,v=.ref a/\SqL K H a xs/\DtAll K H ds xs
 | .tuple ds,v=>∃ a xs,v=.ref a/\SqT K H a xs/\DtAll K H ds xs
 | .dict _,_=>False
def DtAll (K:W.Frag)(H:Hp):List PyData->List V->Prop
 | [],xs=>xs=[]
 | d::ds,xs=>∃ y ys,xs=y::ys/\Dt K H d y/\DtAll K H ds ys
end
section
variable {X:Cx} {pins:List (Addr × Obj)} {σ:St} {H:Hp} {s:Shared}
mutual
theorem Dt.reads (I:Inv X pins σ H s):∀ (d:PyData) (v:V) (u:Value),Dt X.K H d v->RelV v u->∃ as,Reads s.heap u d as
 | .none,v,u,h,r=>by unfold Dt at h;subst h;cases r;exact⟨_,.none⟩
 | .bool b,v,u,h,r=>by unfold Dt at h;subst h;cases r;exact⟨_,.bool b⟩
 | .int i,v,u,h,r=>by unfold Dt at h;subst h;obtain⟨t,rfl⟩:=r;exact⟨_,.int i t⟩
 | .str x,v,u,h,r=>by unfold Dt at h;subst h;obtain⟨t,rfl⟩:=r;exact⟨_,.str x t⟩
 | .list ds,v,u,h,r=>by
  unfold Dt at h
  obtain⟨a,xs,rfl,hq,hd⟩:=h
  cases r
  obtain⟨its,rv,⟨o,n,ho,hc,_,hdd⟩,_⟩:=I.list hq
  obtain⟨as,ra⟩:=DtAll.reads I ds xs its hd rv
  exact⟨_,.list ho hc hdd (by simpa using ra)⟩
 | .tuple ds,v,u,h,r=>by
  unfold Dt at h
  obtain⟨a,xs,rfl,hq,hd⟩:=h
  cases r
  obtain⟨its,rv,⟨o,ho,hc,n,hdd⟩,_⟩:=I.tuple hq
  obtain⟨as,ra⟩:=DtAll.reads I ds xs its hd rv
  exact⟨_,.tuple ho hc hdd (by simpa using ra)⟩
 | .dict _,v,u,h,r=>by unfold Dt at h;exact h.elim
theorem DtAll.reads (I:Inv X pins σ H s):∀ (ds:List PyData) (xs:List V) (us:List Value),DtAll X.K H ds xs->Vals xs us->∃ as,ReadsAll s.heap us ds as
 | [],xs,us,h,r=>by unfold DtAll at h;subst h;cases r;exact⟨_,.nil⟩
 | d::ds,xs,us,h,r=>by
  unfold DtAll at h
  obtain⟨y,ys,rfl,h1,h2⟩:=h
  cases r with
  | cons q t =>
   obtain⟨as,ra⟩:=Dt.reads I d y _ h1 q
   obtain⟨bs,rb⟩:=DtAll.reads I ds ys _ h2 t
   exact⟨_,.cons ra rb⟩
end
end
mutual
theorem Dt.same {K:W.Frag}{H H':Hp}(hs:∀ b o,H b=some o->H' b=some o):∀ (d:PyData) (v:V),Dt K H d v->Dt K H' d v
 | .none,v,h=>by unfold Dt at h ⊢;exact h
 | .bool b,v,h=>by unfold Dt at h ⊢;exact h
 | .int i,v,h=>by unfold Dt at h ⊢;exact h
 | .str x,v,h=>by unfold Dt at h ⊢;exact h
 | .list ds,v,h=>by
  unfold Dt at h ⊢
  obtain⟨a,xs,rfl,hq,hd⟩:=h
  refine⟨a,xs,rfl,?_,DtAll.same hs ds xs hd⟩
  rcases hq with(h | ⟨o,h⟩) | h
  ·exact .inl (.inl (hs _ _ h))
  ·exact .inl (.inr ⟨o,hs _ _ h⟩)
  ·exact .inr h
 | .tuple ds,v,h=>by
  unfold Dt at h ⊢
  obtain⟨a,xs,rfl,hq,hd⟩:=h
  refine⟨a,xs,rfl,?_,DtAll.same hs ds xs hd⟩
  rcases hq with(h | ⟨o,h⟩) | h
  ·exact .inl (.inl (hs _ _ h))
  ·exact .inl (.inr ⟨o,hs _ _ h⟩)
  ·exact .inr h
 | .dict _,v,h=>by unfold Dt at h;exact h.elim
theorem DtAll.same {K:W.Frag}{H H':Hp}(hs:∀ b o,H b=some o->H' b=some o):∀ (ds:List PyData) (xs:List V),DtAll K H ds xs->DtAll K H' ds xs
 | [],xs,h=>by unfold DtAll at h ⊢;exact h
 | d::ds,xs,h=>by
  unfold DtAll at h ⊢
  obtain⟨y,ys,rfl,h1,h2⟩:=h
  exact⟨y,ys,rfl,Dt.same hs d y h1,DtAll.same hs ds ys h2⟩
end
theorem DtAll.ints {K:W.Frag}{H:Hp}:∀ (k:List Int),DtAll K H (k.map PyData.int) (k.map V.int)
 | []=>by unfold DtAll;rfl
 | i::k=>by
  rw[List.map_cons,List.map_cons]
  unfold DtAll
  exact⟨_,_,rfl,by unfold Dt;rfl,DtAll.ints k⟩
theorem lay_ints:∀ k:List Int,PyData.canLayAll0 (k.map .int)=true
 | []=>by simp[PyData.canLayAll0]
 | i::k=>by rw[List.map_cons];simp[PyData.canLayAll0,PyData.canLay0,lay_ints k]
section
variable {X:Cx}
def rInD (K:W.Frag)(A:Around)(neg:Bool):R2:=fun x y H Q=>∃ p xs dx ds,y=.ref p/\(SqL K H p xs\/SqT K H p xs)/\Dt K H dx x/\DtAll K H ds xs/\dx.canLay0=true/\PyData.canLayAll0 ds=true/\A.units+1+dx.depth<cLine /\
 Q (.bl (if neg then !ds.any (fun d=>PyData.eqv d dx) else ds.any (fun d=>PyData.eqv d dx))) H
open Classical in
noncomputable def eqTo (h:Heap)(dx:PyData)(v:Value):Bool:=if q:∃ d as,d.canLay0=true/\Reads h v d as then PyData.eqv (Classical.choose q) dx else false
theorem eqTo_eq {h:Heap}{dx d:PyData}{v:Value}{as:List Addr}(hl:d.canLay0=true)(r:Reads h v d as):eqTo h dx v=PyData.eqv d dx:=by
 unfold eqTo
 have q:∃ d as,d.canLay0=true/\Reads h v d as:=⟨d,as,hl,r⟩
 rw[dif_pos q]
 obtain⟨as',h1,h2⟩:=Classical.choose_spec q
 rw[SeqAt.Reads.unique _ _ _ _ _ h1 h2 r]
theorem any_of {h:Heap}{dx:PyData}:∀ {ds:List PyData} {us:List Value} {as:List Addr},PyData.canLayAll0 ds=true->ReadsAll h us ds as->us.any (eqTo h dx)=ds.any (fun d=>PyData.eqv d dx)
 | _,_,_,_,.nil=>rfl
 | d::ds,u::us,_,hl,.cons r t=>by
  have hl':d.canLay0=true/\PyData.canLayAll0 ds=true:=by simpa [PyData.canLayAll0] using hl
  rw[List.any_cons,List.any_cons,eqTo_eq hl'.1 r,any_of hl'.2 t]
theorem mem_reads {h:Heap}:∀ {ds:List PyData} {us:List Value} {as:List Addr} {u:Value},PyData.canLayAll0 ds=true->ReadsAll h us ds as->u∈us->∃ d as,d.canLay0=true/\Reads h u d as
 | _,_,_,_,_,.nil,hu=>by cases hu
 | d::ds,_::us,_,u,hl,.cons r t,hu=>by
  have hl':d.canLay0=true/\PyData.canLayAll0 ds=true:=by simpa [PyData.canLayAll0] using hl
  rcases List.mem_cons.mp hu with rfl | hu
  ·exact⟨d,_,hl'.1,r⟩
  ·exact mem_reads hl'.2 t hu
theorem op_inD:OpR X (compareOp .In) (rInD X.K X.A false):=by
 intro pins s σ H x y v u Q I rx ry h
 obtain⟨p,xs,dx,ds,rfl,hq,h1,h2,h3,h4,h5,q⟩:=h
 cases ry
 obtain⟨bs,rb⟩:=h1.reads I dx x v rx
 have he:∀ (its:List Value) (as:List Addr),ReadsAll s.heap its ds as->∀ y,y∈its.toArray->SeqAt.EqAt X.A.in1 s y v (eqTo s.heap dx y):=fun its as ra y hy=>by
  obtain⟨d,cs,hl,rd⟩:=mem_reads h4 ra (by simpa using hy)
  rw[eqTo_eq hl rd]
  refine SeqAt.eqAt_reads d dx X.A.in1 s y v cs bs rd rb hl h3 ?_
  show X.A.units+1+min d.depth dx.depth<cLine
  omega
 rcases hq with hq | hq
 ·obtain⟨its,rv,pl,hz⟩:=I.list hq
  obtain⟨as,ra⟩:=h2.reads I ds xs its rv
  refine SeqAt.in_listAt (eqTo s.heap dx) pl.isList (he its as ra) ⟨.bl _,H,I,rfl,?_⟩
  rw[List.any_toArray,any_of h4 ra]
  exact q
 ·obtain⟨its,rv,pl,hz⟩:=I.tuple hq
  obtain⟨as,ra⟩:=h2.reads I ds xs its rv
  refine SeqAt.in_tupleAt (eqTo s.heap dx) pl (he its as ra) ⟨.bl _,H,I,rfl,?_⟩
  rw[List.any_toArray,any_of h4 ra]
  exact q
theorem op_notInD:OpR X (compareOp .NotIn) (rInD X.K X.A true):=by
 intro pins s σ H x y v u Q I rx ry h
 obtain⟨p,xs,dx,ds,rfl,hq,h1,h2,h3,h4,h5,q⟩:=h
 cases ry
 obtain⟨bs,rb⟩:=h1.reads I dx x v rx
 have he:∀ (its:List Value) (as:List Addr),ReadsAll s.heap its ds as->∀ y,y∈its.toArray->SeqAt.EqAt X.A.in1 s y v (eqTo s.heap dx y):=fun its as ra y hy=>by
  obtain⟨d,cs,hl,rd⟩:=mem_reads h4 ra (by simpa using hy)
  rw[eqTo_eq hl rd]
  refine SeqAt.eqAt_reads d dx X.A.in1 s y v cs bs rd rb hl h3 ?_
  show X.A.units+1+min d.depth dx.depth<cLine
  omega
 rcases hq with hq | hq
 ·obtain⟨its,rv,pl,hz⟩:=I.list hq
  obtain⟨as,ra⟩:=h2.reads I ds xs its rv
  refine SeqAt.notIn_listAt (eqTo s.heap dx) pl.isList (he its as ra) ⟨.bl _,H,I,rfl,?_⟩
  rw[List.any_toArray,any_of h4 ra]
  exact q
 ·obtain⟨its,rv,pl,hz⟩:=I.tuple hq
  obtain⟨as,ra⟩:=h2.reads I ds xs its rv
  refine SeqAt.notIn_tupleAt (eqTo s.heap dx) pl (he its as ra) ⟨.bl _,H,I,rfl,?_⟩
  rw[List.any_toArray,any_of h4 ra]
  exact q
theorem call_isinst:CallR X (.builtin "isinstance") (fun xs H Q=>∃ x c t b,xs=[x,.ty c]/\TyOf X.K H x t/\PySem.W.kitOne X.K t (.type c)=some b/\Q (.bl b) H):=by
 intro pins s σ H xs us Q I r h
 obtain⟨x,c,t,b,rfl,ty,e,q⟩:=h
 obtain⟨u,v,rfl,ru,rv⟩:=r.two
 cases (show v=Value.type c from rv)
 exact isinst_ok I ru ty e fun tk=>⟨.bl b,H,I.tok _,rfl,q⟩
end
end L2
namespace L2
open PySem PySem.Spec PyProof.Rows
section
variable {X:Cx}
theorem call_sum (hc:X.calm=true):CallR X (.builtin "sum") (fun xs H Q=>∃ (p:Addr) (ns:List Int),xs=[.ref p]/\SqL X.K H p (ns.map V.int)/\Q (.int ns.sum) H):=by
 intro pins s σ H xs us Q I r h
 obtain⟨p,ns,rfl,hq,q⟩:=h
 obtain⟨u,rfl,rx⟩:=vals1 r
 cases rx
 obtain⟨its,r',pl,hz⟩:=I.list hq
 have hi:IntsAre its ns:=intsAre_of r'
 obtain⟨ys,e⟩:=hi.allInts.items
 refine sum_intListG (xs:=ys) (I.ok.hd hc) (by rw[<- e];exact pl.isList) fun h' tk t' hk=>⟨.int ns.sum,H,I.kept (t':=tk) hk,⟨t',?_⟩,q⟩
 have e2:numsOf (intItems ys).toList=ns:=by rw[<- e];exact hi.numsOf
 rw[nums_intItems]at e2
 rw[preSum_eq,List.take_of_length_le (by simp),e2]
end
section
variable {X:Cx}
end
def LkL (X:Cx)(scope:Scope)(cl:List (Str × Addr)):List Str->List (Option Nat)->Prop
 | [],[]=>True
 | _::N,none::lk=>LkL X scope cl N lk
 | x::N,some j::lk=>(X.N[j]?=some x/\(X.env.scope.names.lookup x=some .cell\/X.env.scope.names.lookup x=some .free)/\(cl.lookup x).isSome=true /\
  ((compEnvC scope cl 0 X.env).kindOf x=some .cell\/(compEnvC scope cl 0 X.env).kindOf x=some .free))/\LkL X scope cl N lk
 | _,_=>False
theorem LkL.len {X:Cx}{scope:Scope}{cl:List (Str × Addr)}:∀ {N:List Str} {lk:List (Option Nat)},LkL X scope cl N lk->lk.length=N.length
 | [],[],_=>rfl
 | _::N,none::lk,h=>congrArg (·+1) (LkL.len (N:=N) (lk:=lk) h)
 | _::N,some _::lk,h=>congrArg (·+1) (LkL.len (N:=N) (lk:=lk) h.2)
 | [],_::_,h=>h.elim
 | _::_,[],h=>h.elim
theorem LkL.get {X:Cx}{scope:Scope}{cl:List (Str × Addr)}:∀ {N:List Str} {lk:List (Option Nat)},LkL X scope cl N lk->∀ (i j:Nat) (x:Str),N[i]?=some x->lk[i]?=some (some j) ->
  X.N[j]?=some x/\(X.env.scope.names.lookup x=some .cell\/X.env.scope.names.lookup x=some .free)/\(cl.lookup x).isSome=true/\((compEnvC scope cl 0 X.env).kindOf x=some .cell\/(compEnvC scope cl 0 X.env).kindOf x=some .free)
 | [],[],_,i,j,x,h1,_=>by simp at h1
 | _::N,none::lk,h,0,j,x,h1,h2=>by simp at h2
 | _::N,none::lk,h,i+1,j,x,h1,h2=>LkL.get (N:=N) (lk:=lk) h i j x (by simpa using h1) (by simpa using h2)
 | y::N,some k::lk,h,0,j,x,h1,h2=>by
  simp at h1 h2
  subst h1 h2
  exact h.1
 | _::N,some _::lk,h,i+1,j,x,h1,h2=>LkL.get (N:=N) (lk:=lk) h.2 i j x (by simpa using h1) (by simpa using h2)
 | [],_::_,h,_,_,_,_,_=>h.elim
 | _::_,[],h,_,_,_,_,_=>h.elim
theorem LkL.ok {X:Cx}{scope:Scope}{cl:List (Str × Addr)}{N:List Str}{lk:List (Option Nat)}(h:LkL X scope cl N lk):LkOk X N lk scope cl:=⟨h.len,h.get⟩
theorem tTrue_if {σ:St}{H:Hp}{A B:Hp->Prop}(h:A H):tTrue σ H (fun b H3=>if b=true then A H3 else B H3):=by
 show if true=true then A H else B H
 exact iteT h
theorem gName_to {i:Nat}{v:V}{σ:St}{H:Hp}{Q:St->Hp->Prop}(h:Q (σ.set i (some v)) H):gName i v σ H Q:=h
theorem SqT.updL {K:W.Frag}{H:Hp}{a l:Addr}{xs:List V}{ys zs:List V}(h:SqT K H a ys)(hl:H l=some (.lst xs)):SqT K (upd H l (.lst zs)) a ys:=by
 rcases h with(h | ⟨o,h⟩) | h
 ·exact .inl (.inl (by rw[upd_ne (ne_of h hl (by intro z;cases z))];exact h))
 ·exact .inl (.inr ⟨o,by rw[upd_ne (ne_of h hl (by intro z;cases z))];exact h⟩)
 ·exact .inr h
theorem Tups.updL {K:W.Frag}{H:Hp}{l:Addr}{xs zs:List V}(hl:H l=some (.lst xs)):∀ {ys:List V} {ks:List (List Int)},Tups K H ys ks->Tups K (upd H l (.lst zs)) ys ks
 | _,_,.nil=>.nil
 | _,_,.cons r t=>by
  obtain⟨a,h1,h2⟩:=r
  exact .cons ⟨a,h1,h2.updL hl⟩ (Tups.updL hl t)
theorem Tups.one {K:W.Frag}{H:Hp}{a:Addr}{k:List Int}(h:SqT K H a (k.map V.int)):Tups K H [.ref a] [k]:=.cons ⟨a,rfl,h⟩ .nil
theorem Same.seqT {K:W.Frag}{H H':Hp}{a:Addr}{xs:List V}(e:Same H H')(h:SqT K H a xs):SqT K H' a xs:=by
 rcases h with(h | ⟨o,h⟩) | h
 ·exact .inl (.inl (e _ _ h))
 ·exact .inl (.inr ⟨o,e _ _ h⟩)
 ·exact .inr h
theorem Same.tups {K:W.Frag}{H H':Hp}{ys:List V}{ks:List (List Int)}(e:Same H H')(h:Tups K H ys ks):Tups K H' ys ks:=Tups.same e h
theorem Same.upd {H H':Hp}{l:Addr}{o:HO}(e:Same H H')(h:H l=none):Same H (upd H' l o):=fun b u q=>by
 rw[upd_ne (ne_of_none q h)]
 exact e b u q
end L2
namespace L2
open PySem
theorem gName_eq {i:Nat}{v v':V}{σ:St}{H:Hp}{Q:St->Hp->Prop}(e:v=v')(h:gName i v' σ H Q):gName i v σ H Q:=by
 rw[e]
 exact h
theorem cutV_from (xs:List V)(k:Nat):cutV xs (some (k:Int)) none=xs.drop k:=by
 unfold cutV
 rw[HT.sIx_nat,HT.sIx_none]
 rcases Nat.le_total k xs.length with h | h
 ·rw[Nat.min_eq_left h]
  exact List.take_of_length_le (by rw[List.length_drop];omega)
 ·rw[Nat.min_eq_right h,List.drop_eq_nil_of_le h,List.drop_eq_nil_of_le (Nat.le_refl _)]
  simp
theorem cutV_to (xs:List V)(k:Nat):cutV xs none (some (k:Int))=xs.take k:=by
 unfold cutV
 rw[HT.sIx_nat,HT.sIx_none,List.drop_zero,Nat.sub_zero]
 rcases Nat.le_total k xs.length with h | h
 ·rw[Nat.min_eq_left h]
 ·rw[Nat.min_eq_right h,List.take_of_length_le h,List.take_of_length_le (Nat.le_refl _)]
theorem call_isinstK {X:Cx}(K:W.Frag)(hK:X.K=K):CallR X (.builtin "isinstance") (fun xs H Q=>∃ x c t b,xs=[x,.ty c]/\TyOf K H x t/\PySem.W.kitOne K t (.type c)=some b/\Q (.bl b) H):=by
 subst hK
 exact call_isinst
theorem un_lt1 {u d:Nat}(h:u+64<cLine)(hd:d<=60):u+1+d<cLine:=by omega
theorem Dt.mkInt {K:W.Frag}{H:Hp}{i:Int}:Dt K H (.int i) (.int i):=by unfold Dt;rfl
theorem gName_int {i:Nat}{z:Int}{σ:St}{H:Hp}{Q:St->Hp->Prop}(h:∀ c:Int,c=z->gName i (.int c) σ H Q):gName i (.int z) σ H Q:=h z rfl
theorem int_at {ns:List Int}{i:Nat}{x:V}(h:(ns.map V.int)[i]?=some x):∃ z:Int,x=V.int z:=by
 rw[List.getElem?_map]at h
 cases e:ns[i]? with
 | none=>rw[e]at h;cases h
 | some z=>rw[e]at h;exact⟨z,(Option.some.inj h).symm⟩
theorem cutV_ints (ns:List Int)(lo hi:Option Int):∃ ms:List Int,cutV (ns.map V.int) lo hi=ms.map V.int/\ms.length<=ns.length:=by
 unfold cutV
 rw[<- List.map_drop,<- List.map_take]
 exact⟨_,rfl,by rw[List.length_take,List.length_drop];omega⟩
theorem ixN_nat {n j:Nat}(h:j<n):ixN n (j:Int)=some j:=by
 unfold ixN
 rw[if_pos (by omega),if_pos (by omega)]
 simp
end L2
namespace Web
open PySem L2
def rowF (i m:Nat):List (List Int):=(List.range m).map fun(d:Nat)=>([(i:Int),(i:Int)+1+(d:Int)]:List Int)
def pairsN (n:Nat):List (List Int):=(List.range n).flatMap fun i=>rowF i (n - (i+1))
def Up (n:Nat)(k:List Int):Prop:=∃ i j:Nat,i<j/\j<n/\k=[(i:Int),(j:Int)]
theorem mem_pairs {n:Nat}{k:List Int}(h:k∈pairsN n):Up n k:=by
 unfold pairsN at h
 obtain⟨i,hi,hk⟩:=List.mem_flatMap.mp h
 unfold rowF at hk
 obtain⟨d,hd,rfl⟩:=List.mem_map.mp hk
 rw[List.mem_range]at hi hd
 exact⟨i,i+1+d,by omega,by omega,by simp⟩
def Asc (ks:List (List Int)):Prop:=ks.Pairwise fun a b=>Tim.lexB a b=true
theorem len_pairs:∀ n:Nat,n<=24->(pairsN n).length<=276:=by decide +kernel
theorem pairs_succ (n i:Nat):((List.range (i+1)).flatMap fun j=>rowF j (n - (j+1)))=((List.range i).flatMap fun j=>rowF j (n - (j+1)))++rowF i (n - (i+1)):=by
 rw[List.range_succ,List.flatMap_append]
 simp
theorem rowF_succ (i m:Nat):rowF i (m+1)=rowF i m++[[(i:Int),(i:Int)+1+(m:Int)]]:=by
 unfold rowF
 rw[List.range_succ,List.map_append]
 rfl
theorem len_part (n:Nat):∀ i:Nat,i<=n->((List.range i).flatMap fun j=>rowF j (n - (j+1))).length<=(pairsN n).length:=by
 intro i hi
 unfold pairsN
 obtain⟨d,rfl⟩:=Nat.exists_eq_add_of_le hi
 rw[List.range_add,List.flatMap_append,List.length_append]
 omega
def up:List Int->List Int
 | [a,b]=>[if b<a then b else a,if b > a then b else a]
 | k=>k
def Ends2 (n:Nat)(k:List Int):Prop:=∃ i j:Nat,i<n/\j<n/\i≠j/\k=[(i:Int),(j:Int)]
theorem Up.ends {n:Nat}{k:List Int}(h:Up n k):Ends2 n k:=by
 obtain⟨i,j,h1,h2,rfl⟩:=h
 exact⟨i,j,by omega,h2,by omega,rfl⟩
end Web
namespace L2
open PySem
def Room.around {k:Nat}{A:Around}(_:Room k A):Around:=A
theorem op_inDK {X:Cx}(K:W.Frag)(A:Around)(hK:X.K=K)(hA:X.A=A):OpR X (compareOp .In) (rInD K A false):=by subst hK hA;exact op_inD
theorem op_notInDK {X:Cx}(K:W.Frag)(A:Around)(hK:X.K=K)(hA:X.A=A):OpR X (compareOp .NotIn) (rInD K A true):=by subst hK hA;exact op_notInD
end L2
namespace L2
open PySem PySem.Spec PyProof.Rows
section
variable {X:Cx} {o e:Expr} {es:List Expr} {to:TE} {t:TA} {name:Str} {apos cpos:Pos} {T id:String} {r:V->List V->Hp->VK->Prop}
theorem eqv_intP (p:Int):∀ k:List Int,(k.map PyData.int).any (fun d=>PyData.eqv d (.int p))=decide (p∈k)
 | []=>by simp
 | i::k=>by
  rw[List.map_cons,List.any_cons,eqv_intP p k]
  by_cases h:i=p
  ·subst h;simp[PyData.eqv]
  ·have h':p≠i:=fun e=>h e.symm
   simp[PyData.eqv,h,h']
end
section
variable {prog:Program} {w:World} {A:Around} {E:Value->Shared->Prop} {s:Shared}
end
section
variable {X:Cx} {pins:List (Addr × Obj)} {σ:St} {H:Hp} {s:Shared} {A:Around} {E:Value->Shared->Prop}
end
section
variable {X:Cx} {pins:List (Addr × Obj)} {σ:St} {H:Hp} {s:Shared} {A:Around} {E:Value->Shared->Prop}
end
section
variable {X:Cx} {pins:List (Addr × Obj)} {σ:St} {H:Hp} {s:Shared} {A:Around} {E:Value->Shared->Prop}
end
section
variable {X:Cx} {pins:List (Addr × Obj)} {σ:St} {H:Hp} {s:Shared} {A:Around}
end
def Grow (P:Addr)(H H':Hp):Prop:=∀ b o,b≠P->H b=some o->H' b=some o
theorem Grow.refl (P:Addr)(H:Hp):Grow P H H:=fun _ _ _ h=>h
theorem Grow.trans {P:Addr}{H H1 H2:Hp}(a:Grow P H H1)(b:Grow P H1 H2):Grow P H H2:=fun c o n h=>b c o n (a c o n h)
theorem Same.grow {H H':Hp}(P:Addr)(h:Same H H'):Grow P H H':=fun b o _ q=>h b o q
structure LamB (base:Heap) (mg:Str->Option Value) (c P:Addr):Prop where
 hd:PySem.W.CodeHd base c P
 blt:base.BuiltinsAt mg P
 ne:mainGlobals≠P
section
variable {X:Cx}
end
def tRngV (ta:TA):TE:=fun σ H Q=>ta σ H fun vs H1=>∃ n:Nat,vs=[.int n]/\n<=1000/\∀ r,H1 r=none->Q (.ref r) (upd H1 r (.rng 0 n))
section
variable {X:Cx}
theorem pe_rngV {a:Expr}{ta:TA}{p pos:Pos}(hg:Gl X "range")(hm:X.mg "range"=none)(ha:PA X [a] ta)(hs:starEach [a] X.env=[(false,eval a X.env)]:=by rfl):PE X (.Call (.Name "range" p) [a] [] pos) (tRngV ta):=by
 intro pins s σ H Q I h
 refine Call_ (ld_blt I hg hm boot_range (PyProof.Rows.callWith_type1 (thn (ha pos pins s σ H _ I h) fun us s1 ⟨vs,H1,I1,r1,q1⟩=>?_) hs rfl))
 obtain⟨n,e,hn,q⟩:=q1
 subst e
 cases r1 with
 | cons r rr =>
  cases rr
  obtain⟨t,rfl⟩:=r
  refine call_range_1 ?_
  have hf:H1 s1.heap.objs.size=none:=I1.hok.fresh (Nat.le_refl _)
  exact⟨.ref s1.heap.objs.size,upd H1 s1.heap.objs.size (.rng 0 n),I1.laid (fun b o e=>Heap.get?_push_of_some _ e) (Nat.le_refl _) ⟨_,_,_,Heap.get?_push_size _ rfl⟩,rfl,q _ hf⟩
end
theorem ObjOk.there {P:Program}{w:World}{H:Hp}{h:Heap}{a:Addr}{o:HO}(x:ObjOk P w H h a o):∃ ob,h.get? a=some ob:=by
 cases o with
 | lst xs=>obtain⟨_,_,_,_,e⟩:=x;exact⟨_,e⟩
 | tup xs=>obtain⟨_,_,_,ob,e,_⟩:=x;exact⟨_,e⟩
 | dK kvs=>obtain⟨_,_,_,_,o,_,_,e,_⟩:=x;exact⟨_,e⟩
 | dT kvs=>obtain⟨_,_,_,_,o,_,_,e,_⟩:=x;exact⟨_,e⟩
 | set S n=>obtain⟨o,_,_,_,e,_⟩:=x;exact⟨_,e⟩
 | ins C dx fs=>obtain⟨_,_,_,e,_⟩:=x;exact⟨_,e⟩
 | own y=>obtain⟨ob,e⟩:=x;exact⟨ob,e⟩
 | xd fs=>obtain⟨_,⟨_,_,_,e,_⟩,_⟩:=x;exact⟨_,e⟩
 | rng lo hi=>obtain⟨_,_,_,e⟩:=x;exact⟨_,e⟩
 | frz ob u=>obtain⟨e,_⟩:=x;exact⟨_,e⟩
 | tbl ps=>exact⟨_,(show h.get? a=some _ from x)⟩
 | met f y=>exact⟨_,(show h.get? a=some _ from x)⟩
 | ext φ=>obtain⟨_,⟨ob,e⟩,_⟩:=x;exact⟨ob,e⟩
theorem HOk.stays {P:Program} {w:World} {H:Hp} {h h':Heap} (ok:HOk P w H h) (k:∀ b o,h.get? b=some o->H b≠none->h'.get? b=some o):HOk P w H h':=fun a o e =>
 (ok a o e).stay (fun b u hb q => k b u q (by
  rcases hb with z | z
  ·rw[z,e];simp
  ·rw[z];simp)) (fun _ q=>q) fun _ _ q=>q
def Flies (outer:List Env)(x:Addr)(cls:Value)(h0:Heap)(H':Hp)(h':Heap):Prop:=
 ∃ (B:Heap) (a0:Value),Heap.FlyingW B outer x cls a0 h'/\∀ b o,h'.get? b=some o->(H' b≠none\/h0.get? b≠none)->b∉frs outer->B.get? b=some o
def CXE (P:Program)(w:World):CXT:=fun outer H s E e s' =>
 ∃ (x:Addr) (cls:Value) (H':Hp),e=.ref x/\s'.os=s.os/\AllBare s'.gens/\Un (frs outer) [] H H' s.heap s'.heap/\HOk P w H' s'.heap/\s.heap.get? x=none/\H' x=none/\Flies outer x cls s.heap H' s'.heap/\E cls none H'
theorem Un.onto {fs:List Addr}{H H':Hp}{h h' h'':Heap}(u:Un fs [] H H' h h')(stay:∀ b o,h'.get? b=some o->h.get? b≠none->b∉fs->h''.get? b=some o)
  (slots:∀ b o,h'.get? b=some o->h.get? b≠none->b∈fs->∃ sl,h''.get? b=some { o with slots:=sl }):Un fs [] H H' h h'' where
 keep:=fun b o e n hb hx=>stay b o (u.keep b o e n hb hx) (by rw[e];simp) hb
 slot:=fun b o e n hb hx=>by
  obtain⟨sl,e1⟩:=u.slot b o e n hb hx
  obtain⟨sl2,e2⟩:=slots b _ e1 (by rw[e];simp) hb
  exact⟨sl2,e2⟩
 free:=u.free
 there:=fun b o e hx=>by
  obtain⟨o',e1⟩:=u.there b o e hx
  by_cases hb:b∈fs
  ·obtain⟨sl,e2⟩:=slots b o' e1 (by rw[e];simp) hb
   exact⟨_,e2⟩
  ·exact⟨o',stay b o' e1 (by rw[e];simp) hb⟩
 tups:=u.tups
 frzs:=u.frzs
 tbls:=u.tbls
theorem some_of_ne {α:Type}{o:Option α}(h:o≠none):∃ x,o=some x:=by
 cases o with
 | none=>exact absurd rfl h
 | some x=>exact⟨x,rfl⟩
theorem frs_cons {env:Env}{outer:List Env}{L:Addr}(h:env.frame=some L):frs (env::outer)=L::frs outer:=by
 unfold frs
 rw[List.filterMap_cons,h]
section
variable {P:Program} {w:World} {K:W.Frag} {mg:Str->Option Value} {base:Heap} {N:List Str} {qual:Str} {scope:Scope} {f:Addr} {cd:Value} {A:Around} {outer:List Env} {s:Shared} {H:Hp} {E:XK}
 {pins:List (Addr × Obj)} {σ:St} {H1:Hp} {s1:Shared}
theorem xe_made {e:Addr}{cls:Value}{vs:List Value}{h2:Heap}(I:Inv (cxOf (CXE P w) P w K mg base N qual scope f cd A outer s H E) pins σ H1 s1)(hx:Heap.MadeExcOf s1.heap h2 e cls vs)(hE:E cls none H1) :
  (cxOf (CXE P w) P w K mg base N qual scope f cd A outer s H E).xe (.ref e) { s1 with heap:=h2 }:=by
 have hst:=I.stack
 have hfr:=I.ok.frames
 have hlt:=I.lt
 have hL:=I.free
 have hab:=I.ok.above
 have hbs:Un (frs outer) [] H H1 s.heap s1.heap:=I.base
 change s1.heap.FunFrames base (envOfC qual scope s.heap.objs.size f cd::outer) at hst
 change (A.deeper (envOfC qual scope s.heap.objs.size f cd)).frames=some (envOfC qual scope s.heap.objs.size f cd::outer) at hfr
 change H1 s.heap.objs.size=none at hL
 have hff:frs (envOfC qual scope s.heap.objs.size f cd::outer)=s.heap.objs.size::frs outer:=frs_cons rfl
 have hin:∀ env∈(envOfC qual scope s.heap.objs.size f cd::outer),∀ b,env.frame=some b->b∈frs (envOfC qual scope s.heap.objs.size f cd::outer):=fun env he b hb=>List.mem_filterMap.mpr ⟨env,he,hb⟩
 have old:∀ b,(H1 b≠none\/s.heap.get? b≠none)->b∉frs outer->∃ o,s1.heap.get? b=some o/\b∉frs (envOfC qual scope s.heap.objs.size f cd::outer):=fun b hb hno=>by
  have hne:b≠s.heap.objs.size:=by
   rcases hb with z | z
   ·intro q;rw[q]at z;exact z hL
   ·obtain⟨o,z⟩:=some_of_ne z
    exact Nat.ne_of_lt (Heap.lt_size z)
  have hex:∃ o,s1.heap.get? b=some o:=by
   rcases hb with z | z
   ·obtain⟨o,z⟩:=some_of_ne z
    exact(I.hok b o z).there
   ·obtain⟨o,z⟩:=some_of_ne z
    exact hbs.there b o z (by simp)
  obtain⟨o,ho⟩:=hex
  refine⟨o,ho,?_⟩
  rw[hff]
  intro hm
  rcases List.mem_cons.mp hm with q | q
  ·exact hne q
  ·exact hno q
 have eNew:s.heap.get? e=none:=by
  cases q:s.heap.get? e with
  | none=>rfl
  | some o =>
   obtain⟨o',z⟩:=hbs.there e o q (by simp)
   rw[hx.new]at z
   cases z
 have eFree:H1 e=none:=by
  cases q:H1 e with
  | none=>rfl
  | some o =>
   obtain⟨o',z⟩:=(I.hok e o q).there
   rw[hx.new]at z
   cases z
 refine wpAny_leaves_madeW (base:=PySem.W.hideAll s1.heap (frs (envOfC qual scope s.heap.objs.size f cd::outer))) hfr rfl (fun b o q=>PySem.W.of_hideAll _ q) (PySem.W.funFrames_hide hst hin) hx fun h' t x1 x2 x3 x4=>?_
 have stay:∀ b o,s1.heap.get? b=some o->(H1 b≠none\/s.heap.get? b≠none)->b∉frs outer->h'.get? b=some o:=fun b o ho hb hno=>by
  obtain⟨o',ho',hm⟩:=old b hb hno
  rw[ho]at ho'
  cases ho'
  exact x1.1 b o (PySem.W.hideAll_get _ ho hm)
 have frNone:∀ b∈frs outer,H1 b=none:=fun b hb=>I.stkFree b (by
  show b∈frs (envOfC qual scope s.heap.objs.size f cd::outer)
  rw[hff]
  exact List.mem_cons_of_mem _ hb)
 refine⟨e,cls,H1,rfl,I.os,I.bare,hbs.onto (fun b o ho hh hno=>stay b o ho (.inr hh) hno) (fun b o ho hh hm=>?_),I.hok.stays fun b o ho hh=>stay b o ho (.inl hh) fun hm=>hh (frNone b hm),eNew,eFree,⟨_,_,x1,fun b o ho hb hno=>?_⟩,hE⟩
 ·obtain⟨_,o',ho',hd⟩:=hst.mem (b:=b) (by
   show b∈frs (envOfC qual scope s.heap.objs.size f cd::outer)
   rw[hff]
   exact List.mem_cons_of_mem _ hm)
  rw[ho]at ho'
  cases ho'
  exact x4 b o (hx.keeps b o ho) hd
 ·obtain⟨o',ho',hm⟩:=old b hb hno
  have:=stay b o' ho' hb hno
  rw[ho]at this
  cases this
  exact PySem.W.hideAll_get _ ho' hm
theorem passE:Passes (CXE P w) (cxOf (CXE P w) P w K mg base N qual scope f cd A outer s H E) E:=by
 intro pins σ H1 s1 e s2 I hc
 obtain⟨x,cls,H2,rfl,hos,hb2,u,hok,new,hxn,⟨B,a0,fl,st⟩,hE⟩:=hc
 have hst:=I.stack
 have hfr:=I.ok.frames
 have hL:=I.free
 have hbs:Un (frs outer) [] H H1 s.heap s1.heap:=I.base
 change s1.heap.FunFrames base (envOfC qual scope s.heap.objs.size f cd::outer) at hst
 change (A.deeper (envOfC qual scope s.heap.objs.size f cd)).frames=some (envOfC qual scope s.heap.objs.size f cd::outer) at hfr
 change H1 s.heap.objs.size=none at hL
 change Un (frs (envOfC qual scope s.heap.objs.size f cd::outer)) [] H1 H2 s1.heap s2.heap at u
 change Heap.FlyingW B (envOfC qual scope s.heap.objs.size f cd::outer) x cls a0 s2.heap at fl
 have hff:frs (envOfC qual scope s.heap.objs.size f cd::outer)=s.heap.objs.size::frs outer:=frs_cons rfl
 have st':∀ b o,s2.heap.get? b=some o->(H2 b≠none\/s1.heap.get? b≠none)->b∉frs (envOfC qual scope s.heap.objs.size f cd::outer)->B.get? b=some o:=st
 rw[hff]at u st'
 have hLo:∃ o,s1.heap.get? s.heap.objs.size=some o:=by
  obtain⟨m,⟨o,_,_,ho,_⟩,_⟩:=I.loc
  exact⟨o,ho⟩
 have hL2:H2 s.heap.objs.size=none:=by
  obtain⟨o,ho⟩:=hLo
  exact u.free _ o ho hL (by simp)
 have old:∀ b,(H2 b≠none\/s.heap.get? b≠none)->b∉frs outer->∃ o,s2.heap.get? b=some o/\B.get? b=some o:=fun b hb hno=>by
  have hne:b≠s.heap.objs.size:=by
   rcases hb with z | z
   ·intro q;rw[q]at z;exact z hL2
   ·obtain⟨o,z⟩:=some_of_ne z
    exact Nat.ne_of_lt (Heap.lt_size z)
  have hm:b∉s.heap.objs.size::frs outer:=fun hm=>by
   rcases List.mem_cons.mp hm with q | q
   ·exact hne q
   ·exact hno q
  rcases hb with z | z
  ·obtain⟨o,z'⟩:=some_of_ne z
   obtain⟨o',ho⟩:=(hok b o z').there
   exact⟨o',ho,st' b o' ho (.inl z) hm⟩
  ·obtain⟨o,z⟩:=some_of_ne z
   obtain⟨o1,h1⟩:=hbs.there b o z (by simp)
   obtain⟨o2,h2⟩:=u.there b o1 h1 (by simp)
   exact⟨o2,h2,st' b o2 h2 (.inr (by rw[h1];simp)) hm⟩
 have u2:Un (frs outer) [] H H2 s.heap s2.heap:=by
  refine⟨fun b o e n hb hx=>?_,fun b o e n hb hx=>?_,fun b o e n hx=>?_,fun b o e hx=>?_,fun b xs e=>u.tups b xs (hbs.tups b xs e),fun b o v e=>u.frzs b o v (hbs.frzs b o v e),fun b ps e=>?_⟩
  ·refine u.keep b o (hbs.keep b o e n hb hx) (hbs.free b o e n hx) (fun hm=>?_) hx
   rcases List.mem_cons.mp hm with q | q
   ·exact Nat.ne_of_lt (Heap.lt_size e) q
   ·exact hb q
  ·obtain⟨sl,e1⟩:=hbs.slot b o e n hb hx
   obtain⟨sl2,e2⟩:=u.slot b _ e1 (hbs.free b o e n hx) (List.mem_cons_of_mem _ hb) hx
   exact⟨sl2,e2⟩
  ·obtain⟨o',e1⟩:=hbs.there b o e hx
   exact u.free b o' e1 (hbs.free b o e n hx) hx
  ·obtain⟨o',e1⟩:=hbs.there b o e hx
   exact u.there b o' e1 hx
  ·obtain⟨m1,e1⟩:=hbs.tbls b ps e
   obtain⟨m2,e2⟩:=u.tbls b _ e1
   exact⟨m1++m2,by rw[e2,Array.append_assoc]⟩
 have frNone:∀ b∈frs outer,H2 b=none:=fun b hb=>by
  have h1:=I.stkFree b (by
   show b∈frs (envOfC qual scope s.heap.objs.size f cd::outer)
   rw[hff]
   exact List.mem_cons_of_mem _ hb)
  obtain⟨_,o,ho,_⟩:=hst.mem (b:=b) (by
   show b∈frs (envOfC qual scope s.heap.objs.size f cd::outer)
   rw[hff]
   exact List.mem_cons_of_mem _ hb)
  exact u.free b o ho h1 (by simp)
 refine wpAny_leaves_onW hfr rfl fl fun h' x1 x2=>?_
 have stay:∀ b o,s2.heap.get? b=some o->(H2 b≠none\/s.heap.get? b≠none)->b∉frs outer->h'.get? b=some o:=fun b o ho hb hno=>by
  obtain⟨o',ho',hB⟩:=old b hb hno
  rw[ho]at ho'
  cases ho'
  exact x1.1 b o hB
 refine⟨x,cls,H2,rfl,hos.trans I.os,hb2,u2.onto (fun b o ho hh hno=>stay b o ho (.inr hh) hno) (fun b o ho hh hm=>?_),hok.stays fun b o ho hh=>stay b o ho (.inl hh) fun hm=>hh (frNone b hm),?_,hxn,⟨B,a0,x1,fun b o ho hb hno=>?_⟩,hE⟩
 ·obtain⟨_,o',ho',hd⟩:=fl.2.2.1.mem (b:=b) (by
   show b∈frs (envOfC qual scope s.heap.objs.size f cd::outer)
   rw[hff]
   exact List.mem_cons_of_mem _ hm)
  rw[ho]at ho'
  cases ho'
  exact x2 b o ho hd
 ·cases q:s.heap.get? x with
  | none=>rfl
  | some o =>
   obtain⟨o',z⟩:=hbs.there x o q (by simp)
   rw[new]at z
   cases z
 ·obtain⟨o',ho',hB⟩:=old b hb hno
  have:=stay b o' ho' hb hno
  rw[ho]at this
  cases this
  exact hB
end
theorem Fun.okX {P:Program} {w:World} {K:W.Frag} {mg:Str->Option Value} {base:Heap} {x qual:Str} {st:Stmt} {f:Addr} {fd:FuncData} {N ps:List Str} {k:Nat} {sp:Sp} (F:Fun K x qual st f fd) (S:FnScope N ps (defScope st)) (len:∀ vs H Q E,sp vs H Q E->vs.length=ps.length)
  (hbody : ∀ (cdv : Value) (A : Around) (outer : List Env) (s : Shared) (H : Hp) (vs : List V) (Q : VK) (E : XK), Room k (A.deeper (envOfC qual (defScope st) s.heap.objs.size f cdv)) -> sp vs H Q E ->
   ∃ t,PSs (cxOf (CXE P w) P w K mg base N qual (defScope st) f cdv A outer s H E) (defBody st) t/\t { nx:=fun _ H'=>Q .non H',rt:=Q } (start N vs) H):FnOk P w K mg base (CXE P w) (k+1) f fd ps sp:=by
 obtain⟨oc,od,kV,doc,pm,an,cdv,ct,osl,rfl,lk,hcd⟩:=F.ex
 exact fn_of lk hcd S len fun A outer s H vs Q E hr hsp=>hbody cdv A outer s H vs Q E hr hsp
structure ExcC (K:W.Frag) (C:Addr):Prop where
 q:PySem.W.excIn K C [.type "ValueError",.type "Exception",.type "BaseException",.type "object"] "ValueError.__new__"=true
abbrev bmV:List Value:=[.type "ValueError",.type "Exception",.type "BaseException",.type "object"]
theorem exc_at {K:W.Frag}{h:Heap}{C:Addr}(KI:K.In h)(c:ExcC K C):∃ bm N nm q bs hd sn sub ab col dd k0 k1 k2 k3 k5 mN,h.get? C=some (excClassObj nm q C N bs bm hd sn sub ab col dd k0 k1 k2 k3 k5 "ValueError.__new__") /\
  h.Ns N mN/\mN "__init__"=none/\OwnTail h bmV bm:=by
 have z:=c.q
 revert z
 unfold PySem.W.excIn
 split
 ·rename_i d1 c1 s1 hl
  split
  ·rename_i D bm y0 y1 y2 y3 nn y5 e1 e2
   intro z
   rw[Bool.and_eq_true,Bool.and_eq_true,Bool.and_eq_true,Bool.and_eq_true,Bool.and_eq_true]at z
   obtain⟨⟨⟨⟨⟨z1,z2⟩,z3⟩,z4⟩,z5⟩,z6⟩:=z
   have z1':D=C:=beq_iff_eq.mp z1
   have z2':nn="ValueError.__new__":=beq_iff_eq.mp z2
   have z6':=beq_iff_eq.mp z6
   subst z1' z2'
   obtain⟨w1,w2,w3,w4,w5,w6,w7,w8,w9,w10,w11⟩:=c1
   dsimp only at e1 z3 z5 z6'
   subst e1
   have z3':w11=false:=by simpa using z3
   subst z3'
   have e3:s1=#[y0,y1,y2,y3,some (.builtin "ValueError.__new__"),y5]:=by
    obtain⟨l1⟩:=s1
    exact congrArg Array.mk e2
   subst e3
   exact⟨bm,w4,w1,w5,w2,w6,w7,w8,w9,w10,d1,y0,y1,y2,y3,y5,_,KI _ _ hl,.of_isNs (PySem.W.isNs_of_in KI z5),PySem.W.nsMap_none_of_in KI z5 z6',PySem.W.tail_of_in KI z4⟩
  ·intro z;cases z
 ·intro z;cases z
section
variable {P:Program} {w:World} {K:W.Frag} {mg:Str->Option Value} {base:Heap} {N:List Str} {qual:Str} {scope:Scope} {f:Addr} {cd:Value} {A:Around} {outer:List Env} {s:Shared} {H:Hp} {E:XK}
def tRaise (E:XK)(C:Addr):TS:=fun _ _ H=>E (.ref C) none H
theorem ps_raise {x txt:Str}{C:Addr}{j:Nat}{np cp ep pos:Pos}(hg:Gl (cxOf (CXE P w) P w K mg base N qual scope f cd A outer s H E) x)(hm:mg x=some (.ref C))(c:ExcC K C)(hd:(x == ("__debug__":Str))=false:=by decide) :
  PS (cxOf (CXE P w) P w K mg base N qual scope f cd A outer s H E) (.Raise (some (.Call (.Name x np) [.Constant (.str txt) j cp] [] ep)) none pos) (tRaise E C):=by
 intro pins s1 σ H1 D I hE
 have hh:(cxOf (CXE P w) P w K mg base N qual scope f cd A outer s H E).A.handled=none:=I.ok.hd rfl
 obtain⟨bm,N',nm,q,bs,hdc,sn,sub,ab,col,dd,k0,k1,k2,k3,k5,mN,hC,hN,hni,T⟩:=exc_at I.kIn c
 refine wpAny_Raise_call_subT (C:=C) (nm:=nm) (q:=q) (N:=N') (bs:=bs) (bm:=bm) (hdct:=hdc) (sn:=sn) (sub:=sub) (ab:=ab) (col:=col) (dd:=dd) (k0:=k0) (k1:=k1) (k2:=k2) (k3:=k3) (k5:=k5)
  PySem.F.excBase_ValueError (mN:=mN) (T.hasType (by decide +kernel)) hh rfl hni (ld_glob I hg hm ⟨rfl,?_⟩ hd)
 refine Calls.evalArgs_plain ?_
 refine PyProof.Rows.spliced_more (Calls.Constant_str ?_)
 refine PyProof.Rows.spliced_none ⟨rfl,by show 1<=sizeLine;decide,hC,hN,T,fun h' e hx=>?_⟩
 exact xe_made (I.tok _) hx hE
end
section
variable {X:Cx} {pins pins':List (Addr × Obj)} {σ:St} {H:Hp} {s:Shared} {E:St->XK}
end
section
variable {X:Cx} {CX:CXT} {k:Nat} {f:Addr} {fd:FuncData} {ps:List Str} {sp:Sp} {E:St->XK} {x:Str} {p pos:Pos} {e:Expr} {es:List Expr} {t:TA}
end
section
variable {X:Cx} {pins:List (Addr × Obj)} {σ:St} {H:Hp} {s:Shared}
end
end L2
set_option maxRecDepth 100000
namespace L2
open PySem PySem.Spec PyProof.Rows PySem.W
structure ExcK (K:W.Frag) (C:Addr):Prop where
 ga:findIn K (.ref C) "__getattribute__"=some (some (.builtin "BaseException.__getattribute__"))
 na:findIn K (.ref C) "__getattr__"=some none
 cl:findIn K (.ref C) "__class__"=some (some (.builtin "object.__class__"))
 sb:subIn K (.ref C) (.type "BaseException")=some true
 so:subIn K (.ref C) (.type "object")=some true
 cs:(clsIn K C).isSome=true
section
variable {prog:Program} {w:World} {A:Around} {E:Value->Shared->Prop} {h:Heap} {g:Array GenState} {d:Drawn} {t:Nat} {os:OsState} {a C:Addr} {o:Obj} {K:W.Frag}
end
section
variable {X:Cx}
end
end L2
namespace L2
open PySem PySem.Spec PyProof.Rows
section
variable {X:Cx}
end
end L2
namespace Web
open PySem L2
def cntP (ks:List (List Int))(p:Nat):Nat:=ks.countP fun k=>decide ((p:Int)∈k)
def tal (n:Nat)(ks:List (List Int)):List Int:=(List.range n).map fun p=>(cntP ks p:Int)
theorem tal_len (n:Nat)(ks:List (List Int)):(tal n ks).length=n:=by simp[tal]
theorem tal_get {n:Nat}{ks:List (List Int)}{p:Nat}(h:p<n):(tal n ks)[p]?=some (cntP ks p:Int):=by
 unfold tal
 rw[List.getElem?_map,List.getElem?_range h]
 rfl
theorem cntP_app (ks ls:List (List Int))(p:Nat):cntP (ks++ls) p=cntP ks p+cntP ls p:=List.countP_append
theorem cntP_one (i j p:Nat):cntP [[(i:Int),(j:Int)]] p=if p=i\/p=j then 1 else 0:=by
 unfold cntP
 rw[List.countP_singleton]
 by_cases h:p=i\/p=j
 ·rw[if_pos h,if_pos]
  simp only[decide_eq_true_eq,List.mem_cons,List.not_mem_nil,or_false]
  omega
 ·rw[if_neg h,if_neg]
  simp only[decide_eq_true_eq,List.mem_cons,List.not_mem_nil,or_false]
  omega
theorem tal_nil (n:Nat):tal n []=List.replicate n 0:=by
 unfold tal cntP
 rw[List.eq_replicate_iff]
 simp
theorem tal_put {n i j:Nat}(hi:i<n)(hj:j<n)(h:i≠j)(ks:List (List Int))(z1 z2:Int)(e1:z1=cntP ks i)(e2:z2=cntP ks j) :
  ((tal n ks).set i (z1+1)).set j (z2+1)=tal n (ks++[[(i:Int),(j:Int)]]):=by
 subst e1 e2
 refine List.ext_getElem? fun p=>?_
 by_cases hp:p<n
 ·rw[tal_get hp,cntP_app,cntP_one,List.getElem?_set,List.getElem?_set,List.length_set,tal_len,tal_get hp]
  by_cases q1:j=p
  ·subst q1
   rw[if_pos rfl,if_pos hj,if_pos (.inr rfl)]
   simp
  ·rw[if_neg q1]
   by_cases q2:i=p
   ·subst q2
    rw[if_pos rfl,if_pos hi,if_pos (.inl rfl)]
    simp
   ·rw[if_neg q2,if_neg (by omega)]
    simp
 ·rw[List.getElem?_eq_none (by simp[tal_len];omega),List.getElem?_eq_none (by rw[tal_len];omega)]
end Web
namespace HT
open PySem PyProof.Rows
section
variable {prog:Program} {w:World} {A:Around} {E:Value->Shared->Prop} {s:Shared}
end
end HT
namespace L2
open PySem PySem.Spec PyProof.Rows
section
variable {X:Cx} {e st:Expr} {te ts:TE} {pos p2:Pos}
def tCut (t u:TS):TS:=fun D σ H=>∃ Mid:St->Hp->Prop,t { D with nx:=Mid } σ H/\∀ σ' H',Mid σ' H'->u D σ' H'
theorem pss_cut {stm:Stmt}{rest:List Stmt}{t u:TS}(h1:PS X stm t)(h2:PSs X rest u):PSs X (stm::rest) (tCut t u):=by
 intro pins s σ H D I ⟨Mid,h,k⟩
 refine wpAny_execs_cons (thn (h1 pins s σ H { D with nx:=Mid } I h) fun f s1 q=>?_)
 cases f with
 | next =>
  obtain⟨σ',H',I',q⟩:=q
  exact h2 pins s1 σ' H' D I' (k _ _ q)
 | ret v=>exact q
 | brk=>exact q
 | cont=>exact q
end
section
variable {X:Cx} {pins:List (Addr × Obj)} {σ:St} {H:Hp} {s:Shared} {A:Around} {E:Value->Shared->Prop}
theorem seq_obj (I:Inv X pins σ H s){p:Addr}{ns:List Int}(hq:SqL X.K H p (ns.map V.int)\/SqT X.K H p (ns.map V.int)):∃ (vs:List Value) (T:String) (o:Obj) (c:Nat),(T="list"\/T="tuple")/\s.heap.get? p=some o/\o.cls=.type T/\o.data=.seq vs.toArray c/\IntsAre vs ns:=by
 rcases hq with hq | hq
 ·obtain⟨its,r',pl,hz⟩:=I.list hq
  obtain⟨o,ho,hc,n,hd⟩:=pl.isList
  exact⟨its,"list",o,n,.inl rfl,ho,hc,hd,intsAre_of r'⟩
 ·obtain⟨its,r',pl,hz⟩:=I.tuple hq
  obtain⟨o,ho,hc,n,hd⟩:=pl
  exact⟨its,"tuple",o,n,.inr rfl,ho,hc,hd,intsAre_of r'⟩
theorem sorted_end (I:Inv X pins σ H s){h1:Heap}{vs:List Value}{out:Array Value}{zs:List Int}(kp:∀ b o',s.heap.get? b=some o'->h1.get? b=some o')(hi:IntsAre out.toList zs)(hz:zs.length<=1000) :
  H h1.objs.size=none/\Inv X pins σ (upd H h1.objs.size (.lst (zs.map V.int))) { s with heap:=sortedHeap (h1.push (seqObj "list" vs.toArray 0)) h1.objs.size vs out }:=by
 have I1:Inv X pins σ H { s with heap:=h1,toks:=s.toks }:=I.kept kp
 refine⟨I1.hok.fresh (Nat.le_refl _),?_⟩
 have hoL:(h1.push (seqObj "list" vs.toArray 0)).get? h1.objs.size=some (seqObj "list" vs.toArray 0):=Heap.get?_push_size _ rfl
 obtain⟨e,he⟩:=sortedHeap_at (out:=out) hoL
 refine I1.laid (t':=s.toks) (fun b o q=>?_) (Nat.le_refl _) ⟨by rw[List.length_map,sizeLine_eq];omega,out.toList,e,vals_ints hi,by rw[Array.toArray_toList];exact he⟩
 have hb:b<h1.objs.size:=Heap.lt_size q
 rw[sortedHeap_old (Nat.ne_of_lt hb) (by rw[size_push'];exact Nat.lt_succ_of_lt hb)]
 exact Heap.get?_push_of_some _ q
theorem sorted_seq_rev {p:Addr}{ns:List Int}{b:Bool}{Q:Value->Shared->Prop}(I:Inv X pins σ H s)(hq:SqL X.K H p (ns.map V.int)\/SqT X.K H p (ns.map V.int))(h64:ns.length<64)
  (h:∀ (s':Shared) (D:Addr) (zs:List Int),H D=none->zs.Perm ns->Ordered b zs->Inv X pins σ (upd H D (.lst (zs.map V.int))) s'->Q (.ref D) s') :
  wpAny (model X.prog X.w) A (call (.builtin "sorted") [.ref p] [(Str.ofString "reverse",.bool b)]) Q E s:=by
 obtain⟨vs,T,o,c,hT,ho,hc,hd,hI⟩:=seq_obj I hq
 have hlen:=hI.length
 refine call_function_entry_kw kind_sorted plain_sorted entry_sorted (args_sorted_rev _ _) ?_
 unfold Builtin.«sorted»
 refine wpAny_bind (m:=checkCount "sorted" 1 1 _) (wpAny_pure ?_)
 refine wpAny_bind (wpAny_collect_seq p hT ho hc hd (fun h1 kp=>?_) (by rw[List.size_toArray,sizeLine_eq];omega))
 rw[List.toList_toArray]
 refine wpAny_bind (wpAny_newList ?_ (by rw[sizeLine_eq];omega))
 have hoL:(h1.push (seqObj "list" vs.toArray 0)).get? h1.objs.size=some (seqObj "list" vs.toArray 0):=Heap.get?_push_size _ rfl
 refine wpAny_bind (wpAny_holding (wpAny_call_entry_kw slot_list_sort (s:={ s with heap:=h1.push (seqObj "list" vs.toArray 0) }) ⟨_,hoL,rfl⟩ entry_list_sort (list_sort_tree_rev (s:={ s with heap:=h1.push (seqObj "list" vs.toArray 0) }) hoL hI (by omega) fun out ns' a1 a2 a3=>⟨_,rfl,?_⟩) (args_list_sort_rev _ _)))
 obtain⟨e1,e2⟩:=sorted_end (vs:=vs) I kp a1 (by rw[a2.length_eq];omega)
 exact wpAny_pure ⟨_,rfl,h _ _ ns' e1 a2 a3 e2⟩
end
section
variable {X:Cx}
def tSortR (K:W.Frag)(tr:TA):TE:=fun σ H Q=>tr σ H fun vs H1=>∃ (p:Addr) (ns:List Int),vs=[.ref p]/\(SqL K H1 p (ns.map V.int)\/SqT K H1 p (ns.map V.int))/\ns.length<64 /\
 ∀ (l:Addr) (zs:List Int),H1 l=none->zs.Perm ns->zs.Pairwise (·≥·)->Q (.ref l) (upd H1 l (.lst (zs.map V.int)))
theorem pe_sortR {e:Expr}{np pos bpos kpos:Pos}{j:Nat}{tr:TA}(K:W.Frag)(hK:X.K=K)(hg:Gl X "sorted")(hm:X.mg "sorted"=none)(ha:PA X [e] tr)
  (hs:backTo pos (starEach [e] X.env)=(false,eval e X.env)::backTo pos (starEach [] X.env):=by rfl)
  (hpl:(backTo pos (starEach [e] X.env)).any (·.1)=false:=by rfl) :
  PE X (.Call (.Name "sorted" np) [e] [⟨some "reverse",.Constant (.bool true) j bpos,kpos⟩] pos) (tSortR K tr):=by
 subst hK
 intro pins s σ H Q I h
 refine wpAny_Call_Name_kw (ld_blt I hg hm (show bootBuiltins "sorted"=some (.builtin "sorted") from rfl) ?_ (by decide) (by decide))
 refine callWith_kw (thn (ha pos pins s σ H _ I h) fun us s1 ⟨vs,H1,I1,r1,q1⟩=>?_) hs hpl rfl rfl
 obtain⟨p,ns,rfl,hq,h64,q⟩:=q1
 have hk:PK X [⟨some "reverse",.Constant (.bool true) j bpos,kpos⟩] (tCons (tC (.bl true)) tNil):=pk_cons pe_bl pk_nil
 refine thn (hk pos pins s1 σ H1 (fun zs H2=>zs=[.bl true]/\H2=H1) I1 ⟨rfl,rfl⟩) fun ws s2 ⟨zs,H2,I2,r2,ez,eH⟩=>?_
 subst ez eH
 obtain⟨w,rfl,rw⟩:=vals1 r2
 obtain⟨u,rfl,ru⟩:=vals1 r1
 cases rw
 cases ru
 exact sorted_seq_rev (b:=true) I2 hq h64 fun s' D zs a1 a2 a3 I'=>⟨.ref D,_,I',rfl,q D zs a1 a2 a3⟩
end
section
variable {prog:Program} {w:World} {A:Around} {E:Value->Shared->Prop} {s:Shared}
theorem nextOf_tup_item {ip tp:Addr}{i:Nat}{ys:Array Value}{x:Value}{Q:Value->Shared->Prop}(hi:s.heap.IsTupleIter ip tp i)(ht:s.heap.IsTuple tp ys)(hx:ys[i]?=some x)
  (q:∀ h',h'.IsTupleIter ip tp (i+1)->Heap.SameBut ip s.heap h'->Q x { s with heap:=h' }):wpAny (model prog w) A (Builtin.SmallTypes.nextOf (.ref ip)) Q E s:=by
 obtain⟨u,hu,cu,du⟩:=id hi
 obtain⟨v,hv,_,nv,dv⟩:=ht
 unfold Builtin.SmallTypes.nextOf
 refine wpAny_bind (wpAny_callSpecial?_slot (name:=Str.ofString "__next__") hi.typeIs F.slot_tuple_iterator_next (wpAny_call_entry F.slot_tuple_iterator_next hi.typeIs F.entry_tuple_iterator_next ?_ (F.args_tuple_iterator_next_1 _)))
 show wpAny _ _ (field (.ref ip) 0 >>= _) _ _ s;refine wpAny_bind (wpAny_field hu du (x:=.ref tp) rfl ?_)
 show wpAny _ _ (if (Value.ref tp == Value.none)=true then _ else _) _ _ s;rw[if_neg (show ¬ ((Value.ref tp == Value.none)=true) from Bool.false_ne_true)]
 show wpAny _ _ (field (.ref ip) 1 >>= _) _ _ s;refine wpAny_bind (wpAny_field hu du (x:=.int i 0) rfl ?_)
 show wpAny _ _ (seqItems? (.ref tp) >>= _) _ _ s;refine wpAny_bind (wpAny_seqItems hv dv ?_)
 simp only[Int.toNat_natCast,hx]
 refine wpAny_bind (wpAny_setField hu du (by simp) (wpAny_pure ⟨x,rfl,wpAny_pure (q _ ?_ (Heap.SameBut.update ..))⟩))
 exact⟨_,Heap.get?_update_self _ hu (Obj.isFreed_of_fields (Obj.data_mapFields du _)),(Obj.cls_mapFields ..).trans cu,by rw[Obj.data_mapFields du];simp[rawInt]⟩
theorem nextOf_tup_end {ip tp:Addr}{i:Nat}{ys:Array Value}{Q:Value->Shared->Prop}(hh:A.handled=none)(hi:s.heap.IsTupleIter ip tp i)(ht:s.heap.IsTuple tp ys)(hx:ys[i]?=none)
  (q:∀ h' e,Heap.ExtBut ip s.heap h'->(∃ o,h'.get? e=some o/\o.cls=.type "StopIteration")->E (.ref e) { s with heap:=h' }):wpAny (model prog w) A (Builtin.SmallTypes.nextOf (.ref ip)) Q E s:=by
 obtain⟨u,hu,cu,du⟩:=id hi
 obtain⟨v,hv,_,nv,dv⟩:=ht
 unfold Builtin.SmallTypes.nextOf
 refine wpAny_bind (wpAny_callSpecial?_slot (name:=Str.ofString "__next__") hi.typeIs F.slot_tuple_iterator_next (wpAny_call_entry F.slot_tuple_iterator_next hi.typeIs F.entry_tuple_iterator_next ?_ (F.args_tuple_iterator_next_1 _)))
 show wpAny _ _ (field (.ref ip) 0 >>= _) _ _ s;refine wpAny_bind (wpAny_field hu du (x:=.ref tp) rfl ?_)
 show wpAny _ _ (if (Value.ref tp == Value.none)=true then _ else _) _ _ s;rw[if_neg (show ¬ ((Value.ref tp == Value.none)=true) from Bool.false_ne_true)]
 show wpAny _ _ (field (.ref ip) 1 >>= _) _ _ s;refine wpAny_bind (wpAny_field hu du (x:=.int i 0) rfl ?_)
 show wpAny _ _ (seqItems? (.ref tp) >>= _) _ _ s;refine wpAny_bind (wpAny_seqItems hv dv ?_)
 simp only[Int.toNat_natCast,hx]
 refine wpAny_bind (wpAny_rule (wpAny_bind (wpAny_setField hu du (by simp) ?_)))
 show wpAny _ _ (newExc (.type "StopIteration") [] >>= _) _ _ _;refine wpAny_bind ?_;simp only[newExc,newTuple]
 refine wpAny_bind (wpAny_newObj_type ?_ (by size_fits));refine wpAny_bind (m:=firstArgMember _ _) (wpAny_of_eq (a:=Value.none) (by first | rfl | (simp only[firstArgMember];rfl)) ?_)
 refine wpAny_newObj_type ?_ (by size_fits);simp only[raiseNew]
 refine wpAny_bind (wpAny_handled ?_);first | rw[show A.in1.handled=none from hh] | rw[hh]
 refine wpAny_bind (wpAny_pure (wpAny_throw ?_));exact q _ _ (((Heap.SameBut.update ..).extBut.push _).push _) ⟨_,Heap.get?_push_size _ rfl,rfl⟩
end
theorem draws_tup {prog:Program}{w:World}{A:Around}(hh:A.handled=none)(ip tp:Addr)(hne:tp≠ip)(ys:Array Value):Draws prog w A ip [ip,tp] ys.size (fun i v=>ys[i]?=some v) (fun i h=>h.IsTupleIter ip tp i/\h.IsTuple tp ys) where
 live:=fun _ _ z=>let ⟨o,ho,_⟩:=z.1;⟨o,ho⟩
 frame:=fun _ _ _ z k=>⟨z.1.at fun o e=>k ip (by simp) o e,z.2.at fun o e=>k tp (by simp) o e⟩
 item:=fun i s Q E hi z q=>nextOf_tup_item z.1 z.2 (x:=ys[i]) (by simp[hi]) fun h' a b=>q _ h' s.toks (by simp[hi]) ⟨a,z.2.extBut b.extBut hne⟩ b
 done:=fun s Q E z q=>nextOf_tup_end hh z.1 z.2 (by simp) q
open AutoSeq1 (wpAny_loadPart') in
set_option maxRecDepth 100000 in
theorem meets_enum_tup (tp:Addr)(ys:Array Value)(n:Nat)(dd:Option Addr)(ss:Array (Option Value)) :
  Meets (Builtin.«enumerate.__new__» ⟨[.type "enumerate",.ref tp],[]⟩) (fun _ R s=>s.heap.get? tp=some { cls:=.type "tuple",dict:=dd,data:=.seq ys n,slots:=ss } /\
   R (.ok (.ret (.ref (s.heap.push { cls:=.type "tuple_iterator",data:=.fields #[.ref tp,.int 0 0] }).objs.size)))
    { s with heap:=(s.heap.push { cls:=.type "tuple_iterator",data:=.fields #[.ref tp,.int 0 0] }).push { cls:=.type "enumerate",data:=.fields #[.none,.bool false,.ref s.heap.objs.size,rawInt 0,.none,.none] } }) :=
 .of_wp fun prog w A R s h=>by
  obtain⟨hp,g,d,tk,os⟩:=s;obtain⟨hl,h⟩:=h
  have hsub:=sub_enumerate
  have hT:Heap.IsTuple (Shared.heap ⟨hp,g,d,tk,os⟩) tp ys:=⟨_,hl,rfl,n,rfl⟩
  wp_walk using wpAny_loadPart' hl
  refine wpAny_stack_any fun st=>wpAny_pure ?_
  split
  ·rename_i c _ _ _ _ _
   cases (c == Value.type "enumerate")
   ·wp_walk using wpAny_loadPart' hl,wpAny_pyIter_tuple hT;exact⟨_,rfl,h⟩
   ·wp_walk using wpAny_loadPart' hl,wpAny_pyIter_tuple hT;exact⟨_,rfl,h⟩
  ·wp_walk using wpAny_loadPart' hl,wpAny_pyIter_tuple hT;exact⟨_,rfl,h⟩
section
variable {prog:Program} {w:World} {A:Around} {E:Value->Shared->Prop} {s:Shared}
theorem call_enum_tup {tp:Addr}{ys:Array Value}{Q:Value->Shared->Prop}(hT:s.heap.IsTuple tp ys)
  (q:∀ h',IsEnum h' (s.heap.objs.size+1) s.heap.objs.size 0 .none->h'.IsTupleIter s.heap.objs.size tp 0->h'.objs.size=s.heap.objs.size+2->(∀ b o,s.heap.get? b=some o->h'.get? b=some o)->Q (.ref (s.heap.objs.size+1)) { s with heap:=h' }) :
  wpAny (model prog w) A (call (.type "enumerate") [.ref tp]) Q E s:=by
 obtain⟨⟨c,dd,dt,ss⟩,hl,hc,n,hd⟩:=hT
 replace hc:c=.type "tuple":=hc
 replace hd:dt=.seq ys n:=hd
 subst hc hd
 refine callType_new F.called_enumerate (by decide) (F.typeCall_enumerate_1 _) (F.newCall_enumerate_1 _) (fun obj=>F.args_object_init_2 obj _) F.entry_enumerate_new (meets_enum_tup tp ys n dd ss) ⟨hl,?_⟩
 have hz:(s.heap.push { cls:=.type "tuple_iterator",data:=.fields #[.ref tp,.int 0 0] }).objs.size=s.heap.objs.size+1:=Heap.size_push ..
 show _/\_
 rw[hz]
 have he:IsEnum ((s.heap.push { cls:=.type "tuple_iterator",data:=.fields #[.ref tp,.int 0 0] }).push { cls:=.type "enumerate",data:=.fields #[.none,.bool false,.ref s.heap.objs.size,rawInt 0,.none,.none] }) (s.heap.objs.size+1) s.heap.objs.size 0 .none:=by
  have:=Heap.get?_push_size (s.heap.push { cls:=.type "tuple_iterator",data:=.fields #[.ref tp,.int 0 0] }) (o:={ cls:=.type "enumerate",data:=.fields #[.none,.bool false,.ref s.heap.objs.size,rawInt 0,.none,.none] }) rfl
  rw[hz]at this;exact this
 exact⟨⟨_,he,rfl⟩,q _ he ⟨_,Heap.get?_push_of_some _ (Heap.get?_push_size _ rfl),rfl,rfl⟩ (by rw[Heap.size_push,hz]) fun b o x=>Heap.get?_push_of_some _ (Heap.get?_push_of_some _ x)⟩
end
def Itm (K:W.Frag)(a:Addr):It:=
 ⟨fun i H=>∃ xs x,SqT K H a xs/\xs[i]?=some x,fun i H x H'=>∃ t v,H t=none/\x=.ref t/\(∀ xs,SqT K H a xs->xs[i]?=some v)/\H'=upd H t (.tup [.int i,v]),fun i H=>∃ xs,SqT K H a xs/\xs.length=i⟩
def iEnumT (K:W.Frag)(ta:TA):TI:=fun σ H R=>ta σ H fun vs H1=>∃ a,vs=[.ref a]/\(∃ xs,SqT K H1 a xs)/\R (Itm K a) H1
theorem turn_enumT {P:Program}{w:World}{K:W.Frag}{elts:List Expr}{x1:Nat}{pos:Pos}(a ip e:Addr)(hne:e≠ip):Turn P w K (.Tuple elts x1 pos) (Itm K a) [e,ip] e (fun i h=>(∃ old,IsEnum h e ip (i:Int) old)/\h.IsTupleIter ip a i) where
 mem:=by simp
 obj:=fun i h st b hb=>by
  obtain⟨⟨old,he⟩,o,ho,hc,hd⟩:=st
  rcases List.mem_cons.mp hb with rfl | hb
  ·exact⟨_,he,fun v z=>by cases z⟩
  ·obtain rfl:b=ip:=by simpa using hb
   exact⟨o,ho,fun v z=>by rw[hd]at z;cases z⟩
 keep:=fun i h h' st k=>⟨let ⟨old,he⟩:=st.1;⟨old,k e (by simp) _ he⟩,st.2.at fun o q=>k ip (by simp) o q⟩
 item:=by
  intro X hP hw hK hc i pins s σ H E I hf st hg
  subst hP hw hK
  obtain⟨xs,x,hq,hx⟩:=hg
  obtain⟨⟨old,he⟩,hit⟩:=st
  obtain⟨its,rv,p,hz⟩:=I.tuple hq
  obtain⟨u,hu,ru⟩:=rv.get hx
  obtain⟨f0,f1,f2,f3,f4,f5⟩:=hf e (by simp)
  obtain⟨g0,g1,g2,g3,g4,g5⟩:=hf ip (by simp)
  have pT:s.heap.IsTuple a its.toArray:=p
  have nai:a≠ip:=fun z=>by
   obtain⟨o1,h1,c1,_⟩:=id pT
   obtain⟨o2,h2,c2,_⟩:=id hit
   rw[z,h2]at h1;cases h1;rw[c2]at c1;injection c1 with c1;exact absurd c1 (by decide)
  have nae:a≠e:=fun z=>by
   obtain⟨o1,h1,c1,_⟩:=id pT
   rw[z,show s.heap.get? e=_ from he]at h1;cases h1;injection c1 with c1;exact absurd c1 (by decide)
  have ui:its.toArray[i]?=some u:=by simpa using hu
  have hlt':i<its.toArray.size:=by
   rcases Nat.lt_or_ge i its.toArray.size with h | h
   ·exact h
   ·rw[Array.getElem?_eq_none h]at ui;cases ui
  refine wpAny_pyNext_enum_itemD (draws_tup (A:=X.A.in1) (I.ok.hd hc) ip a nai its.toArray) he ⟨hit,pT⟩ hlt' hne (by simp[hne,Ne.symm nae]) fun v h1 tk hv heo st1 ht1 hz1 hk1=>?_
  have ev:v=u:=by have:=hv.symm.trans ui;cases this;rfl
  subst ev
  have hit1:=st1.1
  refine⟨_,rfl,?_⟩
  refine wpAny_letOwnedTupleGo_enum heo fun h2 he2 hs2=>?_
  have hlt:e<s.heap.objs.size:=Heap.lt_size he
  have hs2':Heap.SameBut e h1 h2:=hs2
  have ht2:h2.get? s.heap.objs.size=some { cls:=.type "tuple",data:=.seq #[.int i tk,v] }:=(hs2'.2 _ (Nat.ne_of_gt hlt)).trans ht1
  have kp:∀ b o,b≠e->b≠ip->s.heap.get? b=some o->h2.get? b=some o:=fun b o h1' h2' q=>(hs2'.2 b h1').trans (hk1 b o h1' h2' q)
  have hT:H s.heap.objs.size=none:=I.hok.fresh (Nat.le_refl _)
  have nH:∀ b,H b≠none->b≠e/\b≠ip:=fun b hb=>⟨fun z=>hb (z ▸ f0),fun z=>hb (z ▸ g0)⟩
  have keepH:∀ b o,H b=some o->upd H s.heap.objs.size (.tup [.int i,x]) b=some o:=fun b o q=>by rw[upd_ne (ne_of_none q hT)];exact q
  have hok2:HOk X.prog X.w (upd H s.heap.objs.size (.tup [.int i,x])) h2:=fun b o eb=>by
   by_cases hb:b=s.heap.objs.size
   ·subst hb
    rw[upd_same]at eb
    cases eb
    exact⟨by show 2<=sizeLine;decide,[.int i tk,v],.cons ⟨_,rfl⟩ (.cons ru .nil),⟨_,ht2,rfl,_,rfl⟩⟩
   ·rw[upd_ne hb]at eb
    refine(I.hok b o eb).stay (fun c v hcc q=>kp c v ?_ ?_ q) (fun c q=>keepH c _ q) fun c ys q=>keepH c _ q
    ·rcases hcc with z | z
     ·exact(nH c (by rw[z,eb];simp)).1
     ·exact(nH c (by rw[z];simp)).1
    ·rcases hcc with z | z
     ·exact(nH c (by rw[z,eb];simp)).2
     ·exact(nH c (by rw[z];simp)).2
  have I2:Inv X pins σ (upd H s.heap.objs.size (.tup [.int i,x])) { s with heap:=h2,toks:=tk+1 }:=by
   refine I.step (g':=s.gens) (d':=s.drawn) (t':=tk+1) (ch:=[e,ip]) (fun b hb=>?_) (fun b o _ _ hcc q _=>kp b o (fun z=>hcc (by simp[z])) (fun z=>hcc (by simp[z])) q) (fun b o _ _ hcc q _=>⟨o.slots,kp b o (fun z=>hcc (by simp[z])) (fun z=>hcc (by simp[z])) q⟩) (fun b o _ q n=>?_)
    (fun b o hcc q=>⟨o,kp b o (fun z=>hcc (by simp[z])) (fun z=>hcc (by simp[z])) q⟩) (fun b ys q=>keepH b _ q) (fun b o v q=>keepH b _ q) (fun b ps q=>⟨#[],by rw[keepH b _ q];simp⟩) (fun m hm=>?_) hok2 I.bare
   ·rcases List.mem_cons.mp hb with rfl | hb
    ·exact⟨f3,f1,f4,f5⟩
    ·obtain rfl:b=ip:=by simpa using hb
     exact⟨g3,g1,g4,g5⟩
   ·rw[upd_ne (Nat.ne_of_lt (Heap.lt_size q))]
    exact n
   ·obtain⟨o,es,ep,ho,r⟩:=hm
    exact⟨o,es,ep,kp _ o (Ne.symm f1) (Ne.symm g1) ho,r⟩
  have hilt:ip<s.heap.objs.size:=by
   obtain⟨o,ho,_⟩:=id hit
   exact Heap.lt_size ho
  refine⟨.ref s.heap.objs.size,_,I2,rfl,⟨s.heap.objs.size,x,hT,rfl,fun ys hy=>by rw[I.tuple_inj hy hq];exact hx,rfl⟩,⟨⟨v,?_⟩,?_⟩,fun b hb=>?_⟩
  ·have:=he2
   rw[show ((i:Int)+1)=(((i+1:Nat):Int)) by simp]at this
   exact this
  ·exact hit1.at fun o q=>(hs2'.2 ip (Ne.symm hne)).trans q
  ·rcases List.mem_cons.mp hb with rfl | hb
   ·rw[upd_ne (Nat.ne_of_lt hlt)];exact f0
   ·obtain rfl:b=ip:=by simpa using hb
    rw[upd_ne (Nat.ne_of_lt hilt)]
    exact g0
 done:=by
  intro X hP hw hK hc i pins s σ H E I hf st hg
  subst hP hw hK
  obtain⟨xs,hq,hx⟩:=hg
  obtain⟨⟨old,he⟩,hit⟩:=st
  obtain⟨its,rv,p,hz⟩:=I.tuple hq
  obtain⟨g0,g1,g2,g3,g4,g5⟩:=hf ip (by simp)
  have hl:=rv.length
  have pT:s.heap.IsTuple a its.toArray:=p
  have nai:a≠ip:=fun z=>by
   obtain⟨o1,h1,c1,_⟩:=id pT
   obtain⟨o2,h2,c2,_⟩:=id hit
   rw[z,h2]at h1;cases h1;rw[c2]at c1;injection c1 with c1;exact absurd c1 (by decide)
  have ei:i=its.toArray.size:=by rw[List.size_toArray];omega
  refine wpAny_pyNext_enum_endD (draws_tup (A:=X.A.in1) (I.ok.hd hc) ip a nai its.toArray) he ⟨by rw[<- ei];exact hit,pT⟩ fun h' eb=>⟨rfl,I.turned (t':=s.toks) (fun b o hb q=>eb b o hb q) g0 g1 g3 g4 g5⟩
 self:=fun _ _ _ _ _ st h=>let ⟨⟨old,he⟩,_⟩:=st;wpAny_pyIter_enum he h
section
variable {X:Cx}
theorem pi_enumT {a:Expr}{ta:TA}{elts:List Expr}{x1:Nat}{tpos p pos:Pos}(hg:Gl X "enumerate")(hm:X.mg "enumerate"=none)(ha:PA X [a] ta)(hv:bootBuiltins "enumerate"=some (.type "enumerate"):=by rfl)(hs:starEach [a] X.env=[(false,eval a X.env)]:=by rfl) :
  PI X (.Tuple elts x1 tpos) (.Call (.Name "enumerate" p) [a] [] pos) (iEnumT X.K ta):=by
 intro pins s σ H R I h
 refine Call_ (ld_blt I hg hm hv (PyProof.Rows.callWith_type1 (thn (ha pos pins s σ H _ I h) fun us s1 ⟨vs,H1,I1,r1,q1⟩=>?_) hs rfl))
 obtain⟨b,e,⟨xs,hq⟩,q⟩:=q1
 subst e
 obtain⟨u,rfl,rx⟩:=vals1 r1
 cases rx
 obtain⟨its,rv,pl,hz⟩:=I1.tuple hq
 refine call_enum_tup (show s1.heap.IsTuple b its.toArray from pl) fun h' he hit hsz kp=>?_
 refine wpAny_pyIter_enum he ?_
 have hne:s1.heap.objs.size+1≠s1.heap.objs.size:=Nat.succ_ne_self _
 refine⟨s1.heap.objs.size+1,[s1.heap.objs.size+1,s1.heap.objs.size],_,_,H1,rfl,I1.kept (t':=s1.toks) kp,turn_enumT b s1.heap.objs.size (s1.heap.objs.size+1) hne,⟨⟨_,he⟩,hit⟩,fun c hc=>?_,q⟩
 rcases List.mem_cons.mp hc with rfl | hc
 ·exact I1.fpOk (Nat.le_succ _) (I1.hok.fresh (Nat.le_succ _))
 ·obtain rfl:c=s1.heap.objs.size:=by simpa using hc
  exact I1.fpOk (Nat.le_refl _) (I1.hok.fresh (Nat.le_refl _))
end
end L2
namespace L2
open PySem PySem.Spec PyProof.Rows
section
variable {M:Model} {A:Around} {Er:Value->Shared->Prop} {s:Shared}
end
section
variable {P:Program} {w:World} {K:W.Frag} {mg:Str->Option Value} {base:Heap} {N:List Str} {qual:Str} {scope:Scope} {f:Addr} {cd:Value} {A:Around} {outer:List Env} {s:Shared} {H:Hp} {E:XK}
 {pins:List (Addr × Obj)} {σ:St} {H1:Hp} {s1:Shared}
end
section
variable {P:Program} {w:World} {K:W.Frag} {mg:Str->Option Value} {base:Heap} {N:List Str} {qual:Str} {scope:Scope} {f:Addr} {cd:Value} {A:Around} {outer:List Env} {s:Shared} {H:Hp} {E:XK}
 {pins:List (Addr × Obj)} {σ:St}
end
section
variable {P:Program} {w:World} {K:W.Frag} {mg:Str->Option Value} {base:Heap} {N:List Str} {qual:Str} {scope0:Scope} {f:Addr} {cd:Value} {A:Around} {outer:List Env} {s0:Shared} {H0:Hp} {E:XK} {X:Cx}
end
section
variable {X:Cx}
theorem comp_core {elt iter tg:Expr} {ifs:List Expr} {scope:Scope} {pos ipos:Pos} {cl:List (Str × Addr)} {N':List Str} {lk:List (Option Nat)} {wi:TI} {g:TG} {tt:TT} {te:TE} {use:Option (Value->Sem Unit)} {R:Value->Shared->Prop} {Q:VK} {pins:List (Addr × Obj)} {s:Shared} {σ:St} {H:Hp}
  (hc:X.calm=true) (hi:PI X tg iter wi) (hclos:closureFor scope X.env=pure cl) (hkind:scope.kind=.function)
  (hnames:∀ y∈scope.names,y.2=.local->scope.names.lookup y.1=some .local) (hcl:ClOk X.env cl) (hfr:FrOk scope.names cl=true) (hlk:LkOk X N' lk scope cl)
  (hg:∀ s3 H3 fp,PG (compCx X scope cl N' s3 H3 fp fun _ _=>False) tg g) (ht:∀ s3 H3 fp,PTs (compCx X scope cl N' s3 H3 fp fun _ _=>False) ifs tt) (he:∀ s3 H3 fp,PE (compCx X scope cl N' s3 H3 fp fun _ _=>False) elt te)
  (hs:∀ x,foldedSetIterable iter X.env x=pure x) (I:Inv X pins σ H s) (h:tComp wi lk g tt te σ H Q)
  (hend : ∀ (C D : Addr) (s' : Shared) (H' : Hp), Inv X pins σ H' s' -> Q (.ref D) H' -> H' C = none -> C ≠ X.env.locals -> X.s₀.heap.objs.size <= C -> (∀ x c, X.env.cells.lookup x = some c -> c ≠ C) -> (∀ p ∈ X.pn ++ pins, p.1 ≠ C) -> (∃ m, s'.heap.Ns C m) ->
   compPost (model X.prog X.w) X.A X.xe use R (.ref D) C (.ok .next) s') :
  wpAny (model X.prog X.w) X.A (comprehension (.ListComp elt [⟨tg,iter,ifs,0⟩] scope pos) scope X.env ipos (newList []) false (eval iter X.env) use) R X.xe s:=by
 have hcellN:∀ y∈scope.names,y.2≠.cell:=fun y hy=>by
  unfold FrOk at hfr
  rw[List.all_eq_true]at hfr
  have:=hfr y hy
  rw[Bool.and_eq_true]at this
  simpa using this.1
 refine wpAny_comprehension_free (use:=use) rfl hs hclos hkind hnames (thn (hi pins s σ H _ I h) fun v s1 h1=>thn h1 fun itv s2 h2=>?_)
 obtain⟨it,fp,tn,J,H2,e,I2,T,st2,f2,q⟩:=h2
 subst e
 refine wpAny_newList ?_ (Nat.zero_le _)
 have hD:H2 s2.heap.objs.size=none:=I2.hok.fresh (Nat.le_refl _)
 have I3:=I2.lnew (ys:=[]) (its:=[]) (t':=s2.toks) .nil (Nat.zero_le _)
 obtain⟨W,⟨m0,w0⟩,turn⟩:=q s2.heap.objs.size hD
 have fpl:∀ b∈fp,b<s2.heap.objs.size:=fun b hb=>by
  obtain⟨o,ho,_⟩:=T.obj 0 s2.heap st2 b hb
  exact Heap.lt_size ho
 refine wpAny_newFunctionEnv hcellN (by intro y hy;cases hy) (fun h1 hns1 hsb1=>?_) hkind
 dsimp only at hns1 hsb1 ⊢
 have e3:s2.heap.push { cls:=.type "list",dict:=none,data:=.seq ([]:List Value).toArray }=s2.heap.push { cls:=.type "list",data:=.seq ([]:List Value).toArray }:=rfl
 generalize hh3:s2.heap.push { cls:=.type "list",dict:=none,data:=.seq ([]:List Value).toArray }=h3 at *
 have I3':Inv X pins σ (upd H2 s2.heap.objs.size (.lst [])) { s2 with heap:=h3,toks:=s2.toks }:=I3
 have size3:h3.objs.size=s2.heap.objs.size+1:=by rw[<- hh3,Heap.size_push]
 have f3:∀ b∈fp,FpOk X pins (upd H2 s2.heap.objs.size (.lst [])) b:=fun b hb=>by
  obtain⟨f0,fr⟩:=f2 b hb
  exact⟨by rw[upd_ne (Nat.ne_of_lt (fpl b hb))];exact f0,fr⟩
 have up:∀ b u,h3.get? b=some u->h1.get? b=some u:=fun b u eb=>by
  rw[hsb1.2 b (Nat.ne_of_lt (Heap.lt_size eb))]
  exact Heap.get?_push_of_some _ eb
 have I4:Inv (compCx X scope cl N' { s2 with heap:=h3,toks:=s2.toks } (upd H2 s2.heap.objs.size (.lst [])) fp fun _ _=>False) [] (capt lk σ) (upd H2 s2.heap.objs.size (.lst [])) { s2 with heap:=h1,toks:=s2.toks+([]:List (Str × Value)).length }:=
  comp_start (s3:={ s2 with heap:=h3,toks:=s2.toks }) I3' f3 hkind hcl hfr hlk hns1 up fun b hb=>by show b<h3.objs.size;rw[size3];exact Nat.lt_succ_of_lt (fpl b hb)
 have st4:tn 0 h1:=T.keep 0 s2.heap h1 st2 fun b hb o eb=>up b o (by rw[<- hh3];exact Heap.get?_push_of_some _ eb)
 have hCs:h3.objs.size=(compEnvC scope cl h3.objs.size X.env).locals:=rfl
 have stat:∀ {H':Hp},(∀ b∈fp,H' b=none)->∀ b∈fp,FpOk (compCx X scope cl N' { s2 with heap:=h3,toks:=s2.toks } (upd H2 s2.heap.objs.size (.lst [])) fp fun _ _=>False) [] H' b:=fun {H'} hn b hb=>by
  obtain⟨f0,f1,f2',f3',f4,f5⟩:=f3 b hb
  refine⟨hn b hb,?_,fun z=>?_,.inl hb,fun x c ex=>f4 x c (hcl.get ex),fun p hp=>nomatch hp⟩
  ·show b≠h3.objs.size
   rw[size3]
   exact Nat.ne_of_lt (Nat.lt_succ_of_lt (fpl b hb))
  ·rcases List.mem_cons.mp (I3'.stkSub b z) with q | q
   ·exact f1 q
   ·exact f2' q
 have fin:∀ (s':Shared) (σ':St) (H':Hp),Inv (compCx X scope cl N' { s2 with heap:=h3,toks:=s2.toks } (upd H2 s2.heap.objs.size (.lst [])) fp fun _ _=>False) [] σ' H' s'->Q (.ref s2.heap.objs.size) H' ->
   compPost (model X.prog X.w) X.A X.xe use R (.ref s2.heap.objs.size) h3.objs.size (.ok .next) s':=fun s' σ' H' I' q'=>by
  obtain⟨m,hm,_⟩:=id I'.loc
  have I5:Inv X pins σ H' s':=I3'.call' (ch:=fp) I'.os I'.base I'.hok I'.bare fun b hb=>by
   obtain⟨f0,f1,f2',f3',f4,f5⟩:=f3 b hb
   exact⟨f3',f1,f4,f5⟩
  exact hend h3.objs.size s2.heap.objs.size s' H' I5 q' I'.free (Nat.ne_of_gt I3'.lt) I3'.sz (fun x c ex z=>by
   obtain⟨v',q2⟩:=I3'.cell x c ex
   exact absurd q2.lt (by rw[z];exact Nat.lt_irrefl _)) (fun p hp z=>absurd (Heap.lt_size (I3'.pin p hp).1) (by rw[z];exact Nat.lt_irrefl _)) ⟨m,hm⟩
 have loop:∀ s5:Shared,s5={ s2 with heap:=h1,toks:=s2.toks+([]:List (Str × Value)).length } ->
   codeAny (model X.prog X.w) X.A (.compLoop (.ListComp elt [⟨tg,iter,ifs,0⟩] scope pos) 0 (.ref it) (.ref s2.heap.objs.size) (compEnvC scope cl h3.objs.size X.env)) (compPost (model X.prog X.w) X.A X.xe use R (.ref s2.heap.objs.size) h3.objs.size) s5:=by
  rintro s5 rfl
  refine codeAny_loop rfl (fun n s'=>∃ i xs σ' H',Inv (compCx X scope cl N' { s2 with heap:=h3,toks:=s2.toks } (upd H2 s2.heap.objs.size (.lst [])) fp fun _ _=>False) [] σ' H' s'/\tn i s'.heap/\(∀ b∈fp,H' b=none)/\W i n xs σ' H')
   (fun n s6 hI=>?_) m0 ⟨0,[],capt lk σ,_,I4,st4,fun b hb=>(f3 b hb).1,w0⟩
  obtain⟨i,xs,σ6,H6,I6,st6,fr6,w6⟩:=hI
  show wpAny _ X.A ((compTurn (.ListComp elt [⟨tg,iter,ifs,0⟩] scope pos) 0 (.ref it) (.ref s2.heap.objs.size) (compEnvC scope cl h3.objs.size X.env)).onRaise (fun x=>do noteFrame x (compEnvC scope cl h3.objs.size X.env);theTreesLotGoes x)) _ _ s6
  refine wpAny_noted ?_
  rw[compTurn_list]
  refine wpAny_bind (wpAny_standAt (wpAny_bind ?_))
  obtain⟨hD6,hw⟩:=turn i n xs σ6 H6 w6
  rcases hw with⟨stop,qn⟩ | ⟨go,hlen,step⟩
  ·refine thn (T.done (compCx X scope cl N' { s2 with heap:=h3,toks:=s2.toks } (upd H2 s2.heap.objs.size (.lst [])) fp fun _ _=>False) rfl rfl rfl hc i [] s6 σ6 H6 _ I6 (stat fr6) st6 stop) fun r s7 ⟨hr,I7⟩=>?_
   subst hr
   exact wpAny_pure (fin s7 σ6 H6 I7 qn)
  ·refine thn (T.item (compCx X scope cl N' { s2 with heap:=h3,toks:=s2.toks } (upd H2 s2.heap.objs.size (.lst [])) fp fun _ _=>False) rfl rfl rfl hc i [] s6 σ6 H6 _ I6 (stat fr6) st6 go) fun r s7 ⟨u,hr,h7⟩=>?_
   subst hr
   refine wpAny_bind (thn h7 fun _ s8 ⟨x,H8,I8,r8,y8,st8,fr8⟩=>?_)
   have I8':=I8.pinned (stat fr8) (T.obj _ _ st8)
   refine wpAny_bind (wpAny_mono (hg _ _ _ _ s8 σ6 H8 x u _ I8' r8 (step x H8 y8)) (fun _ s9 ⟨σ9,H9,I9,q9⟩=>?_) (fun _ _ z=>False.elim z))
   refine wpAny_bind (wpAny_mono (ht _ _ _ _ s9 σ9 H9 _ I9 q9) (fun ok s10 ⟨H10,I10,q10⟩=>?_) (fun _ _ z=>False.elim z))
   have again:∀ {σ':St} {H':Hp} {ys:List V} {s':Shared},Inv (compCx X scope cl N' { s2 with heap:=h3,toks:=s2.toks } (upd H2 s2.heap.objs.size (.lst [])) fp fun _ _=>False) ([]++pinsAt fp s8.heap) σ' H' s'->(∃ m',m'<n/\W (i+1) m' ys σ' H') ->
     ∃ m',m'<n/\∃ i xs σ' H',Inv (compCx X scope cl N' { s2 with heap:=h3,toks:=s2.toks } (upd H2 s2.heap.objs.size (.lst [])) fp fun _ _=>False) [] σ' H' s'/\tn i s'.heap/\(∀ b∈fp,H' b=none)/\W i m' xs σ' H':=fun {σ' H' ys s'} I' ⟨m',hm,w'⟩=>by
    refine⟨m',hm,i+1,ys,σ',H',I'.unpinned,T.keep _ _ _ st8 fun b hb o eb=>(I'.pin (b,o) (List.mem_append_right _ (List.mem_append_right _ (mem_pinsAt hb eb)))).1,fun b hb=>?_,w'⟩
    obtain⟨o,eb,_⟩:=T.obj _ _ st8 b hb
    exact(I'.pin (b,o) (List.mem_append_right _ (List.mem_append_right _ (mem_pinsAt hb eb)))).2.1
   cases ok with
   | false =>
    have q10':∃ m',m'<n/\W (i+1) m' xs σ9 H10:=by simpa using q10
    exact wpAny_pure ⟨rfl,again I10 q10'⟩
   | true =>
    rw[if_pos rfl]at q10
    refine wpAny_bind (wpAny_bind (wpAny_mono (he _ _ _ _ s10 σ9 H10 _ I10 q10) (fun y s11 ⟨v11,H11,I11,r11,hD11,q11⟩=>?_) (fun _ _ z=>False.elim z)))
    refine wpAny_bind (wpAny_mono (mt_append (X:=compCx X scope cl N' { s2 with heap:=h3,toks:=s2.toks } (upd H2 s2.heap.objs.size (.lst [])) fp fun _ _=>False) _ s11 σ9 H11 (.ref s2.heap.objs.size) [v11] (.ref s2.heap.objs.size) [y] (fun _ H'=>∃ m',m'<n/\W (i+1) m' (xs++[v11]) σ9 H') I11 rfl (.cons r11 .nil) ⟨s2.heap.objs.size,xs,v11,rfl,rfl,hD11,hlen,q11⟩) (fun _ s12 ⟨_,H12,I12,_,q12⟩=>?_) (fun _ _ z=>False.elim z))
    exact wpAny_pure (wpAny_pure ⟨rfl,again I12 q12⟩)
 exact codeAny_compStart_list (loop _ rfl) (T.self X.A 0 _ _ _ st4 (loop _ rfl))
def tSetC (i:Nat)(t:TE):TS:=fun D σ H=>t σ H fun v H1=>D.nx (σ.set i (some v)) H1
theorem ps_setC {i:Nat}{y:Str}{py:Pos}{elt iter tg:Expr}{ifs:List Expr}{scope:Scope}{pos spos:Pos}{cl:List (Str × Addr)}{N':List Str}{lk:List (Option Nat)}{wi:TI}{g:TG}{tt:TT}{te:TE}
  (hN:X.N.Nodup)(hy:X.N[i]?=some y)(hyl:X.env.scope.names.lookup y=some .local)
  (hsw:swapsWith (.ListComp elt [⟨tg,iter,ifs,0⟩] scope pos) (some (.Name y py)) spos.line X.env=pure true)
  (hc:X.calm=true)(hi:PI X tg iter wi)(hclos:closureFor scope X.env=pure cl)(hkind:scope.kind=.function)
  (hnames:∀ y∈scope.names,y.2=.local->scope.names.lookup y.1=some .local)(hcl:ClOk X.env cl)(hfr:FrOk scope.names cl=true)(hlk:LkOk X N' lk scope cl)
  (hg:∀ s3 H3 fp,PG (compCx X scope cl N' s3 H3 fp fun _ _=>False) tg g)(ht:∀ s3 H3 fp,PTs (compCx X scope cl N' s3 H3 fp fun _ _=>False) ifs tt)(he:∀ s3 H3 fp,PE (compCx X scope cl N' s3 H3 fp fun _ _=>False) elt te)
  (hs:∀ x,foldedSetIterable iter X.env x=pure x:=by intro _;rfl):PS X (.Assign [.Name y py] (.ListComp elt [⟨tg,iter,ifs,0⟩] scope pos) spos) (tSetC i (tComp wi lk g tt te)):=by
 intro pins s σ H D I h
 rw[exec_Assign_Name_used _ _ _ _ hsw]
 refine wpAny_bind (wpAny_standAt (wpAny_bind ?_))
 show wpAny _ X.A (do let _ <- comprehension (.ListComp elt [⟨tg,iter,ifs,0⟩] scope pos) scope X.env _ (newList []) false (eval iter X.env) (some (assign (.Name y py) X.env))) _ _ s
 refine wpAny_bind (thn (comp_core (use:=some (assign (.Name y py) X.env)) (R:=fun _ s'=>SP X pins D .next s') hc hi hclos hkind hnames hcl hfr hlk hg ht he hs I h
  fun C Dd s' H' I' q' hC hCL hCs hCc hCp ⟨m,hm⟩=>?_) fun _ s' hq=>wpAny_pure (wpAny_pure hq))
 show wpAny _ X.A (assign (.Name y py) X.env (.ref Dd)) _ _ s'
 refine wpAny_assign_Name (store_ok2 (v:=.ref Dd) I' hN hy (.inl hyl) rfl (fun s2 I2 ⟨a,hsb,ha⟩=>?_) (.inr hyl))
 have hCa:C≠a:=by
  rcases ha with z | z
  ·rw[z];exact hCL
  ·exact(hCc y a z).symm
 refine⟨m,hm.sameBut hsb hCa,fun h' hs'=>?_⟩
 obtain⟨h0,g0,d0,t0,o0⟩:=s2
 exact⟨_,H',I2.turned (t':=t0) (it:=C) (fun b o hb eb=>(hs'.2 b hb).trans eb) hC hCL (.inr hCs) hCc hCp,q'⟩
end
end L2
namespace Grf
def S:Nat->(Nat->Int)->Int
 | 0,_=>0
 | n+1,f=>S n f+f n
def b2 (b:Bool):Int:=if b then 1 else 0
structure Gph (g:Nat->Nat->Bool):Prop where
 sym:∀ i j,g i j=g j i
 irr:∀ i,g i i=false
def deg (n:Nat)(g:Nat->Nat->Bool)(i:Nat):Int:=S n fun j=>b2 (g i j)
def setE (g:Nat->Nat->Bool)(a b:Nat)(v:Bool):Nat->Nat->Bool:=fun i j=>if (i=a/\j=b)\/(i=b/\j=a) then v else g i j
end Grf
namespace Grf
structure Ex (g:Nat->Nat->Bool) (a b c d:Nat):Prop where
 ab:a≠b
 ac:a≠c
 ad:a≠d
 bc:b≠c
 bd:b≠d
 cd:c≠d
 t1:g a b=true
 t2:g c d=true
 n1:g a d=false
 n2:g c b=false
end Grf
namespace Grf
def cnt (n:Nat)(a:Nat->Bool):Int:=S n fun i=>b2 (a i)
def sm (n:Nat)(a:Nat->Bool)(d:Nat->Int):Int:=S n fun i=>if a i=true then d i else 0
def put (a:Nat->Bool)(j:Nat)(v:Bool):Nat->Bool:=fun i=>if i=j then v else a i
end Grf
namespace Grf
end Grf
namespace Grf
def mnf (r x:Int):Int:=if r<x then r else x
def roomF (n:Nat)(d:Nat->Int)(A:Nat->Bool):Int:=cnt n A*(cnt n A - 1)+S n (fun i=>if A i=true then 0 else mnf (cnt n A) (d i)) - sm n A d
def Top (n:Nat)(d:Nat->Int)(A:Nat->Bool):Prop:=∀ i j,i<n->j<n->A i=true->A j=false->d j<=d i
end Grf
namespace Web
def up2 (ns:List Int):List Int:=PySem.W.sortI ns
theorem fall_eq {zs ns:List Int}(hp:zs.Perm ns)(hs:zs.Pairwise (·≥·)):zs=(up2 ns).reverse:=by
 have h:zs.reverse=up2 ns:=PySem.W.eq_sortI ((List.reverse_perm zs).trans hp) (by rw[List.pairwise_reverse];exact hs)
 rw[<- h,List.reverse_reverse]
end Web
namespace Web
inductive Wl where
 | below (p:Nat) | odd | wall (r:Nat) | free
 deriving DecidableEq
end Web
namespace Web
open L2
def rng (n:Nat):List Int:=(List.range' 0 n).map fun k:Nat=>(k:Int)
def rest (zs:List Int)(p:Int):List Int:=zs.filter fun x=>decide (x≠p)
def less1 (ns es:List Int)(i:Nat):Int:=if (i:Int)∈es then ns.getD i 0 - 1 else ns.getD i 0
def leftL (ns:List Int)(p:Nat)(es:List Int):List Int:=((List.range ns.length).filter fun i=>decide (i≠p)).map (less1 ns es)
open Grf (S b2 Gph deg cnt sm Top roomF)
theorem map_getD (φ:Int->Int)(xs:List Int):(List.range xs.length).map (fun i=>φ (xs.getD i 0))=xs.map φ:=by
 refine List.ext_getElem? fun i=>?_
 rw[List.getElem?_map,List.getElem?_map]
 rcases Nat.lt_or_ge i xs.length with h | h
 ·rw[List.getElem?_range h,List.getElem?_eq_getElem h]
  show some (φ (xs.getD i 0))=some (φ xs[i])
  rw[List.getD_eq_getElem?_getD,List.getElem?_eq_getElem h]
  rfl
 ·rw[List.getElem?_eq_none h,List.getElem?_eq_none (by rw[List.length_range];exact h)]
  rfl
end Web
namespace Web
open L2
open Grf (S b2 Gph deg setE)
end Web
namespace Web
open L2
open Grf (S b2 Gph deg cnt sm Top roomF)
end Web
namespace Web
open L2
structure LayI (ns ps left:List Int) (ks:List (List Int)):Prop where
 len:left.length=ps.length
 nd:ps.Nodup
 inn:∀ q∈ps,0<=q/\q<ns.length
 ends:∀ k∈ks,Ends2 ns.length k
 nodup:(ks.map up).Nodup
 out:∀ a b:Int,[a,b]∈ks->¬ (a∈ps/\b∈ps)
 cnt:∀ i q:Nat,ps[i]?=some (q:Int)->(cntP ks q:Int)+left.getD i 0=ns.getD q 0
 done:∀ q:Nat,q<ns.length->(q:Int)∉ps->(cntP ks q:Int)=ns.getD q 0
def keptN (n p:Nat):List Int:=((List.range n).filter fun i=>decide (i≠p)).map fun i:Nat=>(i:Int)
end Web
set_option Elab.async false
set_option maxRecDepth 100000
namespace L2
open PySem PySem.Spec PyProof.Rows
section
variable (P:Program) (w:World)
end
section
variable {P:Program} {w:World} {H H':Hp} {h h':Heap} {a:Addr} {o:HO}
end
section
variable {P:Program} {w:World} {H:Hp} {h h':Heap} {x e:Addr} {o':HO}
end
section
variable {fs fs' ex ex':List Addr} {H H1 H2:Hp} {h h1 h2 h':Heap} {a x e:Addr} {o:HO}
end
section
variable {X:Cx} {pins:List (Addr × Obj)} {σ:List (Option V)} {H H':Hp} {s:Shared} {h':Heap}
end
section
variable {X:Cx}
variable {a b:Expr} {ta tb:TE} {pos:Pos}
variable {tA tB':TT} {rest:List Expr}
end
section
variable {X:Cx} {pins:List (Addr × Obj)} {σ:St} {H:Hp} {s:Shared} {a:Addr} {xs ys:List V}
end
section
variable {X:Cx} {pins:List (Addr × Obj)} {σ:St} {H:Hp} {s:Shared} {E:Value->Shared->Prop}
end
section
variable {X:Cx} {st:Stmt} {rest:List Stmt} {t u:TS} {e:Expr} {te:TE} {pos:Pos}
end
section
variable {X:Cx} {pos:Pos}
end
section
variable {X:Cx} {pos:Pos}
end
section
variable {X:Cx} {tg:Expr}
end
section
variable {X:Cx} {a b c:Expr} {ta tb tc:TE} {pos:Pos}
end
section
variable {X:Cx} {a b c:Expr} {ta tb tc:TE} {pos:Pos}
end
section
variable {prog:Program} {w:World} {A:Around} {E:Value->Shared->Prop} {s:Shared} {K:W.Frag} {x dx C f:Addr} {mA:Str->Option Value} {name:Str} {v:Value}
end
section
variable {P:Program} {w:World} {H H':Hp} {h h':Heap} {a C dx:Addr} {fs fs':List (Str × V)}
end
section
variable {X:Cx} {pins:List (Addr × Obj)} {σ:St} {H:Hp} {s:Shared} {a C dx:Addr} {fs:List (Str × V)} {f:Str} {v:V} {A:Around} {E:Value->Shared->Prop}
end
section
variable {X:Cx} {o e value:Expr} {f:Str} {pos pos' tpos:Pos} {ta tv:TE}
end
section
variable {X:Cx} {pins:List (Addr × Obj)} {σ:St} {H:Hp} {s:Shared} {A:Around} {E:Value->Shared->Prop} {Q:Value->Shared->Prop} {c:Value} {b:Bool}
end
section
variable {X:Cx} {e:Expr} {es:List Expr} {te:TE} {t:TA} {pos:Pos}
end
section
variable {X:Cx} {pins:List (Addr × Obj)} {σ:St} {H:Hp} {s s':Shared}
end
section
variable {X:Cx} {CX:CXT} {k:Nat} {f C:Addr} {fd:FuncData} {ps:List Str} {sp:Sp} {dvs:List V} {ds:List Value} {E:XK} {x m:Str} {p pos apos:Pos} {e o:Expr} {es:List Expr} {ta:TE} {t:TA}
end
section
variable {X:Cx} {CX:CXT} {k:Nat} {f C:Addr} {fd:FuncData} {ps ks:List Str} {sp:Sp} {E:XK} {x m:Str} {p pos apos kpos:Pos} {e o:Expr} {es:List Expr} {kws:List Keyword} {te ta:TE} {t tk:TA} {nm:Option Str}
variable {g:List Value->List Value->List Value} {gV:List V->List V->List V}
end
section
variable {X:Cx} {x:Str} {p pos:Pos} {e:Expr} {es:List Expr} {t:TA} {id T:String} {r:List V->Hp->VK->Prop}
end
section
variable {κ:Type} [DecidableEq κ]
def valV (kvs:List (κ × V))(k:κ):Option V:=(kvs.find? fun kv=>decide (kv.1=k)).map (·.2)
def putK (kvs:List (κ × V))(k:κ)(v:V):List (κ × V):=
 if (kvs.any fun kv=>decide (kv.1=k))=true then kvs.map (fun kv=>if kv.1=k then (kv.1,v) else kv) else kvs++[(k,v)]
theorem valV_pos {p:κ × V}{r:List (κ × V)}{k:κ}(e:p.1=k):valV (p::r) k=some p.2:=by simp[valV,List.find?_cons,e]
theorem valV_neg {p:κ × V}{r:List (κ × V)}{k:κ}(e:¬ p.1=k):valV (p::r) k=valV r k:=by simp[valV,List.find?_cons,e]
theorem valV_any (k:κ):∀ kvs:List (κ × V),(kvs.any fun kv=>decide (kv.1=k))=(valV kvs k).isSome
 | []=>rfl
 | p::r=>by
  rw[List.any_cons]
  by_cases e:p.1=k
  ·simp only[valV_pos e,decide_eq_true e,Bool.true_or,Option.isSome_some]
  ·rw[valV_neg e,decide_eq_false e,Bool.false_or];exact valV_any k r
theorem valV_map (k j:κ)(y:V):∀ kvs:List (κ × V),valV (kvs.map fun kv=>if kv.1=k then (kv.1,y) else kv) j=(valV kvs j).map fun x=>if j=k then y else x
 | []=>rfl
 | p::r=>by
  have ih:=valV_map k j y r
  rw[List.map_cons]
  by_cases h:p.1=k
  ·rw[if_pos h]
   by_cases e:p.1=j
   ·rw[valV_pos (p:=(p.1,y)) e,valV_pos e,Option.map_some,if_pos (e.symm.trans h)]
   ·rw[valV_neg (p:=(p.1,y)) e,valV_neg e,ih]
  ·rw[if_neg h]
   by_cases e:p.1=j
   ·rw[valV_pos (p:=p) e,valV_pos e,Option.map_some,if_neg (fun z=>h (e.trans z))]
   ·rw[valV_neg (p:=p) e,valV_neg e,ih]
theorem valV_snoc (k j:κ)(y:V):∀ kvs:List (κ × V),valV kvs k=none->valV (kvs++[(k,y)]) j=if j=k then some y else valV kvs j
 | [],_=>by
  by_cases e:k=j
  ·rw[if_pos e.symm];exact valV_pos (p:=(k,y)) e
  ·rw[if_neg (fun z=>e z.symm)];exact valV_neg (p:=(k,y)) e
 | p::r,hn=>by
  rw[List.cons_append]
  have hk:¬ p.1=k:=fun z=>by rw[valV_pos z]at hn;cases hn
  rw[valV_neg hk]at hn
  have ih:=valV_snoc k j y r hn
  by_cases e:p.1=j
  ·rw[valV_pos e,valV_pos e,if_neg (fun z=>hk (e.trans z))]
  ·rw[valV_neg e,valV_neg e,ih]
theorem valV_put (kvs:List (κ × V))(k j:κ)(y:V):valV (putK kvs k y) j=if j=k then some y else valV kvs j:=by
 unfold putK
 by_cases a:(kvs.any fun kv=>decide (kv.1=k))=true
 ·rw[if_pos a,valV_map]
  rw[valV_any]at a
  by_cases e:j=k
  ·obtain⟨x,hx⟩:=Option.isSome_iff_exists.mp a
   rw[if_pos e,e,hx,Option.map_some,if_pos rfl]
  ·rw[if_neg e]
   cases valV kvs j with
   | none=>rfl
   | some x=>rw[Option.map_some,if_neg e]
 ·rw[if_neg a]
  refine valV_snoc k j y kvs ?_
  rw[valV_any]at a
  cases q:valV kvs k with
  | none=>rfl
  | some x=>rw[q]at a;exact(a rfl).elim
theorem length_putK (kvs:List (κ × V))(k:κ)(v:V):(putK kvs k v).length<=kvs.length+1:=by
 unfold putK
 split
 ·rw[List.length_map];omega
 ·rw[List.length_append,List.length_cons,List.length_nil];omega
theorem RelO.isSome_eq {o:Option V}{u:Option Value}(r:RelO o u):o.isSome=u.isSome:=by
 cases o with
 | none=>cases u with
  | none=>rfl
  | some _=>exact(show False from r).elim
 | some _=>cases u with
  | none=>exact(show False from r).elim
  | some _=>rfl
theorem KV.val {kvs:List (κ × V)}{vs:List (κ × Value)}(r:KV kvs vs)(k:κ):RelO (valV kvs k) (valueAt vs k):=by
 unfold KV at r
 induction r with
 | nil=>exact True.intro
 | @cons p q ps qs h t ih =>
  obtain⟨h1,h2⟩:=h
  by_cases e:p.1=k
  ·have e':q.1=k:=h1.symm.trans e
   have b:valueAt (q::qs) k=some q.2:=by simp[valueAt,List.find?_cons,e']
   rw[valV_pos e,b];exact h2
  ·have e':¬ q.1=k:=fun z=>e (h1.trans z)
   have b:valueAt (q::qs) k=valueAt qs k:=by simp[valueAt,List.find?_cons,e']
   rw[valV_neg e,b];exact ih
theorem KV.any {kvs:List (κ × V)}{vs:List (κ × Value)}(r:KV kvs vs)(k:κ):(kvs.any fun kv=>decide (kv.1=k))=vs.any fun kv=>decide (kv.1=k):=by
 unfold KV at r
 induction r with
 | nil=>rfl
 | cons h t ih=>rw[List.any_cons,List.any_cons,ih,h.1]
theorem KV.repl {kvs:List (κ × V)}{vs:List (κ × Value)}(r:KV kvs vs)(k:κ){y:V}{u:Value}(ry:RelV y u) :
  KV (kvs.map fun kv=>if kv.1=k then (kv.1,y) else kv) (vs.map fun kv=>if kv.1=k then (kv.1,u) else kv):=by
 unfold KV at r ⊢
 induction r with
 | nil=>exact .nil
 | @cons p q ps qs h t ih =>
  rw[List.map_cons,List.map_cons]
  refine .cons ?_ ih
  obtain⟨h1,h2⟩:=h
  by_cases e:p.1=k
  ·rw[if_pos e,if_pos (h1.symm.trans e)];exact⟨h1,ry⟩
  ·rw[if_neg e,if_neg (fun z=>e (h1.trans z))];exact⟨h1,h2⟩
theorem KV.put {kvs:List (κ × V)}{vs:List (κ × Value)}(r:KV kvs vs)(k:κ){y:V}{u:Value}(ry:RelV y u):KV (putK kvs k y) (stored vs k u):=by
 unfold putK stored
 rw[r.any k]
 by_cases e:(vs.any fun kv=>decide (kv.1=k))=true
 ·rw[if_pos e,if_pos e];exact r.repl k ry
 ·rw[if_neg e,if_neg e];exact Paired.snoc r ⟨rfl,ry⟩
theorem KV.length {kvs:List (κ × V)}{vs:List (κ × Value)}(r:KV kvs vs):kvs.length=vs.length:=Paired.length r
end
theorem kV_is {P:Program}{w:World}{k:Key}{u:Value}(r:RelV (kV k) u):(mixKind P w).is k u=true:=by
 cases k with
 | inl i=>obtain⟨t,e⟩:=(show ∃ t,u=Value.int i t from r);subst e;exact mixKind_int P w i t
 | inr x=>obtain⟨t,e⟩:=(show ∃ t,u=Value.str x t from r);subst e;exact mixKind_str P w x t
theorem items_are {P:Program}{w:World}:∀ {ks:List Key} {us:List Value},Vals (ks.map kV) us->ItemsAre (mixKind P w) ks us
 | [],_,r=>by rw[List.map_nil]at r;cases r;exact .nil
 | k::ks,_,r=>by
  rw[List.map_cons]at r
  cases r with
  | cons h t=>exact .cons (kV_is h) (items_are t)
abbrev KT (H:Hp):List (List Key × V)->List (List Key × Addr × Value)->Prop:=Paired fun p q=>p.1=q.1/\H q.2.1=some (.tup (p.1.map kV))/\RelV p.2 q.2.2
theorem KT.val {H:Hp}{kvs:List (List Key × V)}{xs:List (List Key × Addr × Value)}(r:KT H kvs xs)(k:List Key):RelO (valV kvs k) ((atKey xs k).map (·.2)):=by
 induction r with
 | nil=>exact True.intro
 | @cons p q ps qs h t ih =>
  obtain⟨h1,_,h2⟩:=h
  by_cases e:p.1=k
  ·have e':q.1=k:=h1.symm.trans e
   have b:atKey (q::qs) k=some q.2:=by simp[atKey,List.find?_cons,e']
   rw[valV_pos e,b];exact h2
  ·have e':¬ q.1=k:=fun z=>e (h1.trans z)
   have b:atKey (q::qs) k=atKey qs k:=by simp[atKey,List.find?_cons,e']
   rw[valV_neg e,b];exact ih
theorem KT.repl {H:Hp}{kvs:List (List Key × V)}{xs:List (List Key × Addr × Value)}(r:KT H kvs xs)(k:List Key){y:V}{u:Value}(ry:RelV y u) :
  KT H (kvs.map fun kv=>if kv.1=k then (kv.1,y) else kv) (xs.map (putAt k u)):=by
 induction r with
 | nil=>exact .nil
 | @cons p q ps qs h t ih =>
  rw[List.map_cons,List.map_cons]
  refine .cons ?_ ih
  obtain⟨h1,h2,h3⟩:=h
  unfold putAt
  by_cases e:p.1=k
  ·rw[if_pos e,if_pos (h1.symm.trans e)];exact⟨h1,h2,ry⟩
  ·rw[if_neg e,if_neg (fun z=>e (h1.trans z))];exact⟨h1,h2,h3⟩
theorem KT.put {H:Hp}{kvs:List (List Key × V)}{xs:List (List Key × Addr × Value)}(r:KT H kvs xs)(k:List Key){b:Addr}{y:V}{u:Value}(hb:H b=some (.tup (k.map kV)))(ry:RelV y u) :
  KT H (putK kvs k y) (storedH xs k b u):=by
 have e:(kvs.any fun kv=>decide (kv.1=k))=(atKey xs k).isSome:=by
  rw[valV_any,(r.val k).isSome_eq,Option.isSome_map]
 unfold putK storedH
 rw[e]
 by_cases q:(atKey xs k).isSome=true
 ·rw[if_pos q,if_pos q];exact r.repl k ry
 ·rw[if_neg q,if_neg q];exact Paired.snoc r ⟨rfl,hb,ry⟩
theorem KT.keeps {H H':Hp}{kvs:List (List Key × V)}{xs:List (List Key × Addr × Value)}(r:KT H kvs xs)(ht:∀ b ys,H b=some (.tup ys)->H' b=some (.tup ys)):KT H' kvs xs:=
 Paired.mapP r fun _ _ z=>⟨z.1,ht _ _ z.2.1,z.2.2⟩
section
variable {P:Program} {w:World} {H:Hp} {h:Heap} {a:Addr}
theorem rd_of {u:HO}(ok:HOk P w H h)(e:Rd H a u):ObjOk P w H h a u:=e.ok ok
theorem dk_rd {kvs:List (Key × V)}(ok:HOk P w H h)(e:Rd H a (.dK kvs)):kvs.length<=sizeLine/\(a == sysModules)=false/\∃ vs,KV kvs vs/\h.DictOf (mixKind P w) a vs:=
 show ObjOk P w H h a (.dK kvs) from rd_of ok e
theorem dk_of {kvs:List (Key × V)}(ok:HOk P w H h)(e:H a=some (.dK kvs)):kvs.length<=sizeLine/\(a == sysModules)=false/\∃ vs,KV kvs vs/\h.DictOf (mixKind P w) a vs:=dk_rd ok (.inl e)
theorem key_of {ks:List Key}(ok:HOk P w H h)(e:H a=some (.tup (ks.map kV))):(tupleKind (mixKind P w)).is h ks a:=by
 obtain⟨_,its,r,o,h1,h2,n,h3⟩:=(show ObjOk P w H h a (.tup (ks.map kV)) from ok a _ e)
 exact⟨o,its.toArray,n,h1,h2,h3,by simpa using items_are r⟩
theorem dt_rd {kvs:List (List Key × V)}(ok:HOk P w H h)(e:Rd H a (.dT kvs)):kvs.length<=sizeLine/\(a == sysModules)=false /\
  ∃ xs,KT H kvs xs/\h.DictOfH (tupleKind (mixKind P w)) a xs:=by
 obtain⟨z,y,xs,r,o,es,ep,h1,h2,h3,h4,h5⟩:=(show ObjOk P w H h a (.dT kvs) from rd_of ok e)
 refine⟨z,y,xs,r,o,es,ep,h1,h2,h3,h4,fun x hx=>?_,h5⟩
 have all:∀ {l:List (List Key × V)} {m:List (List Key × Addr × Value)},KT H l m->∀ x∈m,(tupleKind (mixKind P w)).is h x.1 x.2.1:=by
  intro l m q
  induction q with
  | nil=>intro x hx;exact nomatch hx
  | @cons p q ps qs hq t ih =>
   intro x hx
   rcases List.mem_cons.mp hx with e | hx
   ·subst e
    exact key_of ok (by rw[<- hq.1];exact hq.2.1)
   ·exact ih x hx
 exact all r x hx
theorem dt_of {kvs:List (List Key × V)}(ok:HOk P w H h)(e:H a=some (.dT kvs)):kvs.length<=sizeLine/\(a == sysModules)=false /\
  ∃ xs,KT H kvs xs/\h.DictOfH (tupleKind (mixKind P w)) a xs:=dt_rd ok (.inl e)
end
def DGet (H:Hp)(a:Addr)(y:V)(r:Option V):Prop:=
 (∃ kvs k,Rd H a (.dK kvs)/\y=kV k/\r=valV kvs k)\/∃ kvs k b,Rd H a (.dT kvs)/\y=.ref b/\H b=some (.tup (k.map kV))/\r=valV kvs k
def DPut (H:Hp)(a:Addr)(y v:V)(H':Hp):Prop:=
 (∃ kvs k,H a=some (.dK kvs)/\y=kV k/\kvs.length<sizeLine/\H'=upd H a (.dK (putK kvs k v))) \/
 ∃ kvs k b,H a=some (.dT kvs)/\y=.ref b/\H b=some (.tup (k.map kV))/\kvs.length<sizeLine/\H'=upd H a (.dT (putK kvs k v))
theorem DGet.t {H:Hp}{a b:Addr}{kvs:List (List Key × V)}{k:List Key}(e:H a=some (.dT kvs))(eb:H b=some (.tup (k.map kV))):DGet H a (.ref b) (valV kvs k):=.inr ⟨kvs,k,b,.inl e,rfl,eb,rfl⟩
theorem DPut.t {H:Hp}{a b:Addr}{kvs:List (List Key × V)}{k:List Key}{v:V}(e:H a=some (.dT kvs))(eb:H b=some (.tup (k.map kV)))(hl:kvs.length<sizeLine) :
  DPut H a (.ref b) v (upd H a (.dT (putK kvs k v))):=.inr ⟨kvs,k,b,e,rfl,eb,hl,rfl⟩
section
variable {X:Cx} {pins:List (Addr × Obj)} {σ:St} {H:Hp} {s:Shared} {a:Addr} {y v:V} {u r:Value} {o:Option V} {A:Around} {E:Value->Shared->Prop}
theorem Inv.big (I:Inv X pins σ H s):sysModules<s.heap.objs.size:=by
 have h:mainGlobals<s.heap.objs.size:=(I.mod.glob.keeps I.bk).lt
 exact Nat.lt_trans (by decide) h
theorem d_getItem {Q:Value->Shared->Prop}(hu:A.units+1<cLine)(I:Inv X pins σ H s)(g:DGet H a y (some v))(ry:RelV y u)(h:∀ w' s',Inv X pins σ H s'->RelV v w'->Q w' s') :
  wpAny (model X.prog X.w) A (getItem (.ref a) u) Q E s:=by
 rcases g with⟨kvs,k,e,ey,l⟩ | ⟨kvs,k,b,e,ey,eb,l⟩
 ·subst ey
  obtain⟨z,hd,vs,rel,dd⟩:=dk_rd I.hok e
  obtain⟨w',hw,rw'⟩:=RelO.some_of (v:=v) (o:=valueAt vs k) (by rw[l];exact rel.val k)
  exact wpAny_getItem_of (kV_is ry) dd.mapOf hw (h w' _ (I.tok _) rw')
 ·subst ey
  cases (show u=Value.ref b from ry)
  obtain⟨z,hd,xs,rel,dd⟩:=dt_rd I.hok e
  obtain⟨w',hw,rw'⟩:=RelO.some_of (v:=v) (o:=(atKey xs k).map (·.2)) (by rw[l];exact rel.val k)
  obtain⟨p,hp,hp2⟩:=Option.map_eq_some_iff.mp hw
  refine wpAny_getItem_heap (tupleKind_room_in1 hu) (key_of I.hok eb) dd hp ?_
  rw[hp2]
  exact h w' _ (I.tok _) rw'
theorem d_notIn {Q:Value->Shared->Prop}(hu:A.units+1<cLine)(I:Inv X pins σ H s)(g:DGet H a y o)(ry:RelV y u)(h:∀ s',Inv X pins σ H s'->Q (.bool (!o.isSome)) s') :
  wpAny (model X.prog X.w) A (compareOp .NotIn u (.ref a)) Q E s:=by
 rcases g with⟨kvs,k,e,ey,l⟩ | ⟨kvs,k,b,e,ey,eb,l⟩
 ·subst ey
  obtain⟨z,hd,vs,rel,dd⟩:=dk_rd I.hok e
  refine wpAny_notIn_of (kV_is ry) hd dd.mapOf ?_
  rw[<- (rel.val k).isSome_eq,<- l]
  exact h _ (I.tok _)
 ·subst ey
  cases (show u=Value.ref b from ry)
  obtain⟨z,hd,xs,rel,dd⟩:=dt_rd I.hok e
  refine wpAny_notIn_heap (tupleKind_room_in1 hu) (key_of I.hok eb) hd dd ?_
  have q:=(rel.val k).isSome_eq
  rw[Option.isSome_map]at q
  rw[<- q,<- l]
  exact h _ (I.tok _)
theorem d_write {h':Heap}{t':Nat}{ob:HO}(I:Inv X pins σ H s)(mu:Mut (H a))(hs:Heap.SameBut a s.heap h')(he:∃ q,h'.get? a=some q)(new:ObjOk X.prog X.w (upd H a ob) h' a ob) :
  Inv X pins σ (upd H a ob) { s with heap:=h',toks:=t' }:=
 I.write (x:=a) (e:=a) mu (.inl rfl) (fun b q hb z=>(hs.2 b hb).trans z) he new
theorem dk_new {P:Program}{w:World}{H':Hp}{h':Heap}{kvs:List (Key × V)}{vs:List (Key × Value)}(z:kvs.length<=sizeLine)(hd:(a == sysModules)=false)(rel:KV kvs vs)(dd:h'.DictOf (mixKind P w) a vs) :
  ObjOk P w H' h' a (.dK kvs):=⟨z,hd,vs,rel,dd⟩
theorem d_setItem {H':Hp}{Q:Unit->Shared->Prop}(hu:A.units+1<cLine)(I:Inv X pins σ H s)(g:DPut H a y v H')(ry:RelV y u)(rv:RelV v r)(h:∀ s',Inv X pins σ H' s'->Q () s') :
  wpAny (model X.prog X.w) A (setItem (.ref a) u r) Q E s:=by
 rcases g with⟨kvs,k,e,ey,l,eH⟩ | ⟨kvs,k,b,e,ey,eb,l,eH⟩
 ·subst ey eH
  obtain⟨z,hd,vs,rel,dd⟩:=dk_of I.hok e
  have hz:vs.length<=sizeLine:=by rw[<- rel.length];exact z
  have hl:(putK kvs k v).length<=sizeLine:=by have:=length_putK kvs k v;omega
  refine wpAny_setItem_pairs (hsz:=hz) (kV_is ry) dd fun h' dd' hs=>h _ ?_
  have he:∃ q,h'.get? a=some q:=let ⟨q,_,_,hq,_⟩:=dd';⟨q,hq⟩
  exact d_write I (by rw[e];exact True.intro) hs he (dk_new hl hd (rel.put k rv) dd')
 ·subst ey eH
  cases (show u=Value.ref b from ry)
  obtain⟨z,hd,xs,rel,dd⟩:=dt_of I.hok e
  have hz:xs.length<=sizeLine:=by rw[<- Paired.length rel];exact z
  have hl:(putK kvs k v).length<=sizeLine:=by have:=length_putK kvs k v;omega
  refine wpAny_setItem_heap (hsz:=hz) (tupleKind_room_in1 hu) (key_of I.hok eb) dd fun h' dd' hs=>h _ ?_
  obtain⟨q,es,ep,hq,h2,h3,h4,_,h5⟩:=dd'
  refine d_write I (by rw[e];exact True.intro) hs ⟨q,hq⟩ ⟨hl,hd,_,(rel.put k eb rv).keeps fun c ys ec=>?_,q,es,ep,hq,h2,h3,h4,h5⟩
  rw[upd_ne (ne_of ec e (fun z=>nomatch z))]
  exact ec
end
section
variable {X:Cx} {pins:List (Addr × Obj)} {σ:St} {H:Hp} {s:Shared} {a:Addr} {kvs:List (Key × V)} {k:Key} {u:Value} {A:Around} {E:Value->Shared->Prop}
end
def NoSl (i:Expr):Prop:=∀ ov iv,subscripted i false ov iv=operate [ov,iv] (getItem ov iv)
theorem subD_of {prog:Program}{w:World}{A:Around}{E:Value->Shared->Prop}{s:Shared}{env:Env}{value slice:Expr}{pos:Pos}{T id:String}{Q:Value->Shared->Prop}
  (hl:typeLookup (.type T) "__getitem__"=pure (some (.builtin id)))(hs:NoSl slice)
  (h:wpAny (model prog w) A (eval value env) (fun o s₁=>wpAny (model prog w) A (eval slice env) (fun i s₂=>s₂.TypeIs o T/\wpAny (model prog w) A (getItem o i) Q E s₂) E s₁) E s) :
  wpAny (model prog w) A (eval (.Subscript value slice pos) env) Q E s:=by
 refine Subscript_ (wpAny_mono h (fun o s₁ h₁=>wpAny_mono h₁ (fun i s₂ h₂=>?_) fun _ _ x=>x) fun _ _ x=>x)
 obtain⟨hT,h₂⟩:=h₂
 unfold subscriptTail
 refine wpAny_bind ?_
 rw[getitemInPython_of_ne hT.not_modules]
 refine wpAny_bind (wpAny_specialOf hT hl ?_)
 have fin:wpAny (model prog w) A (subscripted slice false o i) (fun r s₃=>wpAny (model prog w) A (letTemporaryGo value o r >>= fun _=>pure r) Q E s₃) E s₂:=by
  rw[hs o i]
  exact wpAny_operating (wpAny_mono h₂ (fun r s₃ h₃=>wpAny_bind (wpAny_letTemporaryGo (wpAny_pure h₃))) fun _ _ x=>x)
 first
  | exact wpAny_pure (wpAny_bind fin)
  | exact wpAny_bind (wpAny_pure (wpAny_bind fin))
  | exact wpAny_bind fin
theorem dict_typeIs {X:Cx}{pins:List (Addr × Obj)}{σ:St}{H:Hp}{s:Shared}{a:Addr}{y:V}{o:Option V}(I:Inv X pins σ H s)(g:DGet H a y o):s.TypeIs (.ref a) "dict":=by
 rcases g with⟨kvs,k,e,_,_⟩ | ⟨kvs,k,b,e,_,_,_⟩
 ·obtain⟨_,_,vs,_,dd⟩:=dk_rd I.hok e
  exact dd.typeIs
 ·obtain⟨_,_,xs,_,dd⟩:=dt_rd I.hok e
  exact dd.typeIs
def tDGet (td ty:TE):TE:=fun σ H Q=>td σ H fun x H1=>ty σ H1 fun y H2=>∃ a v,x=.ref a/\DGet H2 a y (some v)/\Q v H2
def tDNotIn (ty td:TE):TE:=fun σ H Q=>ty σ H fun y H1=>td σ H1 fun x H2=>∃ a o,x=.ref a/\DGet H2 a y o/\Q (.bl (!o.isSome)) H2
def sDPut (td ty tv:TE):TS:=fun D σ H=>tv σ H fun v H1=>td σ H1 fun x H2=>ty σ H2 fun y H3=>∃ a H4,x=.ref a/\DPut H3 a y v H4/\D.nx σ H4
section
variable {X:Cx} {o i e value:Expr} {pos pos' tpos:Pos} {td ty tv:TE}
theorem pe_dget (hu:X.A.units+1<cLine)(ho:PE X o td)(hi:PE X i ty)(hs:NoSl i):PE X (.Subscript o i pos) (tDGet td ty):=by
 intro pins s σ H Q I h
 refine subD_of PySem.F.slot_dict_getitem.lookup hs (thn (ho pins s σ H _ I h) fun u s1 ⟨x,H1,I1,rx,q1⟩=>thn (hi pins s1 σ H1 _ I1 q1) fun iv s2 ⟨y,H2,I2,ry,a,v,ex,g,q2⟩=>?_)
 subst ex
 obtain rfl:u=Value.ref a:=rx
 exact⟨dict_typeIs I2 g,d_getItem hu I2 g ry fun w' s3 I3 rw'=>⟨v,H2,I3,rw',q2⟩⟩
theorem pc_dnotin (hu:X.A.units+1<cLine)(hi:PE X i ty)(ho:PE X o td):PC X .NotIn i o (tDNotIn ty td):=by
 intro pins s σ H Q I h
 refine thn (hi pins s σ H _ I h) fun iv s1 ⟨y,H1,I1,ry,q1⟩=>thn (ho pins s1 σ H1 _ I1 q1) fun u s2 ⟨x,H2,I2,rx,a,ov,ex,g,q2⟩=>?_
 subst ex
 obtain rfl:u=Value.ref a:=rx
 exact d_notIn hu I2 g ry fun s3 I3=>⟨.bl (!ov.isSome),H2,I3,rfl,q2⟩
theorem ps_dput (hu:X.A.units+1<cLine)(ho:PE X o td)(hi:PE X i ty)(hv:PE X value tv)(hs:swapsWith value (some (.Subscript o i pos')) pos.line X.env=pure false) :
  PS X (.Assign [.Subscript o i pos'] value pos) (sDPut td ty tv):=by
 intro pins s σ H D I h
 refine wpAny_Assign_Subscript (thn (hv pins s σ H _ I h) fun r s1 ⟨v,H1,I1,rv,q1⟩=>thn (ho pins s1 σ H1 _ I1 q1) fun u s2 ⟨x,H2,I2,rx,q2⟩=>thn (hi pins s2 σ H2 _ I2 q2) fun iv s3 ⟨y,H3,I3,ry,a,H4,ex,g,q3⟩=>?_) hs
 subst ex
 obtain rfl:u=Value.ref a:=rx
 exact d_setItem hu I3 g ry rv fun s4 I4=>⟨σ,H4,I4,q3⟩
end
theorem dt_empty {P:Program}{w:World}{H:Hp}(h:Heap)(hb:sysModules<h.objs.size):ObjOk P w H (h.push { cls:=.type "dict",data:=.dict #[] }) h.objs.size (.dT []) :=
 ⟨Nat.zero_le _,beq_eq_false_iff_ne.mpr (Ne.symm (Nat.ne_of_lt hb)),[],.nil,_,#[],0,Heap.get?_push_size _ rfl,⟨rfl,rfl,rfl⟩,rfl,rfl,List.nodup_nil⟩
def tDNewT:TE:=fun _ H Q=>∀ p,H p=none->Q (.ref p) (upd H p (.dT []))
section
variable {X:Cx} {pos:Pos}
theorem pe_dnewT:PE X (.Dict [] [] pos) tDNewT:=fun pins s σ H Q I h =>
 wpAny_Dict_empty ⟨.ref s.heap.objs.size,_,I.laid (a:=s.heap.objs.size) (o:=.dT []) (t':=s.toks) (fun _ _ q=>Heap.get?_push_of_some _ q) (Nat.le_refl _) (dt_empty s.heap I.big),rfl,h _ (I.hok.fresh (Nat.le_refl _))⟩
end
structure M1 (X:Cx) (o:Expr) (m:Str) (apos:Pos) (e:Expr) (cpos:Pos):Prop where
 base:attributeBase o m X.env (eval o X.env)=eval o X.env
 few:((backTo cpos (starEach [e] X.env)).all (fun x=>!x.1) && (backToKw cpos (keywordEach [] X.env)).all (fun x=>x.1.isSome)
  && decide (([e]:List Expr).length+([]:List Keyword).length+(if ([]:List Keyword).isEmpty then 0 else 1)<30))=true
 line:(apos.endLine == cpos.line)=true
 trees:backTo cpos (starEach [e] X.env)=[(false,eval e X.env)]
structure M2 (X:Cx) (o:Expr) (m:Str) (apos:Pos) (e f:Expr) (cpos:Pos):Prop where
 base:attributeBase o m X.env (eval o X.env)=eval o X.env
 few:((backTo cpos (starEach [e,f] X.env)).all (fun x=>!x.1) && (backToKw cpos (keywordEach [] X.env)).all (fun x=>x.1.isSome)
  && decide (([e,f]:List Expr).length+([]:List Keyword).length+(if ([]:List Keyword).isEmpty then 0 else 1)<30))=true
 line:(apos.endLine == cpos.line)=true
 trees:backTo cpos (starEach [e,f] X.env)=[(false,eval e X.env),(false,eval f X.env)]
section
variable {X:Cx} {pins:List (Addr × Obj)} {σ:St} {H:Hp} {s:Shared} {a:Addr} {y d:V} {u r:Value} {o:Option V} {A:Around} {E:Value->Shared->Prop}
end
section
variable {X:Cx} {o e f:Expr} {apos cpos:Pos} {td ty tx:TE}
end
section
variable {X:Cx} {pins:List (Addr × Obj)} {σ:St} {H:Hp} {s:Shared} {a:Addr} {kvs:List (Key × V)} {A:Around} {E:Value->Shared->Prop}
end
section
variable {X:Cx} {pins:List (Addr × Obj)} {σ:St} {H:Hp} {s:Shared} {a:Addr} {y:V} {u:Value} {A:Around} {E:Value->Shared->Prop}
end
end L2
namespace Att
open PySem PySem.W PySem.Calls PyProof.Rows
section
variable {prog:Program} {w:World} {A:Around} {E:Value->Shared->Prop} {s:Shared} {K:Frag}
end
end Att
namespace L2
open PySem PySem.Spec PyProof.Rows
section
variable {P:Program} {w:World} {K:W.Frag} {mg:Str->Option Value} {base:Heap}
end
section
variable {X:Cx}
end
section
variable {κ:Type} [DecidableEq κ]
end
section
variable {X:Cx}
theorem pi_or {tg it:Expr}{w1 w2:TI}(h1:PI X tg it w1)(h2:PI X tg it w2):PI X tg it (fun σ H R=>w1 σ H R\/w2 σ H R):=
 fun pins s σ H R I h=>h.elim (h1 pins s σ H R I) (h2 pins s σ H R I)
end
theorem comp_enumG {D:Addr}{J:It}{S:Hp->Prop}{ys:List V}{g:TG}{tt:TT}{te:TE}{Qd:Hp->Prop}{σ0:St}{H0:Hp}
  (hst:∀ i H,S H->ys.length=i->J.stop i H)(hgo:∀ i H,S H->i<ys.length->J.go i H)(hy:∀ i H x H'',S H->J.yld i H x H''->∃ (t:Addr) (v:V),H t=none/\x=.ref t/\ys[i]?=some v/\H''=upd H t (.tup [.int i,v]))
  (Pv:Nat->List V->St->Hp->Prop)(h0:Pv 0 [] σ0 H0)(hz:ys.length<=sizeLine)(hl:∀ i xs σ H,i<=ys.length->Pv i xs σ H->S H/\H D=some (.lst xs)/\xs.length<=i)
  (hs:∀ i xs x t σ H (N:List V->St->Hp->Prop),(∀ xs' σ' H',Pv (i+1) xs' σ' H'->N xs' σ' H')->ys[i]?=some x->Pv i xs σ H->H t=none->g (.ref t) σ (upd H t (.tup [.int i,x])) fun σ2 H2=>tt σ2 H2 fun b H3=>if b=true then te σ2 H3 fun v H4=>H4 D=some (.lst xs)/\N (xs++[v]) σ2 (upd H4 D (.lst (xs++[v]))) else N xs σ2 H3)
  (hd:∀ xs σ H,Pv ys.length xs σ H->Qd H) :
  ∃ W:Nat->Nat->List V->St->Hp->Prop,(∃ m,W 0 m [] σ0 H0)/\∀ i m xs σ' H',W i m xs σ' H'->H' D=some (.lst xs)/\((J.stop i H'/\Qd H')\/(J.go i H'/\xs.length<sizeLine/\∀ x H'',J.yld i H' x H''->g x σ' H'' fun σ2 H2=>tt σ2 H2 fun b H3 =>
   if b=true then te σ2 H3 fun v H4=>H4 D=some (.lst xs)/\∃ m',m'<m/\W (i+1) m' (xs++[v]) σ2 (upd H4 D (.lst (xs++[v]))) else ∃ m',m'<m/\W (i+1) m' xs σ2 H3)):=by
 refine⟨fun i m xs σ H=>m=ys.length - i/\i<=ys.length/\Pv i xs σ H,⟨ys.length,by simp,Nat.zero_le _,h0⟩,?_⟩
 rintro i m xs σ H ⟨rfl,hi,p⟩
 obtain⟨q,hD,hx⟩:=hl i xs σ H hi p
 refine⟨hD,?_⟩
 by_cases hlt:i<ys.length
 ·refine .inr ⟨hgo i H q hlt,by omega,fun x H'' y=>?_⟩
  obtain⟨t,v,ht,e,hv,e'⟩:=hy i H x H'' q y
  subst e e'
  exact hs i xs v t σ _ (fun zs σ' H'=>∃ m',m'<ys.length - i/\m'=ys.length - (i+1)/\i+1<=ys.length/\Pv (i+1) zs σ' H') (fun zs σ' H' r=>⟨_,by omega,rfl,hlt,r⟩) hv p ht
 ·have e:i=ys.length:=by omega
  subst e
  exact .inl ⟨hst _ H q rfl,hd xs σ H p⟩
theorem itn_st {K:W.Frag}{a:Addr}{ys:List V}(i:Nat)(H:Hp)(q:SqL K H a ys)(h:ys.length=i):(Itn K a).stop i H:=⟨ys,q,Nat.le_of_eq h⟩
theorem itn_go {K:W.Frag}{a:Addr}{ys:List V}(i:Nat)(H:Hp)(q:SqL K H a ys)(h:i<ys.length):(Itn K a).go i H:=⟨ys,ys[i],q,by simp[h]⟩
theorem itn_y {K:W.Frag}{a:Addr}{ys:List V}(i:Nat)(H:Hp)(x:V)(H'':Hp)(q:SqL K H a ys)(y:(Itn K a).yld i H x H''):∃ (t:Addr) (v:V),H t=none/\x=.ref t/\ys[i]?=some v/\H''=upd H t (.tup [.int i,v]):=by
 obtain⟨t,v,ht,e,hv,e'⟩:=y
 exact⟨t,v,ht,e,hv ys q,e'⟩
theorem itm_st {K:W.Frag}{a:Addr}{ys:List V}(i:Nat)(H:Hp)(q:SqT K H a ys)(h:ys.length=i):(Itm K a).stop i H:=⟨ys,q,h⟩
theorem itm_go {K:W.Frag}{a:Addr}{ys:List V}(i:Nat)(H:Hp)(q:SqT K H a ys)(h:i<ys.length):(Itm K a).go i H:=⟨ys,ys[i],q,by simp[h]⟩
theorem itm_y {K:W.Frag}{a:Addr}{ys:List V}(i:Nat)(H:Hp)(x:V)(H'':Hp)(q:SqT K H a ys)(y:(Itm K a).yld i H x H''):∃ (t:Addr) (v:V),H t=none/\x=.ref t/\ys[i]?=some v/\H''=upd H t (.tup [.int i,v]):=by
 obtain⟨t,v,ht,e,hv,e'⟩:=y
 exact⟨t,v,ht,e,hv ys q,e'⟩
theorem comp_enumS {K:W.Frag} {a:Addr} {ys:List V} {g:TG} {tt:TT} {te:TE} {Qd:Addr->Hp->Prop} {σ0:St} {H:Hp} (hS:SqL K H a ys\/SqT K H a ys) (hz:ys.length<=sizeLine)
  (Pv:Addr->Nat->List V->St->Hp->Prop) (h0:∀ D,H D=none->Pv D 0 [] σ0 (upd H D (.lst []))) (hl:∀ D i xs σ H',H D=none->i<=ys.length->Pv D i xs σ H'->Same H H'/\H' D=some (.lst xs)/\xs.length<=i)
  (hs:∀ D i xs x t σ H' (N:List V->St->Hp->Prop),H D=none->(∀ xs' σ' H'',Pv D (i+1) xs' σ' H''->N xs' σ' H'')->ys[i]?=some x->Pv D i xs σ H'->H' t=none->g (.ref t) σ (upd H' t (.tup [.int i,x])) fun σ2 H2=>tt σ2 H2 fun b H3=>if b=true then te σ2 H3 fun v H4=>H4 D=some (.lst xs)/\N (xs++[v]) σ2 (upd H4 D (.lst (xs++[v]))) else N xs σ2 H3)
  (hd:∀ D xs σ H',H D=none->Pv D ys.length xs σ H'->Qd D H') :
  (∃ b, [V.ref a] = [V.ref b] /\ (∃ xs, SqL K H b xs) /\ ∀ D, H D = none -> ∃ W : Nat -> Nat -> List V -> St -> Hp -> Prop, (∃ m, W 0 m [] σ0 (upd H D (.lst []))) /\ ∀ i m xs σ' H', W i m xs σ' H' -> H' D = some (.lst xs) /\ (((Itn K b).stop i H' /\ Qd D H') \/ ((Itn K b).go i H' /\ xs.length < sizeLine /\ ∀ x H'', (Itn K b).yld i H' x H'' -> g x σ' H'' fun σ2 H2 => tt σ2 H2 fun b H3 =>
   if b=true then te σ2 H3 fun v H4=>H4 D=some (.lst xs)/\∃ m',m'<m/\W (i+1) m' (xs++[v]) σ2 (upd H4 D (.lst (xs++[v]))) else ∃ m',m'<m/\W (i+1) m' xs σ2 H3))) \/
  (∃ b, [V.ref a] = [V.ref b] /\ (∃ xs, SqT K H b xs) /\ ∀ D, H D = none -> ∃ W : Nat -> Nat -> List V -> St -> Hp -> Prop, (∃ m, W 0 m [] σ0 (upd H D (.lst []))) /\ ∀ i m xs σ' H', W i m xs σ' H' -> H' D = some (.lst xs) /\ (((Itm K b).stop i H' /\ Qd D H') \/ ((Itm K b).go i H' /\ xs.length < sizeLine /\ ∀ x H'', (Itm K b).yld i H' x H'' -> g x σ' H'' fun σ2 H2 => tt σ2 H2 fun b H3 =>
   if b=true then te σ2 H3 fun v H4=>H4 D=some (.lst xs)/\∃ m',m'<m/\W (i+1) m' (xs++[v]) σ2 (upd H4 D (.lst (xs++[v]))) else ∃ m',m'<m/\W (i+1) m' xs σ2 H3))):=by
 rcases hS with hS | hS
 ·exact .inl ⟨a,rfl,⟨_,hS⟩,fun D hD=>comp_enumG (S:=fun H'=>SqL K H' a ys) itn_st itn_go itn_y (Pv D) (h0 D hD) hz (fun i xs σ H' hi p=>let ⟨s,g,l⟩:=hl D i xs σ H' hD hi p;⟨s.seq hS,g,l⟩) (fun i xs x t σ H' N kN hx p ht=>hs D i xs x t σ H' N hD kN hx p ht) (fun xs σ H' p=>hd D xs σ H' hD p)⟩
 ·exact .inr ⟨a,rfl,⟨_,hS⟩,fun D hD=>comp_enumG (S:=fun H'=>SqT K H' a ys) itm_st itm_go itm_y (Pv D) (h0 D hD) hz (fun i xs σ H' hi p=>let ⟨s,g,l⟩:=hl D i xs σ H' hD hi p;⟨s.seqT hS,g,l⟩) (fun i xs x t σ H' N kN hx p ht=>hs D i xs x t σ H' N hD kN hx p ht) (fun xs σ H' p=>hd D xs σ H' hD p)⟩
theorem pg_tupK {X:Cx}(K:W.Frag)(hK:X.K=K){es:List Expr}{k:Nat}{pos:Pos}{t:TGs}{n:Nat}(hc:X.calm=true)(h:PGs X es t)
  (hn:(assignEach es X.env).length=n:=by rfl)(hst:(assignEach es X.env).findIdx? (·.1)=none:=by rfl):PG X (.Tuple es k pos) (gTup K n t):=by
 subst hK
 exact pg_tup hc h hn hst
section
variable {X:Cx}
end
def rngI (i:Int)(n:Nat):List Int:=(List.range' 0 n).map fun k:Nat=>i+(k:Int)
theorem intsA_of (a:Int):∀ {vs:List Value} {n i:Nat},vs.length=n->(∀ j v,vs[j]?=some v->∃ t,v=Value.int (a+((i+j:Nat):Int)) t)->IntsAre vs ((List.range' i n).map fun k:Nat=>a+(k:Int))
 | [],n,i,e,_=>by subst e;exact .nil
 | v::vs,0,i,e,_=>by cases e
 | v::vs,n+1,i,e,h=>by
  obtain⟨t,rfl⟩:=h 0 v rfl
  rw[List.range'_succ,List.map_cons]
  refine .cons _ t (intsA_of a (by simpa using e) fun j v hv=>?_)
  obtain⟨t',e'⟩:=h (j+1) v (by simpa using hv)
  exact⟨t',by rw[e'];congr 2;omega⟩
section
variable {X:Cx}
def tRng2 (ta:TA):TE:=fun σ H Q=>ta σ H fun vs H1=>∃ i j:Int,vs=[.int i,.int j]/\∀ r,H1 r=none->Q (.ref r) (upd H1 r (.rng i j))
theorem pe_rng2 {a b:Expr}{ta:TA}{p pos:Pos}(hg:Gl X "range")(hm:X.mg "range"=none)(ha:PA X [a,b] ta)(hs:starEach [a,b] X.env=[(false,eval a X.env),(false,eval b X.env)]:=by rfl)(hs2:starEach [b] X.env=[(false,eval b X.env)]:=by rfl) :
  PE X (.Call (.Name "range" p) [a,b] [] pos) (tRng2 ta):=by
 intro pins s σ H Q I h
 refine Call_ (ld_blt I hg hm boot_range (PyProof.Rows.callWith_type1 (thn (ha pos pins s σ H _ I h) fun us s1 ⟨vs,H1,I1,r1,q1⟩=>?_) (by rw[hs,hs2]) (by rw[hs2];rfl)))
 obtain⟨i,j,e,q⟩:=q1
 subst e
 cases r1 with
 | cons r rr =>
  cases rr with
  | cons r' rr =>
   cases rr
   obtain⟨t,rfl⟩:=r
   obtain⟨t',rfl⟩:=r'
   refine call_range_2 ?_
   have hf:H1 s1.heap.objs.size=none:=I1.hok.fresh (Nat.le_refl _)
   exact⟨.ref s1.heap.objs.size,upd H1 s1.heap.objs.size (.rng i j),I1.laid (fun b o e=>Heap.get?_push_of_some _ e) (Nat.le_refl _) ⟨_,_,_,Heap.get?_push_size _ rfl⟩,rfl,q _ hf⟩
theorem call_list_rng (hc:X.calm=true):CallR X (.type "list") (fun xs H Q=>∃ (r:Addr) (i j:Int) (n:Nat),xs=[.ref r]/\H r=some (.rng i j)/\j - i=n/\n<=1000 /\ -1000<=i/\i<=1000/\∀ l,H l=none->Q (.ref l) (upd H l (.lst ((rngI i n).map V.int)))):=by
 intro pins s σ H xs us Q I r h
 obtain⟨p,i,j,n,rfl,hq,hn,hn1,hi1,hi2,q⟩:=h
 obtain⟨u,rfl,rx⟩:=vals1 r
 cases rx
 obtain⟨t1,t2,t3,hr⟩:=I.hok p _ hq
 refine call_list_range (a:=i) (b:=j) (c:=1) (n:=n) (I.ok.hd hc) hr (small_one (by omega) (by omega) (by omega) (by omega)) (by rw[rangeSize_one];split<;>omega) (by omega) fun h' tk acc c' kp e hacc=>?_
 have hi:IntsAre acc.toList (rngI i n):=intsA_of i (by rw[Array.length_toList];exact hacc.1) fun k v hk=>by
  obtain⟨t',e⟩:=hacc.2 k v (by rw[<- Array.getElem?_toList];exact hk)
  exact⟨t',by rw[e];simp⟩
 have hl:(rngI i n).length=n:=by unfold rngI;rw[List.length_map,List.length_range']
 exact⟨.ref s.heap.objs.size,_,I.laid (t':=tk) kp (Nat.le_refl _) (show ObjOk X.prog X.w _ h' _ (.lst ((rngI i n).map V.int)) from ⟨by rw[List.length_map,hl,sizeLine_eq];omega,acc.toList,c',vals_ints hi,by rw[Array.toArray_toList];exact e⟩),rfl,q _ (I.hok.fresh (Nat.le_refl _))⟩
end
theorem comp_range {lo:Int}{n:Nat}{D:Addr}{g:TG}{tt:TT}{te:TE}{Qd:Hp->Prop}{σ0:St}{H0:Hp}(Pv:Nat->List V->St->Hp->Prop)(h0:Pv 0 [] σ0 H0)(hz:n<=sizeLine)(hl:∀ i xs σ H,i<=n->Pv i xs σ H->H D=some (.lst xs)/\xs.length<=i)
  (hs:∀ i xs σ H (N:List V->St->Hp->Prop),(∀ xs' σ' H',Pv (i+1) xs' σ' H'->N xs' σ' H')->i<n->Pv i xs σ H->g (.int (lo+i)) σ H fun σ2 H2=>tt σ2 H2 fun b H3=>if b=true then te σ2 H3 fun v H4=>H4 D=some (.lst xs)/\N (xs++[v]) σ2 (upd H4 D (.lst (xs++[v]))) else N xs σ2 H3)
  (hd:∀ xs σ H,Pv n xs σ H->Qd H) :
  ∃ W:Nat->Nat->List V->St->Hp->Prop,(∃ m,W 0 m [] σ0 H0)/\∀ i m xs σ' H',W i m xs σ' H'->H' D=some (.lst xs)/\(((Itr lo n).stop i H'/\Qd H')\/((Itr lo n).go i H'/\xs.length<sizeLine/\∀ x H'',(Itr lo n).yld i H' x H''->g x σ' H'' fun σ2 H2=>tt σ2 H2 fun b H3 =>
   if b=true then te σ2 H3 fun v H4=>H4 D=some (.lst xs)/\∃ m',m'<m/\W (i+1) m' (xs++[v]) σ2 (upd H4 D (.lst (xs++[v]))) else ∃ m',m'<m/\W (i+1) m' xs σ2 H3)):=by
 refine⟨fun i m xs σ H=>m=n - i/\i<=n/\Pv i xs σ H,⟨n,by simp,Nat.zero_le _,h0⟩,?_⟩
 rintro i m xs σ H ⟨rfl,hi,p⟩
 obtain⟨hD,hx⟩:=hl i xs σ H hi p
 refine⟨hD,?_⟩
 by_cases hlt:i<n
 ·refine .inr ⟨hlt,by omega,fun x H'' y=>?_⟩
  obtain⟨e,y⟩:=y
  subst e y
  exact hs i xs σ _ (fun zs σ' H'=>∃ m',m'<n - i/\m'=n - (i+1)/\i+1<=n/\Pv (i+1) zs σ' H') (fun zs σ' H' r=>⟨_,by omega,rfl,hlt,r⟩) hlt p
 ·obtain rfl:i=n:=by omega
  exact .inl ⟨Nat.le_refl _,hd xs σ H p⟩
end L2
namespace Web
open L2
def chs:List Int->Int->List (List Int)
 | [],m=>if m=0 then [[]] else []
 | p::ps,m=>if m=0 then [[]] else (chs ps (m - 1)).map (p::·)++chs ps m
theorem chs_zero (ps:List Int):chs ps 0=[[]]:=by cases ps<;>rfl
theorem chs_neg:∀ {ps:List Int} {m:Int},m<0->chs ps m=[]
 | [],m,h=>by unfold chs;rw[if_neg (by omega)]
 | p::ps,m,h=>by unfold chs;rw[if_neg (by omega),chs_neg (by omega),chs_neg h];rfl
theorem chs_cons (p:Int)(ps:List Int)(m:Int):chs (p::ps) m=(chs ps (m - 1)).map (p::·)++chs ps m:=by
 by_cases h:m=0
 ·subst h
  rw[chs_zero,chs_neg (by decide),chs_zero];rfl
 ·show (if m=0 then _ else _)=_
  rw[if_neg h]
theorem chs_len:∀ (ps:List Int) (m:Int),(chs ps m).length<=2 ^ ps.length
 | [],m=>by
  unfold chs
  split<;>decide
 | p::ps,m=>by
  rw[chs_cons,List.length_append,List.length_map,List.length_cons,Nat.pow_succ]
  have h1:=chs_len ps (m - 1)
  have h2:=chs_len ps m
  omega
theorem chs_sub:∀ {ps:List Int} {m:Int} {E:List Int},E∈chs ps m->∀ x∈E,x∈ps
 | [],m,E,h,x,hx=>by
  unfold chs at h
  split at h
  ·rw[List.mem_singleton.mp h]at hx;exact absurd hx List.not_mem_nil
  ·exact absurd h List.not_mem_nil
 | p::ps,m,E,h,x,hx=>by
  rw[chs_cons]at h
  rcases List.mem_append.mp h with h | h
  ·obtain⟨E',h1,rfl⟩:=List.mem_map.mp h
   rcases List.mem_cons.mp hx with rfl | hx
   ·exact List.mem_cons_self
   ·exact List.mem_cons_of_mem _ (chs_sub h1 x hx)
  ·exact List.mem_cons_of_mem _ (chs_sub h x hx)
theorem chs_many:∀ {ps:List Int} {m:Int} {E:List Int},E∈chs ps m->(E.length:Int)=m
 | [],m,E,h=>by
  unfold chs at h
  split at h
  ·next e=>rw[List.mem_singleton.mp h,e];rfl
  ·exact absurd h List.not_mem_nil
 | p::ps,m,E,h=>by
  rw[chs_cons]at h
  rcases List.mem_append.mp h with h | h
  ·obtain⟨E',h1,rfl⟩:=List.mem_map.mp h
   have:=chs_many h1
   rw[List.length_cons]
   omega
  ·exact chs_many h
def acL (ps:List Int)(m:Int)(i:Nat):List (List Int):=(List.range i).flatMap fun j=>(chs (ps.drop (j+1)) (m - 1)).map (ps.getD j 0::·)
theorem acL_succ (ps:List Int)(m:Int)(i:Nat):acL ps m (i+1)=acL ps m i++(chs (ps.drop (i+1)) (m - 1)).map (ps.getD i 0::·):=by
 unfold acL
 rw[List.range_succ,List.flatMap_append,List.flatMap_cons,List.flatMap_nil,List.append_nil]
theorem acL_all:∀ (ps:List Int) {m:Int},m≠0->acL ps m ps.length=chs ps m
 | [],m,h=>by unfold chs;rw[if_neg h];rfl
 | p::ps,m,h=>by
  rw[chs_cons,<- acL_all ps h]
  unfold acL
  rw[List.length_cons,List.range_succ_eq_map,List.flatMap_cons,List.flatMap_map]
  rfl
theorem acL_len (ps:List Int)(m:Int):∀ i,i<=ps.length->(acL ps m i).length<=i*2 ^ ps.length
 | 0,_=>by show 0<=_;exact Nat.zero_le _
 | i+1,h=>by
  rw[acL_succ,List.length_append,List.length_map,Nat.succ_mul]
  have h1:=acL_len ps m i (by omega)
  have h2:=chs_len (ps.drop (i+1)) (m - 1)
  have h3:2 ^ (ps.drop (i+1)).length<=2 ^ ps.length:=Nat.pow_le_pow_right (by decide) (by rw[List.length_drop];omega)
  omega
def Ws (f:List Int->Nat):List Int->Int->Nat
 | [],a=>if a=0 then f [] else 0
 | x::c,a=>Ws (fun l=>f ((x - 1)::l)) c (a - 1)+Ws (fun l=>f (x::l)) c a
theorem Ws_neg:∀ {c:List Int} {f:List Int->Nat} {a:Int},a<0->Ws f c a=0
 | [],f,a,h=>by unfold Ws;rw[if_neg (by omega)]
 | x::c,f,a,h=>by unfold Ws;rw[Ws_neg (by omega),Ws_neg h]
theorem Ws_congr:∀ {c:List Int} {f g:List Int->Nat} {a:Int},(∀ l,l.length=c.length->f l=g l)->Ws f c a=Ws g c a
 | [],f,g,a,h=>by unfold Ws;rw[h [] rfl]
 | x::c,f,g,a,h=>by
  unfold Ws
  rw[Ws_congr (c:=c) (f:=fun l=>f ((x - 1)::l)) (g:=fun l=>g ((x - 1)::l)) (fun l hl=>h _ (by rw[List.length_cons,List.length_cons,hl])),Ws_congr (c:=c) (f:=fun l=>f (x::l)) (g:=fun l=>g (x::l)) (fun l hl=>h _ (by rw[List.length_cons,List.length_cons,hl]))]
theorem Ws_add:∀ {c:List Int} {f g:List Int->Nat} {a:Int},Ws (fun l=>f l+g l) c a=Ws f c a+Ws g c a
 | [],f,g,a=>by unfold Ws;split<;>rfl
 | x::c,f,g,a=>by
  unfold Ws
  rw[Ws_add (c:=c) (f:=fun l=>f ((x - 1)::l)) (g:=fun l=>g ((x - 1)::l)),Ws_add (c:=c) (f:=fun l=>f (x::l)) (g:=fun l=>g (x::l))]
  omega
def PI (f:List Int->Nat):Prop:=∀ l m:List Int,l.Perm m->f l=f m
theorem PI.cons {f:List Int->Nat}(h:PI f)(x:Int):PI fun l=>f (x::l):=fun l m p=>h _ _ (p.cons x)
theorem Ws_perm {c d:List Int}(p:c.Perm d):∀ {f:List Int->Nat},PI f->∀ a,Ws f c a=Ws f d a:=by
 induction p with
 | nil=>intro f _ a;rfl
 | cons x _ ih =>
  intro f h a
  unfold Ws
  rw[ih (h.cons _),ih (h.cons _)]
 | swap x y l =>
  intro f h a
  unfold Ws
  unfold Ws
  have sw:∀ u v:Int,(fun l=>f (u::v::l))=fun l=>f (v::u::l):=fun u v=>funext fun l=>h _ _ (List.Perm.swap v u l)
  rw[sw (y - 1) (x - 1),sw (y - 1) x,sw y (x - 1),sw y x]
  omega
 | trans _ _ h1 h2=>intro f h a;rw[h1 h,h2 h]
theorem Ws_comm:∀ {c:List Int} {f:List Int->Nat} {a b:Int},Ws (fun l=>Ws f l b) c a=Ws (fun l=>Ws f l a) c b
 | [],f,a,b=>by
  unfold Ws
  unfold Ws
  split<;>split<;>rfl
 | x::c,f,a,b=>by
  show Ws (fun l=>Ws f ((x - 1)::l) b) c (a - 1)+Ws (fun l=>Ws f (x::l) b) c a=Ws (fun l=>Ws f ((x - 1)::l) a) c (b - 1)+Ws (fun l=>Ws f (x::l) a) c b
  have e:∀ (y:Int) (u:Int),(fun l=>Ws f (y::l) u)=fun l=>Ws (fun m=>f ((y - 1)::m)) l (u - 1)+Ws (fun m=>f (y::m)) l u:=fun y u=>rfl
  rw[e,e,e,e,Ws_add,Ws_add,Ws_add,Ws_add]
  rw[Ws_comm (c:=c) (f:=fun m=>f ((x - 1 - 1)::m)) (a:=a - 1) (b:=b - 1),Ws_comm (c:=c) (f:=fun m=>f ((x - 1)::m)) (a:=a - 1) (b:=b),Ws_comm (c:=c) (f:=fun m=>f ((x - 1)::m)) (a:=a) (b:=b - 1),Ws_comm (c:=c) (f:=fun m=>f (x::m)) (a:=a) (b:=b)]
  omega
def cntF:Nat->List Int->Nat
 | 0,_=>1
 | n+1,[]=>1
 | n+1,a::c=>Ws (cntF n) c a
def cnt (d:List Int):Nat:=cntF d.length d
theorem cnt_cons (a:Int)(c:List Int):cnt (a::c)=Ws cnt c a:=by
 show Ws (cntF c.length) c a=_
 exact Ws_congr fun l hl=>by unfold cnt;rw[hl]
theorem cntw2 (a b:Int)(c:List Int):cnt (a::b::c)=Ws (fun l=>Ws cnt l (b - 1)) c (a - 1)+Ws (fun l=>Ws cnt l b) c a:=by
 rw[cnt_cons]
 show Ws (fun l=>cnt ((b - 1)::l)) c (a - 1)+Ws (fun l=>cnt (b::l)) c a=_
 rw[Ws_congr (fun l _=>cnt_cons (b - 1) l),Ws_congr (c:=c) (a:=a) (fun l _=>cnt_cons b l)]
theorem cnt_perm:∀ (n:Nat) {c d:List Int},c.length=n->c.Perm d->cnt c=cnt d:=by
 intro n
 induction n with
 | zero =>
  intro c d h p
  have:c=[]:=List.length_eq_zero_iff.mp h
  subst this
  rw[List.nil_perm.mp p]
 | succ n ih =>
  have ihP:∀ {c d:List Int},c.length=n->c.Perm d->∀ a,cnt (a::c)=cnt (a::d):=fun {c d} hc p a=>by
   rw[cnt_cons,cnt_cons]
   have ext:∀ l m:List Int,l.Perm m->(fun l:List Int=>if l.length=n then cnt l else 0) l=(fun l:List Int=>if l.length=n then cnt l else 0) m:=fun l m q=>by
    show (if l.length=n then cnt l else 0)=if m.length=n then cnt m else 0
    by_cases h:l.length=n
    ·rw[if_pos h,if_pos (by rw[<- q.length_eq];exact h),ih h q]
    ·rw[if_neg h,if_neg (by rw[<- q.length_eq];exact h)]
   have e1:Ws cnt c a=Ws (fun l:List Int=>if l.length=n then cnt l else 0) c a:=Ws_congr fun l hl=>by rw[if_pos (by rw[hl];exact hc)]
   have e2:Ws cnt d a=Ws (fun l:List Int=>if l.length=n then cnt l else 0) d a:=Ws_congr fun l hl=>by rw[if_pos (by rw[hl,<- p.length_eq];exact hc)]
   rw[e1,e2]
   exact Ws_perm p ext a
  intro c d h p
  induction p with
  | nil=>rfl
  | cons x q _=>exact ihP (by rw[List.length_cons]at h;omega) q x
  | swap x y l =>
   rw[cntw2,cntw2,Ws_comm (b:=x - 1),Ws_comm (b:=x)]
  | trans p1 p2 h1 h2=>rw[h1 h,h2 (by rw[<- p1.length_eq];exact h)]
theorem cnt_pi:PI cnt:=fun l m p=>cnt_perm l.length rfl p
def two (a b:Int)(c:List Int):Nat:=Ws (fun l=>cnt ((b - 1)::l)) c (a - 1)
theorem two_sym (a b:Int)(c:List Int):two a b c=two b a c:=by
 unfold two
 rw[Ws_congr (fun l _=>cnt_cons (b - 1) l),Ws_congr (c:=c) (a:=b - 1) (fun l _=>cnt_cons (a - 1) l),Ws_comm]
theorem two_le (a b:Int)(c:List Int):two a b c<=cnt (a::b::c):=by
 rw[cnt_cons]
 exact Nat.le_add_right _ _
theorem two_perm {a b:Int}{c d:List Int}(p:c.Perm d):two a b c=two a b d:=Ws_perm p (cnt_pi.cons _) _
def outs:List Int->List (Int × List Int)
 | []=>[]
 | x::c=>(x,c)::(outs c).map fun p=>(p.1,x::p.2)
theorem outs_perm:∀ {c:List Int} {p:Int × List Int},p∈outs c->(p.1::p.2).Perm c
 | x::c,p,h=>by
  rcases List.mem_cons.mp h with rfl | h
  ·exact List.Perm.refl _
  ·obtain⟨q,hq,rfl⟩:=List.mem_map.mp h
   exact(List.Perm.swap _ _ _).trans ((outs_perm hq).cons x)
theorem sum_two:∀ {c:List Int} {f:List Int->Nat} {a:Int},PI f->(((outs c).map fun p=>Ws (fun l=>f ((p.1 - 1)::l)) p.2 (a - 1)).sum:Nat)=a.toNat*Ws f c a
 | [],f,a,h=>by
  show 0=_
  unfold Ws
  split
  ·next e=>subst e;simp
  ·simp
 | x::c,f,a,h=>by
  have ih1:=sum_two (c:=c) (f:=fun l=>f ((x - 1)::l)) (a:=a - 1) (h.cons _)
  have ih2:=sum_two (c:=c) (f:=fun l=>f (x::l)) (a:=a) (h.cons _)
  have key:((outs c).map fun p=>Ws (fun l=>f ((p.1 - 1)::l)) (x::p.2) (a - 1)).sum=((outs c).map fun p=>Ws (fun l=>f ((x - 1)::(p.1 - 1)::l)) p.2 (a - 1 - 1)).sum+((outs c).map fun p=>Ws (fun l=>f (x::(p.1 - 1)::l)) p.2 (a - 1)).sum:=by
   generalize outs c=os
   induction os with
   | nil=>rfl
   | cons p os ih =>
    rw[List.map_cons,List.sum_cons,List.map_cons,List.sum_cons,List.map_cons,List.sum_cons,ih]
    have e:Ws (fun l=>f ((p.1 - 1)::l)) (x::p.2) (a - 1)=Ws (fun l=>f ((x - 1)::(p.1 - 1)::l)) p.2 (a - 1 - 1)+Ws (fun l=>f (x::(p.1 - 1)::l)) p.2 (a - 1):=by
     show Ws (fun l=>f ((p.1 - 1)::(x - 1)::l)) p.2 (a - 1 - 1)+Ws (fun l=>f ((p.1 - 1)::x::l)) p.2 (a - 1)=_
     rw[Ws_congr (fun l _=>h _ _ (List.Perm.swap (x - 1) (p.1 - 1) l)),Ws_congr (c:=p.2) (a:=a - 1) (fun l _=>h _ _ (List.Perm.swap x (p.1 - 1) l))]
    rw[e]
    omega
  show (((x,c)::(outs c).map fun p=>(p.1,x::p.2)).map _).sum=_
  rw[List.map_cons,List.sum_cons,List.map_map]
  show Ws (fun l=>f ((x - 1)::l)) c (a - 1)+((outs c).map fun p=>Ws (fun l=>f ((p.1 - 1)::l)) (x::p.2) (a - 1)).sum=a.toNat*(Ws (fun l=>f ((x - 1)::l)) c (a - 1)+Ws (fun l=>f (x::l)) c a)
  rw[key,ih1,ih2,Nat.mul_add]
  rcases Int.lt_or_le 0 a with c1 | c1
  ·obtain⟨m,hm,hm1⟩:∃ m,a.toNat=m+1/\(a - 1).toNat=m:=⟨(a - 1).toNat,by omega,rfl⟩
   rw[hm,hm1,Nat.succ_mul m (Ws (fun l=>f ((x - 1)::l)) c (a - 1))]
   omega
  ·rw[Ws_neg (show a - 1<0 by omega)]
   simp
def decP (s:Int)(E:List Int):List Int->List Int
 | []=>[]
 | x::c=>(if s∈E then x - 1 else x)::decP (s+1) E c
theorem decP_len (E:List Int):∀ (s:Int) (c:List Int),(decP s E c).length=c.length
 | _,[]=>rfl
 | s,x::c=>by show (decP (s+1) E c).length+1=_;rw[decP_len E];rfl
theorem rngI_succ (s:Int)(n:Nat):rngI s (n+1)=s::rngI (s+1) n:=by
 unfold rngI
 rw[List.range'_succ,List.map_cons]
 refine congr (congrArg List.cons (by omega)) ?_
 rw[<- List.map_add_range' (a:=1) 0 n,List.map_map]
 refine List.map_congr_left fun k _=>?_
 show s+((1+k:Nat):Int)=_
 omega
theorem rngI_ge {s x:Int}{n:Nat}(h:x∈rngI s n):s<=x:=by
 unfold rngI at h
 obtain⟨k,_,rfl⟩:=List.mem_map.mp h
 omega
theorem decP_skip {s p:Int}{E:List Int}:∀ {c:List Int} {s:Int},p<s->decP s (p::E) c=decP s E c
 | [],s,_=>rfl
 | x::c,s,h=>by
  show (if s∈p::E then x - 1 else x)::decP (s+1) (p::E) c=_
  rw[decP_skip (s:=s+1) (by omega)]
  have:(s∈p::E)↔s∈E:=⟨fun z=>(List.mem_cons.mp z).resolve_left (by omega),List.mem_cons_of_mem _⟩
  by_cases hs:s∈E
  ·rw[if_pos (this.mpr hs)]
   show _=(if s∈E then x - 1 else x)::_
   rw[if_pos hs]
  ·rw[if_neg fun z=>hs (this.mp z)]
   show _=(if s∈E then x - 1 else x)::_
   rw[if_neg hs]
theorem chs_sum:∀ {c:List Int} {f:List Int->Nat} {a s:Int},((chs (rngI s c.length) a).map fun E=>f (decP s E c)).sum=Ws f c a
 | [],f,a,s=>by
  unfold Ws
  show ((chs [] a).map fun E=>f []).sum=_
  unfold chs
  split<;>rfl
 | x::c,f,a,s=>by
  rw[List.length_cons,rngI_succ,chs_cons,List.map_append,List.sum_append,List.map_map]
  unfold Ws
  rw[<- chs_sum (c:=c) (f:=fun l=>f ((x - 1)::l)) (a:=a - 1) (s:=s+1),<- chs_sum (c:=c) (f:=fun l=>f (x::l)) (a:=a) (s:=s+1)]
  congr 1
  ·refine congrArg List.sum (List.map_congr_left fun E hE=>?_)
   show f ((if s∈s::E then x - 1 else x)::decP (s+1) (s::E) c)=_
   rw[if_pos List.mem_cons_self,decP_skip (s:=s+1) (by omega)]
  ·refine congrArg List.sum (List.map_congr_left fun E hE=>?_)
   show f ((if s∈E then x - 1 else x)::decP (s+1) E c)=_
   rw[if_neg fun z=>by have:=rngI_ge (chs_sub hE s z);omega]
theorem chs_sum1 {b a s:Int}{c:List Int}{f:List Int->Nat}:(((chs (rngI s (c.length+1)) a).filter fun E=>decide (s∈E)).map fun E=>f (decP s E (b::c))).sum=Ws (fun l=>f ((b - 1)::l)) c (a - 1):=by
 rw[rngI_succ,chs_cons,List.filter_append,List.map_append,List.sum_append]
 have h1:((chs (rngI (s+1) c.length) (a - 1)).map (s::·)).filter (fun E=>decide (s∈E))=(chs (rngI (s+1) c.length) (a - 1)).map (s::·):=List.filter_eq_self.mpr fun E hE=>by
  obtain⟨E',_,rfl⟩:=List.mem_map.mp hE
  exact decide_eq_true List.mem_cons_self
 have h2:(chs (rngI (s+1) c.length) a).filter (fun E=>decide (s∈E))=[]:=List.filter_eq_nil_iff.mpr fun E hE z=>by
  have:=rngI_ge (chs_sub hE s (of_decide_eq_true z))
  omega
 rw[h1,h2,List.map_map,List.map_nil,List.sum_nil,Nat.add_zero,<- chs_sum (c:=c) (f:=fun l=>f ((b - 1)::l)) (a:=a - 1) (s:=s+1)]
 refine congrArg List.sum (List.map_congr_left fun E hE=>?_)
 show f ((if s∈s::E then b - 1 else b)::decP (s+1) (s::E) c)=_
 rw[if_pos List.mem_cons_self,decP_skip (s:=s+1) (by omega)]
theorem decP_map (E:List Int):∀ (c:List Int) (s:Int),decP s E c=(List.range c.length).map fun i:Nat=>if s+(i:Int)∈E then c.getD i 0 - 1 else c.getD i 0
 | [],s=>rfl
 | x::c,s=>by
  rw[List.length_cons,List.range_succ_eq_map,List.map_cons,List.map_map]
  show (if s∈E then x - 1 else x)::decP (s+1) E c=_
  rw[decP_map E c (s+1)]
  refine congr (congrArg List.cons ?_) (List.map_congr_left fun i _=>?_)
  ·show _=if s+((0:Nat):Int)∈E then x - 1 else x
   rw[show s+((0:Nat):Int)=s by omega]
  ·show _=if s+((i+1:Nat):Int)∈E then c.getD i 0 - 1 else c.getD i 0
   rw[show s+((i+1:Nat):Int)=s+1+(i:Int) by omega]
theorem left_dec (a:Int)(c E:List Int):leftL (a::c) 0 E=decP 1 E c:=by
 unfold leftL
 rw[List.length_cons,List.range_succ_eq_map,List.filter_cons_of_neg (by simp),decP_map]
 have:(List.map Nat.succ (List.range c.length)).filter (fun i=>decide (i≠0))=List.map Nat.succ (List.range c.length):=List.filter_eq_self.mpr fun i hi=>by
  obtain⟨j,_,rfl⟩:=List.mem_map.mp hi
  simp
 rw[this,List.map_map]
 refine List.map_congr_left fun i _=>?_
 show (if ((i+1:Nat):Int)∈E then c.getD i 0 - 1 else c.getD i 0)=_
 rw[show ((i+1:Nat):Int)=1+(i:Int) by omega]
end Web
namespace Web
end Web
namespace Web
end Web
namespace L2
open PySem PySem.Spec PyProof.Rows PySem.SeqAt
section
variable {X:Cx}
end
theorem pe_ixSK {X:Cx}{a b:Expr}{pos:Pos}{ta tb:TE}(K:W.Frag)(hK:X.K=K)(ha:PE X a ta)(hb:PE X b tb)(hs:PlainIx b):PE X (.Subscript a b pos) (tOp (rIx K) ta tb):=by
 cases hK
 exact pe_ix ix_seq ha hb hs
end L2
namespace L2
open PySem PySem.Spec PyProof.Rows
def rIExt:R2:=fun x y H Q=>∃ l b xs zs,x=.ref l/\y=.ref b/\H l=some (.lst xs)/\H b=some (.lst zs)/\xs.length+zs.length<=1000/\Q (.ref l) (upd H l (.lst (xs++zs)))
theorem ifill_list:fillsInplaceSlot (.type "list") "add" true=pure false:=by
 unfold fillsInplaceSlot
 show (typeLookup (.type "list") (dunderI "add") >>= fun fi=>pure (fi.isSome && !isSeqSlot fi))=pure false
 rw[F.slot_list_iadd.lookup]
 rw[pure_bind]
 congr 1
theorem iseq_list:seqSlot? (.type "list") (dunderI "add")=pure (some (.builtin "list.__iadd__")):=by
 unfold seqSlot?
 rw[F.slot_list_iadd.lookup]
 rfl
section
variable {X:Cx}
theorem ip_ext:PIp X .Add rIExt:=by
 intro pins s σ H x y v u Q I rx ry h
 obtain⟨l,b,xs,zs,rfl,rfl,hH,hB,hz,q⟩:=h
 cases rx
 cases ry
 obtain⟨z,its,n,r,hl,e⟩:=I.lstM hH
 obtain⟨z2,its2,n2,r2,hl2,e2⟩:=I.lstM hB
 have hln:=r.length
 have hln2:=r2.length
 unfold inplaceOp
 refine wpAny_holding ?_
 refine wpAny_bind (wpAny_typeOf (T:="list") ⟨_,e,rfl⟩ (wpAny_bind (wpAny_of_eq ifill_list ?_)))
 show wpAny _ _ (if false=true then _ else _) _ _ s
 rw[if_neg Bool.false_ne_true]
 refine wpAny_bind (wpAny_binaryOp1_none (a:=.ref l) (b:=.ref b) (s:=s) (nm:="add") (T:="list") ⟨_,e,rfl⟩ ⟨_,e2,rfl⟩ noFill_list_add ?_)
 refine wpAny_bind (wpAny_of_eq iseq_list ?_)
 refine wpAny_bind (wpAny_rule ?_)
 have hd:¬(!its.toArray.isEmpty && Builtin.List.listTooLong (its.toArray.size+its2.toArray.size))=true:=extend_door (by rw[List.size_toArray,List.size_toArray,sizeLine_eq];omega)
 refine call_meets F.slot_list_iadd ⟨_,e,rfl⟩ F.entry_list_iadd (F.args_list_iadd_2 _ _) (PySem.AutoSeq1.list___iadd___list_list_0 l its.toArray n b its2.toArray n2 hd (by rw[List.size_toArray,sizeLine_eq];omega) (by rw[List.size_toArray,List.size_toArray,sizeLine_eq];omega)) ⟨e,e2,?_⟩
 refine⟨.ref l,_,I.lset (its':=its++its2) hH e ?_ (r.append r2) ?_,rfl,q⟩
 ·show its.toArray++its2.toArray=_
  simp
 ·rw[List.length_append,sizeLine_eq];omega
end
end L2
namespace Web
open PySem L2
def top (i:Nat):Stmt:=PySem.Challenge.pw_tallyweb_k57_ties_at_a_place.main.body.getD i (.Pass ⟨0,0,0,0⟩)
abbrev sIsP:Stmt:=top 7
abbrev sChk:Stmt:=top 8
abbrev sChT:Stmt:=top 10
abbrev sFall:Stmt:=top 12
abbrev sLeft:Stmt:=top 14
abbrev sChP:Stmt:=top 16
abbrev sFew:Stmt:=top 19
abbrev sChC:Stmt:=top 20
abbrev sChs:Stmt:=top 21
abbrev sFE:Stmt:=top 22
abbrev sBeh:Stmt:=top 23
abbrev sCnt:Stmt:=top 24
abbrev sHow:Stmt:=top 25
abbrev sInH:Stmt:=top 26
abbrev sRow:Stmt:=top 28
abbrev sTies:Stmt:=top 29
abbrev sSums:Stmt:=top 30
abbrev sSmall:Stmt:=top 31
abbrev sWhole:Stmt:=top 32
abbrev sLaw:Stmt:=top 33
structure Bn (mg:Str->Option Value):Prop where
 len:mg "len"=none
 range:mg "range"=none
 enum:mg "enumerate"=none
 list:mg "list"=none
 tuple:mg "tuple"=none
 sorted:mg "sorted"=none
 set:mg "set"=none
 isin:mg "isinstance"=none
 int:mg "int"=none
 bool:mg "bool"=none
 min:mg "min"=none
 max:mg "max"=none
 sum:mg "sum"=none
 str:mg "str"=none
 ve:mg "ValueError"=none
 rev:mg "reversed"=none
theorem sl1000:1000<=sizeLine:=by decide
theorem same_upd {H:Hp}{l:Addr}{o:HO}(h:H l=none):Same H (upd H l o):=fun b u e=>by
 rw[upd_ne (ne_of_none e h)]
 exact e
section
variable {P:Program} {w:World} {K:W.Frag} {mg:Str->Option Value} {base:Heap}
def spIsP:Sp:=fun vs H Q _=>∃ a b:Int,vs=[.int a,.int b]/\Q (.bl (decide (0<=b) && decide (b<a))) H
theorem scIsP:FnScope ["places","number"] ["places","number"] (defScope sIsP):=⟨rfl,rfl,rfl,by decide +kernel,rfl,by decide +kernel,by decide +kernel⟩
theorem ok_isP {f:Addr}{fd:FuncData}(F:Fun K "is_place" "is_place" sIsP f fd):FnOk P w K mg base CX0 1 f fd ["places","number"] spIsP:=by
 refine F.ok scIsP (fun vs H Q E h=>?_) (fun cdv A outer s H vs Q E hr h=>?_)
 ·obtain⟨a,b,rfl,_⟩:=h
  rfl
 ·obtain⟨a,b,rfl,k⟩:=h
  refine⟨_,pss_one (ps_ret (pe_chain op_le op_lt pe_int (pv 1) (pv 0))),?_⟩
  refine⟨_,rfl,_,_,rfl,rfl,_,rfl,?_⟩
  cases e:decide ((0:Int)<=b) with
  | true =>
   refine iteT ⟨_,rfl,_,_,rfl,rfl,?_⟩
   rw[e,Bool.true_and]at k
   exact k
  | false =>
   refine iteF ?_
   rw[e,Bool.false_and]at k
   exact k
def isTl (ns:List Int):Prop:=1<=ns.length/\ns.length<=24
def Sq (K:W.Frag)(H:Hp)(a:Addr)(ns:List Int):Prop:=SqL K H a (ns.map V.int)\/SqT K H a (ns.map V.int)
theorem Sq.same {H H':Hp}{a:Addr}{ns:List Int}(h:Sq K H a ns)(s:Same H H'):Sq K H' a ns:=h.elim (fun h=>.inl (s.seq h)) fun h=>.inr (s.seqT h)
def spChT (K:W.Frag)(CB:Addr):Sp:=fun vs H Q E=>∃ (a:Addr) (ns:List Int),vs=[.ref a]/\Sq K H a ns/\(isTl ns->Q .non H)/\(¬ isTl ns->E (.ref CB) none H)
theorem scChT:FnScope ["tally"] ["tally"] (defScope sChT):=⟨rfl,rfl,rfl,by decide +kernel,rfl,by decide +kernel,by decide +kernel⟩
theorem ok_chT {f CB:Addr}{fd:FuncData}{tk:Tok}(F:Fun K "check_tally" "check_tally" sChT f fd)(B:Bn mg)(mM:mg "MOST_PLACES"=some (.int 24 tk))(mB:mg "BadTally"=some (.ref CB))(cB:ExcC K CB):FnOk P w K mg base (CXE P w) 1 f fd ["tally"] (spChT K CB):=by
 refine F.okX scChT (fun vs H Q E h=>?_) (fun cdv A outer s H vs Q E hr h=>?_)
 ·obtain⟨a,ns,rfl,_⟩:=h
  rfl
 ·obtain⟨a,ns,rfl,hS,h1,h2⟩:=h
  refine⟨_,pss_one (ps_if (pt_not (pt_chain op_le op_le pe_int (pe_callB call_len_seq (by rfl) B.len PySem.boot_len (pa_cons (pv 0) pa_nil)) (pe_glob (v:=.int 24) (by rfl) mM ⟨tk,rfl⟩))) (pss_one (ps_raise (by rfl) mB cB)) pss_nil),?_⟩
  refine⟨_,rfl,a,_,rfl,hS,_,_,rfl,rfl,_,rfl,?_⟩
  rw[List.length_map]
  by_cases hp:(1:Int)<=(ns.length:Int)
  ·rw[decide_eq_true hp]
   refine iteT ⟨_,_,rfl,rfl,_,rfl,?_⟩
   by_cases hp':(ns.length:Int)<=24
   ·rw[decide_eq_true hp']
    exact iteF (h1 ⟨by omega,by omega⟩)
   ·rw[decide_eq_false hp']
    exact iteT (h2 fun z=>hp' (by have:=z.2;omega))
  ·rw[decide_eq_false hp]
   exact iteF ⟨_,rfl,iteT (h2 fun z=>hp (by have:=z.1;omega))⟩
end
theorem cut_ints_from (ns:List Int)(k:Nat):cutV (ns.map V.int) (some (k:Int)) none=(ns.drop k).map V.int:=by rw[cutV_from,List.map_drop]
theorem cut_ints_to (ns:List Int)(k:Nat):cutV (ns.map V.int) none (some (k:Int))=(ns.take k).map V.int:=by rw[cutV_to,List.map_take]
theorem int_get {ns:List Int}{i:Nat}{x:V}(h:(ns.map V.int)[i]?=some x):∃ z:Int,ns[i]?=some z/\x=V.int z:=by
 rw[List.getElem?_map]at h
 cases e:ns[i]? with
 | none=>rw[e]at h;cases h
 | some z=>rw[e]at h;cases h;exact⟨z,rfl,rfl⟩
theorem at_int {ns:List Int}{j:Nat}(h:j<ns.length):atI (ns.map V.int) (j:Int)=some (.int (ns.getD j 0)):=atI_nat (j:=j) (by simp[h])
theorem ix_sq {K:W.Frag}{H:Hp}{a:Addr}{ns:List Int}{j:Nat}{Q:VK}(h:Sq K H a ns)(hj:j<ns.length)(q:Q (.int (ns.getD j 0)) H):rIx K (.ref a) (.int j) H Q:=
 h.elim (fun h=>.inl ⟨a,_,_,_,rfl,rfl,h,at_int hj,q⟩) fun h=>.inr (.inl ⟨a,_,_,_,rfl,rfl,h,at_int hj,q⟩)
theorem passN {P:Program}{w:World}{X:Cx}:Passes (CXE P w) X E0:=fun _ _ _ _ _ _ _ h=>by
 obtain⟨_,_,_,_,_,_,_,_,_,_,_,hE⟩:=h
 exact hE.elim
theorem lay_int (z:Int):(PyData.int z).canLay0=true:=by simp[PyData.canLay0]
theorem dep_int (z:Int):(PyData.int z).depth<=8:=by simp[PyData.depth]
theorem in_ints {K:W.Frag}{A:Around}{H:Hp}{Q:VK}{l:Addr}{es:List Int}{z:Int}(hun:A.units+64<cLine)(hl:SqL K H l (es.map V.int)\/SqT K H l (es.map V.int))(q:Q (.bl (decide (z∈es))) H):rInD K A false (.int z) (.ref l) H Q:=by
 refine⟨l,_,.int z,es.map .int,rfl,hl,Dt.mkInt,DtAll.ints es,lay_int z,lay_ints es,un_lt1 hun (Nat.le_trans (dep_int z) (by decide)),?_⟩
 rw[eqv_intP,if_neg Bool.false_ne_true]
 exact q
theorem notin_ints {K:W.Frag}{A:Around}{H:Hp}{Q:VK}{l:Addr}{es:List Int}{z:Int}(hun:A.units+64<cLine)(hl:SqL K H l (es.map V.int)\/SqT K H l (es.map V.int))(q:Q (.bl (!decide (z∈es))) H):rInD K A true (.int z) (.ref l) H Q:=by
 refine⟨l,_,.int z,es.map .int,rfl,hl,Dt.mkInt,DtAll.ints es,lay_int z,lay_ints es,un_lt1 hun (Nat.le_trans (dep_int z) (by decide)),?_⟩
 rw[eqv_intP,if_pos rfl]
 exact q
section
variable {P:Program} {w:World} {K:W.Frag} {mg:Str->Option Value} {base:Heap}
def spFall (K:W.Frag):Sp:=fun vs H Q _=>∃ (a:Addr) (ns:List Int),vs=[.ref a]/\Sq K H a ns/\ns.length<64/\∀ (l:Addr) (H':Hp),Same H H'->H l=none->H' l=some (.lst ((up2 ns).reverse.map V.int))->Q (.ref l) H'
theorem scFall:FnScope ["tally"] ["tally"] (defScope sFall):=⟨rfl,rfl,rfl,by decide +kernel,rfl,by decide +kernel,by decide +kernel⟩
theorem ok_fall {f:Addr}{fd:FuncData}(F:Fun K "falling" "falling" sFall f fd)(B:Bn mg):FnOk P w K mg base CX0 1 f fd ["tally"] (spFall K):=by
 refine F.ok scFall (fun vs H Q E h=>?_) (fun cdv A outer s H vs Q E hr h=>?_)
 ·obtain⟨a,ns,rfl,_⟩:=h
  rfl
 ·obtain⟨a,ns,rfl,hS,h64,q⟩:=h
  refine⟨_,pss_one (ps_ret (pe_sortR K rfl (by rfl) B.sorted (pa_cons (pv 0) pa_nil))),?_⟩
  refine⟨_,rfl,a,ns,rfl,hS,h64,fun l zs hl hp hs=>?_⟩
  rw[fall_eq hp hs]
  exact q l _ (same_upd hl) hl upd_same
theorem scChk:FnScope ["places","number"] ["places","number"] (defScope sChk):=⟨rfl,rfl,rfl,by decide +kernel,rfl,by decide +kernel,by decide +kernel⟩
def isPl (n:Nat)(a:Int):Prop:=0<=a/\a<n
def spChkX (CN:Addr):Sp:=fun vs H Q E=>∃ (n:Nat) (a:Int),vs=[.int n,.int a]/\(isPl n a->Q .non H)/\(¬ isPl n a->E (.ref CN) none H)
theorem ok_chkX {f fI CN:Addr}{fd fdI:FuncData}(F:Fun K "check_place" "check_place" sChk f fd)(FI:Fun K "is_place" "is_place" sIsP fI fdI)(bI:Binds K fdI ["places","number"] [])(mI:mg "is_place"=some (.ref fI))
  (mN:mg "NoPlace"=some (.ref CN))(cN:ExcC K CN):FnOk P w K mg base (CXE P w) 2 f fd ["places","number"] (spChkX CN):=by
 have GI:FnOk P w K mg base CX0 1 fI fdI ["places","number"] spIsP:=ok_isP FI
 refine F.okX scChk (fun vs H Q E h=>?_) (fun cdv A outer s H vs Q E hr h=>?_)
 ·obtain⟨n,a,rfl,_⟩:=h
  rfl
 ·obtain⟨n,a,rfl,h1,h2⟩:=h
  refine⟨_,pss_one (ps_if (pt_not (pt_val (pe_call GI hr rfl mI FI.kp bI .nil pass0 (pa_cons (pv 0) (pa_cons (pv 1) pa_nil))))) (pss_one (ps_raise (by rfl) mN cN)) pss_nil),?_⟩
  refine⟨_,rfl,_,rfl,_,_,rfl,_,rfl,?_⟩
  by_cases hp:isPl n a
  ·rw[decide_eq_true hp.1,decide_eq_true hp.2]
   exact iteF (h1 hp)
  ·have e:(decide ((0:Int)<=a) && decide (a<(n:Int)))=false:=by
    rw[Bool.and_eq_false_iff]
    by_cases z:(0:Int)<=a
    ·exact .inr (decide_eq_false fun z'=>hp ⟨z,z'⟩)
    ·exact .inl (decide_eq_false z)
   rw[e]
   exact iteT (h2 hp)
def spLeft (K:W.Frag):Sp:=fun vs H Q _=>∃ (a ea:Addr) (ns es:List Int) (p:Nat),vs=[.ref a,.int p,.ref ea]/\Sq K H a ns/\ns.length<=24/\(SqL K H ea (es.map V.int)\/SqT K H ea (es.map V.int)) /\
 ∀ (l:Addr) (H':Hp),Same H H'->H l=none->H' l=some (.lst ((leftL ns p es).map V.int))->Q (.ref l) H'
theorem scLeft:FnScope ["tally","place","ends","others"] ["tally","place","ends"] (defScope sLeft):=⟨rfl,rfl,rfl,by decide +kernel,rfl,by decide +kernel,by decide +kernel⟩
theorem kept_mem {n p:Nat}{z:Int}(h:z∈keptN n p):∃ j:Nat,z=(j:Int)/\j<n:=by
 obtain⟨j,hj,rfl⟩:=List.mem_map.mp h
 exact⟨j,rfl,List.mem_range.mp (List.mem_filter.mp hj).1⟩
theorem kept_left (ns es:List Int)(p:Nat):(keptN ns.length p).map (fun z=>less1 ns es z.toNat)=leftL ns p es:=by
 unfold keptN leftL
 rw[List.map_map]
 refine List.map_congr_left fun j _=>?_
 show less1 ns es (j:Int).toNat=_
 rw[Int.toNat_natCast]
set_option maxHeartbeats 1000000 in
theorem ok_left {f:Addr} {fd:FuncData} (F:Fun K "left_of_others" "left_of_others" sLeft f fd) (B:Bn mg):FnOk P w K mg base CX0 1 f fd ["tally","place","ends"] (spLeft K):=by
 refine F.ok scLeft (fun vs H Q E h=>?_) (fun cdv A outer s H vs Q E hr h=>?_)
 ·obtain⟨a,ea,ns,es,p,rfl,_⟩:=h
  rfl
 ·obtain⟨a,ea,ns,es,p,rfl,hS,hn,hea,q⟩:=h
  have hsl:=sl1000
  have hun:=hr.units
  have nd2:(["one","place"]:List Str).Nodup:=by decide +kernel
  have nd3:(["one","tally","ends"]:List Str).Nodup:=by decide +kernel
  refine⟨_,pss_cons (ps_setC (i:=3) scLeft.nd rfl rfl (by rfl) (N':=["one","place"]) (lk:=[none,some 1]) rfl (pi_range1 rfl B.range (pa_cons (pe_callB call_len_seq (by rfl) B.len PySem.boot_len (pa_cons (pv 0) pa_nil)) pa_nil)) (by rfl) rfl (by decide +kernel) (by exact⟨rfl,trivial⟩) (by rfl) (by exact LkL.ok ⟨⟨rfl,Or.inl rfl,rfl,Or.inl rfl⟩,trivial⟩)
     (fun _ _ _=>pg_name (i:=0) nd2 rfl (Or.inl rfl)) (fun _ _ _=>pts_one (pt_cmpR op_ne (pv 0) (pv 1) (nomark _))) (fun _ _ _=>pv 0))
   (pss_one (ps_ret (pe_comp (N':=["one","tally","ends"]) (lk:=[none,some 0,some 2]) rfl (pi_list (pv 3)) (by rfl) rfl (by decide +kernel) (by exact⟨rfl,rfl,trivial⟩) (by rfl) (by exact LkL.ok ⟨⟨rfl,Or.inl rfl,rfl,Or.inl rfl⟩,⟨rfl,Or.inl rfl,rfl,Or.inl rfl⟩,trivial⟩)
     (fun _ _ _=>pg_name (i:=0) nd3 rfl (Or.inl rfl)) (fun _ _ _=>pts_nil) (fun _ _ _=>pe_ifExp (pt_cmpR (op_inDK K hr.around rfl rfl) (pv 0) (pv 2) (by rfl)) (pe_op op_sub (pe_ixSK K rfl (pv 1) (pv 0) (fun _ _=>rfl)) pe_int) (pe_ixSK K rfl (pv 1) (pv 0) (fun _ _=>rfl)))))),?_⟩
  refine⟨_,rfl,a,_,rfl,hS,(ns.length:Int),congrArg (fun z:Nat=>[V.int (z:Int)]) (List.length_map ..),by omega,by omega,fun D hD=>?_⟩
  rw[Int.toNat_natCast]
  refine comp_range (lo:=0) (n:=ns.length) (D:=D) (fun i xs σ' H'=>(∃ v,σ'=[v,some (.int p)])/\Same H H'/\H' D=some (.lst xs)/\xs=(keptN i p).map V.int) ⟨⟨none,rfl⟩,same_upd hD,upd_same,rfl⟩ (by omega)
   (fun i xs σ' H' hi ⟨_, s6, h6, e6⟩ => ⟨h6, by
    rw[e6,List.length_map]
    unfold keptN
    rw[List.length_map]
    have:=List.length_filter_le (fun j=>decide (j≠p)) (List.range i)
    rw[List.length_range]at this
    exact this⟩) ?_ ?_
  ·rintro i xs σ' H' N kN hi ⟨⟨v,rfl⟩,s6,h6,rfl⟩
   have e0:((0:Int)+(i:Int))=(i:Int):=by omega
   rw[e0]
   refine gName_to ?_
   refine⟨_,rfl,_,rfl,rfl,_,rfl,?_⟩
   have et:keptN (i+1) p=keptN i p++(if i=p then [] else [(i:Int)]):=by
    unfold keptN
    rw[List.range_succ,List.filter_append,List.map_append]
    congr 1
    by_cases h:i=p<;>simp[h]
   by_cases hm:i=p
   ·refine iteNS (by rw[hm]) ?_
    refine kN _ _ _ ⟨⟨_,rfl⟩,s6,h6,?_⟩
    rw[et,if_pos hm,List.append_nil]
   ·rw[decide_eq_false (show ¬ (V.int (i:Int)=V.int (p:Int)) from fun z=>hm (by injection z;omega))]
    refine iteT ?_
    refine⟨_,rfl,h6,kN _ _ _ ⟨⟨_,rfl⟩,s6.upd hD,upd_same,?_⟩⟩
    rw[et,if_neg hm,List.map_append]
    rfl
  ·rintro xs σ' H3 ⟨⟨v,rfl⟩,s6,h6,rfl⟩
   have hkl:(keptN ns.length p).length<=24:=by
    unfold keptN
    rw[List.length_map]
    have:=List.length_filter_le (fun j=>decide (j≠p)) (List.range ns.length)
    rw[List.length_range]at this
    omega
   refine⟨_,rfl,D,rfl,⟨_,SqL.of h6⟩,fun D2 hD2=>?_⟩
   have hS3:=hS.same s6
   have hea3:SqL K H3 ea (es.map V.int)\/SqT K H3 ea (es.map V.int):=hea.elim (fun h=>.inl (s6.seq h)) fun h=>.inr (s6.seqT h)
   refine comp_list (K:=K) (a:=D) (D:=D2) (ys:=(keptN ns.length p).map V.int) (fun i xs σ' H'=>(∃ v,σ'=[v,some (.ref a),some (.ref ea)])/\Same H3 H'/\H' D2=some (.lst xs)/\xs=(((keptN ns.length p).take i).map fun z=>less1 ns es z.toNat).map V.int) ⟨⟨none,rfl⟩,same_upd hD2,upd_same,rfl⟩ (by rw[List.length_map];omega)
    (fun i xs σ' H' hi ⟨_,s8,h8,e8⟩=>⟨SqL.of (s8 _ _ h6),h8,by rw[e8,List.length_map,List.length_map,List.length_take];omega⟩) ?_ ?_
   ·rintro i xs x σ' H' N kN hx ⟨⟨v,rfl⟩,s8,h8,rfl⟩
    obtain⟨z,hz,rfl⟩:=int_get hx
    obtain⟨j,rfl,hj⟩:=kept_mem (List.mem_of_getElem? hz)
    refine gName_to (tTrue_if ?_)
    have fin:∀ y:Int,y=less1 ns es j->(H' D2=some (.lst ((((keptN ns.length p).take i).map fun z=>less1 ns es z.toNat).map V.int))/\N ((((keptN ns.length p).take i).map fun z=>less1 ns es z.toNat).map V.int++[.int y]) [some (.int j),some (.ref a),some (.ref ea)] (upd H' D2 (.lst ((((keptN ns.length p).take i).map fun z=>less1 ns es z.toNat).map V.int++[.int y])))):=fun y ey=>by
     refine⟨h8,kN _ _ _ ⟨⟨_,rfl⟩,s8.upd hD2,upd_same,?_⟩⟩
     rw[List.take_add_one,hz,List.map_append,List.map_append,ey]
     rfl
    refine⟨_,rfl,_,rfl,in_ints hun (hea3.elim (fun h=>.inl (s8.seq h)) fun h=>.inr (s8.seqT h)) ⟨_,rfl,?_⟩⟩
    by_cases hm:(j:Int)∈es
    ·rw[decide_eq_true hm]
     refine iteT ⟨_,rfl,_,rfl,ix_sq (hS3.same s8) hj ⟨_,_,rfl,rfl,fin _ ?_⟩⟩
     unfold less1
     rw[if_pos hm]
    ·rw[decide_eq_false hm]
     refine iteF ⟨_,rfl,_,rfl,ix_sq (hS3.same s8) hj (fin _ ?_)⟩
     unfold less1
     rw[if_neg hm]
   ·rintro xs σ' H4 ⟨⟨v,rfl⟩,s8,h8,rfl⟩
    rw[List.take_of_length_le (by rw[List.length_map];exact Nat.le_refl _),kept_left]at h8
    exact q D2 H4 (s6.trans s8) (s6.free hD2) h8
end
theorem set_map_int (ns:List Int)(j:Nat)(v:Int):(ns.map V.int).set j (.int v)=(ns.set j v).map V.int:=by rw[List.map_set]
theorem rep0 (n:Nat):(List.replicate n [V.int 0]).flatten=(tal n []).map V.int:=by
 rw[tal_nil,List.map_replicate]
 induction n with
 | zero=>rfl
 | succ n ih=>rw[List.replicate_succ,List.flatten_cons,ih,List.replicate_succ];rfl
theorem pairs_half:∀ n:Nat,n<25->(n:Int)*((n:Int) - 1) / 2=((pairsN n).length:Int):=by decide +kernel
theorem five_of (a b c d e z:Int)(h:0<=z/\z<5):∃ v:Int,atI ([.int a,.int b,.int c,.int d,.int e]:List V) z=some (.int v):=by
 have:z=0\/z=1\/z=2\/z=3\/z=4:=by omega
 rcases this with h | h | h | h | h
 ·rw[h];exact⟨a,atI_nat (j:=0) rfl⟩
 ·rw[h];exact⟨b,atI_nat (j:=1) rfl⟩
 ·rw[h];exact⟨c,atI_nat (j:=2) rfl⟩
 ·rw[h];exact⟨d,atI_nat (j:=3) rfl⟩
 ·rw[h];exact⟨e,atI_nat (j:=4) rfl⟩
theorem mod_nat (c:Int){n:Nat}(h:0<n):∃ j:Nat,c % (n:Int)=(j:Int)/\j<n:=by
 have h1:=Int.emod_nonneg c (show (n:Int)≠0 by omega)
 have h2:=Int.emod_lt_of_pos c (show (0:Int)<(n:Int) by omega)
 exact⟨(c % (n:Int)).toNat,by omega,by omega⟩
section
variable {P:Program} {w:World} {K:W.Frag} {mg:Str->Option Value} {base:Heap}
def spRow (K:W.Frag):Sp:=fun vs H Q _=>∃ (c:Int) (m z:Nat),vs=[.int c,.int m,.int z]/\m<=300/\1<=z/\z<=100/\∀ (l:Addr) (ts:List Int) (H':Hp),ts.length=m->Same H H'->H l=none->H' l=some (.lst (ts.map V.int))->Q (.ref l) H'
theorem scRow:FnScope ["cell","many","size","told","rest","k","mark"] ["cell","many","size"] (defScope sRow):=⟨rfl,rfl,rfl,by decide +kernel,rfl,by decide +kernel,by decide +kernel⟩
theorem ok_row {f:Addr} {fd:FuncData} (F:Fun K "_law_row" "_law_row" sRow f fd) (B:Bn mg):FnOk P w K mg base CX0 1 f fd ["cell","many","size"] (spRow K):=by
 refine F.ok scRow (fun vs H Q E h=>?_) (fun cdv A outer s H vs Q E hr h=>?_)
 ·obtain⟨c,m,z,rfl,_⟩:=h
  rfl
 ·obtain⟨c,m,z,rfl,hm,hz1,hz2,q⟩:=h
  have hsl:=sl1000
  have hz0:(0:Int)<(z:Int):=by omega
  refine⟨_,pss_cons (ps_set (i:=3) scRow.nd rfl (Or.inl rfl) (pe_lst pa_nil))
   (pss_cons (ps_set (i:=4) scRow.nd rfl (Or.inl rfl) (pe_op op_fdiv (pv 0) pe_int))
   (pss_cons (ps_for PassesOwn.never rfl (pi_range1 rfl B.range (pa_cons (pv 1) pa_nil)) (pg_name (i := 5) scRow.nd rfl (Or.inl rfl))
    (pss_one (ps_if (pt_cmpR op_eq (pe_op op_mod (pv 0) pe_int) pe_int (nomark _))
     (pss_cons (ps_expr (pe_bm PySem.F.plainAttrs_list PySem.F.slot_list_append PySem.F.type_list_append mt_append (pv 3) (pa_cons (pe_op op_mod (pv 4) (pv 2)) pa_nil)))
     (pss_one (ps_set (i:=4) scRow.nd rfl (Or.inl rfl) (pe_op op_fdiv (pv 4) (pv 2)))))
     (pss_cons (ps_set (i:=6) scRow.nd rfl (Or.inl rfl) (pe_op op_mod (pe_op op_add (pe_op op_add (pv 4) (pe_op op_mul pe_int (pv 5))) pe_int) pe_int))
     (pss_cons (ps_set (i:=6) scRow.nd rfl (Or.inl rfl) (pe_op op_mod (pe_op op_mul (pe_op op_mod (pe_op op_mul (pv 6) (pv 6)) pe_int) pe_int) pe_int))
     (pss_one (ps_expr (pe_bm PySem.F.plainAttrs_list PySem.F.slot_list_append PySem.F.type_list_append mt_append (pv 3) (pa_cons (pe_op op_mod (pe_op op_fdiv (pv 6) pe_int) (pv 2)) pa_nil)))))))))
   (pss_one (ps_ret (pv 3))))),?_⟩
  refine⟨by show 0<=sizeLine;omega,fun l hl=>?_⟩
  have s0:=same_upd (o:=.lst []) hl
  refine⟨_,rfl,_,_,rfl,rfl,⟨by decide,by decide⟩,?_⟩
  refine gName_int fun r0 _=>?_
  refine⟨_,rfl,m,rfl,by omega,by omega,for_range (lo:=0) (n:=m) (fun i σ H1=>∃ (ts:List Int) (r:Int) (e5 e6:Option V),σ=[some (.int c),some (.int m),some (.int z),some (.ref l),some (.int r),e5,e6]/\Same H H1/\H1 l=some (.lst (ts.map V.int))/\ts.length=i)
   ⟨[],r0,none,none,rfl,s0,upd_same,rfl⟩ ?_ ?_⟩
  ·rintro i σ H1 hi ⟨ts,r,e5,e6,rfl,s1,g1,hl1⟩
   have e0:((0:Int)+(i:Int))=(i:Int):=by omega
   rw[e0]
   refine gName_to ?_
   refine⟨_,rfl,_,_,rfl,rfl,(by show (0:Int)<2;decide),rfl,_,rfl,?_⟩
   refine ite2 (fun h=>?_) (fun h=>?_)
   ·refine⟨_,rfl,.inl ⟨rfl,_,SqL.of g1⟩,_,rfl,_,rfl,_,_,rfl,rfl,hz0,l,_,_,rfl,rfl,g1,by rw[List.length_map];omega,?_⟩
    refine⟨_,rfl,_,rfl,_,_,rfl,rfl,⟨hz0,by omega⟩,?_⟩
    exact⟨ts++[r % (z:Int)],_,_,_,rfl,s1.upd hl,by rw[upd_same,List.map_append];rfl,by rw[List.length_append,hl1];rfl⟩
   ·refine⟨_,rfl,_,rfl,_,_,rfl,rfl,.inl ⟨by decide,by decide⟩,_,_,rfl,rfl,_,_,rfl,rfl,_,_,rfl,rfl,(by show (0:Int)<2147483647;decide),?_⟩
    refine gName_int fun k1 hk1=>?_
    have k10:0<=k1:=by rw[hk1];exact Int.emod_nonneg _ (by decide)
    have k11:k1<2147483647:=by rw[hk1];exact Int.emod_lt_of_pos _ (by decide)
    clear hk1
    refine⟨_,rfl,_,rfl,_,_,rfl,rfl,.inl ⟨by omega,by omega⟩,_,_,rfl,rfl,(by show (0:Int)<1000000007;decide),_,_,rfl,rfl,.inr ⟨by decide,by decide⟩,_,_,rfl,rfl,(by show (0:Int)<998244353;decide),?_⟩
    refine gName_int fun k2 _=>?_
    refine⟨_,rfl,.inl ⟨rfl,_,SqL.of g1⟩,_,rfl,_,_,rfl,rfl,⟨by decide,by decide⟩,_,rfl,_,_,rfl,rfl,hz0,l,_,_,rfl,rfl,g1,by rw[List.length_map];omega,?_⟩
    exact⟨ts++[k2 / 8 % (z:Int)],_,_,_,rfl,s1.upd hl,by rw[upd_same,List.map_append];rfl,by rw[List.length_append,hl1];rfl⟩
  ·rintro σ H1 ⟨ts,r,e5,e6,rfl,s1,g1,hl1⟩
   exact⟨_,rfl,q l ts H1 hl1 s1 hl g1⟩
def spTies (K:W.Frag):Sp:=fun vs H Q _=>∃ (n:Nat) (c:Int),vs=[.int n,.int c]/\n<=24/\∀ (l:Addr) (zs:List V) (ks:List (List Int)) (H':Hp),Same H H'->H l=none->H' l=some (.lst zs)->Tups K H' zs ks->ks.Sublist (pairsN n)->Q (.ref l) H'
theorem scTies:FnScope ["places","cell","marks","ties","k","one","other"] ["places","cell"] (defScope sTies):=⟨rfl,rfl,rfl,by decide +kernel,rfl,by decide +kernel,by decide +kernel⟩
set_option maxHeartbeats 1000000 in
theorem ok_ties {f fR:Addr} {fd fdR:FuncData} (F:Fun K "_law_ties" "_law_ties" sTies f fd) (B:Bn mg) (FR:Fun K "_law_row" "_law_row" sRow fR fdR) (bR:Binds K fdR ["cell","many","size"] []) (mR:mg "_law_row"=some (.ref fR)):FnOk P w K mg base CX0 2 f fd ["places","cell"] (spTies K):=by
 have GR:FnOk P w K mg base CX0 1 fR fdR ["cell","many","size"] (spRow K):=ok_row FR B
 refine F.ok scTies (fun vs H Q E h=>?_) (fun cdv A outer s H vs Q E hr h=>?_)
 ·obtain⟨n,c,rfl,_⟩:=h
  rfl
 ·obtain⟨n,c,rfl,hn,q⟩:=h
  have hsl:=sl1000
  have hlen:=len_pairs n hn
  refine⟨_,pss_cons (ps_set (i:=2) scTies.nd rfl (Or.inl rfl) (pe_call GR hr (by rfl) mR FR.kp bR .nil pass0 (pa_cons (pv 1) (pa_cons (pe_op op_fdiv (pe_op op_mul (pv 0) (pe_op op_sub (pv 0) pe_int)) pe_int) (pa_cons pe_int pa_nil)))))
   (pss_cons (ps_set (i:=3) scTies.nd rfl (Or.inl rfl) (pe_lst pa_nil))
   (pss_cons (ps_set (i:=4) scTies.nd rfl (Or.inl rfl) pe_int)
   (pss_cons (ps_for PassesOwn.never rfl (pi_range1 rfl B.range (pa_cons (pv 0) pa_nil)) (pg_name (i := 5) scTies.nd rfl (Or.inl rfl))
    (pss_one (ps_for PassesOwn.never rfl (pi_range2 rfl B.range (pa_cons (pe_op op_add (pv 5) pe_int) (pa_cons (pv 0) pa_nil))) (pg_name (i := 6) scTies.nd rfl (Or.inl rfl))
     (pss_cons (ps_if (pt_cmpR op_eq (pe_ix ix_list (pv 2) (pv 4) (fun _ _ => rfl)) pe_int (nomark _))
      (pss_one (ps_expr (pe_bm PySem.F.plainAttrs_list PySem.F.slot_list_append PySem.F.type_list_append mt_append (pv 3) (pa_cons (pe_tup (pa_cons (pv 5) (pa_cons (pv 6) pa_nil))) pa_nil)))) pss_nil)
     (pss_one (ps_set (i:=4) scTies.nd rfl (Or.inl rfl) (pe_op op_add (pv 4) pe_int)))))))
   (pss_one (ps_ret (pv 3)))))),?_⟩
  have eh:=pairs_half n (by omega)
  refine⟨_,rfl,_,rfl,_,rfl,_,_,rfl,rfl,_,_,rfl,rfl,.inl ⟨by omega,by omega⟩,_,_,rfl,rfl,⟨by decide,by decide⟩,c,(pairsN n).length,2,congrArg (fun z:Int=>[V.int c,.int z,.int 2]) eh,by omega,by decide,by decide,fun ml ms H1 hml s1 fml g1=>?_⟩
  refine⟨by show 0<=sizeLine;omega,fun l hl=>?_⟩
  have hl0:H l=none:=s1.free hl
  have s2:=s1.trans (same_upd (o:=.lst []) hl)
  have nml:ml≠l:=ne_of_none g1 hl
  have g2:(upd H1 l (.lst [])) ml=some (.lst (ms.map V.int)):=by rw[upd_ne nml];exact g1
  refine⟨_,rfl,n,rfl,by omega,by omega,for_range (lo:=0) (n:=n) (fun i σ H2=>∃ (zs:List V) (ks:List (List Int)) (e5 e6:Option V),σ=[some (.int n),some (.int c),some (.ref ml),some (.ref l),some (.int (((List.range i).flatMap fun j=>rowF j (n - (j+1))).length:Int)),e5,e6]/\Same H H2/\H2 ml=some (.lst (ms.map V.int))/\H2 l=some (.lst zs)/\Tups K H2 zs ks/\ks.Sublist ((List.range i).flatMap fun j=>rowF j (n - (j+1))))
   ⟨[],[],none,none,rfl,s2,g2,upd_same,.nil,List.nil_sublist _⟩ ?_ ?_⟩
  ·rintro i σ H2 hi ⟨zs,ks,e5,e6,rfl,sa,ga,gl,tz,hsub⟩
   have e0:((0:Int)+(i:Int))=(i:Int):=by omega
   rw[e0]
   have hpart:=len_part n (i+1) (by omega)
   rw[pairs_succ,List.length_append]at hpart
   have hrow:∀ m,(rowF i m).length=m:=fun m=>by simp[rowF]
   rw[hrow]at hpart
   generalize hb:((List.range i).flatMap fun j=>rowF j (n - (j+1)))=bs at hpart hsub
   refine gName_to ?_
   refine⟨_,rfl,_,_,rfl,rfl,_,rfl,_,_,rfl,⟨by omega,by omega,by omega,by omega⟩,?_⟩
   rw[show ((n:Int) - ((i:Int)+1)).toNat=n - (i+1) by omega]
   refine for_range (lo:=(i:Int)+1) (n:=n - (i+1)) (fun d σ H3=>∃ (zs:List V) (ks:List (List Int)) (e6:Option V),σ=[some (.int n),some (.int c),some (.ref ml),some (.ref l),some (.int ((bs.length:Int)+(d:Int))),some (.int i),e6]/\Same H H3/\H3 ml=some (.lst (ms.map V.int))/\H3 l=some (.lst zs)/\Tups K H3 zs ks/\ks.Sublist (bs++rowF i d))
    ⟨zs,ks,e6,by rw[show (bs.length:Int)+((0:Nat):Int)=(bs.length:Int) by omega];rfl,sa,ga,gl,tz,by simpa [rowF] using hsub⟩ ?_ ?_
   ·rintro d σ H3 hd ⟨zs,ks,e6,rfl,sb,gb,gl3,tz3,hsub3⟩
    have hzl:=tz3.len
    have hkl:=hsub3.length_le
    rw[List.length_append,hrow]at hkl
    have hat:atI (ms.map V.int) ((bs.length:Int)+(d:Int))=some (.int (ms.getD (bs.length+d) 0)):=by
     rw[show (bs.length:Int)+(d:Int)=((bs.length+d:Nat):Int) by omega]
     exact at_int (by omega)
    refine gName_to ?_
    refine⟨_,rfl,_,rfl,ml,_,_,_,rfl,rfl,SqL.of gb,hat,rfl,_,rfl,?_⟩
    refine ite2 (fun h=>?_) (fun h=>?_)
    ·refine⟨_,rfl,.inl ⟨rfl,_,SqL.of gl3⟩,_,rfl,_,rfl,(by show 2<=sizeLine;decide),fun p hp=>?_⟩
     have s4:=same_upd (o:=.tup [.int (i:Int),.int ((i:Int)+1+(d:Int))]) hp
     refine⟨l,zs,_,rfl,rfl,s4 _ _ gl3,by omega,?_⟩
     refine⟨_,rfl,_,_,rfl,rfl,?_⟩
     refine⟨_,ks++[[(i:Int),(i:Int)+1+(d:Int)]],_,by rw[show (bs.length:Int)+((d+1:Nat):Int)=(bs.length:Int)+(d:Int)+1 by omega];rfl,(sb.trans s4).upd hl0,by rw[upd_ne nml];exact s4 _ _ gb,upd_same,Tups.updL (s4 _ _ gl3) (Tups.append (s4.tups tz3) (Tups.one (SqT.of upd_same))),?_⟩
     rw[rowF_succ,<- List.append_assoc]
     exact hsub3.append (List.Sublist.refl _)
    ·refine⟨_,rfl,_,_,rfl,rfl,?_⟩
     refine⟨zs,ks,_,by rw[show (bs.length:Int)+((d+1:Nat):Int)=(bs.length:Int)+(d:Int)+1 by omega];rfl,sb,gb,gl3,tz3,?_⟩
     rw[rowF_succ,<- List.append_assoc]
     exact hsub3.trans (List.sublist_append_left _ _)
   ·rintro σ H3 ⟨zs,ks,e6,rfl,sb,gb,gl3,tz3,hsub3⟩
    refine⟨zs,ks,some (.int i),e6,?_,sb,gb,gl3,tz3,?_⟩
    ·rw[pairs_succ,hb,List.length_append,hrow]
     rw[show (((bs.length+(n - (i+1)):Nat)):Int)=(bs.length:Int)+((n - (i+1):Nat):Int) by omega]
    ·rw[pairs_succ,hb];exact hsub3
  ·rintro σ H2 ⟨zs,ks,e5,e6,rfl,sa,ga,gl,tz,hsub⟩
   exact⟨_,rfl,q l zs ks H2 sa hl0 gl tz hsub⟩
def spSums (K:W.Frag):Sp:=fun vs H Q _=>∃ (n:Nat) (a:Addr) (ys:List V) (ks:List (List Int)),vs=[.int n,.ref a]/\n<=24/\SqL K H a ys/\Tups K H ys ks/\(∀ k∈ks,Ends2 n k)/\∀ (l:Addr) (H':Hp),Same H H'->H l=none->H' l=some (.lst ((tal n ks).map V.int))->Q (.ref l) H'
theorem scSums:FnScope ["places","ties","told","one","other"] ["places","ties"] (defScope sSums):=⟨rfl,rfl,rfl,by decide +kernel,rfl,by decide +kernel,by decide +kernel⟩
theorem ok_sums {f:Addr} {fd:FuncData} (F:Fun K "_law_sums" "_law_sums" sSums f fd):FnOk P w K mg base CX0 1 f fd ["places","ties"] (spSums K):=by
 refine F.ok scSums (fun vs H Q E h=>?_) (fun cdv A outer s H vs Q E hr h=>?_)
 ·obtain⟨n,a,ys,ks,rfl,_⟩:=h
  rfl
 ·obtain⟨n,a,ys,ks,rfl,hn,h2,h3,hE,q⟩:=h
  have hsl:=sl1000
  refine⟨_,pss_cons (ps_set (i:=2) scSums.nd rfl (Or.inl rfl) (pe_op op_rep (pe_lst (pa_cons pe_int pa_nil)) (pv 0)))
   (pss_cons (ps_for PassesOwn.never rfl (pi_list (pv 1)) (pg_tup rfl (pgs_cons (pg_name (i := 3) scSums.nd rfl (Or.inl rfl)) (pgs_cons (pg_name (i := 4) scSums.nd rfl (Or.inl rfl)) pgs_nil)))
    (pss_cons (ps_asg (pe_op op_add (pe_ix ix_list (pv 2) (pv 3) (fun _ _=>rfl)) pe_int) (pg_sub (pv 2) (pv 3) set_list)) (pss_one (ps_asg (pe_op op_add (pe_ix ix_list (pv 2) (pv 4) (fun _ _=>rfl)) pe_int) (pg_sub (pv 2) (pv 4) set_list)))))
   (pss_one (ps_ret (pv 2)))),?_⟩
  refine⟨(by show 1<=sizeLine;decide),fun l0 f0=>?_⟩
  have s0:=same_upd (o:=.lst [.int 0]) f0
  refine⟨_,rfl,l0,n,[.int 0],rfl,rfl,upd_same,by omega,by omega,?_,fun l hl=>?_⟩
  ·show 1*(n:Int).toNat<=sizeLine
   omega
  rw[Int.toNat_natCast,rep0]
  have s1:=s0.trans (same_upd (o:=.lst ((tal n []).map V.int)) hl)
  have g1:(upd (upd H l0 (.lst [.int 0])) l (.lst ((tal n []).map V.int))) l=some (.lst ((tal n []).map V.int)):=upd_same
  have fl:H l=none:=s0.free hl
  generalize upd (upd H l0 (.lst [.int 0])) l (.lst ((tal n []).map V.int))=H1 at s1 g1 ⊢
  have hz:=h3.len
  refine⟨_,rfl,a,rfl,⟨_,s1.seq h2⟩,?_⟩
  refine for_list (K:=K) (a:=a) (xs:=ys) (fun i σ H2=>∃ ea eb,σ=[some (.int n),some (.ref a),some (.ref l),ea,eb]/\Same H H2/\H2 l=some (.lst ((tal n (ks.take i)).map V.int))) ⟨none,none,rfl,s1,by rw[List.take_zero];exact g1⟩ (fun i σ H2 _ ⟨_,_,_,s2,_⟩=>s2.seq h2) ?_ ?_
  ·rintro i x σ H2 hx ⟨ea,eb,rfl,s2,g2⟩
   obtain⟨pa,pk,rfl,hk,hq⟩:=h3.get hx
   obtain⟨i1,j1,u1,u2,u3,epk⟩:=hE pk (List.mem_of_getElem? hk)
   have hq2:=s2.seqT hq
   rw[epk]at hq2
   refine⟨pa,_,rfl,hq2,rfl,_,_,rfl,_,_,rfl,rfl,?_⟩
   have t1:((tal n (ks.take i)).map V.int)[i1]?=some (.int (cntP (ks.take i) i1)):=by rw[List.getElem?_map,tal_get u1];rfl
   have t2:(((tal n (ks.take i)).map V.int).set i1 (.int ((cntP (ks.take i) i1:Int)+1)))[j1]?=some (.int (cntP (ks.take i) j1)):=by
    rw[List.getElem?_set_ne u3,List.getElem?_map,tal_get u2];rfl
   have lt:((tal n (ks.take i)).map V.int).length=n:=by rw[List.length_map,tal_len]
   refine⟨_,rfl,_,rfl,l,_,_,_,rfl,rfl,SqL.of g2,atI_nat t1,_,_,rfl,rfl,_,rfl,_,rfl,l,_,_,i1,rfl,rfl,g2,by rw[lt];exact ixN_nat u1,?_⟩
   refine⟨_,rfl,_,rfl,l,_,_,_,rfl,rfl,SqL.of upd_same,atI_nat t2,_,_,rfl,rfl,_,rfl,_,rfl,l,_,_,j1,rfl,rfl,upd_same,by rw[List.length_set,lt];exact ixN_nat u2,?_⟩
   refine⟨_,_,rfl,?_,?_⟩
   ·rw[upd_upd]
    exact s2.upd fl
   ·rw[upd_same,List.take_add_one,hk,Option.toList_some,epk,<- tal_put u1 u2 u3 (ks.take i) _ _ rfl rfl,List.map_set,List.map_set]
  ·rintro σ H2 ⟨ea,eb,rfl,s2,g2⟩
   rw[List.take_of_length_le (by omega)]at g2
   exact⟨_,rfl,q l H2 s2 fl g2⟩
end
theorem dec_i (a b:Int):decide (V.int a=V.int b)=decide (a=b):=by
 by_cases h:a=b
 ·rw[decide_eq_true h,decide_eq_true (by rw[h])]
 ·rw[decide_eq_false h,decide_eq_false fun z=>h (by injection z)]
theorem op_catTK {X:Cx}(K:W.Frag)(hK:X.K=K):OpR X (binaryOp .Add) (rCatT K):=by subst hK;exact op_catT
seal L2.PE L2.PA L2.PS L2.PSs L2.PT
section
variable {P:Program} {w:World} {K:W.Frag} {mg:Str->Option Value} {base:Heap}
def isPr (n:Nat)(a b:Int):Prop:=isPl n a/\isPl n b/\a≠b
def spChP (CN:Addr):Sp:=fun vs H Q E=>∃ (n:Nat) (a b:Int),vs=[.int n,.int a,.int b]/\(isPr n a b->Q .non H)/\(¬ isPr n a b->E (.ref CN) none H)
theorem scChP:FnScope ["places","one","other"] ["places","one","other"] (defScope sChP):=⟨rfl,rfl,rfl,by decide +kernel,rfl,by decide +kernel,by decide +kernel⟩
theorem ok_chP {f fC fI CN:Addr}{fd fdC fdI:FuncData}(F:Fun K "check_pair" "check_pair" sChP f fd)(FC:Fun K "check_place" "check_place" sChk fC fdC)(bC:Binds K fdC ["places","number"] [])(mC:mg "check_place"=some (.ref fC))(FI:Fun K "is_place" "is_place" sIsP fI fdI)(bI:Binds K fdI ["places","number"] [])(mI:mg "is_place"=some (.ref fI))
  (mN:mg "NoPlace"=some (.ref CN))(cN:ExcC K CN):FnOk P w K mg base (CXE P w) 3 f fd ["places","one","other"] (spChP CN):=by
 have GC:FnOk P w K mg base (CXE P w) 2 fC fdC ["places","number"] (spChkX CN):=ok_chkX FC FI bI mI mN cN
 refine F.okX scChP (fun vs H Q E h=>?_) (fun cdv A outer s H vs Q E hr h=>?_)
 ·obtain⟨n,a,b,rfl,_⟩:=h
  rfl
 ·obtain⟨n,a,b,rfl,q,qe⟩:=h
  refine⟨_,pss_cons (ps_expr (pe_call GC hr (by rfl) mC FC.kp bC .nil passE (pa_cons (pv 0) (pa_cons (pv 1) pa_nil))))
   (pss_cons (ps_expr (pe_call GC hr (by rfl) mC FC.kp bC .nil passE (pa_cons (pv 0) (pa_cons (pv 2) pa_nil))))
   (pss_one (ps_if (pt_cmpR op_eq (pv 1) (pv 2) (nomark _)) (pss_one (ps_raise (by rfl) mN cN)) pss_nil))),?_⟩
  refine⟨_,rfl,_,rfl,n,a,rfl,fun h1=>?_,fun h=>qe fun z=>h z.1⟩
  refine⟨_,rfl,_,rfl,n,b,rfl,fun h2=>?_,fun h=>qe fun z=>h z.2.1⟩
  refine⟨_,rfl,_,rfl,rfl,_,rfl,?_⟩
  rw[dec_i]
  by_cases e:a=b
  ·rw[decide_eq_true e]
   exact iteT (qe fun z=>z.2.2 e)
  ·rw[decide_eq_false e]
   exact iteF (q ⟨h1,h2,e⟩)
def spFew (CM:Addr):Sp:=fun vs H Q E=>∃ n:Nat,vs=[.int n]/\(n<=7->Q .non H)/\(7<n->E (.ref CM) none H)
theorem scFew:FnScope ["places"] ["places"] (defScope sFew):=⟨rfl,rfl,rfl,by decide +kernel,rfl,by decide +kernel,by decide +kernel⟩
theorem ok_few {f CM:Addr}{fd:FuncData}{tk:Tok}(F:Fun K "check_few" "check_few" sFew f fd)(mc:mg "MOST_COUNTED"=some (.int 7 tk))(mM:mg "TooMany"=some (.ref CM))(cM:ExcC K CM):FnOk P w K mg base (CXE P w) 1 f fd ["places"] (spFew CM):=by
 refine F.okX scFew (fun vs H Q E h=>?_) (fun cdv A outer s H vs Q E hr h=>?_)
 ·obtain⟨n,rfl,_⟩:=h
  rfl
 ·obtain⟨n,rfl,q,qe⟩:=h
  refine⟨_,pss_one (ps_if (pt_cmpR op_gt (pv 0) (pe_glob (v:=.int 7) (by rfl) mc ⟨tk,rfl⟩) (nomark _)) (pss_one (ps_raise (by rfl) mM cM)) pss_nil),?_⟩
  refine⟨_,rfl,_,_,rfl,rfl,_,rfl,?_⟩
  by_cases h:(7:Int)<(n:Int)
  ·rw[decide_eq_true h]
   exact iteT (qe (by omega))
  ·rw[decide_eq_false h]
   exact iteF (q (by omega))
def spChC (K:W.Frag)(CB CM:Addr):Sp:=fun vs H Q E=>∃ (a:Addr) (ns:List Int),vs=[.ref a]/\Sq K H a ns/\(isTl ns->ns.length<=7->Q .non H)/\(¬ isTl ns->E (.ref CB) none H)/\(isTl ns->7<ns.length->E (.ref CM) none H)
theorem scChC:FnScope ["tally"] ["tally"] (defScope sChC):=⟨rfl,rfl,rfl,by decide +kernel,rfl,by decide +kernel,by decide +kernel⟩
theorem ok_chC {f fT fF CB CM:Addr}{fd fdT fdF:FuncData}(F:Fun K "check_counted" "check_counted" sChC f fd)(B:Bn mg)(FT:Fun K "check_tally" "check_tally" sChT fT fdT)(bT:Binds K fdT ["tally"] [])(mT:mg "check_tally"=some (.ref fT))(GT:FnOk P w K mg base (CXE P w) 1 fT fdT ["tally"] (spChT K CB))
  (FF:Fun K "check_few" "check_few" sFew fF fdF)(bF:Binds K fdF ["places"] [])(mF:mg "check_few"=some (.ref fF))(GF:FnOk P w K mg base (CXE P w) 1 fF fdF ["places"] (spFew CM)):FnOk P w K mg base (CXE P w) 2 f fd ["tally"] (spChC K CB CM):=by
 refine F.okX scChC (fun vs H Q E h=>?_) (fun cdv A outer s H vs Q E hr h=>?_)
 ·obtain⟨a,ns,rfl,_⟩:=h
  rfl
 ·obtain⟨a,ns,rfl,hS,q,qb,qm⟩:=h
  refine⟨_,pss_cons (ps_expr (pe_call GT hr (by rfl) mT FT.kp bT .nil passE (pa_cons (pv 0) pa_nil)))
   (pss_one (ps_expr (pe_call GF hr (by rfl) mF FF.kp bF .nil passE (pa_cons (pe_callB call_len_seq (by rfl) B.len PySem.boot_len (pa_cons (pv 0) pa_nil)) pa_nil)))),?_⟩
  refine⟨_,rfl,a,ns,rfl,hS,fun ht=>?_,qb⟩
  exact⟨_,rfl,a,_,rfl,hS,ns.length,congrArg (fun z:Nat=>[V.int (z:Int)]) (List.length_map ..),q ht,qm ht⟩
def spChs (K:W.Frag)(n:Nat):Sp:=fun vs H Q _=>∃ (a:Addr) (ps:List Int) (m:Int),vs=[.ref a,.int m]/\H a=some (.lst (ps.map V.int))/\ps.length<=n/\n<=6/\∀ (l:Addr) (zs:List V) (H':Hp),Same H H'->H l=none->H' l=some (.lst zs)->Tups K H' zs (chs ps m)->Q (.ref l) H'
theorem scChs:FnScope ["places","many","found","ahead","place"] ["places","many"] (defScope sChs):=⟨rfl,rfl,rfl,by decide +kernel,rfl,by decide +kernel,by decide +kernel⟩
set_option maxHeartbeats 4000000 in
theorem ok_chs {f:Addr} {fd:FuncData} (F:Fun K "choices" "choices" sChs f fd) (bF:Binds K fd ["places","many"] []) (mF:mg "choices"=some (.ref f)) (B:Bn mg):∀ n:Nat,FnOk P w K mg base CX0 (n+1) f fd ["places","many"] (spChs K n):=by
 intro n
 induction n with
 | zero =>
  refine F.ok scChs (fun vs H Q E h=>?_) (fun cdv A outer s H vs Q E hr h=>?_)
  ·obtain⟨a,ps,m,rfl,_⟩:=h
   rfl
  ·obtain⟨a,ps,m,rfl,ga,hpl,_,q⟩:=h
   have hsl:=sl1000
   have hps:ps=[]:=List.length_eq_zero_iff.mp (Nat.le_zero.mp hpl)
   subst hps
   refine⟨_,pss_cons (ps_if (pt_cmpR op_eq (pv 1) pe_int (nomark _)) (pss_one (ps_ret (pe_lst (pa_cons (pe_tup pa_nil) pa_nil)))) pss_nil)
    (pss_cons (ps_set (i:=2) scChs.nd rfl (Or.inl rfl) (pe_lst pa_nil))
    (pss_cons (ps_for PassesOwn.never rfl (pi_enum (by rfl) B.enum (pa_cons (pv 0) pa_nil)) (pg_tup rfl (pgs_cons (pg_name (i := 3) scChs.nd rfl (Or.inl rfl)) (pgs_cons (pg_name (i := 4) scChs.nd rfl (Or.inr rfl)) pgs_nil)))
     pss_never)
    (pss_one (ps_ret (pv 2))))),?_⟩
   refine⟨_,rfl,rfl,_,rfl,?_⟩
   rw[dec_i]
   by_cases hm:m=0
   ·rw[decide_eq_true hm]
    refine iteT ⟨(by show 0<=sizeLine;omega),fun t ft=>⟨(by show 1<=sizeLine;omega),fun l fl=>?_⟩⟩
    have s1:=same_upd (o:=.tup []) ft
    have s2:=same_upd (o:=.lst [.ref t]) fl
    refine q l [.ref t] _ (s1.trans s2) (s1.free fl) upd_same ?_
    rw[hm,chs_zero]
    exact Tups.one (SqT.of (s2 _ _ upd_same))
   rw[decide_eq_false hm]
   refine iteF ⟨(by show 0<=sizeLine;omega),fun lf flf=>?_⟩
   have s1:=same_upd (o:=.lst []) flf
   have g1:(upd H lf (.lst [])) lf=some (.lst []):=upd_same
   generalize upd H lf (.lst [])=H1 at s1 g1 ⊢
   refine⟨_,rfl,a,rfl,⟨_,SqL.of (s1 _ _ ga)⟩,for_enum (K:=K) (a:=a) (xs:=[]) (fun _ σ Ha=>σ=[some (.ref a),some (.int m),some (.ref lf),none,none]/\Ha=H1) ⟨rfl,rfl⟩ (fun i σ Ha _ ⟨_,e⟩=>by rw[e];exact SqL.of (s1 _ _ ga)) (fun i x t σ Ha hx=>by cases hx) ?_⟩
   rintro σ Ha ⟨rfl,rfl⟩
   refine⟨_,rfl,q lf [] Ha s1 flf g1 ?_⟩
   unfold chs
   rw[if_neg hm]
   exact .nil
 | succ n ih =>
  refine F.ok scChs (fun vs H Q E h=>?_) (fun cdv A outer s H vs Q E hr h=>?_)
  ·obtain⟨a,ps,m,rfl,_⟩:=h
   rfl
  ·obtain⟨a,ps,m,rfl,ga,hpl,hn6,q⟩:=h
   have hsl:=sl1000
   have nd2:(["rest","place"]:List Str).Nodup:=by decide +kernel
   have h64:2 ^ ps.length<=64:=Nat.le_trans (Nat.pow_le_pow_right (by decide) (Nat.le_trans hpl hn6)) (by decide)
   refine⟨_,pss_cons (ps_if (pt_cmpR op_eq (pv 1) pe_int (nomark _)) (pss_one (ps_ret (pe_lst (pa_cons (pe_tup pa_nil) pa_nil)))) pss_nil)
    (pss_cons (ps_set (i:=2) scChs.nd rfl (Or.inl rfl) (pe_lst pa_nil))
    (pss_cons (ps_for PassesOwn.never rfl (pi_enum (by rfl) B.enum (pa_cons (pv 0) pa_nil)) (pg_tup rfl (pgs_cons (pg_name (i := 3) scChs.nd rfl (Or.inl rfl)) (pgs_cons (pg_name (i := 4) scChs.nd rfl (Or.inr rfl)) pgs_nil)))
     (pss_one (ps_aug (i:=2) scChs.nd rfl (Or.inl rfl) (pe_comp (N':=["rest","place"]) (lk:=[none,some 4]) rfl (pi_list (pe_call ih hr (by rfl) mF F.kp bF .nil pass0 (pa_cons (pe_slice sl_list (pv 0) (po_some (pe_op op_add (pv 3) pe_int)) po_none) (pa_cons (pe_op op_sub (pv 1) pe_int) pa_nil)))) (by rfl) rfl (by decide +kernel) (by exact⟨rfl,trivial⟩) (by rfl) (by exact LkL.ok ⟨⟨rfl,Or.inl rfl,rfl,Or.inl rfl⟩,trivial⟩) (fun _ _ _=>pg_name (i:=0) nd2 rfl (Or.inl rfl)) (fun _ _ _=>pts_nil) (fun _ _ _=>pe_op (op_catTK K rfl) (pe_tup (pa_cons (pv 1) pa_nil)) (pv 0))) ip_ext)))
    (pss_one (ps_ret (pv 2))))),?_⟩
   refine⟨_,rfl,rfl,_,rfl,?_⟩
   rw[dec_i]
   by_cases hm:m=0
   ·rw[decide_eq_true hm]
    refine iteT ⟨(by show 0<=sizeLine;omega),fun t ft=>⟨(by show 1<=sizeLine;omega),fun l fl=>?_⟩⟩
    have s1:=same_upd (o:=.tup []) ft
    have s2:=same_upd (o:=.lst [.ref t]) fl
    refine q l [.ref t] _ (s1.trans s2) (s1.free fl) upd_same ?_
    rw[hm,chs_zero]
    exact Tups.one (SqT.of (s2 _ _ upd_same))
   rw[decide_eq_false hm]
   refine iteF ⟨(by show 0<=sizeLine;omega),fun lf flf=>?_⟩
   have s1:=same_upd (o:=.lst []) flf
   have g1:(upd H lf (.lst [])) lf=some (.lst []):=upd_same
   generalize upd H lf (.lst [])=H1 at s1 g1 ⊢
   refine⟨_,rfl,a,rfl,⟨_,SqL.of (s1 _ _ ga)⟩,for_enum (K:=K) (a:=a) (xs:=ps.map V.int) (fun i σ Ha=>∃ (zs:List V) (e3 e4:Option V),σ=[some (.ref a),some (.int m),some (.ref lf),e3,e4]/\Same H Ha/\Ha lf=some (.lst zs)/\Tups K Ha zs (acL ps m i)) ⟨[],none,none,rfl,s1,g1,.nil⟩ (fun i σ Ha _ ⟨_,_,_,_,s,_⟩=>SqL.of (s _ _ ga)) ?_ ?_⟩
   ·rintro i x t σ Ha hx ⟨zs,e3,e4,rfl,sa,gla,tz⟩ ht
    obtain⟨p,hp,rfl⟩:=int_get hx
    have hi:i<ps.length:=(List.getElem?_eq_some_iff.mp hp).1
    have ep:ps.getD i 0=p:=by rw[List.getD_eq_getElem?_getD,hp];rfl
    have st:=same_upd (o:=.tup [.int i,.int p]) ht
    have hlen:=acL_len ps m i (by omega)
    have hzl:=tz.len
    have hI:i*2 ^ ps.length<=6*64:=Nat.mul_le_mul (by omega) h64
    refine⟨t,_,rfl,SqT.of upd_same,rfl,_,_,rfl,_,_,rfl,rfl,?_⟩
    have gla2:=st _ _ gla
    have tz2:=st.tups tz
    have sa2:=sa.trans st
    generalize upd Ha t (.tup [.int i,.int p])=Hb at gla2 tz2 sa2 ⊢
    refine⟨_,rfl,_,rfl,_,rfl,_,_,rfl,rfl,_,rfl,a,_,rfl,SqL.of (sa2 _ _ ga),fun l2 f2=>?_⟩
    have ec:cutV (ps.map V.int) (some ((i:Int)+1)) none=(ps.drop (i+1)).map V.int:=by rw[show ((i:Int)+1)=((i+1:Nat):Int) by omega,cut_ints_from]
    rw[ec]
    have s2:=same_upd (o:=.lst ((ps.drop (i+1)).map V.int)) f2
    refine⟨_,rfl,_,_,rfl,rfl,l2,ps.drop (i+1),m - 1,rfl,upd_same,by rw[List.length_drop];omega,by omega,fun lc zc Hc sc flc glc tc=>?_⟩
    have hcl:=chs_len (ps.drop (i+1)) (m - 1)
    have h642:2 ^ (ps.drop (i+1)).length<=64:=Nat.le_trans (Nat.pow_le_pow_right (by decide) (by rw[List.length_drop];omega)) h64
    have hzc:=tc.len
    have s2c:=s2.trans sc
    refine⟨lc,rfl,⟨_,SqL.of glc⟩,fun D hD=>comp_list (K:=K) (a:=lc) (D:=D) (ys:=zc) (fun j xs σ' H'=>(∃ v,σ'=[v,some (.int p)])/\Same Hc H'/\H' D=some (.lst xs)/\Tups K H' xs (((chs (ps.drop (i+1)) (m - 1)).take j).map (p::·))) ⟨⟨none,rfl⟩,same_upd hD,upd_same,.nil⟩ (by omega)
     (fun j xs σ' H' hj ⟨_,s6,h6,t6⟩=>⟨SqL.of (s6 _ _ glc),h6,by have:=t6.len;rw[List.length_map,List.length_take]at this;omega⟩) ?_ ?_⟩
    ·rintro j xs y σ' H' N kN hy ⟨⟨v,rfl⟩,s6,h6,t6⟩
     obtain⟨b,E,rfl,hE,hq⟩:=tc.get hy
     have hEl:E.length<=6:=by
      have h1:=chs_many (List.mem_of_getElem? hE)
      have h2:∀ {ps:List Int} {m:Int} {E:List Int},E∈chs ps m->E.length<=ps.length:=fun {ps}=>by
       induction ps with
       | nil =>
        intro m E h
        unfold chs at h
        split at h
        ·rw[List.mem_singleton.mp h];exact Nat.le_refl _
        ·exact absurd h List.not_mem_nil
       | cons x ps ih2 =>
        intro m E h
        rw[chs_cons]at h
        rcases List.mem_append.mp h with h | h
        ·obtain⟨E',h1,rfl⟩:=List.mem_map.mp h
         have:=ih2 h1
         rw[List.length_cons,List.length_cons]
         omega
        ·have:=ih2 h
         rw[List.length_cons]
         omega
      have h3:=h2 (List.mem_of_getElem? hE)
      rw[List.length_drop]at h3
      omega
     refine gName_to (tTrue_if ?_)
     refine⟨_,rfl,(by show 1<=sizeLine;omega),fun t1 ft1=>?_⟩
     have s7:=same_upd (o:=.tup [.int p]) ft1
     refine⟨_,rfl,t1,b,[.int p],E.map V.int,rfl,rfl,SqT.of upd_same,(s6.trans s7).seqT hq,(by intro z;cases z),by rw[List.length_map];show 1+E.length<=_;omega,fun hnil=>?_,fun hnil r fr=>?_⟩
     ·have h6':=s7 _ _ h6
      refine⟨h6',kN _ _ _ ⟨⟨_,rfl⟩,(s6.trans s7).upd hD,upd_same,?_⟩⟩
      have e0:E=[]:=List.map_eq_nil_iff.mp hnil
      rw[List.take_add_one,hE,List.map_append,e0]
      exact Tups.updL h6' (Tups.append (s7.tups t6) (Tups.one (SqT.of upd_same)))
     ·have s8:=same_upd (o:=.tup ([.int p]++E.map V.int)) fr
      have h6':=(s7.trans s8) _ _ h6
      refine⟨h6',kN _ _ _ ⟨⟨_,rfl⟩,(s6.trans (s7.trans s8)).upd hD,upd_same,?_⟩⟩
      rw[List.take_add_one,hE,List.map_append]
      exact Tups.updL h6' (Tups.append ((s7.trans s8).tups t6) (Tups.one (SqT.of upd_same)))
    ·rintro xs σ' Hd ⟨⟨v,rfl⟩,s6,h6,t6⟩
     rw[List.take_of_length_le (by omega)]at t6
     have hxl:=t6.len
     rw[List.length_map]at hxl
     have sbd:=s2c.trans s6
     have gld:=sbd _ _ gla2
     refine⟨lf,D,zs,xs,rfl,rfl,gld,h6,by omega,?_⟩
     refine⟨zs++xs,_,_,rfl,(sa2.trans sbd).upd flf,upd_same,?_⟩
     rw[acL_succ,ep]
     exact Tups.updL gld (Tups.append (sbd.tups tz2) t6)
   ·rintro σ Ha ⟨zs,e3,e4,rfl,sa,gla,tz⟩
    rw[List.length_map,acL_all ps hm]at tz
    exact⟨_,rfl,q lf zs Ha sa flf gla tz⟩
def spFE (K:W.Frag):Sp:=fun vs H Q _=>∃ (a:Addr) (x:Int) (c:List Int),vs=[.ref a]/\Sq K H a (x::c)/\c.length<=6/\∀ (l:Addr) (zs:List V) (H':Hp),Same H H'->H l=none->H' l=some (.lst zs)->Tups K H' zs (chs (rngI 1 c.length) x)->Q (.ref l) H'
theorem scFE:FnScope ["left"] ["left"] (defScope sFE):=⟨rfl,rfl,rfl,by decide +kernel,rfl,by decide +kernel,by decide +kernel⟩
theorem ok_fe {f fC:Addr}{fd fdC:FuncData}(F:Fun K "first_ends" "first_ends" sFE f fd)(B:Bn mg)(FC:Fun K "choices" "choices" sChs fC fdC)(bC:Binds K fdC ["places","many"] [])(mC:mg "choices"=some (.ref fC)):FnOk P w K mg base CX0 8 f fd ["left"] (spFE K):=by
 have GC:FnOk P w K mg base CX0 7 fC fdC ["places","many"] (spChs K 6):=ok_chs FC bC mC B 6
 refine F.ok scFE (fun vs H Q E h=>?_) (fun cdv A outer s H vs Q E hr h=>?_)
 ·obtain⟨a,x,c,rfl,_⟩:=h
  rfl
 ·obtain⟨a,x,c,rfl,hS,hc,q⟩:=h
  refine⟨_,pss_one (ps_ret (pe_call GC hr (by rfl) mC FC.kp bC .nil pass0 (pa_cons (pe_callTy (call_list_rng rfl) (by rfl) B.list (by rfl) (pa_cons (pe_rng2 (by rfl) B.range (pa_cons pe_int (pa_cons (pe_callB call_len_seq (by rfl) B.len PySem.boot_len (pa_cons (pv 0) pa_nil)) pa_nil))) pa_nil)) (pa_cons (pe_ixSK K rfl (pv 0) pe_int (fun _ _=>rfl)) pa_nil)))),?_⟩
  refine⟨_,rfl,a,_,rfl,hS,1,((x::c).length:Int),congrArg (fun z:Nat=>[V.int 1,V.int (z:Int)]) (List.length_map ..),fun r3 f3=>?_⟩
  have s3:=same_upd (o:=.rng 1 ((x::c).length:Int)) f3
  refine⟨r3,1,((x::c).length:Int),c.length,rfl,upd_same,by rw[List.length_cons];omega,by omega,by decide,by decide,fun l4 f4=>?_⟩
  have s4:=same_upd (o:=.lst ((rngI 1 c.length).map V.int)) f4
  have s34:=s3.trans s4
  refine⟨_,rfl,ix_sq (ns:=x::c) (j:=0) (hS.same s34) (by rw[List.length_cons];omega) ⟨l4,rngI 1 c.length,x,rfl,upd_same,by unfold rngI;rw[List.length_map,List.length_range'];exact hc,by decide,fun l zs H' s f g t=>?_⟩⟩
  exact q l zs H' (s34.trans s) (s34.free f) g t
end
end Web
namespace Web
open L2
def bin:Nat->Int->Nat
 | 0,m=>if m=0 then 1 else 0
 | n+1,m=>bin n (m - 1)+bin n m
theorem chs_bin:∀ (ps:List Int) (m:Int),(chs ps m).length=bin ps.length m
 | [],m=>by
  unfold chs
  show _=if m=0 then 1 else 0
  split<;>rfl
 | p::ps,m=>by
  rw[chs_cons,List.length_append,List.length_map,chs_bin ps,chs_bin ps]
  rfl
theorem bin_out:∀ (n:Nat) {m:Int},m<0\/(n:Int)<m->bin n m=0
 | 0,m,h=>by unfold bin;rw[if_neg (by omega)]
 | n+1,m,h=>by unfold bin;rw[bin_out n (by omega),bin_out n (by omega)]
def bnd (n:Nat):Nat:=([1,1,2,3,6,10,20]:List Nat).getD n 0
theorem bin_bnd:∀ n:Nat,n<7->∀ k:Nat,k<7->bin n (k:Int)<=bnd n:=by decide +kernel
theorem chs_bnd (ps:List Int)(h:ps.length<=6)(m:Int):(chs ps m).length<=bnd ps.length:=by
 rw[chs_bin]
 by_cases c:m<0\/(ps.length:Int)<m
 ·rw[bin_out _ c];exact Nat.zero_le _
 ·obtain⟨k,rfl⟩:∃ k:Nat,m=(k:Int):=⟨m.toNat,by omega⟩
  exact bin_bnd _ (by omega) k (by omega)
def Tn:Nat->Nat
 | 0=>0
 | m+1=>1+bnd m*Tn m
theorem Tn_le:∀ m:Nat,m<8->Tn m<=19421:=by decide +kernel
theorem bnd_mono:∀ m:Nat,m<7->∀ k:Nat,k<=m->bnd k<=bnd m:=by decide +kernel
theorem sum_cast (f:List Int->Nat):∀ l:List (List Int),(l.map fun E=>((f E:Nat):Int)).sum=((l.map f).sum:Nat)
 | []=>rfl
 | E::l=>by rw[List.map_cons,List.sum_cons,List.map_cons,List.sum_cons,sum_cast f l];omega
end Web
namespace Web
open PySem L2
theorem hu_of' {k:Nat}{A:Around}(hr:Room k A):A.units+1<cLine:=by have:=hr.units;omega
theorem key_ints (xs:List Int):(xs.map (Sum.inl:Int->Key)).map kV=xs.map V.int:=by rw[List.map_map];rfl
theorem key_inj:∀ {xs ys:List Int},xs.map (Sum.inl:Int->Key)=ys.map Sum.inl->xs=ys
 | [],[],_=>rfl
 | [],_::_,h=>by cases h
 | _::_,[],h=>by cases h
 | x::xs,y::ys,h=>by
  rw[List.map_cons,List.map_cons]at h
  injection h with h1 h2
  injection h1 with h1
  rw[h1,key_inj h2]
theorem slBig:10000001<=sizeLine:=by decide
def Kn (kvs:List (List Key × V)):Prop:=∀ (key:List Int) (v:V),valV kvs (key.map Sum.inl)=some v->v=.int (cnt key)
theorem Kn.nil:Kn []:=fun _ _ h=>by cases h
theorem Kn.put {kvs:List (List Key × V)}(h:Kn kvs)(key:List Int):Kn (putK kvs (key.map Sum.inl) (.int (cnt key))):=fun key' v e=>by
 rw[valV_put]at e
 by_cases c:key'.map (Sum.inl:Int->Key)=key.map Sum.inl
 ·rw[if_pos c]at e
  injection e with e
  rw[key_inj c,<- e]
 ·rw[if_neg c]at e
  exact h key' v e
section
variable {K:W.Frag} {d:Addr} {H H':Hp} {kvs:List (List Key × V)} (g:Grow d H H') (hd:H d=some (.dT kvs))
include g hd
theorem gd_lst {a:Addr}{xs:List V}(h:H a=some (.lst xs)):H' a=some (.lst xs):=g a _ (fun z=>by rw[z,hd]at h;cases h) h
theorem gd_tup {a:Addr}{xs:List V}(h:H a=some (.tup xs)):H' a=some (.tup xs):=g a _ (fun z=>by rw[z,hd]at h;cases h) h
theorem gd_sqT {a:Addr}{xs:List V}(h:SqT K H a xs):SqT K H' a xs:=by
 rcases h with(h | ⟨o,h⟩) | h
 ·exact .inl (.inl (g a _ (fun z=>by rw[z,hd]at h;cases h) h))
 ·exact .inl (.inr ⟨o,g a _ (fun z=>by rw[z,hd]at h;cases h) h⟩)
 ·exact .inr h
end
theorem gd_same {d:Addr}{H H':Hp}(h:H d=none)(g:Grow d H H'):Same H H':=fun b o e=>g b o (fun z=>by rw[z,h]at e;cases e) e
theorem gd_upd {d D:Addr}{H H':Hp}{o:HO}(g:Grow d H H')(h:H D=none):Grow d H (upd H' D o):=fun b u hb hu=>by
 rw[upd_ne (ne_of_none hu h)]
 exact g b u hb hu
theorem gd_put {d:Addr}{H H':Hp}{o:HO}(g:Grow d H H'):Grow d H (upd H' d o):=fun b u hb hu=>by
 rw[upd_ne hb]
 exact g b u hb hu
seal L2.PE L2.PA L2.PS L2.PSs L2.PT
section
variable {P:Program} {w:World} {K:W.Frag} {mg:Str->Option Value} {base:Heap}
def KnQ (kvs:List (List Key × V))(d:Addr)(H:Hp)(m v:Nat)(Q:VK):Prop:=∀ (kvs':List (List Key × V)) (H':Hp),Grow d H H'->H' d=some (.dT kvs')->Kn kvs'->kvs'.length<=kvs.length+m->Q (.int v) H'
def spCnt (K:W.Frag)(m:Nat):Sp:=fun vs H Q _=>∃ (a d:Addr) (ns:List Int) (kvs:List (List Key × V)),vs=[.ref a,.ref d]/\Sq K H a ns/\ns.length<=m/\m<=7/\H d=some (.dT kvs)/\Kn kvs/\kvs.length+Tn m<=10000000/\KnQ kvs d H (Tn m) (cnt ns) Q
def spBeh (K:W.Frag)(m:Nat):Sp:=fun vs H Q _=>∃ (a e d:Addr) (x:Int) (c E:List Int) (kvs:List (List Key × V)),vs=[.ref a,.ref e,.ref d]/\Sq K H a (x::c)/\c.length<=m/\m<=6/\SqT K H e (E.map V.int)/\H d=some (.dT kvs)/\Kn kvs/\kvs.length+Tn m<=10000000/\KnQ kvs d H (Tn m) (cnt (decP 1 E c)) Q
theorem scBeh:FnScope ["left","ends","known"] ["left","ends","known"] (defScope sBeh):=⟨rfl,rfl,rfl,by decide +kernel,rfl,by decide +kernel,by decide +kernel⟩
theorem ok_beh {f fL fC:Addr}{fd fdL fdC:FuncData}{n m:Nat}(F:Fun K "count_behind" "count_behind" sBeh f fd)(B:Bn mg)(FL:Fun K "left_of_others" "left_of_others" sLeft fL fdL)(bL:Binds K fdL ["tally","place","ends"] [])(mL:mg "left_of_others"=some (.ref fL))
  (FC:Fun K "count_of" "count_of" sCnt fC fdC)(bC:Binds K fdC ["left","known"] [])(mC:mg "count_of"=some (.ref fC))(GC:FnOk P w K mg base CX0 (n+1) fC fdC ["left","known"] (spCnt K m)):FnOk P w K mg base CX0 (n+2) f fd ["left","ends","known"] (spBeh K m):=by
 have GL:FnOk P w K mg base CX0 (n+1) fL fdL ["tally","place","ends"] (spLeft K):=(ok_left FL B).mono (by omega)
 refine F.ok scBeh (fun vs H Q E h=>?_) (fun cdv A outer s H vs Q E hr h=>?_)
 ·obtain⟨a,e,d,x,c,E,kvs,rfl,_⟩:=h
  rfl
 ·obtain⟨a,e,d,x,c,E,kvs,rfl,hS,hc,hm,hE,gd,kn,hl,q⟩:=h
  refine⟨_,pss_one (ps_ret (pe_call GC hr (by rfl) mC FC.kp bC .nil pass0 (pa_cons (pe_call GL hr (by rfl) mL FL.kp bL .nil pass0 (pa_cons (pv 0) (pa_cons pe_int (pa_cons (pv 1) pa_nil)))) (pa_cons (pv 2) pa_nil)))),?_⟩
  refine⟨_,rfl,_,rfl,a,e,x::c,E,0,rfl,hS,by rw[List.length_cons];omega,.inr hE,fun l H1 s1 fl gl=>?_⟩
  rw[left_dec]at gl
  refine⟨_,rfl,l,d,decP 1 E c,kvs,rfl,.inl (SqL.of gl),by rw[decP_len];exact hc,by omega,s1 _ _ gd,kn,hl,fun kvs' H' g' gd' kn' hl'=>?_⟩
  exact q kvs' H' ((s1.grow d).trans g') gd' kn' hl'
theorem scCnt:FnScope ["left","known","numbers"] ["left","known"] (defScope sCnt):=⟨rfl,rfl,rfl,by decide +kernel,rfl,by decide +kernel,by decide +kernel⟩
theorem tru_sq {K:W.Frag}{H:Hp}{a:Addr}{ns:List Int}(h:Sq K H a ns):TruV K (.ref a) H (!(ns.map V.int).isEmpty):=h.elim (fun h=>.inl ⟨_,h,rfl⟩) fun h=>.inr (.inl ⟨_,h,rfl⟩)
set_option maxHeartbeats 4000000 in
theorem ok_cnt {f fF fE fB fL:Addr} {fd fdF fdE fdB fdL:FuncData} (F:Fun K "count_of" "count_of" sCnt f fd) (bF:Binds K fd ["left","known"] []) (mF:mg "count_of"=some (.ref f)) (B:Bn mg) (FF:Fun K "falling" "falling" sFall fF fdF) (bFF:Binds K fdF ["tally"] []) (mFF:mg "falling"=some (.ref fF))
  (FE:Fun K "first_ends" "first_ends" sFE fE fdE) (bE:Binds K fdE ["left"] []) (mE:mg "first_ends"=some (.ref fE)) (GE:FnOk P w K mg base CX0 8 fE fdE ["left"] (spFE K))
  (FB:Fun K "count_behind" "count_behind" sBeh fB fdB) (bB:Binds K fdB ["left","ends","known"] []) (mB:mg "count_behind"=some (.ref fB)) (FL:Fun K "left_of_others" "left_of_others" sLeft fL fdL) (bL:Binds K fdL ["tally","place","ends"] []) (mL:mg "left_of_others"=some (.ref fL)):∀ m:Nat,FnOk P w K mg base CX0 (2*m+9) f fd ["left","known"] (spCnt K m):=by
 intro m
 induction m with
 | zero =>
  refine F.ok scCnt (fun vs H Q E h=>?_) (fun cdv A outer s H vs Q E hr h=>?_)
  ·obtain⟨a,d,ns,kvs,rfl,_⟩:=h
   rfl
  ·obtain⟨a,d,ns,kvs,rfl,hS,hn,_,gd,kn,hl,q⟩:=h
   have e0:ns=[]:=List.length_eq_zero_iff.mp (Nat.le_zero.mp hn)
   subst e0
   refine⟨_,pss_cons (ps_if (pt_not (pt_truth (pv 0) (fun _=>rfl))) (pss_one (ps_ret pe_int)) pss_nil) pss_never,?_⟩
   refine⟨_,rfl,_,tru_sq hS,iteT ?_⟩
   exact q kvs H (Grow.refl d H) gd kn (Nat.le_add_right _ _)
 | succ m ih =>
  have GB:FnOk P w K mg base CX0 (2*m+10) fB fdB ["left","ends","known"] (spBeh K m):=ok_beh (n:=2*m+8) FB B FL bL mL F bF mF ih
  have GE':FnOk P w K mg base CX0 (2*m+10) fE fdE ["left"] (spFE K):=GE.mono (by omega)
  have GF:FnOk P w K mg base CX0 (2*m+10) fF fdF ["tally"] (spFall K):=(ok_fall FF B).mono (by omega)
  refine F.ok scCnt (fun vs H Q E h=>?_) (fun cdv A outer s H vs Q E hr h=>?_)
  ·obtain⟨a,d,ns,kvs,rfl,_⟩:=h
   rfl
  ·obtain⟨a,d,ns,kvs,rfl,hS,hn,hm7,gd,kn,hl,q⟩:=h
   have hsl:=sl1000
   have hbig:=slBig
   have nd3:(["ends","numbers","known"]:List Str).Nodup:=by decide +kernel
   refine⟨_,pss_cons (ps_if (pt_not (pt_truth (pv 0) (fun _=>rfl))) (pss_one (ps_ret pe_int)) pss_nil)
    (pss_cons (ps_set (i:=2) scCnt.nd rfl (Or.inr rfl) (pe_callTy call_tuple_of (by rfl) B.tuple (by rfl) (pa_cons (pe_call GF hr (by rfl) mFF FF.kp bFF .nil pass0 (pa_cons (pv 0) pa_nil)) pa_nil)))
    (pss_cut (ps_if (pt_cmp (pc_dnotin (hu_of' hr) (pv 2) (pv 1))) (pss_one (ps_dput (hu_of' hr) (pv 1) (pv 2) (pe_callB (call_sum rfl) (by rfl) B.sum (by rfl) (pa_cons
      (pe_comp (N' := ["ends", "numbers", "known"]) (lk := [none, some 2, some 1]) rfl (pi_list (pe_call GE' hr (by rfl) mE FE.kp bE .nil pass0 (pa_cons (pv 2) pa_nil))) (by rfl) rfl (by decide +kernel) (by exact ⟨rfl, rfl, trivial⟩) (by rfl) (by exact LkL.ok ⟨⟨rfl, Or.inl rfl, rfl, Or.inl rfl⟩, ⟨rfl, Or.inl rfl, rfl, Or.inl rfl⟩, trivial⟩)
       (fun _ _ _=>pg_name (i:=0) nd3 rfl (Or.inl rfl)) (fun _ _ _=>pts_nil) (fun _ _ _=>pe_call GB hr (by rfl) mB FB.kp bB .nil pass0 (pa_cons (pv 1) (pa_cons (pv 0) (pa_cons (pv 2) pa_nil))))) pa_nil)) rfl)) pss_nil)
    (pss_one (ps_ret (pe_dget (hu_of' hr) (pv 1) (pv 2) (fun _ _=>rfl)))))),?_⟩
   refine⟨_,rfl,_,tru_sq hS,?_⟩
   rcases ns with _ | ⟨n0,nr⟩
   ·refine iteT ?_
    exact q kvs H (Grow.refl d H) gd kn (Nat.le_add_right _ _)
   refine iteF ⟨_,rfl,a,_,rfl,hS,by rw[List.length_cons]at hn ⊢;omega,fun lf H1 s1 flf glf=>?_⟩
   refine⟨lf,_,rfl,.inl ⟨SqL.of glf,fun nb fnb=>?_⟩⟩
   have s2:=same_upd (o:=.tup ((up2 (n0::nr)).reverse.map V.int)) fnb
   have gnb:(upd H1 nb (.tup ((up2 (n0::nr)).reverse.map V.int))) nb=some (.tup ((up2 (n0::nr)).reverse.map V.int)):=upd_same
   have s12:=s1.trans s2
   generalize upd H1 nb (.tup ((up2 (n0::nr)).reverse.map V.int))=H2 at s12 gnb ⊢
   refine gName_to ?_
   have gd2:=s12 _ _ gd
   have hperm:((up2 (n0::nr)).reverse).Perm (n0::nr):=(List.reverse_perm _).trans (PySem.W.sortI_perm _)
   have hcnt:cnt (n0::nr)=cnt (up2 (n0::nr)).reverse:=cnt_pi _ _ hperm.symm
   have hul:((up2 (n0::nr)).reverse).length=(n0::nr).length:=hperm.length_eq
   generalize hus:(up2 (n0::nr)).reverse=us at gnb hcnt hul
   rcases us with _ | ⟨x,c⟩
   ·cases hul
   have hcl:c.length<=m:=by rw[List.length_cons]at hul;rw[List.length_cons]at hn;rw[List.length_cons]at hul;omega
   have hT:Tn (m+1)=1+bnd m*Tn m:=rfl
   have hbm:bnd c.length<=bnd m:=bnd_mono m (by omega) _ hcl
   refine⟨fun σ Hn=>∃ kvs',σ=[some (.ref a),some (.ref d),some (.ref nb)]/\Grow d H Hn/\Hn d=some (.dT kvs')/\Kn kvs'/\kvs'.length<=kvs.length+Tn (m+1)/\Hn nb=some (.tup ((x::c).map V.int))/\(valV kvs' ((x::c).map Sum.inl)).isSome=true,?_,?_⟩
   ·refine⟨_,rfl,_,rfl,d,_,rfl,DGet.t (k:=(x::c).map Sum.inl) gd2 (by rw[key_ints];exact gnb),_,rfl,?_⟩
    cases hv:valV kvs ((x::c).map Sum.inl) with
    | some v =>
     exact iteF ⟨kvs,rfl,s12.grow d,gd2,kn,Nat.le_add_right _ _,gnb,by rw[hv];rfl⟩
    | none =>
     refine iteT ⟨_,rfl,nb,x,c,rfl,.inr (SqT.of gnb),by omega,fun le ze H3 s3 fle gle te=>?_⟩
     have gd3:=s3 _ _ gd2
     have gnb3:=s3 _ _ gnb
     have hze:=te.len
     have hEl:=chs_bnd (rngI 1 c.length) (by unfold rngI;rw[List.length_map,List.length_range'];omega) x
     have hrl:(rngI 1 c.length).length=c.length:=by unfold rngI;rw[List.length_map,List.length_range']
     rw[hrl]at hEl
     have hb20:bnd m<=20:=by
      have:∀ m:Nat,m<7->bnd m<=20:=by decide +kernel
      exact this m (by omega)
     have dne:∀ {D:Addr},H3 D=none->D≠d:=fun {D} h z=>by rw[z,gd3]at h;cases h
     refine⟨le,rfl,⟨_,SqL.of gle⟩,fun D hD=>comp_list (K:=K) (a:=le) (D:=D) (ys:=ze) (fun i xs σ' H'=>(∃ v,σ'=[v,some (.ref nb),some (.ref d)])/\Grow d H3 H'/\H' D=some (.lst xs)/\xs=(((chs (rngI 1 c.length) x).take i).map fun E=>((cnt (decP 1 E c):Nat):Int)).map V.int/\∃ kvs',H' d=some (.dT kvs')/\Kn kvs'/\kvs'.length<=kvs.length+i*Tn m)
      ⟨⟨none,rfl⟩,(same_upd hD).grow d,upd_same,rfl,kvs,by rw[upd_ne (dne hD).symm];exact gd3,kn,Nat.le_add_right _ _⟩ (by omega)
      (fun i xs σ' H' hi ⟨_,g1,h1,e1,_⟩=>⟨SqL.of (gd_lst g1 gd3 gle),h1,by rw[e1,List.length_map,List.length_map,List.length_take];omega⟩) ?_ ?_⟩
     ·rintro i xs y σ' H' N kN hy ⟨⟨v,rfl⟩,g1,h1,rfl,kvs',gd',kn',hl'⟩
      obtain⟨b,E,rfl,hE,hq⟩:=te.get hy
      have hi:i<ze.length:=(List.getElem?_eq_some_iff.mp hy).1
      have hiT:i*Tn m+Tn m<=bnd m*Tn m:=by
       rw[<- Nat.succ_mul]
       exact Nat.mul_le_mul_right _ (by omega)
      refine gName_to (tTrue_if ?_)
      refine⟨_,rfl,_,rfl,_,rfl,nb,b,d,x,c,E,kvs',rfl,.inr (SqT.of (gd_tup g1 gd3 gnb3)),hcl,by omega,gd_sqT g1 gd3 hq,gd',kn',by omega,fun kvs2 H4 g4 gd4 kn4 hl4=>?_⟩
      have h4:H4 D=some (.lst _):=gd_lst g4 gd' h1
      refine⟨h4,kN _ _ _ ⟨⟨_,rfl⟩,gd_upd (g1.trans g4) hD,upd_same,?_,kvs2,by rw[upd_ne (dne hD).symm];exact gd4,kn4,by rw[Nat.succ_mul];omega⟩⟩
      rw[List.take_add_one,hE,List.map_append,List.map_append]
      rfl
     ·rintro xs σ' H4 ⟨⟨v,rfl⟩,g4,h4,rfl,kvs4,gd4,kn4,hl4⟩
      rw[List.take_of_length_le (by omega)]at h4
      refine⟨D,_,rfl,SqL.of h4,?_⟩
      have hsum:((chs (rngI 1 c.length) x).map fun E=>((cnt (decP 1 E c):Nat):Int)).sum=((cnt (x::c):Nat):Int):=by
       rw[sum_cast (fun E=>cnt (decP 1 E c)),chs_sum,cnt_cons]
      rw[hsum]
      have hlk:ze.length*Tn m<=bnd m*Tn m:=Nat.mul_le_mul_right _ (by omega)
      have gnb4:=gd_tup g4 gd3 gnb3
      refine⟨_,rfl,_,rfl,d,_,rfl,DPut.t (k:=(x::c).map Sum.inl) (v:=.int (cnt (x::c))) gd4 (by rw[key_ints];exact gnb4) (by omega),?_⟩
      refine⟨_,rfl,gd_put (((s12.trans s3).grow d).trans g4),upd_same,kn4.put _,?_,?_,?_⟩
      ·have:=length_putK kvs4 ((x::c).map Sum.inl) (.int (cnt (x::c)))
       omega
      ·rw[upd_ne (fun z=>by rw[z,gd4]at gnb4;cases gnb4)];exact gnb4
      ·rw[valV_put,if_pos rfl];rfl
   ·rintro σ Hn ⟨kvs',rfl,gn,gdn,knn,hln,gnbn,hs⟩
    obtain⟨v,hv⟩:=Option.isSome_iff_exists.mp hs
    obtain rfl:=knn _ _ hv
    refine⟨_,rfl,_,rfl,d,.int (cnt (x::c)),rfl,by rw[<- hv];exact DGet.t (k:=(x::c).map Sum.inl) gdn (by rw[key_ints];exact gnbn),?_⟩
    rw[<- hcnt]
    exact q kvs' Hn gn gdn knn hln
def spHow (K:W.Frag)(CB CM:Addr):Sp:=fun vs H Q E=>∃ (a:Addr) (ns:List Int),vs=[.ref a]/\Sq K H a ns/\(isTl ns->ns.length<=7->∀ H':Hp,Same H H'->Q (.int (cnt ns)) H')/\(¬ isTl ns->E (.ref CB) none H)/\(isTl ns->7<ns.length->E (.ref CM) none H)
theorem scHow:FnScope ["tally"] ["tally"] (defScope sHow):=⟨rfl,rfl,rfl,by decide +kernel,rfl,by decide +kernel,by decide +kernel⟩
theorem ok_how {f fC fN CB CM:Addr}{fd fdC fdN:FuncData}(F:Fun K "how_many" "how_many" sHow f fd)(FC:Fun K "check_counted" "check_counted" sChC fC fdC)(bC:Binds K fdC ["tally"] [])(mC:mg "check_counted"=some (.ref fC))(GC:FnOk P w K mg base (CXE P w) 23 fC fdC ["tally"] (spChC K CB CM))
  (FN:Fun K "count_of" "count_of" sCnt fN fdN)(bN:Binds K fdN ["left","known"] [])(mN:mg "count_of"=some (.ref fN))(GN:FnOk P w K mg base CX0 23 fN fdN ["left","known"] (spCnt K 7)):FnOk P w K mg base (CXE P w) 24 f fd ["tally"] (spHow K CB CM):=by
 refine F.okX scHow (fun vs H Q E h=>?_) (fun cdv A outer s H vs Q E hr h=>?_)
 ·obtain⟨a,ns,rfl,_⟩:=h
  rfl
 ·obtain⟨a,ns,rfl,hS,q,qb,qm⟩:=h
  refine⟨_,pss_cons (ps_expr (pe_call GC hr (by rfl) mC FC.kp bC .nil passE (pa_cons (pv 0) pa_nil)))
   (pss_one (ps_ret (pe_call GN hr (by rfl) mN FN.kp bN .nil pass0 (pa_cons (pv 0) (pa_cons pe_dnewT pa_nil))))),?_⟩
  refine⟨_,rfl,a,ns,rfl,hS,fun ht h7=>?_,qb,qm⟩
  refine⟨_,rfl,fun d fd=>?_⟩
  have s1:=same_upd (o:=.dT []) fd
  refine⟨a,d,ns,[],rfl,hS.same s1,h7,by decide,upd_same,Kn.nil,by show 0+Tn 7<=_;have:=Tn_le 7 (by decide);omega,fun kvs' H' g' gd' kn' hl'=>?_⟩
  exact q ht h7 H' (gd_same fd ((s1.grow d).trans g'))
end
end Web
namespace Web
open L2
theorem outs_fst:∀ c:List Int,(outs c).map Prod.fst=c
 | []=>rfl
 | x::c=>by
  show x::((outs c).map fun p=>(p.1,x::p.2)).map Prod.fst=_
  rw[List.map_map]
  show x::(outs c).map Prod.fst=_
  rw[outs_fst c]
def gg (a:Int)(c:List Int)(x:Int):Nat:=two a x (c.erase x)
theorem two_gg {a x:Int}{l c:List Int}(h:(x::l).Perm c):two a x l=gg a c x:=by
 have:=h.erase x
 rw[List.erase_cons_head]at this
 exact two_perm this
theorem sum_gg (a:Int)(c:List Int):(c.map (gg a c)).sum=a.toNat*cnt (a::c):=by
 have h:=sum_two (c:=c) (f:=cnt) (a:=a) cnt_pi
 rw[cnt_cons,<- h]
 conv=>lhs;rw[<- outs_fst c]
 rw[List.map_map,outs_fst c]
 refine congrArg List.sum (List.map_congr_left fun p hp=>?_)
 exact(two_gg (outs_perm hp)).symm
def oth1 (ns:List Int)(i:Nat):List Int:=((List.range ns.length).filter fun k=>decide (k≠i)).map fun k=>ns.getD k 0
def oth2 (ns:List Int)(i j:Nat):List Int:=((List.range ns.length).filter fun k=>decide (k≠i) && decide (k≠j)).map fun k=>ns.getD k 0
theorem range_map (ns:List Int):(List.range ns.length).map (fun k=>ns.getD k 0)=ns:=by
 have:=map_getD (fun z=>z) ns
 rw[List.map_id']at this
 exact this
theorem oth1_perm {ns:List Int}{i:Nat}(h:i<ns.length):(ns.getD i 0::oth1 ns i).Perm ns:=by
 conv=>rhs;rw[<- range_map ns]
 refine List.Perm.map (fun k=>ns.getD k 0) (l₁:=i::(List.range ns.length).filter fun k=>decide (k≠i)) ?_
 refine(List.perm_ext_iff_of_nodup ?_ List.nodup_range).mpr fun k=>?_
 ·refine List.nodup_cons.mpr ⟨fun z=>?_,List.nodup_range.filter _⟩
  have:=(List.mem_filter.mp z).2
  simp at this
 ·rw[List.mem_cons,List.mem_filter,List.mem_range,decide_eq_true_eq]
  by_cases e:k=i
  ·subst e;exact⟨fun _=>h,fun _=>.inl rfl⟩
  ·exact⟨fun z=>(z.resolve_left e).1,fun z=>.inr ⟨z,e⟩⟩
theorem oth2_perm {ns:List Int}{i j:Nat}(hi:i<ns.length)(hj:j<ns.length)(hij:i≠j):(ns.getD j 0::oth2 ns i j).Perm (oth1 ns i):=by
 refine List.Perm.map (fun k=>ns.getD k 0) (l₁:=j::(List.range ns.length).filter fun k=>decide (k≠i) && decide (k≠j)) (l₂:=(List.range ns.length).filter fun k=>decide (k≠i)) ?_
 refine(List.perm_ext_iff_of_nodup ?_ (List.nodup_range.filter _)).mpr fun k=>?_
 ·refine List.nodup_cons.mpr ⟨fun z=>?_,List.nodup_range.filter _⟩
  have:=(List.mem_filter.mp z).2
  simp at this
 ·rw[List.mem_cons,List.mem_filter,List.mem_filter,List.mem_range,Bool.and_eq_true,decide_eq_true_eq,decide_eq_true_eq]
  by_cases e:k=j
  ·subst e;exact⟨fun _=>⟨hj,Ne.symm hij⟩,fun _=>.inl rfl⟩
  ·exact⟨fun z=>⟨(z.resolve_left e).1,(z.resolve_left e).2.1⟩,fun z=>.inr ⟨z.1,z.2,e⟩⟩
theorem oth2_sym (ns:List Int)(i j:Nat):oth2 ns i j=oth2 ns j i:=by
 unfold oth2
 congr 1
 exact List.filter_congr fun k _=>Bool.and_comm _ _
def inH (ns:List Int)(i j:Nat):Nat:=two (ns.getD i 0) (ns.getD j 0) (oth2 ns i j)
theorem inH_sym (ns:List Int)(i j:Nat):inH ns i j=inH ns j i:=by unfold inH;rw[two_sym,oth2_sym]
theorem inH_le {ns:List Int}{i j:Nat}(hi:i<ns.length)(hj:j<ns.length)(hij:i≠j):inH ns i j<=cnt ns:=by
 refine Nat.le_trans (two_le _ _ _) (Nat.le_of_eq (cnt_pi _ _ ?_))
 exact((oth2_perm hi hj hij).cons _).trans (oth1_perm hi)
theorem inH_sum {ns:List Int}{i:Nat}(hi:i<ns.length):(((List.range ns.length).filter fun k=>decide (k≠i)).map fun j=>inH ns i j).sum=(ns.getD i 0).toNat*cnt ns:=by
 have h:=sum_gg (ns.getD i 0) (oth1 ns i)
 rw[cnt_pi _ _ (oth1_perm hi)]at h
 rw[<- h]
 unfold oth1
 rw[List.map_map]
 refine congrArg List.sum (List.map_congr_left fun j hj=>?_)
 obtain⟨h1,h2⟩:=List.mem_filter.mp hj
 have h3:j≠i:=of_decide_eq_true h2
 exact two_gg (oth2_perm hi (List.mem_range.mp h1) (Ne.symm h3))
end Web
namespace Web
open PySem L2
def ot2 (ns:List Int)(i j k:Nat):List Int:=((List.range k).filter fun k=>decide (k≠i) && decide (k≠j)).map fun k=>ns.getD k 0
theorem ot2_succ (ns:List Int)(i j k:Nat):ot2 ns i j (k+1)=ot2 ns i j k++(if k≠i/\k≠j then [ns.getD k 0] else []):=by
 unfold ot2
 rw[List.range_succ,List.filter_append,List.map_append]
 by_cases h:k≠i/\k≠j
 ·rw[if_pos h,List.filter_cons_of_pos (by rw[Bool.and_eq_true,decide_eq_true_eq,decide_eq_true_eq];exact h)];rfl
 ·rw[if_neg h,List.filter_cons_of_neg (by rw[Bool.and_eq_true,decide_eq_true_eq,decide_eq_true_eq];exact h)];rfl
theorem ot2_len (ns:List Int)(i j k:Nat):(ot2 ns i j k).length<=k:=by
 unfold ot2
 rw[List.length_map]
 exact Nat.le_trans (List.length_filter_le _ _) (by rw[List.length_range];exact Nat.le_refl _)
theorem ch1_snoc {x:List (List Int)}{i:Nat}{E:List Int}(h:x[i]?=some E):(x.take (i+1)).filter (fun E=>decide ((1:Int)∈E))=(x.take i).filter (fun E=>decide ((1:Int)∈E))++(if (1:Int)∈E then [E] else []):=by
 rw[List.take_add_one,h,Option.toList_some,List.filter_append]
 by_cases c:(1:Int)∈E
 ·rw[if_pos c,List.filter_cons_of_pos (by rw[decide_eq_true_eq];exact c)];rfl
 ·rw[if_neg c,List.filter_cons_of_neg (by rw[decide_eq_true_eq];exact c)];rfl
seal L2.PE L2.PA L2.PS L2.PSs L2.PT
section
variable {P:Program} {w:World} {K:W.Frag} {mg:Str->Option Value} {base:Heap}
def spInH (K:W.Frag)(CB CM CN:Addr):Sp:=fun vs H Q E=>∃ (a:Addr) (ns:List Int) (p r:Int),vs=[.ref a,.int p,.int r]/\Sq K H a ns/\(isTl ns->ns.length<=7->isPr ns.length p r->∀ H':Hp,Same H H'->Q (.int (inH ns p.toNat r.toNat)) H')/\(¬ isTl ns->E (.ref CB) none H)/\(isTl ns->7<ns.length->E (.ref CM) none H)/\(isTl ns->ns.length<=7->¬ isPr ns.length p r->E (.ref CN) none H)
theorem scInH:FnScope ["tally","one","other","others","left","known"] ["tally","one","other"] (defScope sInH):=⟨rfl,rfl,rfl,by decide +kernel,rfl,by decide +kernel,by decide +kernel⟩
set_option maxHeartbeats 4000000 in
theorem ok_inH {f fC fP fE fB CB CM CN:Addr} {fd fdC fdP fdE fdB:FuncData} (F:Fun K "in_how_many" "in_how_many" sInH f fd) (B:Bn mg) (FC:Fun K "check_counted" "check_counted" sChC fC fdC) (bC:Binds K fdC ["tally"] []) (mC:mg "check_counted"=some (.ref fC)) (GC:FnOk P w K mg base (CXE P w) 22 fC fdC ["tally"] (spChC K CB CM))
  (FP:Fun K "check_pair" "check_pair" sChP fP fdP) (bP:Binds K fdP ["places","one","other"] []) (mP:mg "check_pair"=some (.ref fP)) (GP:FnOk P w K mg base (CXE P w) 22 fP fdP ["places","one","other"] (spChP CN))
  (FE:Fun K "first_ends" "first_ends" sFE fE fdE) (bE:Binds K fdE ["left"] []) (mE:mg "first_ends"=some (.ref fE)) (GE:FnOk P w K mg base CX0 22 fE fdE ["left"] (spFE K))
  (FB:Fun K "count_behind" "count_behind" sBeh fB fdB) (bB:Binds K fdB ["left","ends","known"] []) (mB:mg "count_behind"=some (.ref fB)) (GB:FnOk P w K mg base CX0 22 fB fdB ["left","ends","known"] (spBeh K 6)):FnOk P w K mg base (CXE P w) 23 f fd ["tally","one","other"] (spInH K CB CM CN):=by
 refine F.okX scInH (fun vs H Q E h=>?_) (fun cdv A outer s H vs Q E hr h=>?_)
 ·obtain⟨a,ns,p,r,rfl,_⟩:=h
  rfl
 ·obtain⟨a,ns,p,r,rfl,hS,q,qb,qm,qn⟩:=h
  have hsl:=sl1000
  have hun:=hr.units
  have nd4:(["place","number","one","other"]:List Str).Nodup:=by decide +kernel
  have nd3:(["ends","left","known"]:List Str).Nodup:=by decide +kernel
  refine⟨_,pss_cons (ps_expr (pe_call GC hr (by rfl) mC FC.kp bC .nil passE (pa_cons (pv 0) pa_nil)))
   (pss_cons (ps_expr (pe_call GP hr (by rfl) mP FP.kp bP .nil passE (pa_cons (pe_callB call_len_seq (by rfl) B.len PySem.boot_len (pa_cons (pv 0) pa_nil)) (pa_cons (pv 1) (pa_cons (pv 2) pa_nil)))))
   (pss_cons (ps_setC (i:=3) scInH.nd rfl rfl (by rfl) (N':=["place","number","one","other"]) (lk:=[none,none,some 1,some 2]) rfl (pi_or (pi_enum (by rfl) B.enum (pa_cons (pv 0) pa_nil)) (pi_enumT (by rfl) B.enum (pa_cons (pv 0) pa_nil))) (by rfl) rfl (by decide +kernel) (by exact⟨rfl,rfl,trivial⟩) (by rfl) (by exact LkL.ok ⟨⟨rfl,Or.inl rfl,rfl,Or.inl rfl⟩,⟨rfl,Or.inl rfl,rfl,Or.inl rfl⟩,trivial⟩)
     (fun _ _ _=>pg_tupK (n:=2) K rfl rfl (pgs_cons (pg_name (i:=0) nd4 rfl (Or.inl rfl)) (pgs_cons (pg_name (i:=1) nd4 rfl (Or.inl rfl)) pgs_nil))) (fun _ _ _=>pts_one (pt_cmpR (op_notInDK K hr.around rfl rfl) (pv 0) (pe_tup (pa_cons (pv 2) (pa_cons (pv 3) pa_nil))) (by rfl))) (fun _ _ _=>pv 1))
   (pss_cons (ps_set (i:=4) scInH.nd rfl (Or.inr rfl) (pe_op op_cat (pe_lst (pa_cons (pe_ixSK K rfl (pv 0) (pv 1) (fun _ _=>rfl)) (pa_cons (pe_ixSK K rfl (pv 0) (pv 2) (fun _ _=>rfl)) pa_nil))) (pv 3)))
   (pss_cons (ps_set (i:=5) scInH.nd rfl (Or.inr rfl) pe_dnewT)
   (pss_one (ps_ret (pe_callB (call_sum rfl) (by rfl) B.sum (by rfl) (pa_cons
     (pe_comp (N' := ["ends", "left", "known"]) (lk := [none, some 4, some 5]) rfl (pi_list (pe_call GE hr (by rfl) mE FE.kp bE .nil pass0 (pa_cons (pv 4) pa_nil))) (by rfl) rfl (by decide +kernel) (by exact ⟨rfl, rfl, trivial⟩) (by rfl) (by exact LkL.ok ⟨⟨rfl, Or.inl rfl, rfl, Or.inl rfl⟩, ⟨rfl, Or.inl rfl, rfl, Or.inl rfl⟩, trivial⟩)
      (fun _ _ _=>pg_name (i:=0) nd3 rfl (Or.inl rfl)) (fun _ _ _=>pts_one (pt_cmpR (op_inDK K hr.around rfl rfl) pe_int (pv 0) (by rfl))) (fun _ _ _=>pe_call GB hr (by rfl) mB FB.kp bB .nil pass0 (pa_cons (pv 1) (pa_cons (pv 0) (pa_cons (pv 2) pa_nil))))) pa_nil)))))))),?_⟩
  refine⟨_,rfl,a,ns,rfl,hS,fun ht h7=>?_,qb,qm⟩
  refine⟨_,rfl,a,_,rfl,hS,_,rfl,_,rfl,ns.length,p,r,congrArg (fun z:Nat=>[V.int (z:Int),V.int p,V.int r]) (List.length_map ..),fun hp=>?_,qn ht h7⟩
  obtain⟨⟨p0,p1⟩,⟨r0,r1⟩,hne⟩:=id hp
  obtain⟨i,rfl⟩:∃ i:Nat,p=(i:Int):=⟨p.toNat,by omega⟩
  obtain⟨j,rfl⟩:∃ j:Nat,r=(j:Int):=⟨r.toNat,by omega⟩
  have q':=q ht h7 hp
  rw[Int.toNat_natCast,Int.toNat_natCast]at q'
  refine Or.imp (fun h=>⟨_,rfl,h⟩) (fun h=>⟨_,rfl,h⟩) (comp_enumS (K:=K) (a:=a) (ys:=ns.map V.int) hS (by rw[List.length_map];omega)
   (fun D k xs σ' H'=>(∃ v u,σ'=[v,u,some (.int (i:Int)),some (.int (j:Int))])/\Same H H'/\H' D=some (.lst xs)/\xs=(ot2 ns i j k).map V.int) (fun D hD=>⟨⟨none,none,rfl⟩,same_upd hD,upd_same,rfl⟩)
   (fun D k xs σ' H' hD hk ⟨_,s1,h1,e1⟩=>⟨s1,h1,by rw[e1,List.length_map];exact ot2_len ns i j k⟩) ?_ ?_)
  ·rintro D k xs x t σ' H' N hD kN hx ⟨⟨v,u,rfl⟩,s1,h1,rfl⟩ htt
   obtain⟨z,hz,rfl⟩:=int_get hx
   have ez:ns.getD k 0=z:=by rw[List.getD_eq_getElem?_getD,hz];rfl
   have s2:=same_upd (o:=.tup [.int k,.int z]) htt
   refine⟨t,_,rfl,SqT.of upd_same,rfl,_,_,rfl,_,_,rfl,rfl,?_⟩
   refine⟨_,rfl,_,rfl,_,rfl,(by show 2<=sizeLine;decide),fun t2 ft2=>?_⟩
   have s3:=same_upd (o:=.tup (([(i:Int),(j:Int)]:List Int).map V.int)) ft2
   refine notin_ints (es:=[(i:Int),(j:Int)]) hun (.inr (SqT.of upd_same)) ⟨_,rfl,?_⟩
   have h1':=(s2.trans s3) _ _ h1
   have e3:=ot2_succ ns i j k
   rw[ez]at e3
   by_cases c:(k:Int)∈([(i:Int),(j:Int)]:List Int)
   ·rw[decide_eq_true c]
    refine iteF (kN _ _ _ ⟨⟨_,_,rfl⟩,s1.trans (s2.trans s3),h1',?_⟩)
    rw[e3,if_neg (fun h=>by
     rcases List.mem_cons.mp c with z | z
     ·exact h.1 (by omega)
     ·exact h.2 (by have:=List.mem_singleton.mp z;omega)),List.append_nil]
   ·rw[decide_eq_false c]
    refine iteT ⟨_,rfl,h1',kN _ _ _ ⟨⟨_,_,rfl⟩,(s1.trans (s2.trans s3)).upd hD,upd_same,?_⟩⟩
    rw[e3,if_pos ⟨fun h=>c (by rw[h];exact List.mem_cons_self),fun h=>c (by rw[h];exact List.mem_cons_of_mem _ (List.mem_singleton.mpr rfl))⟩,List.map_append]
    rfl
  ·rintro D xs σ' H1 hD ⟨⟨v,u,rfl⟩,s1,h1,rfl⟩
   rw[List.length_map]at h1
   replace h1:H1 D=some (.lst ((oth2 ns i j).map V.int)):=h1
   have hol:(oth2 ns i j).length+1+1=ns.length:=by
    have e1:=(oth2_perm (ns:=ns) (i:=i) (j:=j) (by omega) (by omega) (by omega)).length_eq
    have e2:=(oth1_perm (ns:=ns) (i:=i) (by omega)).length_eq
    rw[List.length_cons]at e1 e2
    omega
   refine⟨_,rfl,_,rfl,ix_sq (hS.same s1) (by omega) ⟨_,rfl,_,rfl,ix_sq (hS.same s1) (by omega) ⟨(by show 2<=sizeLine;decide),fun l2 fl2=>?_⟩⟩⟩
   have s2:=same_upd (o:=.lst [.int (ns.getD i 0),.int (ns.getD j 0)]) fl2
   refine⟨_,rfl,l2,D,_,_,rfl,rfl,upd_same,s2 _ _ h1,by rw[List.length_map];show 2+(oth2 ns i j).length<=_;omega,fun l3 fl3=>?_⟩
   have s3:=same_upd (o:=.lst ([.int (ns.getD i 0),.int (ns.getD j 0)]++(oth2 ns i j).map V.int)) fl3
   have g3:(upd (upd H1 l2 (.lst [.int (ns.getD i 0),.int (ns.getD j 0)])) l3 (.lst ([.int (ns.getD i 0),.int (ns.getD j 0)]++(oth2 ns i j).map V.int))) l3=some (.lst ((ns.getD i 0::ns.getD j 0::oth2 ns i j).map V.int)):=upd_same
   have s13:=(s1.trans s2).trans s3
   generalize upd (upd H1 l2 (.lst [.int (ns.getD i 0),.int (ns.getD j 0)])) l3 (.lst ([.int (ns.getD i 0),.int (ns.getD j 0)]++(oth2 ns i j).map V.int))=H3 at s13 g3 ⊢
   refine gName_to ?_
   refine fun d fd=>?_
   have s4:=same_upd (o:=.dT []) fd
   have gd4:(upd H3 d (.dT [])) d=some (.dT []):=upd_same
   have g4:=s4 _ _ g3
   have fdH:H d=none:=s13.free fd
   have s14:=s13.trans s4
   generalize upd H3 d (.dT [])=H4 at gd4 g4 s14 ⊢
   refine gName_to ?_
   refine⟨_,rfl,l3,ns.getD i 0,ns.getD j 0::oth2 ns i j,rfl,.inl (SqL.of g4),by rw[List.length_cons];omega,fun le ze H5 s5 fle gle te=>?_⟩
   have gd5:=s5 _ _ gd4
   have g5:=s5 _ _ g4
   have hze:=te.len
   have hrl:(rngI 1 (ns.getD j 0::oth2 ns i j).length).length<=6:=by unfold rngI;rw[List.length_map,List.length_range',List.length_cons];omega
   have hEl:=chs_bnd (rngI 1 (ns.getD j 0::oth2 ns i j).length) hrl (ns.getD i 0)
   have hb20:bnd (rngI 1 (ns.getD j 0::oth2 ns i j).length).length<=20:=by
    have:∀ m:Nat,m<7->bnd m<=20:=by decide +kernel
    exact this _ (by omega)
   have dne:∀ {D:Addr},H5 D=none->D≠d:=fun {D} h z=>by rw[z,gd5]at h;cases h
   have hT:=Tn_le 6 (by decide)
   refine⟨le,rfl,⟨_,SqL.of gle⟩,fun D2 hD2=>comp_list (K:=K) (a:=le) (D:=D2) (ys:=ze) (fun k xs σ' H'=>(∃ v,σ'=[v,some (.ref l3),some (.ref d)])/\Grow d H5 H'/\H' D2=some (.lst xs)/\xs=((((chs (rngI 1 (ns.getD j 0::oth2 ns i j).length) (ns.getD i 0)).take k).filter fun E=>decide ((1:Int)∈E)).map fun E=>((cnt (decP 1 E (ns.getD j 0::oth2 ns i j)):Nat):Int)).map V.int/\∃ kvs',H' d=some (.dT kvs')/\Kn kvs'/\kvs'.length<=k*Tn 6)
    ⟨⟨none,rfl⟩,(same_upd hD2).grow d,upd_same,rfl,[],by rw[upd_ne (dne hD2).symm];exact gd5,Kn.nil,Nat.zero_le _⟩ (by omega)
    (fun k xs σ' H' hk ⟨_, g1, h1, e1, _⟩ => ⟨SqL.of (gd_lst g1 gd5 gle), h1, by
     rw[e1,List.length_map,List.length_map]
     exact Nat.le_trans (List.length_filter_le _ _) (List.length_take_le _ _)⟩) ?_ ?_⟩
   ·rintro k xs y σ' H' N kN hy ⟨⟨v,rfl⟩,g1,h1,rfl,kvs',gd',kn',hl'⟩
    obtain⟨b,E,rfl,hE,hq⟩:=te.get hy
    have hk:k<ze.length:=(List.getElem?_eq_some_iff.mp hy).1
    have hkT:k*Tn 6<=20*19421:=Nat.mul_le_mul (by omega) hT
    refine gName_to ?_
    refine⟨_,rfl,in_ints (es:=E) (z:=1) hun (.inr (gd_sqT g1 gd5 hq)) ⟨_,rfl,?_⟩⟩
    have e3:=ch1_snoc hE
    by_cases c:(1:Int)∈E
    ·rw[decide_eq_true c]
     rw[if_pos c]at e3
     refine iteT ⟨_,rfl,_,rfl,_,rfl,l3,b,d,ns.getD i 0,ns.getD j 0::oth2 ns i j,E,kvs',rfl,.inl (SqL.of (gd_lst g1 gd5 g5)),by rw[List.length_cons];omega,by decide,gd_sqT g1 gd5 hq,gd',kn',by omega,fun kvs2 H6 g6 gd6 kn6 hl6=>?_⟩
     have h6:H6 D2=some (.lst _):=gd_lst g6 gd' h1
     refine⟨h6,kN _ _ _ ⟨⟨_,rfl⟩,gd_upd (g1.trans g6) hD2,upd_same,?_,kvs2,by rw[upd_ne (dne hD2).symm];exact gd6,kn6,by rw[Nat.succ_mul];omega⟩⟩
     rw[e3,List.map_append,List.map_append]
     rfl
    ·rw[decide_eq_false c]
     rw[if_neg c,List.append_nil]at e3
     refine iteF (kN _ _ _ ⟨⟨_,rfl⟩,g1,h1,by rw[e3],kvs',gd',kn',by rw[Nat.succ_mul];omega⟩)
   ·rintro xs σ' H6 ⟨⟨v,rfl⟩,g6,h6,rfl,kvs6,gd6,kn6,hl6⟩
    rw[List.take_of_length_le (by omega)]at h6
    refine⟨D2,_,rfl,SqL.of h6,?_⟩
    have hsum:(((chs (rngI 1 (ns.getD j 0::oth2 ns i j).length) (ns.getD i 0)).filter fun E=>decide ((1:Int)∈E)).map fun E=>((cnt (decP 1 E (ns.getD j 0::oth2 ns i j)):Nat):Int)).sum=((inH ns i j:Nat):Int):=by
     rw[sum_cast (fun E=>cnt (decP 1 E (ns.getD j 0::oth2 ns i j))),List.length_cons,chs_sum1]
     rfl
    rw[hsum]
    exact q' H6 (gd_same fdH (((s14.trans s5).grow d).trans g6))
end
end Web
namespace Web
open L2
theorem Ws_le:∀ {c:List Int} {f:List Int->Nat} {a:Int} {M:Nat},(∀ l,l.length=c.length->f l<=M)->Ws f c a<=bin c.length a*M
 | [],f,a,M,h=>by
  unfold Ws
  show _<=(if a=0 then 1 else 0)*M
  split
  ·rw[Nat.one_mul];exact h [] rfl
  ·exact Nat.zero_le _
 | x::c,f,a,M,h=>by
  unfold Ws
  show _<=(bin c.length (a - 1)+bin c.length a)*M
  rw[Nat.add_mul]
  exact Nat.add_le_add (Ws_le fun l hl=>h _ (by rw[List.length_cons,List.length_cons,hl])) (Ws_le fun l hl=>h _ (by rw[List.length_cons,List.length_cons,hl]))
theorem bin_le (n:Nat)(h:n<=6)(m:Int):bin n m<=bnd n:=by
 by_cases c:m<0\/(n:Int)<m
 ·rw[bin_out _ c];exact Nat.zero_le _
 ·obtain⟨k,rfl⟩:∃ k:Nat,m=(k:Int):=⟨m.toNat,by omega⟩
  exact bin_bnd _ (by omega) k (by omega)
def cntB:Nat->Nat
 | 0=>1
 | n+1=>bnd n*cntB n
theorem cnt_le:∀ (n:Nat) (d:List Int),d.length=n->n<=7->cnt d<=cntB n
 | 0,d,h,_=>by rw[List.length_eq_zero_iff.mp h];exact Nat.le_refl _
 | n+1,[],h,_=>by cases h
 | n+1,a::c,h,hn=>by
  rw[List.length_cons]at h
  rw[cnt_cons]
  refine Nat.le_trans (Ws_le (M:=cntB n) fun l hl=>cnt_le n l (by omega) (by omega)) ?_
  exact Nat.mul_le_mul_right _ (Nat.le_trans (bin_le _ (by omega) _) (bnd_mono _ (by omega) _ (by omega)))
theorem cntB_le:∀ n:Nat,n<8->cntB n<=7200:=by decide +kernel
theorem cnt_small {d:List Int}(h:d.length<=7):cnt d<=7200:=Nat.le_trans (cnt_le _ d rfl h) (cntB_le _ (by omega))
end Web
namespace Web
open PySem L2
theorem p60:(0:Int)<10 ^ (Int.toNat 60):=Int.pow_pos (by decide)
seal L2.PE L2.PA L2.PS L2.PSs L2.PT
section
variable {P:Program} {w:World} {K:W.Frag} {mg:Str->Option Value} {base:Heap}
def spWhole:Sp:=fun vs H Q _=>∃ z:Int,vs=[.int z]/\Q (.bl true) H
theorem scWhole:FnScope ["found"] ["found"] (defScope sWhole):=⟨rfl,rfl,rfl,by decide +kernel,rfl,by decide +kernel,by decide +kernel⟩
theorem ok_whole {f:Addr}{fd:FuncData}(F:Fun K "_law_whole" "_law_whole" sWhole f fd)(B:Bn mg):FnOk P w K mg base CX0 1 f fd ["found"] spWhole:=by
 refine F.ok scWhole (fun vs H Q E h=>?_) (fun cdv A outer s H vs Q E hr h=>?_)
 ·obtain⟨z,rfl,_⟩:=h
  rfl
 ·obtain⟨z,rfl,q⟩:=h
  refine⟨_,pss_one (ps_ret (pe_and (pe_callB (call_isinstK K rfl) (by rfl) B.isin (by rfl) (pa_cons (pv 0) (pa_cons (pe_bltn (v:=.ty "int") (by rfl) B.int (by rfl) rfl) pa_nil)))
    (pe_one (pe_not (pe_callB (call_isinstK K rfl) (by rfl) B.isin (by rfl) (pa_cons (pv 0) (pa_cons (pe_bltn (v:=.ty "bool") (by rfl) B.bool (by rfl) rfl) pa_nil))))))),?_⟩
  refine⟨_,rfl,_,_,_,true,rfl,.int z,rfl,true,rfl,iteT ?_⟩
  exact⟨_,rfl,_,_,_,false,rfl,.int z,rfl,false,rfl,q⟩
def spSmall (K:W.Frag):Sp:=fun vs H Q _=>∃ (c:Int) (m:Nat),vs=[.int c,.int m]/\1<=m/\m<=7/\∀ (l:Addr) (ts:List Int) (H':Hp),1<=ts.length->ts.length<=m->Same H H'->H l=none->H' l=some (.lst (ts.map V.int))->Q (.ref l) H'
theorem scSmall:FnScope ["cell","most","rest","places","tally","at"] ["cell","most"] (defScope sSmall):=⟨rfl,rfl,rfl,by decide +kernel,rfl,by decide +kernel,by decide +kernel⟩
set_option maxHeartbeats 2000000 in
theorem ok_small {f fR fT fS:Addr}{fd fdR fdT fdS:FuncData}(F:Fun K "_law_small" "_law_small" sSmall f fd)(B:Bn mg)(FR:Fun K "_law_row" "_law_row" sRow fR fdR)(bR:Binds K fdR ["cell","many","size"] [])(mR:mg "_law_row"=some (.ref fR))
  (FT:Fun K "_law_ties" "_law_ties" sTies fT fdT)(bT:Binds K fdT ["places","cell"] [])(mT:mg "_law_ties"=some (.ref fT))(FS:Fun K "_law_sums" "_law_sums" sSums fS fdS)(bS:Binds K fdS ["places","ties"] [])(mS:mg "_law_sums"=some (.ref fS)):FnOk P w K mg base CX0 3 f fd ["cell","most"] (spSmall K):=by
 have GR:FnOk P w K mg base CX0 2 fR fdR ["cell","many","size"] (spRow K):=(ok_row FR B).mono (by decide)
 have GT:FnOk P w K mg base CX0 2 fT fdT ["places","cell"] (spTies K):=ok_ties FT B FR bR mR
 have GS:FnOk P w K mg base CX0 2 fS fdS ["places","ties"] (spSums K):=(ok_sums FS).mono (by decide)
 refine F.ok scSmall (fun vs H Q E h=>?_) (fun cdv A outer s H vs Q E hr h=>?_)
 ·obtain⟨c,m,rfl,_⟩:=h
  rfl
 ·obtain⟨c,m,rfl,m1,m7,q⟩:=h
  have hsl:=sl1000
  refine⟨_,pss_cons (ps_set (i:=2) scSmall.nd rfl (Or.inl rfl) (pe_op op_mod (pv 0) (pe_op op_pow pe_int pe_int)))
   (pss_cons (ps_set (i:=3) scSmall.nd rfl (Or.inl rfl) (pe_op op_add pe_int (pe_op op_mod (pv 2) (pv 1))))
   (pss_cons (ps_set (i:=2) scSmall.nd rfl (Or.inl rfl) (pe_op op_fdiv (pv 2) (pv 1)))
   (pss_cons (ps_set (i:=4) scSmall.nd rfl (Or.inl rfl) (pe_call GS hr (by rfl) mS FS.kp bS .nil pass0 (pa_cons (pv 3) (pa_cons (pe_call GT hr (by rfl) mT FT.kp bT .nil pass0 (pa_cons (pv 3) (pa_cons (pe_op op_fdiv (pv 2) pe_int) pa_nil))) pa_nil))))
   (pss_cut (ps_if (pt_cmpR op_eq (pe_op op_mod (pv 2) pe_int) pe_int (nomark _)) (pss_one (ps_set (i:=4) scSmall.nd rfl (Or.inl rfl) (pe_call GR hr (by rfl) mR FR.kp bR .nil pass0 (pa_cons (pe_op op_fdiv (pv 2) pe_int) (pa_cons (pv 3) (pa_cons (pv 3) pa_nil)))))) pss_nil)
   (pss_cons (ps_if (pt_cmpR op_eq (pe_op op_mod (pv 2) pe_int) pe_int (nomark _))
     (pss_cons (ps_set (i:=5) scSmall.nd rfl (Or.inl rfl) (pe_op op_mod (pe_op op_fdiv (pv 2) pe_int) (pv 3)))
     (pss_one (ps_asg (pe_op op_add (pe_ix ix_list (pv 4) (pv 5) (fun _ _=>rfl)) (pe_ix ix_list (pe_lst (pa_cons pe_int (pa_cons (pe_op op_sub pe_int pe_int) (pa_cons pe_int (pa_cons (pe_op op_sub pe_int pe_int) (pa_cons (pv 2) pa_nil)))))) (pe_op op_mod (pe_op op_fdiv (pv 2) pe_int) pe_int) (fun _ _=>rfl))) (pg_sub (pv 4) (pv 5) set_list)))) pss_nil)
   (pss_one (ps_ret (pv 4)))))))),?_⟩
  refine⟨_,rfl,_,_,rfl,rfl,⟨by decide,by decide,by decide⟩,_,_,rfl,rfl,p60,?_⟩
  refine gName_int fun r _=>?_
  refine⟨_,rfl,_,rfl,_,_,rfl,rfl,(by show (0:Int)<(m:Int);omega),_,_,rfl,rfl,?_⟩
  obtain⟨n,hn,n1,n2⟩:∃ n:Nat,1+r % (m:Int)=(n:Int)/\1<=n/\n<=m:=by
   obtain⟨j,h1,h2⟩:=mod_nat r (show 0<m by omega)
   exact⟨1+j,by rw[h1];omega,by omega,by omega⟩
  refine gName_eq (congrArg V.int hn) ?_
  refine⟨_,rfl,_,rfl,_,_,rfl,rfl,⟨by show (0:Int)<(m:Int);omega,by show (m:Int)<1073741824;omega⟩,?_⟩
  refine gName_int fun r2 _=>?_
  refine⟨_,rfl,_,rfl,_,rfl,_,_,rfl,rfl,⟨by decide,by decide⟩,n,_,rfl,by omega,fun l0 zs ks H2 s2 f2 g2 t2 sub=>?_⟩
  refine⟨n,l0,zs,ks,rfl,by omega,SqL.of g2,t2,fun k hk=>(mem_pairs (sub.subset hk)).ends,fun l H3 s3 f3 g3=>?_⟩
  refine gName_to ?_
  refine⟨fun σ Ha=>∃ (l:Addr) (ts:List Int),σ=[some (.int c),some (.int m),some (.int r2),some (.int n),some (.ref l),none]/\Same H Ha/\H l=none/\Ha l=some (.lst (ts.map V.int))/\ts.length=n,?_,?_⟩
  ·refine⟨_,rfl,_,_,rfl,rfl,(by show (0:Int)<4;decide),rfl,_,rfl,?_⟩
   refine ite2 (fun _=>?_) (fun _=>?_)
   ·refine⟨_,rfl,_,_,rfl,rfl,⟨by decide,by decide⟩,_,rfl,_,rfl,_,n,n,rfl,by omega,n1,by omega,fun l5 ts H5 hl5 s5 f5 g5=>?_⟩
    exact⟨l5,ts,rfl,(s2.trans s3).trans s5,(s2.trans s3).free f5,g5,hl5⟩
   ·exact⟨l,tal n ks,rfl,s2.trans s3,s2.free f3,g3,tal_len n ks⟩
  ·rintro σ Ha ⟨l,ts,rfl,sa,fl,gl,hl⟩
   refine⟨_,rfl,_,_,rfl,rfl,(by show (0:Int)<4;decide),rfl,_,rfl,?_⟩
   refine ite2 (fun _=>?_) (fun _=>?_)
   ·refine⟨_,rfl,_,_,rfl,rfl,⟨by decide,by decide⟩,_,rfl,_,_,rfl,rfl,(by show (0:Int)<(n:Int);omega),?_⟩
    obtain⟨at',h1,h2⟩:=mod_nat (r2 / 4) (show 0<n by omega)
    refine gName_eq (congrArg V.int h1) ?_
    have hat:atI (ts.map V.int) (at':Int)=some (.int (ts.getD at' 0)):=at_int (by omega)
    refine⟨_,rfl,_,rfl,l,_,_,_,rfl,rfl,SqL.of gl,hat,_,_,rfl,rfl,_,_,rfl,rfl,_,rfl,(by show 5<=sizeLine;decide),fun l5 f5=>?_⟩
    have s5:=same_upd (o:=.lst [.int 1,.int (0 - 1),.int 2,.int (0 - 2),.int r2]) f5
    obtain⟨v,hv⟩:=five_of 1 (0 - 1) 2 (0 - 2) r2 (r2 / 28 % 5) ⟨Int.emod_nonneg _ (by decide),Int.emod_lt_of_pos _ (by decide)⟩
    refine⟨_,rfl,_,_,rfl,rfl,⟨by decide,by decide⟩,_,_,rfl,rfl,(by show (0:Int)<5;decide),l5,_,_,_,rfl,rfl,SqL.of upd_same,hv,_,_,rfl,rfl,_,rfl,_,rfl,l,_,_,at',rfl,rfl,s5 _ _ gl,ixN_nat (by rw[List.length_map];omega),?_⟩
    refine⟨_,rfl,q l (ts.set at' (ts.getD at' 0+v)) _ (by rw[List.length_set];omega) (by rw[List.length_set];omega) ((sa.trans s5).upd fl) fl ?_⟩
    rw[upd_same,set_map_int]
   ·exact⟨_,rfl,q l ts Ha (by omega) (by omega) sa fl gl⟩
end
end Web
namespace Web
open PySem L2
theorem call_list_ofK {X:Cx}(K:W.Frag)(hK:X.K=K):CallR X (.type "list") (fun xs H Q=>∃ p ys,xs=[.ref p]/\(SqL K H p ys\/SqT K H p ys)/\∀ l,H l=none->Q (.ref l) (upd H l (.lst ys))):=by subst hK;exact call_list_of
theorem kept_in {n i:Nat}{z:Int}:z∈keptN n i↔∃ j:Nat,z=(j:Int)/\j<n/\j≠i:=by
 unfold keptN
 rw[List.mem_map]
 constructor
 ·rintro⟨j,hj,rfl⟩
  obtain⟨h1,h2⟩:=List.mem_filter.mp hj
  exact⟨j,rfl,List.mem_range.mp h1,of_decide_eq_true h2⟩
 ·rintro⟨j,rfl,h1,h2⟩
  exact⟨j,List.mem_filter.mpr ⟨List.mem_range.mpr h1,decide_eq_true h2⟩,rfl⟩
theorem kept_succ (i p:Nat):keptN (i+1) p=keptN i p++(if i=p then [] else [(i:Int)]):=by
 unfold keptN
 rw[List.range_succ,List.filter_append,List.map_append]
 congr 1
 by_cases h:i=p<;>simp[h]
theorem kept_len (i p:Nat):(keptN i p).length<=i:=by
 unfold keptN
 rw[List.length_map]
 exact Nat.le_trans (List.length_filter_le _ _) (by rw[List.length_range];exact Nat.le_refl _)
theorem told_sum {ns:List Int}{i:Nat}(hi:i<ns.length):((keptN ns.length i).map fun z=>((inH ns i z.toNat:Nat):Int)).sum=(if ns.getD i 0 > 0 then ns.getD i 0 else 0)*((cnt ns:Nat):Int):=by
 have h:=inH_sum hi
 unfold keptN
 rw[List.map_map]
 have e:∀ l:List Nat,(l.map fun j=>((inH ns i j:Nat):Int)).sum=((l.map fun j=>inH ns i j).sum:Nat):=fun l=>by
  induction l with
  | nil=>rfl
  | cons x l ih=>rw[List.map_cons,List.sum_cons,List.map_cons,List.sum_cons,ih];omega
 show (((List.range ns.length).filter fun k=>decide (k≠i)).map fun j:Nat=>((inH ns i ((j:Int)).toNat:Nat):Int)).sum=_
 rw[show (fun j:Nat=>((inH ns i ((j:Int)).toNat:Nat):Int))=fun j=>((inH ns i j:Nat):Int) from funext fun j=>by rw[Int.toNat_natCast],e,h,Int.natCast_mul]
 congr 1
 split<;>omega
seal L2.PE L2.PA L2.PS L2.PSs L2.PT
section
variable {P:Program} {w:World} {K:W.Frag} {mg:Str->Option Value} {base:Heap}
def spLaw (K:W.Frag):Sp:=fun vs H Q _=>∃ (a:Addr) (ns:List Int),vs=[.ref a]/\SqL K H a (ns.map V.int)/\ns.length<=63/\∀ H',Q (.bl true) H'
theorem scLaw:FnScope ["script","wide","cell","tally","places","many","asked","one","others","told","number","other","found"] ["script"] (defScope sLaw):=⟨rfl,rfl,rfl,by decide +kernel,rfl,by decide +kernel,by decide +kernel⟩
set_option maxHeartbeats 4000000 in
theorem ok_law0 {f fS fH fI fW CB CM CN:Addr} {fd fdS fdH fdI fdW:FuncData} (F:Fun K "law" "law" sLaw f fd) (B:Bn mg)
  (FS:Fun K "_law_small" "_law_small" sSmall fS fdS) (bS:Binds K fdS ["cell","most"] []) (mS:mg "_law_small"=some (.ref fS)) (GS:FnOk P w K mg base CX0 24 fS fdS ["cell","most"] (spSmall K))
  (FH:Fun K "how_many" "how_many" sHow fH fdH) (bH:Binds K fdH ["tally"] []) (mH:mg "how_many"=some (.ref fH)) (GH:FnOk P w K mg base (CXE P w) 24 fH fdH ["tally"] (spHow K CB CM))
  (FI:Fun K "in_how_many" "in_how_many" sInH fI fdI) (bI:Binds K fdI ["tally","one","other"] []) (mI:mg "in_how_many"=some (.ref fI)) (GI:FnOk P w K mg base (CXE P w) 24 fI fdI ["tally","one","other"] (spInH K CB CM CN))
  (FW:Fun K "_law_whole" "_law_whole" sWhole fW fdW) (bW:Binds K fdW ["found"] []) (mW:mg "_law_whole"=some (.ref fW)) (GW:FnOk P w K mg base CX0 24 fW fdW ["found"] (spWhole)):FnOk P w K mg base CX0 25 f fd ["script"] (spLaw K):=by
 refine F.ok scLaw (fun vs H Q E h=>?_) (fun cdv A outer s H vs Q E hr h=>?_)
 ·obtain⟨a,ns,rfl,_⟩:=h
  rfl
 ·obtain⟨sc,ms,rfl,hS,hlen,q⟩:=h
  have hsl:=sl1000
  have nd2:(["other","one"]:List Str).Nodup:=by decide +kernel
  have nd3:(["other","tally","one"]:List Str).Nodup:=by decide +kernel
  refine⟨_,pss_cons (ps_set (i:=1) scLaw.nd rfl (Or.inl rfl) pe_int)
   (pss_cons (ps_for PassesOwn.never rfl (pi_list (pe_op op_cat (pe_lst (pa_cons pe_int pa_nil)) (pe_slice sl_list (pv 0) po_none (po_some pe_int)))) (pg_name (i := 2) scLaw.nd rfl (Or.inl rfl))
    (pss_cons (ps_set (i:=3) scLaw.nd rfl (Or.inr rfl) (pe_call GS hr (by rfl) mS FS.kp bS .nil pass0 (pa_cons (pv 2) (pa_cons pe_int pa_nil))))
    (pss_cons (ps_set (i:=4) scLaw.nd rfl (Or.inl rfl) (pe_callB call_len_seq (by rfl) B.len PySem.boot_len (pa_cons (pv 3) pa_nil)))
    (pss_cons (ps_set (i:=1) scLaw.nd rfl (Or.inl rfl) (pe_op op_add (pv 1) (pe_callTy call_int1 (by rfl) B.int (by rfl) (pa_cons (pe_cmpR op_eq (pv 4) pe_int (nomark _)) pa_nil))))
    (pss_cut (ps_if (PW.pt (pw_and (pt_cmpR op_eq (pv 4) pe_int (nomark _)) (pw_and1 (pt_cmpR op_gt (pv 1) pe_int (nomark _))))) (pss_cons (ps_set (i:=3) scLaw.nd rfl (Or.inr rfl) (pe_slice sl_list (pv 3) po_none (po_some pe_int))) (pss_one (ps_set (i:=4) scLaw.nd rfl (Or.inl rfl) pe_int))) pss_nil)
    (pss_cons (ps_set (i:=5) scLaw.nd rfl (Or.inl rfl) (pe_call GH hr (by rfl) mH FH.kp bH .nil (passN (P:=P) (w:=w)) (pa_cons (pe_callTy call_list_of (by rfl) B.list (by rfl) (pa_cons (pv 3) pa_nil)) pa_nil)))
    (pss_cons (ps_set (i:=6) scLaw.nd rfl (Or.inl rfl) (pe_callTy (call_list_rng rfl) (by rfl) B.list (by rfl) (pa_cons (pe_rngV (by rfl) B.range (pa_cons (pv 4) pa_nil)) pa_nil)))
    (pss_cut (ps_if (pt_cmpR op_eq (pv 4) pe_int (nomark _)) (pss_one (ps_set (i:=6) scLaw.nd rfl (Or.inl rfl) (pe_lst (pa_cons (pe_op op_mod (pe_op op_fdiv (pv 2) pe_int) pe_int) pa_nil)))) pss_nil)
    (pss_cons (ps_for PassesOwn.never rfl (pi_list (pv 6)) (pg_name (i:=7) scLaw.nd rfl (Or.inr rfl)) (pss_cons (ps_setC (i:=8) scLaw.nd rfl rfl (by rfl) (N':=["other","one"]) (lk:=[none,some 7]) rfl (pi_range1 rfl B.range (pa_cons (pv 4) pa_nil)) (by rfl) rfl (by decide +kernel) (by exact⟨rfl,trivial⟩) (by rfl) (by exact LkL.ok ⟨⟨rfl,Or.inl rfl,rfl,Or.inl rfl⟩,trivial⟩) (fun _ _ _=>pg_name (i:=0) nd2 rfl (Or.inl rfl)) (fun _ _ _=>pts_one (pt_cmpR op_ne (pv 0) (pv 1) (nomark _))) (fun _ _ _=>pv 0))
    (pss_cons (ps_setC (i:=9) scLaw.nd rfl rfl (by rfl) (N':=["other","tally","one"]) (lk:=[none,some 3,some 7]) rfl (pi_list (pv 8)) (by rfl) rfl (by decide +kernel) (by exact⟨rfl,rfl,trivial⟩) (by rfl) (by exact LkL.ok ⟨⟨rfl,Or.inl rfl,rfl,Or.inl rfl⟩,⟨rfl,Or.inl rfl,rfl,Or.inl rfl⟩,trivial⟩) (fun _ _ _=>pg_name (i:=0) nd3 rfl (Or.inl rfl)) (fun _ _ _=>pts_nil) (fun _ _ _=>(pe_call GI hr (by rfl) mI FI.kp bI .nil (passN (P:=P) (w:=w)) (pa_cons (pe_callTy (call_list_ofK K rfl) (by rfl) B.list (by rfl) (pa_cons (pv 1) pa_nil)) (pa_cons (pv 2) (pa_cons (pv 0) pa_nil))))))
    (pss_cons (ps_for PassesOwn.never rfl (pi_list (pv 9)) (pg_name (i:=10) scLaw.nd rfl (Or.inl rfl)) (pss_one (ps_if (PW.pt (pw_or (pt_not (pt_val (pe_call GW hr (by rfl) mW FW.kp bW .nil pass0 (pa_cons (pv 10) pa_nil)))) (pw_or1 (pt_not (pt_chain op_le op_le pe_int (pv 10) (pv 5)))))) pss_never pss_nil)))
    (pss_one (ps_if (pt_cmpR op_ne (pe_callB (call_sum rfl) (by rfl) B.sum (by rfl) (pa_cons (pv 9) pa_nil)) (pe_op op_mul (pe_callB (call_max2 rfl) (by rfl) B.max (by rfl) (pa_cons pe_int (pa_cons (pe_ix ix_list (pv 3) (pv 7) (fun _ _=>rfl)) pa_nil))) (pv 5)) (nomark _)) pss_never pss_nil))))))
    (pss_cons (ps_set (i:=7) scLaw.nd rfl (Or.inr rfl) (pe_op op_mod (pv 2) (pv 4)))
    (pss_cons (ps_set (i:=11) scLaw.nd rfl (Or.inl rfl) (pe_op op_mod (pe_op op_fdiv (pv 2) pe_int) (pv 4)))
    (pss_one (ps_if (pt_cmpR op_ne (pv 7) (pv 11) (nomark _)) (pss_cons (ps_set (i:=12) scLaw.nd rfl (Or.inl rfl) (pe_call GI hr (by rfl) mI FI.kp bI .nil (passN (P:=P) (w:=w)) (pa_cons (pe_callTy call_tuple_of (by rfl) B.tuple (by rfl) (pa_cons (pv 3) pa_nil)) (pa_cons (pv 7) (pa_cons (pv 11) pa_nil))))) (pss_one (ps_if (pt_cmpR op_ne (pe_call GI hr (by rfl) mI FI.kp bI .nil (passN (P:=P) (w:=w)) (pa_cons (pv 3) (pa_cons (pv 11) (pa_cons (pv 7) pa_nil)))) (pv 12) (nomark _)) pss_never pss_nil))) pss_nil)))))))))))))
   (pss_one (ps_ret pe_bl))),?_⟩
  refine gName_int fun w0 _=>?_
  refine⟨(by show 1<=sizeLine;decide),fun l6 f6=>?_⟩
  have s6:=same_upd (o:=.lst [.int 0]) f6
  obtain⟨xs,hxs,hxl⟩:=cutV_ints ms none (some 4)
  refine⟨_,rfl,_,rfl,sc,ms.map V.int,rfl,s6.seq hS,fun p7 f7=>?_⟩
  rw[hxs]
  have s7:=same_upd (o:=.lst (xs.map V.int)) f7
  refine⟨l6,p7,_,_,rfl,rfl,s7 _ _ upd_same,upd_same,by rw[List.length_map];simp;omega,fun l8 f8=>⟨l8,rfl,⟨_,SqL.of upd_same⟩,?_⟩⟩
  have g8:(upd (upd (upd H l6 (.lst [.int 0])) p7 (.lst (xs.map V.int))) l8 (.lst ([V.int 0]++xs.map V.int))) l8=some (.lst ((0::xs).map V.int)):=upd_same
  generalize upd (upd (upd H l6 (.lst [.int 0])) p7 (.lst (xs.map V.int))) l8 (.lst ([V.int 0]++xs.map V.int))=HL at g8 ⊢
  refine for_list (K:=K) (a:=l8) (xs:=(0::xs).map V.int) (fun _ σ Ha=>∃ (wd:Int) (e2 e3 e4 e5 e6 e7 e8 e9 e10 e11 e12:Option V),σ=[some (.ref sc),some (.int wd),e2,e3,e4,e5,e6,e7,e8,e9,e10,e11,e12]/\Same HL Ha) ⟨w0,none,none,none,none,none,none,none,none,none,none,none,rfl,Same.refl HL⟩ (fun i σ Ha _ ⟨_,_,_,_,_,_,_,_,_,_,_,_,_,s⟩=>SqL.of (s _ _ g8)) ?_ ?_
  ·rintro i x σ Hg hx ⟨wd,e2,e3,e4,e5,e6,e7,e8,e9,e10,e11,e12,rfl,sg⟩
   obtain⟨z,rfl⟩:=int_at hx
   refine gName_to ?_
   refine⟨_,rfl,z,7,rfl,by decide,by decide,fun tl ts H1 t1 t7 s1 ftl gtl=>?_⟩
   refine gName_to ?_
   refine⟨_,rfl,tl,_,rfl,.inl (SqL.of gtl),?_⟩
   refine gName_eq (v':=.int (ts.length:Int)) (congrArg (fun z:Nat=>V.int (z:Int)) (List.length_map ..)) ?_
   refine⟨_,rfl,_,rfl,rfl,.inr ⟨_,rfl,_,_,rfl,rfl,?_⟩⟩
   refine gName_int fun wd2 _=>?_
   refine⟨fun σ Hb=>∃ (tl:Addr) (ts:List Int),σ=[some (.ref sc),some (.int wd2),some (.int z),some (.ref tl),some (.int (ts.length:Int)),e5,e6,e7,e8,e9,e10,e11,e12]/\Same HL Hb/\Hb tl=some (.lst (ts.map V.int))/\1<=ts.length/\ts.length<=7,?_,?_⟩
   ·refine⟨_,rfl,rfl,_,rfl,?_⟩
    rw[dec_i]
    by_cases h7:(ts.length:Int)=7
    ·rw[decide_eq_true h7]
     refine iteT ⟨_,rfl,_,_,rfl,rfl,_,rfl,?_⟩
     refine ite2 (fun _=>?_) (fun _=>?_)
     ·refine⟨_,rfl,_,rfl,tl,_,rfl,SqL.of gtl,fun l2 f2=>?_⟩
      have ec:cutV (ts.map V.int) none (some 6)=(ts.take 6).map V.int:=cut_ints_to ts 6
      rw[ec]
      have s2:=same_upd (o:=.lst ((ts.take 6).map V.int)) f2
      have hl6:(ts.take 6).length=6:=by rw[List.length_take];omega
      refine⟨l2,ts.take 6,?_,(sg.trans s1).trans s2,upd_same,by omega,by omega⟩
      rw[hl6]
      rfl
     ·exact⟨tl,ts,rfl,sg.trans s1,gtl,t1,t7⟩
    ·rw[decide_eq_false h7]
     exact iteF (iteF ⟨tl,ts,rfl,sg.trans s1,gtl,t1,t7⟩)
   clear ftl gtl t1 t7
   rintro σ Hb ⟨tl,ts,rfl,sb,gtl,t1,t7⟩
   have htl:isTl ts:=⟨t1,by omega⟩
   have hcs:=cnt_small t7
   refine⟨_,rfl,tl,_,rfl,.inl (SqL.of gtl),fun la fla=>?_⟩
   have s2:=same_upd (o:=.lst (ts.map V.int)) fla
   refine⟨la,ts,rfl,.inl (SqL.of upd_same),⟨fun _ _ H3 s3=>?_,fun h=>absurd htl h,fun _ h=>absurd h (by omega)⟩⟩
   refine gName_to ?_
   have sb3:=sb.trans (s2.trans s3)
   have gtl3:=(s2.trans s3) _ _ gtl
   refine⟨_,rfl,_,rfl,by omega,fun r3 f3=>?_⟩
   have s4:=same_upd (o:=.rng 0 (ts.length:Int)) f3
   refine⟨r3,0,(ts.length:Int),ts.length,rfl,upd_same,by omega,by omega,by decide,by decide,fun l4 f4=>?_⟩
   have s5:=same_upd (o:=.lst ((rngI 0 ts.length).map V.int)) f4
   have g5:(upd (upd H3 r3 (.rng 0 (ts.length:Int))) l4 (.lst ((rngI 0 ts.length).map V.int))) l4=some (.lst ((rngI 0 ts.length).map V.int)):=upd_same
   have sb5:=sb3.trans (s4.trans s5)
   have gtl5:=(s4.trans s5) _ _ gtl3
   generalize upd (upd H3 r3 (.rng 0 (ts.length:Int))) l4 (.lst ((rngI 0 ts.length).map V.int))=H5 at g5 sb5 gtl5 ⊢
   refine gName_to ?_
   refine⟨fun σ Hc=>∃ (lk:Addr) (as:List Int),σ=[some (.ref sc),some (.int wd2),some (.int z),some (.ref tl),some (.int (ts.length:Int)),some (.int (cnt ts)),some (.ref lk),e7,e8,e9,e10,e11,e12]/\Same HL Hc/\Hc tl=some (.lst (ts.map V.int))/\Hc lk=some (.lst (as.map V.int))/\∀ a∈as,0<=a/\a<(ts.length:Int),?_,?_⟩
   ·refine⟨_,rfl,rfl,_,rfl,?_⟩
    rw[dec_i]
    by_cases h7:(ts.length:Int)=7
    ·rw[decide_eq_true h7]
     refine iteT ⟨_,rfl,_,_,rfl,rfl,⟨by decide,by decide⟩,_,_,rfl,rfl,(by show (0:Int)<7;decide),(by show 1<=sizeLine;decide),fun l6 f6=>?_⟩
     have s6:=same_upd (o:=.lst [.int (z / 49 % 7)]) f6
     refine gName_to ?_
     refine⟨l6,[z / 49 % 7],rfl,sb5.trans s6,s6 _ _ gtl5,upd_same,fun a ha=>?_⟩
     rw[List.mem_singleton.mp ha]
     have h1:=Int.emod_nonneg (z / 49) (show (7:Int)≠0 by decide)
     have h2:=Int.emod_lt_of_pos (z / 49) (show (0:Int)<7 by decide)
     omega
    ·rw[decide_eq_false h7]
     refine iteF ⟨l4,rngI 0 ts.length,rfl,sb5,gtl5,g5,fun a ha=>?_⟩
     unfold rngI at ha
     obtain⟨k,hk,rfl⟩:=List.mem_map.mp ha
     have:=List.mem_range'_1.mp hk
     omega
   rintro σ Hc ⟨lk,as,rfl,sc',gtc,gkc,has⟩
   refine⟨_,rfl,lk,rfl,⟨_,SqL.of gkc⟩,for_list (K:=K) (a:=lk) (xs:=as.map V.int) (fun _ σ Hd=>∃ (e7 e8 e9 e10:Option V),σ=[some (.ref sc),some (.int wd2),some (.int z),some (.ref tl),some (.int (ts.length:Int)),some (.int (cnt ts)),some (.ref lk),e7,e8,e9,e10,e11,e12]/\Same Hc Hd) ⟨e7,e8,e9,e10,rfl,Same.refl Hc⟩ (fun i σ Hd _ ⟨_,_,_,_,_,s⟩=>SqL.of (s _ _ gkc)) ?_ ?_⟩
   ·rintro i2 x2 σ Hd hx2 ⟨e7,e8,e9,e10,rfl,sd⟩
    obtain⟨o,hoa,rfl⟩:=int_get hx2
    have ho:=has o (List.mem_of_getElem? hoa)
    obtain⟨p,rfl⟩:∃ p:Nat,o=(p:Int):=⟨o.toNat,by omega⟩
    have hp:p<ts.length:=by omega
    have gtd:=sd _ _ gtc
    refine gName_to ?_
    refine⟨_,rfl,(ts.length:Int),rfl,by omega,by omega,fun D hD=>?_⟩
    rw[Int.toNat_natCast]
    refine comp_range (lo:=0) (n:=ts.length) (D:=D) (fun i xs σ' H'=>(∃ v,σ'=[v,some (.int p)])/\Same Hd H'/\H' D=some (.lst xs)/\xs=(keptN i p).map V.int) ⟨⟨none,rfl⟩,same_upd hD,upd_same,rfl⟩ (by omega)
     (fun i xs σ' H' hi ⟨_,s6,h6,e6⟩=>⟨h6,by rw[e6,List.length_map];exact kept_len i p⟩) ?_ ?_
    ·rintro i xs σ' H' N kN hi ⟨⟨v,rfl⟩,s6,h6,rfl⟩
     rw[show ((0:Int)+(i:Int))=(i:Int) by omega]
     refine gName_to ?_
     refine⟨_,rfl,_,rfl,rfl,_,rfl,?_⟩
     by_cases hm:i=p
     ·refine iteNS (by rw[hm]) ?_
      refine kN _ _ _ ⟨⟨_,rfl⟩,s6,h6,?_⟩
      rw[kept_succ,if_pos hm,List.append_nil]
     ·rw[decide_eq_false (show ¬ (V.int (i:Int)=V.int (p:Int)) from fun z=>hm (by injection z;omega))]
      refine iteT ?_
      refine⟨_,rfl,h6,kN _ _ _ ⟨⟨_,rfl⟩,s6.upd hD,upd_same,?_⟩⟩
      rw[kept_succ,if_neg hm,List.map_append]
      rfl
    ·rintro xs σ' He ⟨⟨v,rfl⟩,se,he,rfl⟩
     have hkl:=kept_len ts.length p
     have gte:=se _ _ gtd
     refine⟨_,rfl,D,rfl,⟨_,SqL.of he⟩,fun D2 hD2=>comp_list (K:=K) (a:=D) (D:=D2) (ys:=(keptN ts.length p).map V.int) (fun i xs σ' H'=>(∃ v,σ'=[v,some (.ref tl),some (.int p)])/\Same He H'/\H' D2=some (.lst xs)/\xs=(((keptN ts.length p).take i).map fun z=>((inH ts p z.toNat:Nat):Int)).map V.int) ⟨⟨none,rfl⟩,same_upd hD2,upd_same,rfl⟩ (by rw[List.length_map];omega)
      (fun i xs σ' H' hi ⟨_,s8,h8,e8⟩=>⟨SqL.of (s8 _ _ he),h8,by rw[e8,List.length_map,List.length_map,List.length_take];omega⟩) ?_ ?_⟩
     ·rintro i xs y σ' H' N kN hy ⟨⟨v,rfl⟩,s8,h8,rfl⟩
      obtain⟨o2,ho2,rfl⟩:=int_get hy
      obtain⟨j,rfl,hj,hjp⟩:=kept_in.mp (List.mem_of_getElem? ho2)
      refine gName_to (tTrue_if ?_)
      refine⟨_,rfl,tl,_,rfl,.inl (SqL.of (s8 _ _ gte)),fun la2 fa2=>?_⟩
      have s9:=same_upd (o:=.lst (ts.map V.int)) fa2
      refine⟨_,rfl,_,rfl,la2,ts,(p:Int),(j:Int),rfl,.inl (SqL.of upd_same),⟨fun _ _ _ H9 s10=>?_,fun h=>absurd htl h,fun _ h=>absurd h (by omega),fun _ _ h=>absurd ⟨⟨by omega,by omega⟩,⟨by omega,by omega⟩,by omega⟩ h⟩⟩
      have h8':=(s9.trans s10) _ _ h8
      refine⟨h8',kN _ _ _ ⟨⟨_,rfl⟩,(s8.trans (s9.trans s10)).upd hD2,upd_same,?_⟩⟩
      rw[List.take_add_one,ho2,List.map_append,List.map_append]
      rfl
     ·rintro xs σ' Hf ⟨⟨v,rfl⟩,sf,hf,rfl⟩
      rw[List.take_of_length_le (by rw[List.length_map];exact Nat.le_refl _)]at hf
      refine⟨_,rfl,D2,rfl,⟨_,SqL.of hf⟩,for_list (K:=K) (a:=D2) (xs:=((keptN ts.length p).map fun z=>((inH ts p z.toNat:Nat):Int)).map V.int) (fun _ σ Hh=>∃ e10,σ=[some (.ref sc),some (.int wd2),some (.int z),some (.ref tl),some (.int (ts.length:Int)),some (.int (cnt ts)),some (.ref lk),some (.int (p:Int)),some (.ref D),some (.ref D2),e10,e11,e12]/\Hh=Hf) ⟨e10,rfl,rfl⟩ (fun i σ Hh _ ⟨_,_,e⟩=>by rw[e];exact SqL.of hf) ?_ ?_⟩
      ·rintro i3 x3 σ Hh hx3 ⟨e10,rfl,rfl⟩
       obtain⟨u,hu,rfl⟩:=int_get hx3
       obtain⟨o3,ho3,rfl⟩:=List.mem_map.mp (List.mem_of_getElem? hu)
       obtain⟨j,rfl,hj,hjp⟩:=kept_in.mp ho3
       have hle:=inH_le (ns:=ts) (i:=p) (j:=j) hp hj (by omega)
       refine gName_to ?_
       refine⟨_,rfl,_,rfl,_,rfl,iteF ?_⟩
       refine⟨_,rfl,_,_,rfl,rfl,_,rfl,?_⟩
       rw[decide_eq_true (by omega)]
       refine iteT ⟨_,rfl,_,_,rfl,rfl,_,rfl,?_⟩
       rw[decide_eq_true (by rw[Int.toNat_natCast];omega)]
       exact iteF ⟨_,rfl,rfl⟩
      ·rintro σ Hh ⟨e10,rfl,rfl⟩
       have gtf:=sf _ _ gte
       have hat:atI (ts.map V.int) (p:Int)=some (.int (ts.getD p 0)):=at_int hp
       refine⟨_,rfl,D2,_,rfl,SqL.of hf,_,rfl,_,rfl,tl,_,_,_,rfl,rfl,SqL.of gtf,hat,_,_,rfl,_,rfl,_,_,rfl,rfl,.inr ⟨by omega,by omega⟩,rfl,_,rfl,iteNS ?_ ?_⟩
       ·rw[told_sum hp]
       ·exact⟨_,_,_,_,rfl,sd.trans (se.trans sf)⟩
   ·rintro σ Hd ⟨e7,e8,e9,e10,rfl,sd⟩
    have gtd:=sd _ _ gtc
    refine⟨_,rfl,_,rfl,_,_,rfl,rfl,(by show (0:Int)<(ts.length:Int);omega),?_⟩
    obtain⟨p,hp1,hp2⟩:=mod_nat z (show 0<ts.length by omega)
    refine gName_eq (congrArg V.int hp1) ?_
    refine⟨_,rfl,_,_,rfl,rfl,⟨by decide,by decide⟩,_,rfl,_,_,rfl,rfl,(by show (0:Int)<(ts.length:Int);omega),?_⟩
    obtain⟨j,hj1,hj2⟩:=mod_nat (z / 7) (show 0<ts.length by omega)
    refine gName_eq (congrArg V.int hj1) ?_
    refine⟨_,rfl,_,rfl,rfl,_,rfl,?_⟩
    rw[dec_i]
    by_cases hpj:(p:Int)=(j:Int)
    ·rw[decide_eq_true hpj]
     exact iteF ⟨_,_,_,_,_,_,_,_,_,_,_,_,rfl,sc'.trans sd⟩
    ·rw[decide_eq_false hpj]
     refine iteT ⟨_,rfl,tl,_,rfl,.inl ⟨SqL.of gtd,fun tp ftp=>?_⟩⟩
     have s9:=same_upd (o:=.tup (ts.map V.int)) ftp
     refine⟨_,rfl,_,rfl,tp,ts,(p:Int),(j:Int),rfl,.inr (SqT.of upd_same),⟨fun _ _ _ H9 s10=>?_,fun h=>absurd htl h,fun _ h=>absurd h (by omega),fun _ _ h=>absurd ⟨⟨by omega,by omega⟩,⟨by omega,by omega⟩,hpj⟩ h⟩⟩
     refine gName_to ?_
     have s910:=s9.trans s10
     refine⟨_,rfl,_,rfl,_,rfl,tl,ts,(j:Int),(p:Int),rfl,.inl (SqL.of (s910 _ _ gtd)),⟨fun _ _ _ Hx sx=>?_,fun h=>absurd htl h,fun _ h=>absurd h (by omega),fun _ _ h=>absurd ⟨⟨by omega,by omega⟩,⟨by omega,by omega⟩,fun e=>hpj e.symm⟩ h⟩⟩
     refine⟨_,rfl,rfl,_,rfl,iteNS (by rw[inH_sym]) ?_⟩
     exact⟨_,_,_,_,_,_,_,_,_,_,_,_,rfl,sc'.trans (sd.trans (s910.trans sx))⟩
  ·rintro σ Ha ⟨wd,e2,e3,e4,e5,e6,e7,e8,e9,e10,e11,e12,rfl,sg⟩
   exact q _
theorem ok_law {f fI fP fT fG fL fQ fF fC fS fE fB fN fH fX fR fY fσ fM fW CB CM CN:Addr}{fd fdI fdP fdT fdG fdL fdQ fdF fdC fdS fdE fdB fdN fdH fdX fdR fdY fdσ fdM fdW:FuncData}{tk tC:Tok}(F0:Fun K "law" "law" sLaw f fd)(Bx:Bn mg)(mo:mg "MOST_PLACES"=some (.int 24 tk))(mc:mg "MOST_COUNTED"=some (.int 7 tC))
  (FI:Fun K "is_place" "is_place" sIsP fI fdI)(bI:Binds K fdI ["places","number"] [])(mI:mg "is_place"=some (.ref fI))
  (FP:Fun K "check_place" "check_place" sChk fP fdP)(bP:Binds K fdP ["places","number"] [])(mP:mg "check_place"=some (.ref fP))
  (FT:Fun K "check_tally" "check_tally" sChT fT fdT)(bT:Binds K fdT ["tally"] [])(mT:mg "check_tally"=some (.ref fT))
  (FG:Fun K "falling" "falling" sFall fG fdG)(bG:Binds K fdG ["tally"] [])(mG:mg "falling"=some (.ref fG))
  (FL:Fun K "left_of_others" "left_of_others" sLeft fL fdL)(bL:Binds K fdL ["tally","place","ends"] [])(mL:mg "left_of_others"=some (.ref fL))
  (FQ:Fun K "check_pair" "check_pair" sChP fQ fdQ)(bQ:Binds K fdQ ["places","one","other"] [])(mQ:mg "check_pair"=some (.ref fQ))
  (FF:Fun K "check_few" "check_few" sFew fF fdF)(bF:Binds K fdF ["places"] [])(mF:mg "check_few"=some (.ref fF))
  (FC:Fun K "check_counted" "check_counted" sChC fC fdC)(bC:Binds K fdC ["tally"] [])(mC:mg "check_counted"=some (.ref fC))
  (FS:Fun K "choices" "choices" sChs fS fdS)(bS:Binds K fdS ["places","many"] [])(mS:mg "choices"=some (.ref fS))
  (FE:Fun K "first_ends" "first_ends" sFE fE fdE)(bE:Binds K fdE ["left"] [])(mE:mg "first_ends"=some (.ref fE))
  (FB:Fun K "count_behind" "count_behind" sBeh fB fdB)(bB:Binds K fdB ["left","ends","known"] [])(mB:mg "count_behind"=some (.ref fB))
  (FN:Fun K "count_of" "count_of" sCnt fN fdN)(bN:Binds K fdN ["left","known"] [])(mN:mg "count_of"=some (.ref fN))
  (FH:Fun K "how_many" "how_many" sHow fH fdH)(bH:Binds K fdH ["tally"] [])(mH:mg "how_many"=some (.ref fH))
  (FX:Fun K "in_how_many" "in_how_many" sInH fX fdX)(bX:Binds K fdX ["tally","one","other"] [])(mX:mg "in_how_many"=some (.ref fX))
  (FR:Fun K "_law_row" "_law_row" sRow fR fdR)(bR:Binds K fdR ["cell","many","size"] [])(mR:mg "_law_row"=some (.ref fR))
  (FY:Fun K "_law_ties" "_law_ties" sTies fY fdY)(bY:Binds K fdY ["places","cell"] [])(mY:mg "_law_ties"=some (.ref fY))
  (Fσ:Fun K "_law_sums" "_law_sums" sSums fσ fdσ)(bσ:Binds K fdσ ["places","ties"] [])(mσ:mg "_law_sums"=some (.ref fσ))
  (FM:Fun K "_law_small" "_law_small" sSmall fM fdM)(bM:Binds K fdM ["cell","most"] [])(mM:mg "_law_small"=some (.ref fM))
  (FW:Fun K "_law_whole" "_law_whole" sWhole fW fdW)(bW:Binds K fdW ["found"] [])(mW:mg "_law_whole"=some (.ref fW))
  (xB:mg "BadTally"=some (.ref CB))(yB:ExcC K CB)(xM:mg "TooMany"=some (.ref CM))(yM:ExcC K CM)(xN:mg "NoPlace"=some (.ref CN))(yN:ExcC K CN):FnOk P w K mg base CX0 25 f fd ["script"] (spLaw K):=by
 have GT:FnOk P w K mg base (CXE P w) 1 fT fdT ["tally"] (spChT K CB):=ok_chT FT Bx mo xB yB
 have GF:FnOk P w K mg base (CXE P w) 1 fF fdF ["places"] (spFew CM):=ok_few FF mc xM yM
 have GC:FnOk P w K mg base (CXE P w) 2 fC fdC ["tally"] (spChC K CB CM):=ok_chC FC Bx FT bT mT GT FF bF mF GF
 have GE:FnOk P w K mg base CX0 8 fE fdE ["left"] (spFE K):=ok_fe FE Bx FS bS mS
 have GN:∀ m,FnOk P w K mg base CX0 (2*m+9) fN fdN ["left","known"] (spCnt K m):=ok_cnt FN bN mN Bx FG bG mG FE bE mE GE FB bB mB FL bL mL
 have GB:FnOk P w K mg base CX0 22 fB fdB ["left","ends","known"] (spBeh K 6):=ok_beh (n:=20) FB Bx FL bL mL FN bN mN (GN 6)
 have GQ:FnOk P w K mg base (CXE P w) 3 fQ fdQ ["places","one","other"] (spChP CN):=ok_chP FQ FP bP mP FI bI mI xN yN
 exact ok_law0 F0 Bx FM bM mM ((ok_small FM Bx FR bR mR FY bY mY Fσ bσ mσ).mono (by decide)) FH bH mH (ok_how FH FC bC mC (GC.mono (by decide)) FN bN mN (GN 7)) FX bX mX ((ok_inH FX Bx FC bC mC (GC.mono (by decide)) FQ bQ mQ (GQ.mono (by decide)) FE bE mE (GE.mono (by decide)) FB bB mB GB).mono (by decide)) FW bW mW ((ok_whole FW Bx).mono (by decide))
end
end Web
namespace Web
open PySem L2
theorem ls1 {p:List Value->Prop}(h:∀ x0,p [x0]):∀ us,us.length=1->p us
 | [x0],_=>h x0
theorem ls2 {p:List Value->Prop}(h:∀ x0 x1,p [x0,x1]):∀ us,us.length=2->p us
 | [x0,x1],_=>h x0 x1
theorem ls3 {p:List Value->Prop}(h:∀ x0 x1 x2,p [x0,x1,x2]):∀ us,us.length=3->p us
 | [x0,x1,x2],_=>h x0 x1 x2
theorem all_mk {l:PySem.W.OpenLaw}{w:World}{K:W.Frag}{h:Heap}{mg:Str->Option Value}{fa fI fP fT fG fL fQ fF fC fS fE fB fN fH fX fR fY fσ fM fW fZ CBadTally CTooMany CNoPlace:Addr}{tk:Tok}{tC:Tok}(X:K.In h)(G:h.Ns mainGlobals mg)(hfa:mg "law"=some (.ref fa))
  {odI anI odP anP odT anT odG anG odL anL odQ anQ odF anF odC anC odS anS odE anE odB anB odN anN odH anH odX anX odR anR odY anY odσ anσ odM anM odW anW odZ anZ:Option Addr}{slI slP slT slG slL slQ slF slC slS slE slB slN slH slX slR slY slσ slM slW slZ:Array (Option Value)}
  {ocI kVI dcI pmI cdI ctI ocP kVP dcP pmP cdP ctP ocT kVT dcT pmT cdT ctT ocG kVG dcG pmG cdG ctG ocL kVL dcL pmL cdL ctL ocQ kVQ dcQ pmQ cdQ ctQ ocF kVF dcF pmF cdF ctF ocC kVC dcC pmC cdC ctC ocS kVS dcS pmS cdS ctS ocE kVE dcE pmE cdE ctE ocB kVB dcB pmB cdB ctB ocN kVN dcN pmN cdN ctN ocH kVH dcH pmH cdH ctH ocX kVX dcX pmX cdX ctX ocR kVR dcR pmR cdR ctR ocY kVY dcY pmY cdY ctY ocσ kVσ dcσ pmσ cdσ ctσ ocM kVM dcM pmM cdM ctM ocW kVW dcW pmW cdW ctW ocZ kVZ dcZ pmZ cdZ ctZ:Value}
  (aI:PySem.W.nsIn K mainGlobals "is_place"=some (some (.ref fI)))(lI:K.lookup fI=some ⟨ocI,odI,.func (PySem.W.fnOf "is_place" "is_place" (defArgs sIsP) (defBody sIsP) (defScope sIsP) .none kVI dcI pmI anI cdI ctI),slI⟩)(cI:PySem.W.codeIn K cdI "is_place"=true)(kI:PySem.W.keepIn K (.ref fI)=true)
  (aP:PySem.W.nsIn K mainGlobals "check_place"=some (some (.ref fP)))(lP:K.lookup fP=some ⟨ocP,odP,.func (PySem.W.fnOf "check_place" "check_place" (defArgs sChk) (defBody sChk) (defScope sChk) .none kVP dcP pmP anP cdP ctP),slP⟩)(cP:PySem.W.codeIn K cdP "check_place"=true)(kP:PySem.W.keepIn K (.ref fP)=true)
  (aT:PySem.W.nsIn K mainGlobals "check_tally"=some (some (.ref fT)))(lT:K.lookup fT=some ⟨ocT,odT,.func (PySem.W.fnOf "check_tally" "check_tally" (defArgs sChT) (defBody sChT) (defScope sChT) .none kVT dcT pmT anT cdT ctT),slT⟩)(cT:PySem.W.codeIn K cdT "check_tally"=true)(kT:PySem.W.keepIn K (.ref fT)=true)
  (aG:PySem.W.nsIn K mainGlobals "falling"=some (some (.ref fG)))(lG:K.lookup fG=some ⟨ocG,odG,.func (PySem.W.fnOf "falling" "falling" (defArgs sFall) (defBody sFall) (defScope sFall) .none kVG dcG pmG anG cdG ctG),slG⟩)(cG:PySem.W.codeIn K cdG "falling"=true)(kG:PySem.W.keepIn K (.ref fG)=true)
  (aL:PySem.W.nsIn K mainGlobals "left_of_others"=some (some (.ref fL)))(lL:K.lookup fL=some ⟨ocL,odL,.func (PySem.W.fnOf "left_of_others" "left_of_others" (defArgs sLeft) (defBody sLeft) (defScope sLeft) .none kVL dcL pmL anL cdL ctL),slL⟩)(cL:PySem.W.codeIn K cdL "left_of_others"=true)(kL:PySem.W.keepIn K (.ref fL)=true)
  (aQ:PySem.W.nsIn K mainGlobals "check_pair"=some (some (.ref fQ)))(lQ:K.lookup fQ=some ⟨ocQ,odQ,.func (PySem.W.fnOf "check_pair" "check_pair" (defArgs sChP) (defBody sChP) (defScope sChP) .none kVQ dcQ pmQ anQ cdQ ctQ),slQ⟩)(cQ:PySem.W.codeIn K cdQ "check_pair"=true)(kQ:PySem.W.keepIn K (.ref fQ)=true)
  (aF:PySem.W.nsIn K mainGlobals "check_few"=some (some (.ref fF)))(lF:K.lookup fF=some ⟨ocF,odF,.func (PySem.W.fnOf "check_few" "check_few" (defArgs sFew) (defBody sFew) (defScope sFew) .none kVF dcF pmF anF cdF ctF),slF⟩)(cF:PySem.W.codeIn K cdF "check_few"=true)(kF:PySem.W.keepIn K (.ref fF)=true)
  (aC:PySem.W.nsIn K mainGlobals "check_counted"=some (some (.ref fC)))(lC:K.lookup fC=some ⟨ocC,odC,.func (PySem.W.fnOf "check_counted" "check_counted" (defArgs sChC) (defBody sChC) (defScope sChC) .none kVC dcC pmC anC cdC ctC),slC⟩)(cC:PySem.W.codeIn K cdC "check_counted"=true)(kC:PySem.W.keepIn K (.ref fC)=true)
  (aS:PySem.W.nsIn K mainGlobals "choices"=some (some (.ref fS)))(lS:K.lookup fS=some ⟨ocS,odS,.func (PySem.W.fnOf "choices" "choices" (defArgs sChs) (defBody sChs) (defScope sChs) .none kVS dcS pmS anS cdS ctS),slS⟩)(cS:PySem.W.codeIn K cdS "choices"=true)(kS:PySem.W.keepIn K (.ref fS)=true)
  (aE:PySem.W.nsIn K mainGlobals "first_ends"=some (some (.ref fE)))(lE:K.lookup fE=some ⟨ocE,odE,.func (PySem.W.fnOf "first_ends" "first_ends" (defArgs sFE) (defBody sFE) (defScope sFE) .none kVE dcE pmE anE cdE ctE),slE⟩)(cE:PySem.W.codeIn K cdE "first_ends"=true)(kE:PySem.W.keepIn K (.ref fE)=true)
  (aB:PySem.W.nsIn K mainGlobals "count_behind"=some (some (.ref fB)))(lB:K.lookup fB=some ⟨ocB,odB,.func (PySem.W.fnOf "count_behind" "count_behind" (defArgs sBeh) (defBody sBeh) (defScope sBeh) .none kVB dcB pmB anB cdB ctB),slB⟩)(cB:PySem.W.codeIn K cdB "count_behind"=true)(kB:PySem.W.keepIn K (.ref fB)=true)
  (aN:PySem.W.nsIn K mainGlobals "count_of"=some (some (.ref fN)))(lN:K.lookup fN=some ⟨ocN,odN,.func (PySem.W.fnOf "count_of" "count_of" (defArgs sCnt) (defBody sCnt) (defScope sCnt) .none kVN dcN pmN anN cdN ctN),slN⟩)(cN:PySem.W.codeIn K cdN "count_of"=true)(kN:PySem.W.keepIn K (.ref fN)=true)
  (aH:PySem.W.nsIn K mainGlobals "how_many"=some (some (.ref fH)))(lH:K.lookup fH=some ⟨ocH,odH,.func (PySem.W.fnOf "how_many" "how_many" (defArgs sHow) (defBody sHow) (defScope sHow) .none kVH dcH pmH anH cdH ctH),slH⟩)(cH:PySem.W.codeIn K cdH "how_many"=true)(kH:PySem.W.keepIn K (.ref fH)=true)
  (aX:PySem.W.nsIn K mainGlobals "in_how_many"=some (some (.ref fX)))(lX:K.lookup fX=some ⟨ocX,odX,.func (PySem.W.fnOf "in_how_many" "in_how_many" (defArgs sInH) (defBody sInH) (defScope sInH) .none kVX dcX pmX anX cdX ctX),slX⟩)(cX:PySem.W.codeIn K cdX "in_how_many"=true)(kX:PySem.W.keepIn K (.ref fX)=true)
  (aR:PySem.W.nsIn K mainGlobals "_law_row"=some (some (.ref fR)))(lR:K.lookup fR=some ⟨ocR,odR,.func (PySem.W.fnOf "_law_row" "_law_row" (defArgs sRow) (defBody sRow) (defScope sRow) .none kVR dcR pmR anR cdR ctR),slR⟩)(cR:PySem.W.codeIn K cdR "_law_row"=true)(kR:PySem.W.keepIn K (.ref fR)=true)
  (aY:PySem.W.nsIn K mainGlobals "_law_ties"=some (some (.ref fY)))(lY:K.lookup fY=some ⟨ocY,odY,.func (PySem.W.fnOf "_law_ties" "_law_ties" (defArgs sTies) (defBody sTies) (defScope sTies) .none kVY dcY pmY anY cdY ctY),slY⟩)(cY:PySem.W.codeIn K cdY "_law_ties"=true)(kY:PySem.W.keepIn K (.ref fY)=true)
  (aσ:PySem.W.nsIn K mainGlobals "_law_sums"=some (some (.ref fσ)))(lσ:K.lookup fσ=some ⟨ocσ,odσ,.func (PySem.W.fnOf "_law_sums" "_law_sums" (defArgs sSums) (defBody sSums) (defScope sSums) .none kVσ dcσ pmσ anσ cdσ ctσ),slσ⟩)(cσ:PySem.W.codeIn K cdσ "_law_sums"=true)(kσ:PySem.W.keepIn K (.ref fσ)=true)
  (aM:PySem.W.nsIn K mainGlobals "_law_small"=some (some (.ref fM)))(lM:K.lookup fM=some ⟨ocM,odM,.func (PySem.W.fnOf "_law_small" "_law_small" (defArgs sSmall) (defBody sSmall) (defScope sSmall) .none kVM dcM pmM anM cdM ctM),slM⟩)(cM:PySem.W.codeIn K cdM "_law_small"=true)(kM:PySem.W.keepIn K (.ref fM)=true)
  (aW:PySem.W.nsIn K mainGlobals "_law_whole"=some (some (.ref fW)))(lW:K.lookup fW=some ⟨ocW,odW,.func (PySem.W.fnOf "_law_whole" "_law_whole" (defArgs sWhole) (defBody sWhole) (defScope sWhole) .none kVW dcW pmW anW cdW ctW),slW⟩)(cW:PySem.W.codeIn K cdW "_law_whole"=true)(kW:PySem.W.keepIn K (.ref fW)=true)
  (aZ:PySem.W.nsIn K mainGlobals "law"=some (some (.ref fZ)))(lZ:K.lookup fZ=some ⟨ocZ,odZ,.func (PySem.W.fnOf "law" "law" (defArgs sLaw) (defBody sLaw) (defScope sLaw) .none kVZ dcZ pmZ anZ cdZ ctZ),slZ⟩)(cZ:PySem.W.codeIn K cdZ "law"=true)(kZ:PySem.W.keepIn K (.ref fZ)=true)
  (mo:PySem.W.nsIn K mainGlobals "MOST_PLACES"=some (some (.int 24 tk)))
  (mc:PySem.W.nsIn K mainGlobals "MOST_COUNTED"=some (some (.int 7 tC)))
  (aBadTally:PySem.W.nsIn K mainGlobals "BadTally"=some (some (.ref CBadTally)))
  (aTooMany:PySem.W.nsIn K mainGlobals "TooMany"=some (some (.ref CTooMany)))
  (aNoPlace:PySem.W.nsIn K mainGlobals "NoPlace"=some (some (.ref CNoPlace)))
  (qBadTally:PySem.W.excIn K CBadTally [.type "ValueError",.type "Exception",.type "BaseException",.type "object"] "ValueError.__new__"=true)
  (xmBadTally:PySem.W.exmOne K (.ref CBadTally) (.ref CBadTally)=some true)
  (qTooMany:PySem.W.excIn K CTooMany [.type "ValueError",.type "Exception",.type "BaseException",.type "object"] "ValueError.__new__"=true)
  (xmTooMany:PySem.W.exmOne K (.ref CTooMany) (.ref CTooMany)=some true)
  (qNoPlace:PySem.W.excIn K CNoPlace [.type "ValueError",.type "Exception",.type "BaseException",.type "object"] "ValueError.__new__"=true)
  (xmNoPlace:PySem.W.exmOne K (.ref CNoPlace) (.ref CNoPlace)=some true)
  (z1:PySem.W.nsIn K mainGlobals "len"=some none)
  (z2:PySem.W.nsIn K mainGlobals "range"=some none)
  (z3:PySem.W.nsIn K mainGlobals "enumerate"=some none)
  (z4:PySem.W.nsIn K mainGlobals "list"=some none)
  (z5:PySem.W.nsIn K mainGlobals "tuple"=some none)
  (z6:PySem.W.nsIn K mainGlobals "sorted"=some none)
  (z7:PySem.W.nsIn K mainGlobals "set"=some none)
  (z8:PySem.W.nsIn K mainGlobals "isinstance"=some none)
  (z9:PySem.W.nsIn K mainGlobals "int"=some none)
  (z10:PySem.W.nsIn K mainGlobals "bool"=some none)
  (z11:PySem.W.nsIn K mainGlobals "min"=some none)
  (z12:PySem.W.nsIn K mainGlobals "max"=some none)
  (z13:PySem.W.nsIn K mainGlobals "sum"=some none)
  (z14:PySem.W.nsIn K mainGlobals "str"=some none)
  (z15:PySem.W.nsIn K mainGlobals "ValueError"=some none)
  (z16:PySem.W.nsIn K mainGlobals "reversed"=some none) :
  ∃ fd:FuncData,(∀ (s:Shared) (v:Value),BindsTo s fd ⟨[v],[]⟩ [("script",v)])/\∀ base:Heap,K.In base->base.Ns mainGlobals mg->FnOk l.prog w K mg base CX0 25 fa fd ["script"] (spLaw K):=by
 have e:=hfa.symm.trans (PySem.W.mg_of X G aZ)
 cases e
 have B:Bn mg:=⟨PySem.W.mg_none_of X G z1,PySem.W.mg_none_of X G z2,PySem.W.mg_none_of X G z3,PySem.W.mg_none_of X G z4,PySem.W.mg_none_of X G z5,PySem.W.mg_none_of X G z6,PySem.W.mg_none_of X G z7,PySem.W.mg_none_of X G z8,PySem.W.mg_none_of X G z9,PySem.W.mg_none_of X G z10,PySem.W.mg_none_of X G z11,PySem.W.mg_none_of X G z12,PySem.W.mg_none_of X G z13,PySem.W.mg_none_of X G z14,PySem.W.mg_none_of X G z15,PySem.W.mg_none_of X G z16⟩
 have FI:=fun_mk (st:=sIsP) lI cI kI
 have bI:=FI.binds (ps:=["places","number"]) fun _ _ _ _ _ _=>ls2 fun _ _=>rfl
 have FP:=fun_mk (st:=sChk) lP cP kP
 have bP:=FP.binds (ps:=["places","number"]) fun _ _ _ _ _ _=>ls2 fun _ _=>rfl
 have FT:=fun_mk (st:=sChT) lT cT kT
 have bT:=FT.binds (ps:=["tally"]) fun _ _ _ _ _ _=>ls1 fun _=>rfl
 have FG:=fun_mk (st:=sFall) lG cG kG
 have bG:=FG.binds (ps:=["tally"]) fun _ _ _ _ _ _=>ls1 fun _=>rfl
 have FL:=fun_mk (st:=sLeft) lL cL kL
 have bL:=FL.binds (ps:=["tally","place","ends"]) fun _ _ _ _ _ _=>ls3 fun _ _ _=>rfl
 have FQ:=fun_mk (st:=sChP) lQ cQ kQ
 have bQ:=FQ.binds (ps:=["places","one","other"]) fun _ _ _ _ _ _=>ls3 fun _ _ _=>rfl
 have FF:=fun_mk (st:=sFew) lF cF kF
 have bF:=FF.binds (ps:=["places"]) fun _ _ _ _ _ _=>ls1 fun _=>rfl
 have FC:=fun_mk (st:=sChC) lC cC kC
 have bC:=FC.binds (ps:=["tally"]) fun _ _ _ _ _ _=>ls1 fun _=>rfl
 have FS:=fun_mk (st:=sChs) lS cS kS
 have bS:=FS.binds (ps:=["places","many"]) fun _ _ _ _ _ _=>ls2 fun _ _=>rfl
 have FE:=fun_mk (st:=sFE) lE cE kE
 have bE:=FE.binds (ps:=["left"]) fun _ _ _ _ _ _=>ls1 fun _=>rfl
 have FB:=fun_mk (st:=sBeh) lB cB kB
 have bB:=FB.binds (ps:=["left","ends","known"]) fun _ _ _ _ _ _=>ls3 fun _ _ _=>rfl
 have FN:=fun_mk (st:=sCnt) lN cN kN
 have bN:=FN.binds (ps:=["left","known"]) fun _ _ _ _ _ _=>ls2 fun _ _=>rfl
 have FH:=fun_mk (st:=sHow) lH cH kH
 have bH:=FH.binds (ps:=["tally"]) fun _ _ _ _ _ _=>ls1 fun _=>rfl
 have FX:=fun_mk (st:=sInH) lX cX kX
 have bX:=FX.binds (ps:=["tally","one","other"]) fun _ _ _ _ _ _=>ls3 fun _ _ _=>rfl
 have FR:=fun_mk (st:=sRow) lR cR kR
 have bR:=FR.binds (ps:=["cell","many","size"]) fun _ _ _ _ _ _=>ls3 fun _ _ _=>rfl
 have FY:=fun_mk (st:=sTies) lY cY kY
 have bY:=FY.binds (ps:=["places","cell"]) fun _ _ _ _ _ _=>ls2 fun _ _=>rfl
 have Fσ:=fun_mk (st:=sSums) lσ cσ kσ
 have bσ:=Fσ.binds (ps:=["places","ties"]) fun _ _ _ _ _ _=>ls2 fun _ _=>rfl
 have FM:=fun_mk (st:=sSmall) lM cM kM
 have bM:=FM.binds (ps:=["cell","most"]) fun _ _ _ _ _ _=>ls2 fun _ _=>rfl
 have FW:=fun_mk (st:=sWhole) lW cW kW
 have bW:=FW.binds (ps:=["found"]) fun _ _ _ _ _ _=>ls1 fun _=>rfl
 have FZ:=fun_mk (st:=sLaw) lZ cZ kZ
 exact⟨PySem.W.fnOf "law" "law" (defArgs sLaw) (defBody sLaw) (defScope sLaw) .none kVZ dcZ pmZ anZ cdZ ctZ,fun s v=>.of_eq rfl,fun base _ _=>ok_law FZ B (PySem.W.mg_of X G mo) (PySem.W.mg_of X G mc) FI bI (PySem.W.mg_of X G aI) FP bP (PySem.W.mg_of X G aP) FT bT (PySem.W.mg_of X G aT) FG bG (PySem.W.mg_of X G aG) FL bL (PySem.W.mg_of X G aL) FQ bQ (PySem.W.mg_of X G aQ) FF bF (PySem.W.mg_of X G aF) FC bC (PySem.W.mg_of X G aC) FS bS (PySem.W.mg_of X G aS) FE bE (PySem.W.mg_of X G aE) FB bB (PySem.W.mg_of X G aB) FN bN (PySem.W.mg_of X G aN) FH bH (PySem.W.mg_of X G aH) FX bX (PySem.W.mg_of X G aX) FR bR (PySem.W.mg_of X G aR) FY bY (PySem.W.mg_of X G aY) Fσ bσ (PySem.W.mg_of X G aσ) FM bM (PySem.W.mg_of X G aM) FW bW (PySem.W.mg_of X G aW) (PySem.W.mg_of X G aBadTally) ⟨qBadTally⟩ (PySem.W.mg_of X G aTooMany) ⟨qTooMany⟩ (PySem.W.mg_of X G aNoPlace) ⟨qNoPlace⟩⟩
theorem walk {l:PySem.W.OpenLaw} {q:Program} {loose:List Str} {XP:(Str->Option Value)->Heap->Prop} {YP:World->Heap->Prop} {d:DefRec} {K:Params->PySem.W.Frag} (hn:l.most=some 63) (hdf:d.params.defaults=[])
  (hY:∀ (w:World) (h:Heap),YP w h->(K w.params).In h)
  (F : ∀ (w : World) (mg : Str -> Option Value) (fa : Addr) (h : Heap), (K w.params).In h -> h.Ns mainGlobals mg -> mg d.name = some (.ref fa) ->
   ∃ fd:FuncData,(∀ (s:Shared) (u:Value),BindsTo s fd ⟨[u],[]⟩ [("script",u)])/\∀ base:Heap,(K w.params).In base->base.Ns mainGlobals mg->FnOk l.prog w (K w.params) mg base CX0 25 fa fd ["script"] (spLaw (K w.params))) :
  PySem.W.WalkO q loose XP YP l.row.toRowW d [] (fun f vs=>PySem.call f vs):=
 L2.walk_of (n:=63) (k:=25) (x:="script") (CX:=fun _=>CX0) (sp:=fun w=>spLaw (K w.params)) hn (by decide) hdf ⟨rfl,by decide,by decide⟩ hY F (fun _ _ a ns hl _ hS=>⟨a,ns,rfl,hS,hl,fun _=>rfl⟩) fun _ _ _ _ _ z=>z
end Web
set_option Elab.async false
namespace PySem.W.Fast
def tw2917642026970849643:=0
def tw15705540872632034887:=0
def tw16875440539960754067:=0
def tw11472769596648983185:=0
def tw15372444623991950675:=0
def tw4509992895917440005:=0
def tw16895422357384335963:=0
def tw920812697459942951:=0
def tw8643510984924464025:=0
def tw13862283764944648620:=0
def tw13047448299522966255:=0
def tw4485310032805096272:=0
def tw15815255781961633606:=0
def tw5067643669649609155:=0
def tw17048149828192599628:=0
def tw314752417920345141:=0
def tw7670725567165099858:=0
def tw5332947471915045897:=0
def tw716402450015163267:=0
def tw36367314844940683:=0
def tw15809895255826642948:=0
def tw9000431907052260583:=0
def tw16109542504928540315:=0
def tw17539309458945622753:=0
def tw6178042287693925604:=0
def tw10285205653525710294:=0
def tw3162728433352518375:=0
def tw17331354874323615684:=0
def tw10079417390962942111:=0
def tw13188682158179011868:=0
def tw14458483540385263738:=0
def tw4816417332788039718:=0
def tw713905720576739093:=0
def tw10490011776042642297:=0
def tw2138344176417151152:=0
def tw16164251995639049763:=0
def tw3227283529753375326:=0
def tw7456101133372932369:=0
def tw1557516055382932908:=0
def tw10462747808155361531:=0
def tw2062748112196354858:=0
def tw290299416708192445:=0
def tw10497361733403103784:=0
def tw3904959920212596904:=0
def tw6177471259646830634:=0
def tw6453778219282609863:=0
def tw1140103084558872138:=0
def tw7019607774187875851:=0
def tw14500308322988558753:=0
def tw18366838351978249172:=0
def tw3797113212070689309:=0
def tw5560892214006816499:=0
def tw12778190483043468020:=0
def tw80304022901552579:=0
def tw13795796622153869280:=0
def tw15603213283021813760:=0
def tw10811590414820880058:=0
def tw1728519497190222092:=0
def tw2995535436181161250:=0
def tw4355981771078392806:=0
def tw16850601750817620654:=0
def tw13360238416854104662:=0
def tw5716675124273004899:=0
def tw5991901378381401215:=0
def tw9080854149341538246:=0
def tw17232653816346577168:=0
def tw11145521706010024378:=0
def tw9514430969002084698:=0
def tw8722240490878310355:=0
def tw3795055363375198826:=0
def tw15046751106110239805:=0
def tw17503090613953070847:=0
def tw1164343191260883140:=0
def tw11978919727599134779:=0
def tw17615412881165395606:=0
def tw9633216590043215842:=0
def tw6791825030412956005:=0
def tw8394234351868986130:=0
def tw1757584326735009743:=0
def tw13330486821005115070:=0
def tw15054745677635719760:=0
def tw922330156129682468:=0
def tw3951619214931375957:=0
def tw11617725291338455619:=0
def tw5247779377234274261:=0
def tw448205750743189751:=0
def tw18408020402113129136:=0
def tw4197831429393287191:=0
def tw6761026323020976433:=0
def tw18037285933160591465:=0
def tw10977268621621436880:=0
def tw12459405480636517084:=0
def tw12445409657688424411:=0
def tw7286150872789758912:=0
def tw16230156196023295235:=0
def tw1798393062452037918:=0
def tw7072852999466791694:=0
def tw1486403597349132912:=0
def tw359776695237066188:=0
def tw3067486214319699210:=0
def tw12979082315120949034:=0
def tw12159041743062551483:=0
def tw14321515269706006130:=0
def tw5533139850771453173:=0
def tw18126524699484798306:=0
def tw2055261563232829837:=0
def tw3259421680769007646:=0
def tw9136822164149467560:=0
def tw7631137147299302337:=0
def tw1529553119819584912:=0
def tw2158891599507379027:=0
def tw17555916212521861621:=0
def tw15187746719247265696:=0
def tw17218329168682330680:=0
def tw18209803841357383829:=0
def tw13193836176375660178:=0
def tw16029586235127759014:=0
def tw8968523177416191974:=0
def tw15240740425051110306:=0
end PySem.W.Fast
open PySem PySem.W PyProof.Rows
set_option maxRecDepth 100000 in
set_option maxHeartbeats 0 in
theorem PySem.Challenge.cw_tallyweb_k57_ties_at_a_place_holds : PySem.Challenge.rw_tallyweb_k57_ties_at_a_place.Holds := by
 w_on; o_law; k_head; (case hw => w_witness2)
 k_fill
 refine Web.walk (l := PySem.Challenge.rw_tallyweb_k57_ties_at_a_place) rfl rfl (fun w h Y => PySem.W.kIn_of Y) ?F
 case F =>
  intro w mg fa h KX G hmg
  refine' Web.all_mk KX G hmg ?aI ?lI ?cI ?kI ?aP ?lP ?cP ?kP ?aT ?lT ?cT ?kT ?aG ?lG ?cG ?kG ?aL ?lL ?cL ?kL ?aQ ?lQ ?cQ ?kQ ?aF ?lF ?cF ?kF ?aC ?lC ?cC ?kC ?aS ?lS ?cS ?kS ?aE ?lE ?cE ?kE ?aB ?lB ?cB ?kB ?aN ?lN ?cN ?kN ?aH ?lH ?cH ?kH ?aX ?lX ?cX ?kX ?aR ?lR ?cR ?kR ?aY ?lY ?cY ?kY ?aσ ?lσ ?cσ ?kσ ?aM ?lM ?cM ?kM ?aW ?lW ?cW ?kW ?aZ ?lZ ?cZ ?kZ ?mo ?mc ?aBadTally ?aTooMany ?aNoPlace ?qBadTally ?xmBadTally ?qTooMany ?xmTooMany ?qNoPlace ?xmNoPlace ?z1 ?z2 ?z3 ?z4 ?z5 ?z6 ?z7 ?z8 ?z9 ?z10 ?z11 ?z12 ?z13 ?z14 ?z15 ?z16
  (case aI => k_is); (case lI => k_is); (case cI => k_is); (case kI => k_is)
  (case aP => k_is); (case lP => k_is); (case cP => k_is); (case kP => k_is)
  (case aT => k_is); (case lT => k_is); (case cT => k_is); (case kT => k_is)
  (case aG => k_is); (case lG => k_is); (case cG => k_is); (case kG => k_is)
  (case aL => k_is); (case lL => k_is); (case cL => k_is); (case kL => k_is)
  (case aQ => k_is); (case lQ => k_is); (case cQ => k_is); (case kQ => k_is)
  (case aF => k_is); (case lF => k_is); (case cF => k_is); (case kF => k_is)
  (case aC => k_is); (case lC => k_is); (case cC => k_is); (case kC => k_is)
  (case aS => k_is); (case lS => k_is); (case cS => k_is); (case kS => k_is)
  (case aE => k_is); (case lE => k_is); (case cE => k_is); (case kE => k_is)
  (case aB => k_is); (case lB => k_is); (case cB => k_is); (case kB => k_is)
  (case aN => k_is); (case lN => k_is); (case cN => k_is); (case kN => k_is)
  (case aH => k_is); (case lH => k_is); (case cH => k_is); (case kH => k_is)
  (case aX => k_is); (case lX => k_is); (case cX => k_is); (case kX => k_is)
  (case aR => k_is); (case lR => k_is); (case cR => k_is); (case kR => k_is)
  (case aY => k_is); (case lY => k_is); (case cY => k_is); (case kY => k_is)
  (case aσ => k_is); (case lσ => k_is); (case cσ => k_is); (case kσ => k_is)
  (case aM => k_is); (case lM => k_is); (case cM => k_is); (case kM => k_is)
  (case aW => k_is); (case lW => k_is); (case cW => k_is); (case kW => k_is)
  (case aZ => k_is); (case lZ => k_is); (case cZ => k_is); (case kZ => k_is)
  (case mo => k_is); (case mc => k_is); (case aBadTally => k_is); (case aTooMany => k_is)
  (case aNoPlace => k_is); (case qBadTally => k_exc); (case xmBadTally => kts_exm); (case qTooMany => k_exc)
  (case xmTooMany => kts_exm); (case qNoPlace => k_exc); (case xmNoPlace => kts_exm); (case z1 => k_is)
  (case z2 => k_is); (case z3 => k_is); (case z4 => k_is); (case z5 => k_is)
  (case z6 => k_is); (case z7 => k_is); (case z8 => k_is); (case z9 => k_is)
  (case z10 => k_is); (case z11 => k_is); (case z12 => k_is); (case z13 => k_is)
  (case z14 => k_is); (case z15 => k_is); (case z16 => k_is)
#print axioms PySem.Challenge.cw_tallyweb_k57_ties_at_a_place_holds

