import PyProof.Rows.All
import Wide.All
import OpenK.AllK
import Wide.FinOn
import Lean
import PyProof.EqAt
import PyProof.EqKinds
import PyProof.TupleCall
import PyProof.Rows.SortRunsK
import PyProof.Rows.SortShellK
import KE.KSortTup
import PyProof.TupleKey
import PySem.SetOps
import PyProof.Rows.SetFrom
import PyProof.EnumFor
import PyProof.EnumStmt
import PyProof.EnumMake
import PyProof.P3Eq
import PyProof.NeData
import PyProof.P3In
import PyProof.Rows.SumAny
import KE.KLam
import KE.KSortKey
import PyProof.ListRange
import KE.KTryMore
import PyProof.NsDelKeeps
import PyProof.RulesAs
import PyProof.ExcBaseAll.ValueError
import PyProof.ExcArgsOwn
import KE.KIsAll
import PyProof.Rows.SortRev
import PyProof.TupleOfSeq
import Wide.Txt2
import PyProof.Draws
import KE.KTupSum
import PyProof.ListOps
import PyProof.AutoSeq1
import PyProof.Cells
import PyProof.Rows.TupAdd
import PyProof.DictWalks
import PyProof.ConsumeWalk
import PyProof.DictKeyH
import PyProof.ListNew
import PyProof.ConsumeS
import PyProof.WalksMore
import PyProof.ZipIter
import KE.KMinKey
import KE.RegKIsAll
import KE.RegKTryMore
import PySem.Challenge.RW_tallyweb_k67_whole_thick_never_both
set_option autoImplicit false
set_option linter.all false
set_option Elab.async false
set_option maxRecDepth 100000
namespace L2
open PySem PySem.Spec PyProof.Rows
abbrev Key := Sum Int Str
def keyIs : Key -> Value -> Bool
 | .inl k, v => Value.isInt k v
 | .inr x, v => Value.isStrOf x v
def keyH (w : World) : Key -> Int
 | .inl k => hashInt k
 | .inr x => hashStr w x
theorem keyIs_shape : ∀ {k : Key} {v : Value}, keyIs k v = true -> (∃ i t, k = Sum.inl i /\ v = Value.int i t) \/ (∃ x t, k = Sum.inr x /\ v = Value.str x t)
 | .inl i, v, h => by
  obtain ⟨t, e⟩ := Value.isInt_shape (k := i) (v := v) h
  exact .inl ⟨i, t, rfl, e⟩
 | .inr x, v, h => by
  obtain ⟨t, e⟩ := Value.isStrOf_shape (x := x) (v := v) h
  exact .inr ⟨x, t, rfl, e⟩
theorem key_ll (a b : Int) : decide ((Sum.inl a : Key) = Sum.inl b) = (a == b) := by
 by_cases e : a = b
 ·subst e; simp
 ·have h : ¬ (Sum.inl a : Key) = Sum.inl b := fun q => e (Sum.inl.inj q)
  rw [decide_eq_false h]
  exact (beq_eq_false_iff_ne.mpr e).symm
theorem key_rr (a b : Str) : decide ((Sum.inr a : Key) = Sum.inr b) = decide (a = b) := by
 by_cases e : a = b
 ·subst e; simp
 ·have h : ¬ (Sum.inr a : Key) = Sum.inr b := fun q => e (Sum.inr.inj q)
  rw [decide_eq_false h, decide_eq_false e]
theorem key_lr (a : Int) (b : Str) : decide ((Sum.inl a : Key) = Sum.inr b) = false := decide_eq_false (fun q => nomatch q)
theorem key_rl (a : Str) (b : Int) : decide ((Sum.inr a : Key) = Sum.inl b) = false := decide_eq_false (fun q => nomatch q)
def mixKind (prog : Program) (w : World) : PySem.KeyKind prog w Key where
  is := keyIs
  hash := keyH w
  inj := fun v a b ha hb => by
    rcases keyIs_shape ha with ⟨i, t, rfl, rfl⟩ | ⟨x, t, rfl, rfl⟩
    · rcases keyIs_shape hb with ⟨j, u, rfl, e⟩ | ⟨y, u, rfl, e⟩
      · injection e with e1 _; rw [e1]
      · exact nomatch e
    · rcases keyIs_shape hb with ⟨j, u, rfl, e⟩ | ⟨y, u, rfl, e⟩
      · exact nomatch e
      · injection e with e1 _; rw [e1]
  byValue := fun k v h => by
    rcases keyIs_shape h with ⟨i, t, rfl, rfl⟩ | ⟨x, t, rfl, rfl⟩ <;> rfl
  pyHash := fun hv h => by
    rcases keyIs_shape hv with ⟨i, t, rfl, rfl⟩ | ⟨x, t, rfl, rfl⟩
    · exact wpAny_pyHash_int h
    · exact wpAny_pyHash_str h
  eqBool := fun hu hv h => by
    rcases keyIs_shape hu with ⟨i, t, rfl, rfl⟩ | ⟨x, t, rfl, rfl⟩
    · rcases keyIs_shape hv with ⟨j, u, rfl, rfl⟩ | ⟨y, u, rfl, rfl⟩
      · rw [key_ll] at h; exact wpAny_eqBool_int h
      · rw [key_lr] at h; exact SeqAt.EqAt.int_str i t y u _ _ _ _ h
    · rcases keyIs_shape hv with ⟨j, u, rfl, rfl⟩ | ⟨y, u, rfl, rfl⟩
      · rw [key_rl] at h; exact SeqAt.EqAt.str_int x t j u _ _ _ _ h
      · rw [key_rr] at h; exact wpAny_eqBool_str h
  «strs» := fun k x t v h => by
    rcases keyIs_shape h with ⟨i, u, rfl, e⟩ | ⟨y, u, rfl, e⟩
    · exact nomatch e
    · injection e with e1 _
      subst e1
      cases v <;> rfl
inductive V where
 | non | bl (b : Bool) | int (i : Int) | str (x : Str) | byt (b : Array UInt8) | flt (b : UInt64) | ref (a : Addr) | ty (n : String)
 deriving DecidableEq
def RelV : V -> Value -> Prop
 | .non, u => u = Value.none
 | .bl b, u => u = Value.bool b
 | .int i, u => ∃ t, u = Value.int i t
 | .str x, u => ∃ t, u = Value.str x t
 | .byt b, u => ∃ t, u = Value.bytes b t
 | .flt b, u => ∃ t, u = Value.float b t
 | .ref a, u => u = Value.ref a
 | .ty n, u => u = Value.type n
abbrev Vals : List V -> List Value -> Prop := Paired RelV
theorem Vals.length {xs : List V} {us : List Value} (r : Vals xs us) : xs.length = us.length := Paired.length r
theorem Vals.get : ∀ {xs : List V} {us : List Value} {i : Nat} {x : V}, Vals xs us -> xs[i]? = some x -> ∃ u, us[i]? = some u /\ RelV x u
 | _, _, _, _, .nil, e => by simp at e
 | _, _, 0, _, .cons r _, e => by simp at e; subst e; exact ⟨_, rfl, r⟩
 | _, _, i + 1, x, .cons _ t, e => by
  obtain ⟨u, h1, h2⟩ := Vals.get (i := i) (x := x) t (by simpa using e)
  exact ⟨u, by simpa using h1, h2⟩
theorem Vals.set {x : V} {u : Value} (r : RelV x u) : ∀ {xs : List V} {us : List Value} (i : Nat), Vals xs us -> Vals (xs.set i x) (us.set i u)
 | _, _, _, .nil => .nil
 | _, _, 0, .cons _ t => .cons r t
 | _, _, i + 1, .cons q t => .cons q (Vals.set r i t)
theorem Vals.append : ∀ {xs ys : List V} {us ws : List Value}, Vals xs us -> Vals ys ws -> Vals (xs ++ ys) (us ++ ws)
 | _, _, _, _, .nil, s => s
 | _, _, _, _, .cons r t, s => .cons r (Vals.append t s)
theorem Vals.take : ∀ {xs : List V} {us : List Value} (n : Nat), Vals xs us -> Vals (xs.take n) (us.take n)
 | _, _, 0, _ => .nil
 | _, _, _ + 1, .nil => .nil
 | _, _, n + 1, .cons r t => .cons r (Vals.take n t)
theorem Vals.drop : ∀ {xs : List V} {us : List Value} (n : Nat), Vals xs us -> Vals (xs.drop n) (us.drop n)
 | _, _, 0, r => r
 | _, _, _ + 1, .nil => .nil
 | _, _, n + 1, .cons _ t => Vals.drop n t
def RelO : Option V -> Option Value -> Prop
 | some v, some u => RelV v u
 | none, none => True
 | _, _ => False
def KV {κ : Type} : List (κ × V) -> List (κ × Value) -> Prop := Paired fun (p : κ × V) (q : κ × Value) => p.1 = q.1 /\ RelV p.2 q.2
def kV : Key -> V
 | .inl i => .int i
 | .inr x => .str x
inductive HO where
  | lst (xs : List V)
  | tup (xs : List V)
  | dK (kvs : List (Key × V)) | dT (kvs : List (List Key × V))
  | set (S : Int -> Bool) (n : Nat)
  | ins (C dx : Addr) (fs : List (Str × V))
  | own (x : Addr)
  | xd (fs : List (Str × V))
  | met (f x : Addr)
  | rng (lo hi : Int)
  | frz (o : Obj) (u : HO)
  | tbl (ps : Array Value)
  | ext (φ : Heap -> Prop)
abbrev Hp := Addr -> Option HO
def upd (H : Hp) (a : Addr) (o : HO) : Hp := fun b => if b = a then some o else H b
theorem upd_same {H : Hp} {a : Addr} {o : HO} : upd H a o a = some o := by unfold upd; rw [if_pos rfl]
theorem upd_ne {H : Hp} {a b : Addr} {o : HO} (h : b ≠ a) : upd H a o b = H b := by unfold upd; rw [if_neg h]
theorem upd_upd {H : Hp} {a : Addr} {o u : HO} : upd (upd H a o) a u = upd H a u := by
 funext b; unfold upd; split <;> rfl
theorem ne_of {H : Hp} {a b : Addr} {o u : HO} (h : H a = some o) (h' : H b = some u) (d : o ≠ u) : a ≠ b := by
 intro e; subst e; rw [h] at h'; exact d (Option.some.inj h')
theorem ne_of_none {H : Hp} {a b : Addr} {o : HO} (h : H a = some o) (h' : H b = none) : a ≠ b := by
 intro e; subst e; rw [h] at h'; cases h'
section
variable (P : Program) (w : World)
def ObjOk (H : Hp) (h : Heap) (a : Addr) : HO -> Prop
 | .lst xs => xs.length <= sizeLine /\ ∃ (its : List Value) (n : Nat), Vals xs its /\ h.get? a = some { cls := .type "list", data := .seq its.toArray n }
 | .tup xs => xs.length <= sizeLine /\ ∃ its : List Value, Vals xs its /\ IsTup h a its.toArray
 | .dK kvs => kvs.length <= sizeLine /\ (a == sysModules) = false /\ ∃ vs, KV kvs vs /\ h.DictOf (mixKind P w) a vs
 | .dT kvs => kvs.length <= sizeLine /\ (a == sysModules) = false /\ ∃ xs : List (List Key × Addr × Value),
   Paired (fun (p : List Key × V) (q : List Key × Addr × Value) => p.1 = q.1 /\ H q.2.1 = some (.tup (p.1.map kV)) /\ RelV p.2 q.2.2) kvs xs /\
   ∃ o es ep, h.get? a = some o /\ o.ExactDict /\ o.data = .dict es ep /\ es.toList = xs.map (entryOfKey (tupleKind (mixKind P w))) /\ (xs.map (·.1)).Nodup
 | .set S n => h.SetOf (intKind P w) a S n
 | .ins C dx fs => H dx = some (.own a) /\ fs.length <= 1000 /\ dx ≠ a /\ h.get? a = some (PySem.W.instObj C dx) /\
   ∃ mA, h.Ns1 dx mA /\ (∀ f, RelO (fs.lookup f) (mA f)) /\ PySem.Within mA (fs.map (·.1))
 | .own _ => ∃ o, h.get? a = some o
 | .xd fs => ∃ mA, h.Ns1 a mA /\ ∀ f, RelO (fs.lookup f) (mA f)
 | .rng lo hi => ∃ t u v, h.get? a = some { cls := .type "range", data := .fields #[.int lo t, .int hi u, .int 1 v] }
 | .frz o u => h.get? a = some o /\ ObjOk H h a u
 | .tbl ps => h.get? a = some { cls := .none, data := .fields ps }
 | .met f x => h.get? a = some (PySem.W.methodObj (.ref f) (.ref x))
 | .ext φ => φ h /\ (∃ o, h.get? a = some o) /\ ∀ h1 h2 : Heap, φ h1 -> (∀ o, h1.get? a = some o -> h2.get? a = some o) -> φ h2
def HOk (H : Hp) (h : Heap) : Prop := ∀ a o, H a = some o -> ObjOk P w H h a o
end
section
variable {P : Program} {w : World} {H H' : Hp} {h h' : Heap} {a : Addr} {o : HO}
theorem ObjOk.lt (x : ObjOk P w H h a o) : a < h.objs.size := by
 cases o with
 | lst xs => obtain ⟨_, _, _, _, e⟩ := x; exact Heap.lt_size e
 | tup xs => obtain ⟨_, _, _, p⟩ := x; exact p.lt
 | dK kvs => obtain ⟨_, _, _, _, o, _, _, e, _⟩ := x; exact Heap.lt_size e
 | dT kvs => obtain ⟨_, _, _, _, o, _, _, e, _⟩ := x; exact Heap.lt_size e
 | set S n => obtain ⟨o, _, _, _, e, _⟩ := x; exact Heap.lt_size e
 | ins C dx fs => obtain ⟨_, _, _, e, _⟩ := x; exact Heap.lt_size e
 | own y => obtain ⟨_, e⟩ := x; exact Heap.lt_size e
 | xd fs => obtain ⟨_, ⟨_, _, _, e, _⟩, _⟩ := x; exact Heap.lt_size e
 | rng lo hi => obtain ⟨_, _, _, e⟩ := x; exact Heap.lt_size e
 | frz ob u => obtain ⟨e, _⟩ := x; exact Heap.lt_size e
 | tbl ps => exact Heap.lt_size (show h.get? a = some _ from x)
 | met f y => exact Heap.lt_size (show h.get? a = some _ from x)
 | ext φ => obtain ⟨_, ⟨_, e⟩, _⟩ := x; exact Heap.lt_size e
theorem Paired.mapP {α β : Type} {F G : α -> β -> Prop} : ∀ {l₁ : List α} {l₂ : List β}, Paired F l₁ l₂ -> (∀ a b, F a b -> G a b) -> Paired G l₁ l₂
 | _, _, .nil, _ => .nil
 | _, _, .cons r t, f => .cons (f _ _ r) (Paired.mapP t f)
theorem ObjOk.stay (x : ObjOk P w H h a o) (k : ∀ b u, (b = a \/ H b = some (.own a)) -> h.get? b = some u -> h'.get? b = some u)
  (ho : ∀ b, H b = some (.own a) -> H' b = some (.own a)) (ht : ∀ b xs, H b = some (.tup xs) -> H' b = some (.tup xs)) : ObjOk P w H' h' a o := by
 induction o with
 | lst xs => obtain ⟨z, its, n, r, e⟩ := x; exact ⟨z, its, n, r, k _ _ (.inl rfl) e⟩
 | tup xs => obtain ⟨z, its, r, ob, e, c⟩ := x; exact ⟨z, its, r, ob, k _ _ (.inl rfl) e, c⟩
 | dK kvs => obtain ⟨z, y, vs, r, ob, es, ep, e, c⟩ := x; exact ⟨z, y, vs, r, ob, es, ep, k _ _ (.inl rfl) e, c⟩
 | dT kvs =>
  obtain ⟨z, y, xs, r, ob, es, ep, e, c⟩ := x
  exact ⟨z, y, xs, Paired.mapP r fun p q z => ⟨z.1, ht _ _ z.2.1, z.2.2⟩, ob, es, ep, k _ _ (.inl rfl) e, c⟩
 | set S n => obtain ⟨ob, es, ep, t, e, c⟩ := x; exact ⟨ob, es, ep, t, k _ _ (.inl rfl) e, c⟩
 | ins C dx fs =>
  obtain ⟨d, z, ne, e, mA, ⟨od, es, ep, e2, c⟩, r⟩ := x
  exact ⟨ho _ d, z, ne, k _ _ (.inl rfl) e, mA, ⟨od, es, ep, k _ _ (.inr d) e2, c⟩, r⟩
 | own y => obtain ⟨ob, e⟩ := x; exact ⟨ob, k _ _ (.inl rfl) e⟩
 | xd fs => obtain ⟨mA, ⟨od, es, ep, e, c⟩, r⟩ := x; exact ⟨mA, ⟨od, es, ep, k _ _ (.inl rfl) e, c⟩, r⟩
 | rng lo hi => obtain ⟨t, u, v, e⟩ := x; exact ⟨t, u, v, k _ _ (.inl rfl) e⟩
 | frz ob u ih => obtain ⟨e, q⟩ := x; exact ⟨k _ _ (.inl rfl) e, ih q⟩
 | tbl ps =>
  have e : h.get? a = some { cls := .none, data := .fields ps } := x
  show h'.get? a = some { cls := .none, data := .fields ps }
  exact k a _ (.inl rfl) e
 | met f y =>
  have e : h.get? a = some (PySem.W.methodObj (.ref f) (.ref y)) := x
  show h'.get? a = some (PySem.W.methodObj (.ref f) (.ref y))
  exact k a _ (.inl rfl) e
 | ext φ => obtain ⟨p, ⟨o, e⟩, st⟩ := x; exact ⟨st _ _ p fun o q => k _ _ (.inl rfl) q, ⟨o, k _ _ (.inl rfl) e⟩, st⟩
theorem HOk.lt (x : HOk P w H h) (e : H a = some o) : a < h.objs.size := (x a o e).lt
theorem HOk.fresh (x : HOk P w H h) (e : h.objs.size <= a) : H a = none := by
 cases q : H a with
 | none => rfl
 | some u => exact absurd (Nat.lt_of_lt_of_le (x.lt q) e) (Nat.lt_irrefl _)
theorem HOk.kept (x : HOk P w H h) (k : ∀ b u, h.get? b = some u -> h'.get? b = some u) : HOk P w H h' := fun a o e =>
 (x a o e).stay (fun b u _ q => k b u q) (fun _ q => q) fun _ _ q => q
theorem HOk.laid (x : HOk P w H h) (k : ∀ b u, h.get? b = some u -> h'.get? b = some u) (hp : h.objs.size <= a) (new : ObjOk P w (upd H a o) h' a o) : HOk P w (upd H a o) h' := fun b u e => by
 have hn := x.fresh hp
 by_cases hb : b = a
 ·subst hb; rw [upd_same] at e; cases e; exact new
 ·rw [upd_ne hb] at e
  exact (x b u e).stay (fun c v _ q => k c v q) (fun c q => by rw [upd_ne (ne_of_none q hn)]; exact q) fun c xs q => by rw [upd_ne (ne_of_none q hn)]; exact q
end
def Rd (H : Hp) (a : Addr) (u : HO) : Prop := H a = some u \/ ∃ o, H a = some (.frz o u)
theorem Rd.ok {P : Program} {w : World} {H : Hp} {h : Heap} {a : Addr} {u : HO} (r : Rd H a u) (x : HOk P w H h) : ObjOk P w H h a u := by
 rcases r with r | ⟨o, r⟩
 ·exact x a u r
 ·obtain ⟨_, q⟩ := x a _ r
  exact q
def Mut : Option HO -> Prop
 | some (.lst _) => True
 | some (.dK _) => True
 | some (.dT _) => True
 | some (.set _ _) => True
 | some (.ins _ _ _) => True
 | some (.ext _) => True
 | _ => False
section
variable {P : Program} {w : World} {H : Hp} {h h' : Heap} {x e : Addr} {o' : HO}
theorem HOk.write (ok : HOk P w H h) (mu : Mut (H x)) (he : e = x \/ H e = some (.own x)) (k : ∀ b u, b ≠ e -> h.get? b = some u -> h'.get? b = some u) (heo : ∃ u, h'.get? e = some u)
  (new : ObjOk P w (upd H x o') h' x o') : HOk P w (upd H x o') h' := fun b u q => by
 have nown : ∀ c y, H c = some (.own y) -> c ≠ x := fun c y r z => by subst z; rw [r] at mu; exact mu
 have ntup : ∀ c xs, H c = some (.tup xs) -> c ≠ x := fun c xs r z => by subst z; rw [r] at mu; exact mu
 by_cases hb : b = x
 ·subst hb; rw [upd_same] at q; cases q; exact new
 ·rw [upd_ne hb] at q
  by_cases hbe : b = e
  ·have q' : H b = some (.own x) := by
    rcases he with z | z
    ·exact absurd (hbe.trans z) hb
    ·rw [hbe]; exact z
   rw [q] at q'; cases q'
   obtain ⟨v, hv⟩ := heo
   exact ⟨v, by rw [hbe]; exact hv⟩
  ·refine (ok b u q).stay (fun c v hc r => k c v ?_ r) (fun c r => by rw [upd_ne (nown c b r)]; exact r) fun c xs r => by rw [upd_ne (ntup c xs r)]; exact r
   rcases hc with rfl | hc
   ·exact hbe
   ·rintro rfl
    rcases he with z | z
    ·exact nown c b hc z
    ·rw [hc] at z; cases z; exact hb rfl
end
structure Un (fs ex : List Addr) (H H' : Hp) (h h' : Heap) : Prop where
 keep : ∀ b o, h.get? b = some o -> H b = none -> b ∉ fs -> b ∉ ex -> h'.get? b = some o
 slot : ∀ b o, h.get? b = some o -> H b = none -> b ∈ fs -> b ∉ ex -> ∃ sl, h'.get? b = some { o with slots := sl }
 free : ∀ b o, h.get? b = some o -> H b = none -> b ∉ ex -> H' b = none
 there : ∀ b o, h.get? b = some o -> b ∉ ex -> ∃ o', h'.get? b = some o'
 tups : ∀ b xs, H b = some (.tup xs) -> H' b = some (.tup xs)
 frzs : ∀ b o u, H b = some (.frz o u) -> H' b = some (.frz o u)
 tbls : ∀ b ps, H b = some (.tbl ps) -> ∃ more, H' b = some (.tbl (ps ++ more))
section
variable {fs fs' ex ex' : List Addr} {H H1 H2 : Hp} {h h1 h2 h' : Heap} {a x e : Addr} {o : HO}
theorem Un.any (u : Un fs ex H H1 h h1) {b : Addr} {ob : Obj} (q : h.get? b = some ob) (n : H b = none) (hx : b ∉ ex) : ∃ sl, h1.get? b = some { ob with slots := sl } := by
 by_cases hb : b ∈ fs
 ·exact u.slot b ob q n hb hx
 ·exact ⟨ob.slots, u.keep b ob q n hb hx⟩
theorem Un.kept (k : ∀ b u, h.get? b = some u -> h'.get? b = some u) : Un fs ex H H h h' :=
 ⟨fun b ob q _ _ _ => k b ob q, fun b ob q _ _ _ => ⟨ob.slots, k b ob q⟩, fun _ _ _ n _ => n, fun b ob q _ => ⟨ob, k b ob q⟩, fun _ _ q => q, fun _ _ _ q => q, fun _ ps q => ⟨#[], by rw [q]; simp⟩⟩
theorem Un.refl : Un fs ex H H h h := Un.kept fun _ _ q => q
theorem Un.laid (k : ∀ b u, h.get? b = some u -> h'.get? b = some u) (hp : h.objs.size <= a) (hn : H a = none) : Un fs ex H (upd H a o) h h' where
 keep := fun b u q _ _ _ => k b u q
 slot := fun b u q _ _ _ => ⟨u.slots, k b u q⟩
 free := fun b u q n _ => by rw [upd_ne (Nat.ne_of_lt (Nat.lt_of_lt_of_le (Heap.lt_size q) hp))]; exact n
 there := fun b u q _ => ⟨u, k b u q⟩
 tups := fun b xs q => by rw [upd_ne (ne_of_none q hn)]; exact q
 frzs := fun b u xs q => by rw [upd_ne (ne_of_none q hn)]; exact q
 tbls := fun b ps q => ⟨#[], by rw [upd_ne (ne_of_none q hn), q]; simp⟩
theorem Un.write (mu : Mut (H x)) (he : e = x \/ H e = some (.own x)) (k : ∀ b u, b ≠ e -> h.get? b = some u -> h'.get? b = some u) (heo : ∃ u, h'.get? e = some u) : Un fs ex H (upd H x o) h h' := by
 have hx : ∀ b, H b = none -> b ≠ x := fun b n z => by subst z; rw [n] at mu; exact mu
 have hb : ∀ b, H b = none -> b ≠ e := fun b n z => by
  subst z
  rcases he with r | r
  ·exact hx b n r
  ·rw [n] at r; cases r
 have hm : ∀ b u, H b = some u -> ¬ Mut (some u) -> b ≠ x := fun b u q nm z => by subst z; rw [q] at mu; exact nm mu
 refine ⟨fun b u q n _ _ => k b u (hb b n) q, fun b u q n _ _ => ⟨u.slots, k b u (hb b n) q⟩, fun b u q n _ => by rw [upd_ne (hx b n)]; exact n, fun b u q _ => ?_,
  fun b xs q => by rw [upd_ne (hm b _ q fun z => z)]; exact q, fun b u xs q => by rw [upd_ne (hm b _ q fun z => z)]; exact q, fun b ps q => ⟨#[], by rw [upd_ne (hm b _ q fun z => z), q]; simp⟩⟩
 by_cases hbe : b = e
 ·subst hbe; exact heo
 ·exact ⟨u, k b u hbe q⟩
end
def trk (h : Heap) (H : Hp) : List Addr := (List.range h.objs.size).filter fun a => (H a).isSome
def hidT (h : Heap) (H : Hp) : Heap := PySem.W.hideAll h (trk h H)
theorem hidT_size (h : Heap) (H : Hp) : (hidT h H).objs.size = h.objs.size := PySem.W.hideAll_size _ _
theorem hidT_get {h : Heap} {H : Hp} {b : Addr} {o : Obj} (e : h.get? b = some o) (n : H b = none) : (hidT h H).get? b = some o :=
 PySem.W.hideAll_get _ e fun hm => by
  have q : (H b).isSome = true := (List.mem_filter.mp hm).2
  rw [n] at q; simp at q
theorem of_hidT {h : Heap} {H : Hp} {b : Addr} {o : Obj} (e : (hidT h H).get? b = some o) : h.get? b = some o /\ H b = none := by
 have e' : h.get? b = some o := PySem.W.of_hideAll (trk h H) e
 refine ⟨e', ?_⟩
 cases q : H b with
 | none => rfl
 | some x =>
  have hm : b ∈ trk h H := List.mem_filter.mpr ⟨List.mem_range.mpr (Heap.lt_size e'), by simp [q]⟩
  have z : (hidT h H).get? b = none := PySem.W.hideAll_none (trk h H) hm
  rw [z] at e; cases e
def allNews (g h : Heap) (L : Addr) : List (Addr × Obj) := (List.range h.objs.size).filterMap fun a => if a = L \/ (g.get? a).isSome = true then none else (h.get? a).map fun o => (a, o)
def rest (g h : Heap) (L d : Addr) : List (Addr × Obj) := (allNews g h L).filter fun p => decide (p.1 ≠ d)
structure Mod (K : W.Frag) (mg : Str -> Option Value) (base : Heap) : Prop where
 kin : K.In base
 glob : base.Ns mainGlobals mg
 blt : ∃ mb, base.Ns builtinsNs mb /\ ∀ x : Str, x ≠ "__name__" -> mb x = bootBuiltins x
 nolimit : base.NoLimit
structure Cx where
 prog : Program
 w : World
 K : W.Frag
 mg : Str -> Option Value
 base : Heap
 A : Around
 N : List Str
 s₀ : Shared
 H₀ : Hp
 env : Env
 outer : List Env
 stack : List Env
 ex : List Addr
 fn : Str -> Bool
 calm : Bool
 pn : List (Addr × Obj)
 xe : Value -> Shared -> Prop
def frs (l : List Env) : List Addr := l.filterMap (·.frame)
abbrev Cx.fs (X : Cx) : List Addr := frs X.outer
def Vis (sc : Scope) (x : Str) : Prop := sc.names.lookup x = some .local \/ sc.names.lookup x = some .cell \/ sc.names.lookup x = some .free
def Loc (sc : Scope) (x : Str) : Prop := sc.names.lookup x = some .local \/ sc.names.lookup x = some .cell
def Look (env : Env) (h : Heap) (m : Str -> Option Value) (x : Str) (u : Value) : Prop :=
 (env.kindOf x = some .local /\ m x = some u) \/ ((env.kindOf x = some .cell \/ env.kindOf x = some .free) /\ ∃ c, env.cells.lookup x = some c /\ h.IsCell c (some u))
structure Cx.Ok (X : Cx) : Prop where
 mod : Mod X.K X.mg X.base
 kind : X.env.scope.kind = .function
 glob : X.env.globals = mainGlobals
 blt : X.env.builtins = builtinsNs
 above : X.s₀.heap.objs.size <= X.env.locals
 inj : ∀ x y c, X.env.cells.lookup x = some c -> X.env.cells.lookup y = some c -> x = y
 has : ∀ x, (X.env.kindOf x = some .cell \/ X.env.kindOf x = some .free) -> ∃ c, X.env.cells.lookup x = some c
 cab : ∀ x c, X.fn x = true -> X.env.cells.lookup x = some c -> X.s₀.heap.objs.size <= c
 hd : X.calm = true -> X.A.handled = none
 frames : X.A.frames = some X.stack
 stk : X.stack = X.outer \/ (X.stack = X.env :: X.outer /\ X.env.frame = some X.env.locals)
 exf : ∀ b ∈ X.ex, b ≠ X.env.locals /\ ∀ x c, X.env.cells.lookup x = some c -> c ≠ b
 bs : ∀ b o, X.base.get? b = some o -> X.s₀.heap.get? b = some o /\ X.H₀ b = none
 bsz : X.base.objs.size <= X.s₀.heap.objs.size
 noex : ∀ b o, X.base.get? b = some o -> b ∉ X.ex
 exfs : ∀ b ∈ X.ex, b ∉ X.fs
 funs : X.s₀.heap.FunFrames X.base X.outer
 frf : ∀ b ∈ X.fs, X.H₀ b = none
structure Inv (X : Cx) (pins : List (Addr × Obj)) (σ : List (Option V)) (H : Hp) (s : Shared) : Prop where
 ok : X.Ok
 os : s.os = X.s₀.os
 bare : AllBare s.gens
 base : Un X.fs X.ex X.H₀ H X.s₀.heap s.heap
 loc : ∃ m, s.heap.Ns X.env.locals m /\ ∀ (i : Nat) (x : Str) (v : V), X.N[i]? = some x -> σ[i]? = some (some v) -> Vis X.env.scope x -> ∃ u, RelV v u /\ Look X.env s.heap m x u
 cell : ∀ x c, X.env.cells.lookup x = some c -> ∃ v, s.heap.IsCell c v
 free : H X.env.locals = none
 freeC : ∀ x c, X.env.cells.lookup x = some c -> H c = none
 pin : ∀ p ∈ X.pn ++ pins, s.heap.get? p.1 = some p.2 /\ H p.1 = none /\ p.1 ≠ X.env.locals /\ p.1 ∉ X.fs /\ ∀ v, p.2.data ≠ .cell v
 hok : HOk X.prog X.w H s.heap
 len : σ.length = X.N.length
section
variable {X : Cx} {pins : List (Addr × Obj)} {σ : List (Option V)} {H H' : Hp} {s : Shared} {h' : Heap}
theorem Cx.Ok.nofr (ok : X.Ok) {b : Addr} {o : Obj} (e : X.base.get? b = some o) : b ∉ X.fs := fun hb => by
 have := (ok.funs.mem hb).1
 rw [e] at this; cases this
theorem Inv.bs (I : Inv X pins σ H s) : ∀ b o, X.base.get? b = some o -> s.heap.get? b = some o /\ H b = none := fun b o e =>
 ⟨I.base.keep b o (I.ok.bs b o e).1 (I.ok.bs b o e).2 (I.ok.nofr e) (I.ok.noex b o e), I.base.free b o (I.ok.bs b o e).1 (I.ok.bs b o e).2 (I.ok.noex b o e)⟩
theorem Inv.bk (I : Inv X pins σ H s) : ∀ b o, X.base.get? b = some o -> s.heap.get? b = some o := fun b o e => (I.bs b o e).1
theorem Inv.mod (I : Inv X pins σ H s) : Mod X.K X.mg X.base := I.ok.mod
theorem Inv.kIn (I : Inv X pins σ H s) : X.K.In s.heap := I.ok.mod.kin.keeps I.bk
theorem Inv.lt (I : Inv X pins σ H s) : X.env.locals < s.heap.objs.size := let ⟨_, hn, _⟩ := I.loc; hn.lt
theorem Inv.sz (I : Inv X pins σ H s) : X.s₀.heap.objs.size <= s.heap.objs.size := Nat.le_trans I.ok.above (Nat.le_of_lt I.lt)
theorem Inv.nofs (I : Inv X pins σ H s) {a : Addr} (h : s.heap.objs.size <= a) : a ∉ X.fs := fun hb => by
 obtain ⟨_, o, ho, _⟩ := I.ok.funs.mem hb
 exact absurd (Nat.lt_of_lt_of_le (Heap.lt_size ho) (Nat.le_trans I.sz h)) (Nat.lt_irrefl _)
theorem Inv.cne (I : Inv X pins σ H s) : ∀ x c, X.env.cells.lookup x = some c -> c ≠ X.env.locals := fun x c e z => by
 obtain ⟨v, o, ho, hd⟩ := I.cell x c e
 obtain ⟨m, ⟨o', es, ep, ho', hd', _⟩, _⟩ := I.loc
 rw [z, ho'] at ho; cases ho; rw [hd'] at hd; cases hd
theorem Inv.funs (I : Inv X pins σ H s) : s.heap.FunFrames X.base X.outer := by
 have all : ∀ (l : List Env), (∀ b ∈ frs l, b ∈ X.fs) -> X.s₀.heap.FunFrames X.base l -> s.heap.FunFrames X.base l := by
  intro l
  induction l with
  | nil => intro _ _; trivial
  | cons env r ih =>
   intro hs hl
   obtain ⟨hk, ⟨L, o, hf, hn, ho, hd⟩, hr⟩ := hl
   have hL : L ∈ X.fs := hs L (by unfold frs; rw [List.filterMap_cons, hf]; exact List.mem_cons_self)
   obtain ⟨sl, e⟩ := I.base.slot L o ho (I.ok.frf L hL) hL fun z => I.ok.exfs L z hL
   exact ⟨hk, ⟨L, _, hf, hn, e, hd⟩, ih (fun b hb => hs b (by unfold frs; rw [List.filterMap_cons, hf]; exact List.mem_cons_of_mem _ hb)) hr⟩
 exact all X.outer (fun _ hb => hb) I.ok.funs
theorem Inv.stack (I : Inv X pins σ H s) : s.heap.FunFrames X.base X.stack := by
 rcases I.ok.stk with e | ⟨e, hf⟩
 ·rw [e]; exact I.funs
 ·rw [e]
  obtain ⟨m, hn, _⟩ := I.loc
  refine .cons (by rw [I.ok.kind]; decide) hf hn ?_ I.funs
  exact Heap.get?_none_of_le (Nat.le_trans I.ok.bsz I.ok.above)
theorem Inv.stkSub (I : Inv X pins σ H s) : ∀ b ∈ frs X.stack, b ∈ X.env.locals :: X.fs := fun b hb => by
 rcases I.ok.stk with e | ⟨e, hf⟩
 ·rw [e] at hb; exact List.mem_cons_of_mem _ hb
 ·rw [e] at hb
  unfold frs at hb
  rw [List.filterMap_cons, hf] at hb
  exact hb
theorem Inv.stkFree (I : Inv X pins σ H s) : ∀ b ∈ frs X.stack, H b = none := fun b hb => by
 rcases List.mem_cons.mp (I.stkSub b hb) with e | hb
 ·rw [e]; exact I.free
 ·obtain ⟨_, o, ho, _⟩ := I.ok.funs.mem hb
  exact I.base.free b o ho (I.ok.frf b hb) fun z => I.ok.exfs b z hb
theorem Inv.step {g' : Array GenState} {t' : Nat} {d' : Drawn} {ch : List Addr} (I : Inv X pins σ H s)
  (hch : ∀ b ∈ ch, (b ∈ X.ex \/ X.s₀.heap.objs.size <= b) /\ b ≠ X.env.locals /\ (∀ x c, X.env.cells.lookup x = some c -> c ≠ b) /\ ∀ p ∈ X.pn ++ pins, p.1 ≠ b)
  (keep : ∀ b o, b ≠ X.env.locals -> b ∉ X.fs -> b ∉ ch -> s.heap.get? b = some o -> H b = none -> h'.get? b = some o)
  (slot : ∀ b o, b ≠ X.env.locals -> b ∈ X.fs -> b ∉ ch -> s.heap.get? b = some o -> H b = none -> ∃ sl, h'.get? b = some { o with slots := sl }) (free : ∀ b o, b ∉ ch -> s.heap.get? b = some o -> H b = none -> H' b = none)
  (there : ∀ b o, b ∉ ch -> s.heap.get? b = some o -> ∃ o', h'.get? b = some o')
  (tups : ∀ b xs, H b = some (.tup xs) -> H' b = some (.tup xs)) (frzs : ∀ b o u, H b = some (.frz o u) -> H' b = some (.frz o u)) (tbls : ∀ b ps, H b = some (.tbl ps) -> ∃ more, H' b = some (.tbl (ps ++ more)))
  (ns : ∀ m, s.heap.Ns X.env.locals m -> h'.Ns X.env.locals m) (hok : HOk X.prog X.w H' h') (hg : AllBare g') :
  Inv X pins σ H' { s with heap := h', gens := g', drawn := d', toks := t' } := by
 have neL : ∀ b o, X.s₀.heap.get? b = some o -> b ≠ X.env.locals := fun b o e => Nat.ne_of_lt (Nat.lt_of_lt_of_le (Heap.lt_size e) I.ok.above)
 have neC : ∀ b o, X.s₀.heap.get? b = some o -> b ∉ X.ex -> b ∉ ch := fun b o e hx hb => by
  rcases (hch b hb).1 with z | z
  ·exact hx z
  ·exact absurd (Nat.lt_of_lt_of_le (Heap.lt_size e) z) (Nat.lt_irrefl _)
 have cellK : ∀ x c, X.env.cells.lookup x = some c -> ∀ v, s.heap.IsCell c v -> h'.IsCell c v := fun x c e v ⟨o, ho, hd⟩ => by
  have nch : c ∉ ch := fun z => (hch c z).2.2.1 x c e rfl
  by_cases hc : c ∈ X.fs
  ·obtain ⟨sl, q⟩ := slot c o (I.cne x c e) hc nch ho (I.freeC x c e)
   exact ⟨_, q, hd⟩
  ·exact ⟨o, keep c o (I.cne x c e) hc nch ho (I.freeC x c e), hd⟩
 refine ⟨I.ok, I.os, hg, ⟨fun b o e n hb hx => ?_, fun b o e n hb hx => ?_, fun b o e n hx => ?_, fun b o e hx => ?_, fun b xs e => tups b xs (I.base.tups b xs e), fun b o xs e => frzs b o xs (I.base.frzs b o xs e), fun b ps e => ?_⟩, ?_, fun x c e => ?_, ?_, fun x c e => ?_, fun p hp => ?_, hok, I.len⟩
 ·exact keep b o (neL b o e) hb (neC b o e hx) (I.base.keep b o e n hb hx) (I.base.free b o e n hx)
 ·obtain ⟨sl, e1⟩ := I.base.slot b o e n hb hx
  obtain ⟨sl', e2⟩ := slot b _ (neL b o e) hb (neC b o e hx) e1 (I.base.free b o e n hx)
  exact ⟨sl', e2⟩
 ·obtain ⟨o', e1⟩ := I.base.there b o e hx
  exact free b o' (neC b o e hx) e1 (I.base.free b o e n hx)
 ·obtain ⟨o', e1⟩ := I.base.there b o e hx
  exact there b o' (neC b o e hx) e1
 ·obtain ⟨m1, e1⟩ := I.base.tbls b ps e
  obtain ⟨m2, e2⟩ := tbls b _ e1
  exact ⟨m1 ++ m2, by rw [e2, Array.append_assoc]⟩
 ·obtain ⟨m, hn, hl⟩ := I.loc
  refine ⟨m, ns m hn, fun i x v e1 e2 e3 => ?_⟩
  obtain ⟨u, r, l⟩ := hl i x v e1 e2 e3
  refine ⟨u, r, ?_⟩
  rcases l with l | ⟨k, c, e, z⟩
  ·exact .inl l
  ·exact .inr ⟨k, c, e, cellK x c e _ z⟩
 ·obtain ⟨v, z⟩ := I.cell x c e
  exact ⟨v, cellK x c e v z⟩
 ·obtain ⟨m, ⟨o, _, _, ho, _⟩, _⟩ := I.loc
  exact free _ o (fun z => (hch _ z).2.1 rfl) ho I.free
 ·obtain ⟨v, o, ho, hd⟩ := I.cell x c e
  exact free c o (fun z => (hch c z).2.2.1 x c e rfl) ho (I.freeC x c e)
 ·obtain ⟨e, n, ne, nf, d⟩ := I.pin p hp
  have nch : p.1 ∉ ch := fun z => (hch p.1 z).2.2.2 p hp rfl
  exact ⟨keep p.1 p.2 ne nf nch e n, free p.1 p.2 nch e n, ne, nf, d⟩
theorem Inv.un {t' : Nat} (I : Inv X pins σ H s) (u : Un X.fs [] H H' s.heap h') (hok : HOk X.prog X.w H' h') : Inv X pins σ H' { s with heap := h', toks := t' } := by
 obtain ⟨m, ⟨o, es, ep, ho, r⟩, _⟩ := id I.loc
 obtain ⟨sl, hL⟩ := u.any ho I.free (by simp)
 exact I.step (g' := s.gens) (d' := s.drawn) (ch := []) (fun _ z => nomatch z) (fun b o _ hb _ e n => u.keep b o e n hb (by simp)) (fun b o _ hb _ e n => u.slot b o e n hb (by simp)) (fun b o _ e n => u.free b o e n (by simp)) (fun b o _ e => u.there b o e (by simp)) u.tups u.frzs u.tbls (fun m' hm => by
  obtain ⟨o', es', ep', ho', r'⟩ := hm
  rw [ho] at ho'; cases ho'
  exact ⟨_, es', ep', hL, r'⟩) hok I.bare
theorem Inv.call {g' : Array GenState} {t' : Nat} {d' : Drawn} {ch : List Addr} (I : Inv X pins σ H s) (u : Un (frs X.stack) ch H H' s.heap h') (hok : HOk X.prog X.w H' h') (hg : AllBare g')
  (hch : ∀ b ∈ ch, (b ∈ X.ex \/ X.s₀.heap.objs.size <= b) /\ b ≠ X.env.locals /\ (∀ x c, X.env.cells.lookup x = some c -> c ≠ b) /\ ∀ p ∈ X.pn ++ pins, p.1 ≠ b) :
  Inv X pins σ H' { s with heap := h', gens := g', drawn := d', toks := t' } := by
 obtain ⟨m, ⟨o, es, ep, ho, r⟩, _⟩ := id I.loc
 obtain ⟨sl, hL⟩ := u.any ho I.free fun z => (hch _ z).2.1 rfl
 exact I.step (ch := ch) hch (fun b o hL hb hc e n => u.keep b o e n (fun z => (List.mem_cons.mp (I.stkSub b z)).elim hL hb) hc) (fun b o _ _ hc e n => u.any e n hc) (fun b o hc e n => u.free b o e n hc) (fun b o hc e => u.there b o e hc) u.tups u.frzs u.tbls (fun m' hm => by
  obtain ⟨o', es', ep', ho', r'⟩ := hm
  rw [ho] at ho'; cases ho'
  exact ⟨_, es', ep', hL, r'⟩) hok hg
theorem Inv.turned {t' : Nat} {it : Addr} (I : Inv X pins σ H s) (k : ∀ b o, b ≠ it -> s.heap.get? b = some o -> h'.get? b = some o) (hn : H it = none) (hL : it ≠ X.env.locals)
  (h1 : it ∈ X.ex \/ X.s₀.heap.objs.size <= it) (h2 : ∀ x c, X.env.cells.lookup x = some c -> c ≠ it) (h3 : ∀ p ∈ X.pn ++ pins, p.1 ≠ it) : Inv X pins σ H { s with heap := h', toks := t' } := by
 have nit : ∀ b u, H b = some u -> b ≠ it := fun b u e z => by rw [z, hn] at e; cases e
 refine I.step (g' := s.gens) (d' := s.drawn) (ch := [it]) (fun b hb => ?_) (fun b o _ _ hc e _ => k b o (fun z => hc (by simp [z])) e) (fun b o _ _ hc e _ => ⟨o.slots, k b o (fun z => hc (by simp [z])) e⟩) (fun _ _ _ _ n => n)
  (fun b o hc e => ⟨o, k b o (fun z => hc (by simp [z])) e⟩) (fun _ _ e => e) (fun _ _ _ e => e) (fun b ps e => ⟨#[], by rw [e]; simp⟩) (fun m hm => ?_) (fun b u e => ?_) I.bare
 ·have e : b = it := by simpa using hb
  subst e
  exact ⟨h1, hL, h2, h3⟩
 ·obtain ⟨o, es, ep, ho, r⟩ := hm
  exact ⟨o, es, ep, k _ o (Ne.symm hL) ho, r⟩
 ·refine (I.hok b u e).stay (fun c v hc q => k c v ?_ q) (fun _ q => q) fun _ _ q => q
  rcases hc with z | z
  ·rw [z]; exact nit b u e
  ·exact nit c _ z
theorem Inv.tok (I : Inv X pins σ H s) (t : Nat) : Inv X pins σ H { s with toks := t } := I.un (h' := s.heap) (t' := t) Un.refl I.hok
theorem Inv.kept {t' : Nat} (I : Inv X pins σ H s) (k : ∀ b u, s.heap.get? b = some u -> h'.get? b = some u) : Inv X pins σ H { s with heap := h', toks := t' } := I.un (Un.kept k) (I.hok.kept k)
theorem Inv.laid {a : Addr} {o : HO} {t' : Nat} (I : Inv X pins σ H s) (k : ∀ b u, s.heap.get? b = some u -> h'.get? b = some u) (hp : s.heap.objs.size <= a) (new : ObjOk X.prog X.w (upd H a o) h' a o) :
  Inv X pins σ (upd H a o) { s with heap := h', toks := t' } := I.un (Un.laid k hp (I.hok.fresh hp)) (I.hok.laid k hp new)
theorem Inv.write {x e : Addr} {o : HO} {t' : Nat} (I : Inv X pins σ H s) (mu : Mut (H x)) (he : e = x \/ H e = some (.own x)) (k : ∀ b u, b ≠ e -> s.heap.get? b = some u -> h'.get? b = some u) (heo : ∃ u, h'.get? e = some u)
  (new : ObjOk X.prog X.w (upd H x o) h' x o) : Inv X pins σ (upd H x o) { s with heap := h', toks := t' } := I.un (Un.write mu he k heo) (I.hok.write mu he k heo new)
theorem Inv.pins_of {pins' : List (Addr × Obj)} (I : Inv X pins σ H s) (h : ∀ p ∈ pins', s.heap.get? p.1 = some p.2 /\ H p.1 = none /\ p.1 ≠ X.env.locals /\ p.1 ∉ X.fs /\ ∀ v, p.2.data ≠ .cell v) : Inv X pins' σ H s :=
 ⟨I.ok, I.os, I.bare, I.base, I.loc, I.cell, I.free, I.freeC, fun p hp => (List.mem_append.mp hp).elim (fun z => I.pin p (List.mem_append_left _ z)) (h p), I.hok, I.len⟩
theorem nodup_ix {N : List Str} (hN : N.Nodup) {i j : Nat} {x : Str} (a : N[i]? = some x) (b : N[j]? = some x) : i = j := by
 obtain ⟨h1, e1⟩ := List.getElem?_eq_some_iff.mp a
 obtain ⟨h2, e2⟩ := List.getElem?_eq_some_iff.mp b
 exact (List.getElem_inj hN).mp (e1.trans e2.symm)
theorem store_ok2 {M : Model} {A : Around} {E : Value -> Shared -> Prop} {i : Nat} {x : Str} {v : V} {u : Value} {Q : Unit -> Shared -> Prop} (I : Inv X pins σ H s) (hN : X.N.Nodup) (hi : X.N[i]? = some x) (hx : Loc X.env.scope x) (r : RelV v u)
  (h : ∀ s', Inv X pins (σ.set i (some v)) H s' -> (∃ a, Heap.SameBut a s.heap s'.heap /\ (a = X.env.locals \/ X.env.cells.lookup x = some a)) -> Q () s') (hf : X.fn x = true \/ X.env.scope.names.lookup x = some .local := by first | exact .inl rfl | exact .inr rfl | assumption) : wpAny M A (storeName X.env x u) Q E s := by
 obtain ⟨m, hn, hl⟩ := id I.loc
 have hcls : (X.env.scope.kind == .class || (X.env.scope.kind == .module && X.env.locals != X.env.globals)) = false := by rw [I.ok.kind]; rfl
 have hiσ : i < σ.length := by rw [I.len]; exact (List.getElem?_eq_some_iff.mp hi).1
 have cne := I.cne
 have tracked : ∀ {a : Addr} {h' : Heap}, (∃ o, s.heap.get? a = some o /\ H a = none) -> Heap.SameBut a s.heap h' -> HOk X.prog X.w H h' := fun {a h'} ha hs b ob e => by
  obtain ⟨_, _, hfree⟩ := ha
  refine (I.hok b ob e).stay (fun c w' hc q => (hs.2 c ?_).trans q) (fun _ q => q) fun _ _ q => q
  rintro rfl
  rcases hc with rfl | hc
  ·rw [hfree] at e; cases e
  ·rw [hfree] at hc; cases hc
 rcases hx with hk | hk
 ·refine wpAny_storeName_local hk hn (fun h' hn' hs => ?_) hcls
  obtain ⟨oL, _, _, hoL, _⟩ := id hn
  refine h _ ⟨I.ok, I.os, I.bare, ⟨fun b o e n hb hx => ?_, fun b o e n hb hx => ?_, I.base.free, fun b o e hx => ?_, I.base.tups, I.base.frzs, I.base.tbls⟩, ⟨_, hn', fun j y v' e1 e2 e3 => ?_⟩, fun y c e => ?_, I.free, I.freeC, fun p hp => ?_, tracked ⟨oL, hoL, I.free⟩ hs, by simpa using I.len⟩ ⟨_, hs, .inl rfl⟩
  ·exact (hs.2 b (Nat.ne_of_lt (Nat.lt_of_lt_of_le (Heap.lt_size e) I.ok.above))).trans (I.base.keep b o e n hb hx)
  ·obtain ⟨sl, e1⟩ := I.base.slot b o e n hb hx
   exact ⟨sl, (hs.2 b (Nat.ne_of_lt (Nat.lt_of_lt_of_le (Heap.lt_size e) I.ok.above))).trans e1⟩
  ·obtain ⟨o', e1⟩ := I.base.there b o e hx
   exact ⟨o', (hs.2 b (Nat.ne_of_lt (Nat.lt_of_lt_of_le (Heap.lt_size e) I.ok.above))).trans e1⟩
  ·by_cases hj : j = i
   ·subst hj
    rw [hi] at e1; cases e1
    rw [List.getElem?_set_self hiσ] at e2
    cases e2
    exact ⟨u, r, .inl ⟨hk, by simp⟩⟩
   ·rw [List.getElem?_set_ne (Ne.symm hj)] at e2
    obtain ⟨u', r', q⟩ := hl j y v' e1 e2 e3
    refine ⟨u', r', ?_⟩
    rcases q with ⟨k, e⟩ | ⟨k, c, e, z⟩
    ·refine .inl ⟨k, ?_⟩
     have : y ≠ x := fun e => hj (nodup_ix hN e1 (e ▸ hi))
     simp [this, e]
    ·exact .inr ⟨k, c, e, z.sameBut hs (cne y c e)⟩
  ·obtain ⟨w', z⟩ := I.cell y c e
   exact ⟨w', z.sameBut hs (cne y c e)⟩
  ·obtain ⟨e, n, ne, nf, d⟩ := I.pin p hp
   exact ⟨(hs.2 p.1 ne).trans e, n, ne, nf, d⟩
 ·have hfn : X.fn x = true := by
   rcases hf with z | z
   ·exact z
   ·rw [z] at hk; cases hk
  obtain ⟨c, hc⟩ := I.ok.has x (.inl hk)
  obtain ⟨w', z⟩ := I.cell x c hc
  refine wpAny_storeName_cell I.ok.kind hk hc z (fun h' hc' hs => ?_)
  obtain ⟨oc, hoc, hocd⟩ := id z
  refine h { s with heap := h' } ⟨I.ok, I.os, I.bare, ⟨fun b o e n hb hx => ?_, fun b o e n hb hx => ?_, I.base.free, fun b o e hx => ?_, I.base.tups, I.base.frzs, I.base.tbls⟩, ⟨m, hn.sameBut hs (Ne.symm (cne x c hc)), fun j y v' e1 e2 e3 => ?_⟩, fun y c' e => ?_, I.free, I.freeC, fun p hp => ?_, tracked ⟨oc, hoc, I.freeC x c hc⟩ hs, by simpa using I.len⟩ ⟨c, hs, .inr hc⟩
  ·exact (hs.2 b (Nat.ne_of_lt (Nat.lt_of_lt_of_le (Heap.lt_size e) (I.ok.cab x c hfn hc)))).trans (I.base.keep b o e n hb hx)
  ·obtain ⟨sl, e1⟩ := I.base.slot b o e n hb hx
   exact ⟨sl, (hs.2 b (Nat.ne_of_lt (Nat.lt_of_lt_of_le (Heap.lt_size e) (I.ok.cab x c hfn hc)))).trans e1⟩
  ·obtain ⟨o', e1⟩ := I.base.there b o e hx
   exact ⟨o', (hs.2 b (Nat.ne_of_lt (Nat.lt_of_lt_of_le (Heap.lt_size e) (I.ok.cab x c hfn hc)))).trans e1⟩
  ·by_cases hj : j = i
   ·subst hj
    rw [hi] at e1; cases e1
    rw [List.getElem?_set_self hiσ] at e2
    cases e2
    exact ⟨u, r, .inr ⟨.inl hk, c, hc, hc'⟩⟩
   ·rw [List.getElem?_set_ne (Ne.symm hj)] at e2
    obtain ⟨u', r', q⟩ := hl j y v' e1 e2 e3
    refine ⟨u', r', ?_⟩
    rcases q with q | ⟨k, c', e, z'⟩
    ·exact .inl q
    ·refine .inr ⟨k, c', e, z'.sameBut hs ?_⟩
     rintro rfl
     exact hj (nodup_ix hN e1 (I.ok.inj _ _ _ e hc ▸ hi))
  ·by_cases hcc : c' = c
   ·subst hcc; exact ⟨_, hc'⟩
   ·obtain ⟨w2, z2⟩ := I.cell y c' e
    exact ⟨w2, z2.sameBut hs hcc⟩
  ·obtain ⟨e, n, ne, nf, d⟩ := I.pin p hp
   refine ⟨(hs.2 p.1 ?_).trans e, n, ne, nf, d⟩
   intro q
   rw [q, hoc] at e
   have q' : oc = p.2 := Option.some.inj e
   exact d w' (by rw [<- q']; exact hocd)
theorem store_ok {M : Model} {A : Around} {E : Value -> Shared -> Prop} {i : Nat} {x : Str} {v : V} {u : Value} {Q : Unit -> Shared -> Prop} (I : Inv X pins σ H s) (hN : X.N.Nodup) (hi : X.N[i]? = some x) (hx : Loc X.env.scope x) (r : RelV v u)
  (h : ∀ s', Inv X pins (σ.set i (some v)) H s' -> Q () s') (hf : X.fn x = true \/ X.env.scope.names.lookup x = some .local := by first | exact .inl rfl | exact .inr rfl | assumption) : wpAny M A (storeName X.env x u) Q E s :=
 store_ok2 I hN hi hx r (fun s' I' _ => h s' I') hf
theorem Inv.call' {s' : Shared} {ch : List Addr} (I : Inv X pins σ H s) (ho : s'.os = s.os) (u : Un (frs X.stack) ch H H' s.heap s'.heap) (hok : HOk X.prog X.w H' s'.heap) (hg : AllBare s'.gens)
  (hch : ∀ b ∈ ch, (b ∈ X.ex \/ X.s₀.heap.objs.size <= b) /\ b ≠ X.env.locals /\ (∀ x c, X.env.cells.lookup x = some c -> c ≠ b) /\ ∀ p ∈ X.pn ++ pins, p.1 ≠ b) : Inv X pins σ H' s' := by
 obtain ⟨h', g', d', t', o'⟩ := s'
 have e : o' = s.os := ho
 subst e
 exact I.call (g' := g') (t' := t') (d' := d') u hok hg hch
end
abbrev XK := Value -> Option Addr -> Hp -> Prop
abbrev St := List (Option V)
abbrev VK := V -> Hp -> Prop
abbrev TE := St -> Hp -> VK -> Prop
abbrev TT := St -> Hp -> (Bool -> Hp -> Prop) -> Prop
abbrev TA := St -> Hp -> (List V -> Hp -> Prop) -> Prop
structure Ends where
 nx : St -> Hp -> Prop
 rt : VK
 bk : St -> Hp -> Prop := fun _ _ => False
 ct : St -> Hp -> Prop := fun _ _ => False
abbrev TS := Ends -> St -> Hp -> Prop
def EP (X : Cx) (pins : List (Addr × Obj)) (σ : St) (Q : VK) (u : Value) (s' : Shared) : Prop := ∃ v H', Inv X pins σ H' s' /\ RelV v u /\ Q v H'
def TP (X : Cx) (pins : List (Addr × Obj)) (σ : St) (Q : Bool -> Hp -> Prop) (b : Bool) (s' : Shared) : Prop := ∃ H', Inv X pins σ H' s' /\ Q b H'
def AP (X : Cx) (pins : List (Addr × Obj)) (σ : St) (Q : List V -> Hp -> Prop) (us : List Value) (s' : Shared) : Prop := ∃ vs H', Inv X pins σ H' s' /\ Vals vs us /\ Q vs H'
def SP (X : Cx) (pins : List (Addr × Obj)) (D : Ends) (f : Flow) (s' : Shared) : Prop :=
 match f with
 | .next => ∃ σ' H', Inv X pins σ' H' s' /\ D.nx σ' H'
 | .brk => ∃ σ' H', Inv X pins σ' H' s' /\ D.bk σ' H'
 | .cont => ∃ σ' H', Inv X pins σ' H' s' /\ D.ct σ' H'
 | .ret u => ∃ v σ' H', Inv X pins σ' H' s' /\ RelV v u /\ D.rt v H'
def PE (X : Cx) (e : Expr) (t : TE) : Prop :=
 ∀ (pins : List (Addr × Obj)) (s : Shared) (σ : St) (H : Hp) (Q : VK), Inv X pins σ H s -> t σ H Q -> wpAny (model X.prog X.w) X.A (eval e X.env) (EP X pins σ Q) X.xe s
def PT (X : Cx) (e : Expr) (t : TT) : Prop :=
 ∀ (pins : List (Addr × Obj)) (s : Shared) (σ : St) (H : Hp) (Q : Bool -> Hp -> Prop), Inv X pins σ H s -> t σ H Q -> wpAny (model X.prog X.w) X.A (isTrue e X.env (eval e X.env)) (TP X pins σ Q) X.xe s
def PW (X : Cx) (e : Expr) (t : TT) : Prop :=
 ∀ (whole : Sem Value) (pins : List (Addr × Obj)) (s : Shared) (σ : St) (H : Hp) (Q : Bool -> Hp -> Prop), Inv X pins σ H s -> t σ H Q -> wpAny (model X.prog X.w) X.A (isTrue e X.env whole) (TP X pins σ Q) X.xe s
theorem PW.pt {X : Cx} {e : Expr} {t : TT} (h : PW X e t) : PT X e t := h _
def PA (X : Cx) (es : List Expr) (t : TA) : Prop :=
 ∀ (pos : Pos) (pins : List (Addr × Obj)) (s : Shared) (σ : St) (H : Hp) (Q : List V -> Hp -> Prop), Inv X pins σ H s -> t σ H Q -> wpAny (model X.prog X.w) X.A (spliced (backTo pos (starEach es X.env))) (AP X pins σ Q) X.xe s
def PS (X : Cx) (st : Stmt) (t : TS) : Prop :=
 ∀ (pins : List (Addr × Obj)) (s : Shared) (σ : St) (H : Hp) (D : Ends), Inv X pins σ H s -> t D σ H -> wpAny (model X.prog X.w) X.A (exec st X.env) (SP X pins D) X.xe s
def PSs (X : Cx) (st : List Stmt) (t : TS) : Prop :=
 ∀ (pins : List (Addr × Obj)) (s : Shared) (σ : St) (H : Hp) (D : Ends), Inv X pins σ H s -> t D σ H -> wpAny (model X.prog X.w) X.A (execs st X.env) (SP X pins D) X.xe s
theorem thn {α : Type} {t : Sem α} {Q Q' : α -> Shared -> Prop} {M : Model} {A : Around} {E : Value -> Shared -> Prop} {s : Shared} (h : wpAny M A t Q E s) (hQ : ∀ a s, Q a s -> Q' a s) : wpAny M A t Q' E s := wpAny_mono h hQ fun _ _ x => x
section
variable {X : Cx}
def tVar (i : Nat) : TE := fun σ H Q => ∃ v, σ[i]? = some (some v) /\ Q v H
def tC (v : V) : TE := fun _ H Q => Q v H
theorem pe_var {i : Nat} {x : Str} {pos : Pos} (hN : X.N[i]? = some x) (hv : Vis X.env.scope x) (hd : (x == ("__debug__" : Str)) = false := by decide) (hcd : (x == ("__classdict__" : Str)) = false := by decide) : PE X (.Name x pos) (tVar i) := by
 intro pins s σ H Q I h
 obtain ⟨v, e, h⟩ := h
 obtain ⟨m, hn, hl⟩ := I.loc
 obtain ⟨u, r, l⟩ := hl i x v hN e hv
 have fin : EP X pins σ Q u s := ⟨v, H, I, r, h⟩
 rcases l with ⟨hk, hm⟩ | ⟨hk, c, hc, hcell⟩
 ·exact wpAny_Name (wpAny_loadName_local I.ok.kind hk hn hm fin) hd
 ·rcases hk with hk | hk
  ·exact wpAny_Name (wpAny_loadName_cell I.ok.kind hk hc hcell fin) hd
  ·exact wpAny_Name (wpAny_loadName_free I.ok.kind hk hc hcell fin hcd) hd
theorem pe_int {i j pos} : PE X (.Constant (.int i) j pos) (tC (.int i)) := fun _ _ _ H _ I h => wpAny_Constant_int ⟨.int i, H, I.tok _, ⟨_, rfl⟩, h⟩
theorem pe_bl {b j pos} : PE X (.Constant (.bool b) j pos) (tC (.bl b)) := fun _ _ _ H _ I h => Constant_bool ⟨.bl b, H, I, rfl, h⟩
theorem pe_non {j pos} : PE X (.Constant .none j pos) (tC .non) := fun _ _ _ H _ I h => Constant_none ⟨.non, H, I, rfl, h⟩
theorem pe_str {x j pos} : PE X (.Constant (.str x) j pos) (tC (.str x)) := fun _ _ _ H _ I h => Calls.Constant_str ⟨.str x, H, I.tok _, ⟨_, rfl⟩, h⟩
def Gl (X : Cx) (x : Str) : Prop := X.env.kindOf x = some .globalImplicit
theorem ld_glob {E : Value -> Shared -> Prop} {pins : List (Addr × Obj)} {s : Shared} {σ : St} {H : Hp} {x : Str} {u : Value} {pos : Pos} {Q : Value -> Shared -> Prop} (I : Inv X pins σ H s) (hg : Gl X x) (hm : X.mg x = some u) (h : Q u s)
  (hd : (x == ("__debug__" : Str)) = false := by decide) : wpAny (model X.prog X.w) X.A (eval (.Name x pos) X.env) Q E s :=
 Calls.Name_function_global I.ok.kind hg (Calls.loadGlobal_global (by rw [I.ok.glob]; exact I.mod.glob.keeps I.bk) hm h) hd
theorem ld_blt {E : Value -> Shared -> Prop} {pins : List (Addr × Obj)} {s : Shared} {σ : St} {H : Hp} {x : Str} {u : Value} {pos : Pos} {Q : Value -> Shared -> Prop} (I : Inv X pins σ H s) (hg : Gl X x) (hm : X.mg x = none) (hv : bootBuiltins x = some u) (h : Q u s)
  (hn : x ≠ "__name__" := by decide) (hd : (x == ("__debug__" : Str)) = false := by decide) : wpAny (model X.prog X.w) X.A (eval (.Name x pos) X.env) Q E s := by
 obtain ⟨mb, h1, h2⟩ := I.mod.blt
 exact Calls.Name_function_global I.ok.kind hg (Calls.loadGlobal_builtin (by rw [I.ok.glob]; exact I.mod.glob.keeps I.bk) hm (by rw [I.ok.blt]; exact h1.keeps I.bk) ((h2 x hn).trans hv) h) hd
theorem pe_glob {x : Str} {v : V} {u : Value} {pos : Pos} (hg : Gl X x) (hm : X.mg x = some u) (r : RelV v u) (hd : (x == ("__debug__" : Str)) = false := by decide) : PE X (.Name x pos) (tC v) :=
 fun _ _ _ H _ I h => ld_glob I hg hm ⟨v, H, I, r, h⟩ hd
variable {a b : Expr} {ta tb : TE} {pos : Pos}
def tB (t : TE) : TT := fun σ H Q => t σ H fun x H1 => ∃ c, x = .bl c /\ Q c H1
theorem pt_val {e : Expr} {t : TE} (h : PE X e t) (he : ∀ whole, isTrue e X.env whole = (do let v <- whole; standAt e.pos; holding [v] (truthy v)) := by intro _; rfl) : PT X e (tB t) := by
 intro pins s σ H Q I hw
 refine isTrue_plain (thn (h pins s σ H _ I hw) fun v s1 ⟨x, H1, I1, r1, q1⟩ => ?_) (he _)
 obtain ⟨d, rfl, q⟩ := q1
 cases r1
 exact wpAny_truthy_bool ⟨H1, I1, q⟩
variable {tA tB' : TT} {rest : List Expr}
def tAnd (t u : TT) : TT := fun σ H Q => t σ H fun c H1 => if c = true then u σ H1 Q else Q false H1
def tOr (t u : TT) : TT := fun σ H Q => t σ H fun c H1 => if c = true then Q true H1 else u σ H1 Q
def tNot (t : TT) : TT := fun σ H Q => t σ H fun c H1 => Q (!c) H1
theorem pw_and1 (ha : PT X a tA) : PW X (.BoolOp .And [a] pos) tA := by
 intro wh pins s σ H Q I h
 refine isTrue_and (thn (ha pins s σ H Q I h) fun c s1 e => ?_)
 cases c with
 | true => exact isTrue_and_nil e
 | false => exact e
theorem pw_or1 (ha : PT X a tA) : PW X (.BoolOp .Or [a] pos) tA := by
 intro wh pins s σ H Q I h
 refine isTrue_or (thn (ha pins s σ H Q I h) fun c s1 e => ?_)
 cases c with
 | false => exact isTrue_or_nil e
 | true => exact e
theorem pw_and (ha : PT X a tA) (hb : PW X (.BoolOp .And (b :: rest) pos) tB') : PW X (.BoolOp .And (a :: b :: rest) pos) (tAnd tA tB') := by
 intro wh pins s σ H Q I h
 refine isTrue_and (thn (ha pins s σ H _ I h) fun c s1 ⟨H1, I1, q1⟩ => ?_)
 cases c with
 | true => exact hb wh pins s1 σ H1 Q I1 q1
 | false => exact ⟨H1, I1, q1⟩
theorem pw_or (ha : PT X a tA) (hb : PW X (.BoolOp .Or (b :: rest) pos) tB') : PW X (.BoolOp .Or (a :: b :: rest) pos) (tOr tA tB') := by
 intro wh pins s σ H Q I h
 refine isTrue_or (thn (ha pins s σ H _ I h) fun c s1 ⟨H1, I1, q1⟩ => ?_)
 cases c with
 | true => exact ⟨H1, I1, q1⟩
 | false => exact hb wh pins s1 σ H1 Q I1 q1
theorem pt_not (ha : PT X a tA) : PT X (.UnaryOp .Not a pos) (tNot tA) := by
 intro pins s σ H Q I h
 exact isTrue_not (ha pins s σ H (fun c H1 => Q (!c) H1) I h)
def tAndV (ta tb : TE) : TE := fun σ H Q => ta σ H fun x H1 => ∃ c, x = .bl c /\ if c = true then tb σ H1 Q else Q (.bl false) H1
theorem pe_one {op} {t : TE} (h : PE X a t) : PE X (.BoolOp op [a] pos) t := fun pins s σ H Q I hw => BoolOp_one (h pins s σ H Q I hw)
theorem pe_and (ha : PE X a ta) (hb : PE X (.BoolOp .And (b :: rest) pos) tb) : PE X (.BoolOp .And (a :: b :: rest) pos) (tAndV ta tb) := by
 intro pins s σ H Q I h
 refine BoolOp_and (thn (ha pins s σ H _ I h) fun v s1 ⟨x, H1, I1, r1, q1⟩ => ?_)
 obtain ⟨c, rfl, q1⟩ := q1
 cases r1
 refine wpAny_truthy_bool ?_
 cases c with
 | true => exact hb pins s1 σ H1 Q I1 q1
 | false => exact ⟨.bl false, H1, I1, rfl, q1⟩
def tIf (t : TT) (ta tb : TE) : TE := fun σ H Q => t σ H fun c H1 => if c = true then ta σ H1 Q else tb σ H1 Q
theorem pe_ifExp {c : Expr} (hc : PT X c tA) (ha : PE X a ta) (hb : PE X b tb) : PE X (.IfExp c a b pos) (tIf tA ta tb) := by
 intro pins s σ H Q I h
 refine wpAny_IfExp (thn (hc pins s σ H _ I h) fun d s1 ⟨H1, I1, q1⟩ => ?_)
 cases d with
 | true => exact ha pins s1 σ H1 Q I1 q1
 | false => exact hb pins s1 σ H1 Q I1 q1
end
def SqL (K : W.Frag) (H : Hp) (a : Addr) (xs : List V) : Prop :=
 Rd H a (.lst xs) \/
  ∃ (o : Obj) (its : Array Value) (n : Nat), K.lookup a = some o /\ o.cls = .type "list" /\ o.dict = none /\ o.data = .seq its n /\ its.size <= sizeLine /\ Vals xs its.toList
def SqT (K : W.Frag) (H : Hp) (a : Addr) (xs : List V) : Prop :=
 Rd H a (.tup xs) \/
  ∃ (o : Obj) (its : Array Value) (n : Nat), K.lookup a = some o /\ o.cls = .type "tuple" /\ o.data = .seq its n /\ its.size <= sizeLine /\ Vals xs its.toList
def absV : Value -> Option V
 | .none => some .non
 | .bool b => some (.bl b)
 | .int i _ => some (.int i)
 | .str x _ => some (.str x)
 | .bytes b _ => some (.byt b)
 | .float b _ => some (.flt b)
 | .ref a => some (.ref a)
 | .type n => some (.ty n)
 | _ => none
theorem RelV.abs {x : V} {u : Value} (r : RelV x u) : absV u = some x := by
 cases x with
 | non => cases r; rfl
 | bl _ => cases r; rfl
 | int _ => obtain ⟨t, rfl⟩ := r; rfl
 | str _ => obtain ⟨t, rfl⟩ := r; rfl
 | byt _ => obtain ⟨t, rfl⟩ := r; rfl
 | flt _ => obtain ⟨t, rfl⟩ := r; rfl
 | ref _ => cases r; rfl
 | ty _ => cases r; rfl
theorem RelV.inj {x y : V} {u : Value} (r : RelV x u) (q : RelV y u) : x = y := Option.some.inj (r.abs.symm.trans q.abs)
theorem Vals.inj : ∀ {xs ys : List V} {us : List Value}, Vals xs us -> Vals ys us -> xs = ys
 | _, _, _, .nil, .nil => rfl
 | _, _, _, .cons r t, .cons r' t' => by rw [r.inj r', Vals.inj t t']
section
variable {X : Cx} {pins : List (Addr × Obj)} {σ : St} {H : Hp} {s : Shared} {a : Addr} {xs ys : List V}
theorem SqL.of {K : W.Frag} (h : H a = some (.lst xs)) : SqL K H a xs := .inl (.inl h)
theorem SqT.of {K : W.Frag} (h : H a = some (.tup xs)) : SqT K H a xs := .inl (.inl h)
theorem Inv.list (I : Inv X pins σ H s) (h : SqL X.K H a xs) : ∃ its : List Value, Vals xs its /\ PlainL s.heap a its.toArray /\ xs.length <= sizeLine := by
 rcases h with h | ⟨o, its, n, hk, hc, hd, hs, hz, r⟩
 ·obtain ⟨z, its, n, r, e⟩ := h.ok I.hok
  exact ⟨its, r, ⟨_, n, e, rfl, rfl, rfl⟩, z⟩
 ·refine ⟨its.toList, r, ⟨o, n, I.kIn a o hk, hc, hd, by simpa using hs⟩, ?_⟩
  have e := r.length
  simp only [Array.length_toList] at e
  omega
theorem Inv.tuple (I : Inv X pins σ H s) (h : SqT X.K H a xs) : ∃ its : List Value, Vals xs its /\ IsTup s.heap a its.toArray /\ xs.length <= sizeLine := by
 rcases h with h | ⟨o, its, n, hk, hc, hs, hz, r⟩
 ·obtain ⟨z, its, r, p⟩ := h.ok I.hok
  exact ⟨its, r, p, z⟩
 ·refine ⟨its.toList, r, ⟨o, I.kIn a o hk, hc, n, by simpa using hs⟩, ?_⟩
  have e := r.length
  simp only [Array.length_toList] at e
  omega
theorem Inv.list_inj (I : Inv X pins σ H s) (h : SqL X.K H a xs) (h' : SqL X.K H a ys) : xs = ys := by
 obtain ⟨its, r, ⟨o, n, e, _, _, d⟩, _⟩ := I.list h
 obtain ⟨its', r', ⟨o', n', e', _, _, d'⟩, _⟩ := I.list h'
 rw [e] at e'; cases e'
 rw [d] at d'
 injection d' with d1 _
 have : its = its' := by simpa using congrArg Array.toList d1
 subst this
 exact r.inj r'
theorem Inv.tuple_inj (I : Inv X pins σ H s) (h : SqT X.K H a xs) (h' : SqT X.K H a ys) : xs = ys := by
 obtain ⟨its, r, ⟨o, e, _, n, d⟩, _⟩ := I.tuple h
 obtain ⟨its', r', ⟨o', e', _, n', d'⟩, _⟩ := I.tuple h'
 rw [e] at e'; cases e'
 rw [d] at d'
 injection d' with d1 _
 have : its = its' := by simpa using congrArg Array.toList d1
 subst this
 exact r.inj r'
end
abbrev Cx.wish (X : Cx) (E : Value -> Shared -> Prop) : Cx := { X with xe := E }
abbrev Cx.nox (X : Cx) : Cx := X.wish fun _ _ => False
theorem Cx.Ok.wish {X : Cx} (ok : X.Ok) (E : Value -> Shared -> Prop) : (X.wish E).Ok :=
 ⟨ok.mod, ok.kind, ok.glob, ok.blt, ok.above, ok.inj, ok.has, ok.cab, ok.hd, ok.frames, ok.stk, ok.exf, ok.bs, ok.bsz, ok.noex, ok.exfs, ok.funs, ok.frf⟩
theorem Cx.Ok.unwish {X : Cx} {E : Value -> Shared -> Prop} (ok : (X.wish E).Ok) : X.Ok :=
 ⟨ok.mod, ok.kind, ok.glob, ok.blt, ok.above, ok.inj, ok.has, ok.cab, ok.hd, ok.frames, ok.stk, ok.exf, ok.bs, ok.bsz, ok.noex, ok.exfs, ok.funs, ok.frf⟩
section
variable {X : Cx} {pins : List (Addr × Obj)} {σ : St} {H : Hp} {s : Shared} {E : Value -> Shared -> Prop}
theorem Inv.wish (I : Inv X pins σ H s) (E : Value -> Shared -> Prop) : Inv (X.wish E) pins σ H s := ⟨I.ok.wish E, I.os, I.bare, I.base, I.loc, I.cell, I.free, I.freeC, I.pin, I.hok, I.len⟩
theorem Inv.unwish (I : Inv (X.wish E) pins σ H s) : Inv X pins σ H s := ⟨I.ok.unwish, I.os, I.bare, I.base, I.loc, I.cell, I.free, I.freeC, I.pin, I.hok, I.len⟩
theorem SP.unwish {D : Ends} {f : Flow} {s' : Shared} (h : SP (X.wish E) pins D f s') : SP X pins D f s' := by
 cases f with
 | next => obtain ⟨σ', H', I, q⟩ := h; exact ⟨σ', H', I.unwish, q⟩
 | brk => obtain ⟨σ', H', I, q⟩ := h; exact ⟨σ', H', I.unwish, q⟩
 | cont => obtain ⟨σ', H', I, q⟩ := h; exact ⟨σ', H', I.unwish, q⟩
 | ret u => obtain ⟨v, σ', H', I, r, q⟩ := h; exact ⟨v, σ', H', I.unwish, r, q⟩
theorem PSs.nox {st : List Stmt} {t : TS} (h : PSs X.nox st t) : PSs X st t := fun pins s σ H D I hw =>
 wpAny_mono (h pins s σ H D (I.wish _) hw) (fun _ _ q => q.unwish) fun _ _ z => False.elim z
end
section
variable {X : Cx} {st : Stmt} {rest : List Stmt} {t u : TS} {e : Expr} {te : TE} {pos : Pos}
def tNext : TS := fun D σ H => D.nx σ H
def tSeq (t u : TS) : TS := fun D σ H => t { D with nx := u D } σ H
theorem pss_nil : PSs X [] tNext := fun _ _ σ H _ I h => wpAny_execs_nil ⟨σ, H, I, h⟩
theorem pss_cons (h1 : PS X st t) (h2 : PSs X rest u) : PSs X (st :: rest) (tSeq t u) := by
 intro pins s σ H D I h
 refine wpAny_execs_cons (thn (h1 pins s σ H { D with nx := u D } I h) fun f s1 q => ?_)
 cases f with
 | next =>
  obtain ⟨σ', H', I', q⟩ := q
  exact h2 pins s1 σ' H' D I' q
 | ret v => exact q
 | brk => exact q
 | cont => exact q
theorem pss_one (h1 : PS X st t) : PSs X [st] t := by
 intro pins s σ H D I h
 refine wpAny_execs_cons (thn (h1 pins s σ H D I h) fun f s1 q => ?_)
 cases f with
 | next => exact wpAny_execs_nil q
 | ret v => exact q
 | brk => exact q
 | cont => exact q
theorem Inv.quiet {pins : List (Addr × Obj)} {σ : St} {H : Hp} {s : Shared} (I : Inv X pins σ H s) : interactive X.env = false := by simp [interactive, I.ok.kind]
def tDrop (te : TE) : TS := fun D σ H => te σ H fun _ H1 => D.nx σ H1
theorem ps_expr (he : PE X e te) (hs : swapsWith e none pos.line X.env = pure false := by rfl) : PS X (.Expr e pos) (tDrop te) := by
 intro pins s σ H D I h
 exact wpAny_Expr_any (thn (he pins s σ H _ I h) fun v s1 ⟨x, H1, I1, r1, q1⟩ => ⟨σ, H1, I1, q1⟩) I.quiet hs
def tRet (te : TE) : TS := fun D σ H => te σ H D.rt
theorem ps_ret (he : PE X e te) : PS X (.Return (some e) pos) (tRet te) := by
 intro pins s σ H D I h
 exact wpAny_Return_some (thn (he pins s σ H _ I h) fun v s1 ⟨x, H1, I1, r1, q1⟩ => ⟨x, σ, H1, I1, r1, q1⟩)
def tIfS (c : TT) (t u : TS) : TS := fun D σ H => c σ H fun b H1 => if b = true then t D σ H1 else u D σ H1
theorem ps_if {c : Expr} {a b : List Stmt} {tc : TT} (hc : PT X c tc) (ha : PSs X a t) (hb : PSs X b u) : PS X (.If c a b pos) (tIfS tc t u) := by
 intro pins s σ H D I h
 refine wpAny_If (thn (hc pins s σ H _ I h) fun d s1 ⟨H1, I1, q1⟩ => ?_)
 cases d with
 | true => exact ha pins s1 σ H1 D I1 q1
 | false => exact hb pins s1 σ H1 D I1 q1
def tNever : TS := fun _ _ _ => False
theorem pss_never {sts : List Stmt} : PSs X sts tNever := fun _ _ _ _ _ _ h => h.elim
end
abbrev TG := V -> St -> Hp -> (St -> Hp -> Prop) -> Prop
abbrev TGs := List V -> St -> Hp -> (St -> Hp -> Prop) -> Prop
def PG (X : Cx) (target : Expr) (t : TG) : Prop :=
 ∀ (pins : List (Addr × Obj)) (s : Shared) (σ : St) (H : Hp) (v : V) (u : Value) (Q : St -> Hp -> Prop), Inv X pins σ H s -> RelV v u -> t v σ H Q ->
  wpAny (model X.prog X.w) X.A (assign target X.env u) (fun _ s' => ∃ σ' H', Inv X pins σ' H' s' /\ Q σ' H') X.xe s
def PGs (X : Cx) (ts : List Expr) (t : TGs) : Prop :=
 ∀ (pins : List (Addr × Obj)) (s : Shared) (σ : St) (H : Hp) (vs : List V) (us : List Value) (Q : St -> Hp -> Prop), Inv X pins σ H s -> Vals vs us -> t vs σ H Q ->
  wpAny (model X.prog X.w) X.A (assignInOrder ((assignEach ts X.env).map (·.2)) us) (fun _ s' => ∃ σ' H', Inv X pins σ' H' s' /\ Q σ' H') X.xe s
abbrev TSet := V -> V -> V -> Hp -> (Hp -> Prop) -> Prop
def PSet (X : Cx) (t : TSet) : Prop :=
 ∀ (pins : List (Addr × Obj)) (s : Shared) (σ : St) (H : Hp) (o i v : V) (ov iv u : Value) (Q : Hp -> Prop), Inv X pins σ H s -> RelV o ov -> RelV i iv -> RelV v u -> t o i v H Q ->
  wpAny (model X.prog X.w) X.A (setItem ov iv u) (fun _ s' => ∃ H', Inv X pins σ H' s' /\ Q H') X.xe s
abbrev TIp := V -> V -> Hp -> VK -> Prop
def PIp (X : Cx) (op : Operator) (t : TIp) : Prop :=
 ∀ (pins : List (Addr × Obj)) (s : Shared) (σ : St) (H : Hp) (x y : V) (v u : Value) (Q : VK), Inv X pins σ H s -> RelV x v -> RelV y u -> t x y H Q ->
  wpAny (model X.prog X.w) X.A (inplaceOp op v u) (EP X pins σ Q) X.xe s
section
variable {X : Cx} {pos : Pos}
def gName (i : Nat) : TG := fun v σ H Q => Q (σ.set i (some v)) H
theorem pg_name {i : Nat} {x : Str} (hN : X.N.Nodup) (hi : X.N[i]? = some x) (hx : Loc X.env.scope x) (hf : X.fn x = true \/ X.env.scope.names.lookup x = some .local := by first | exact .inl rfl | exact .inr rfl | assumption) : PG X (.Name x pos) (gName i) := by
 intro pins s σ H v u Q I r h
 exact wpAny_assign_Name (store_ok I hN hi hx r (fun s' I' => ⟨_, H, I', h⟩) hf)
def gNil : TGs := fun vs σ H Q => vs = [] /\ Q σ H
def gCons (t : TG) (u : TGs) : TGs := fun vs σ H Q => ∃ v r, vs = v :: r /\ t v σ H fun σ' H' => u r σ' H' Q
theorem pgs_nil : PGs X [] gNil := by
 intro pins s σ H vs us Q I r h
 obtain ⟨e, h⟩ := h
 subst e
 cases r
 exact assignInOrder_nil ⟨σ, H, I, h⟩
theorem pgs_cons {e : Expr} {es : List Expr} {t : TG} {u : TGs} (h1 : PG X e t) (h2 : PGs X es u)
  (hs : (assignEach (e :: es) X.env).map (·.2) = assign e X.env :: (assignEach es X.env).map (·.2) := by rfl) : PGs X (e :: es) (gCons t u) := by
 intro pins s σ H vs us Q I r h
 obtain ⟨v, vr, e1, h⟩ := h
 subst e1
 cases r with
 | cons r rr =>
  rw [hs]
  refine assignInOrder_cons (thn (h1 pins s σ H _ _ _ I r h) fun _ s1 ⟨σ1, H1, I1, q1⟩ => ?_)
  exact h2 pins s1 σ1 H1 _ _ Q I1 rr q1
def gTup (K : W.Frag) (n : Nat) (t : TGs) : TG := fun v σ H Q => ∃ a xs, v = .ref a /\ SqT K H a xs /\ xs.length = n /\ t xs σ H Q
theorem pg_tup {es : List Expr} {k : Nat} {t : TGs} {n : Nat} (hc : X.calm = true) (h : PGs X es t)
  (hn : (assignEach es X.env).length = n := by rfl) (hst : (assignEach es X.env).findIdx? (·.1) = none := by rfl) : PG X (.Tuple es k pos) (gTup X.K n t) := by
 intro pins s σ H v u Q I r hw
 obtain ⟨a, xs, e1, hq, hl, hw⟩ := hw
 subst e1
 cases r
 obtain ⟨its, rv, ht, hz⟩ := I.tuple hq
 refine assign_Tuple_tuple (I.ok.hd hc) ht (by simp [hn, <- hl, rv.length]) hst fun h' hx => ?_
 have I1 : Inv X pins σ H { s with heap := h' } := I.kept (t' := s.toks) fun b o e => hx b o (Nat.ne_of_lt (Heap.lt_size e)) e
 exact h pins _ σ H xs _ Q I1 (by simpa using rv) hw
def gSub (to ti : TE) (t : TSet) : TG := fun v σ H Q => to σ H fun o H1 => ti σ H1 fun i H2 => t o i v H2 fun H3 => Q σ H3
theorem pg_sub {o i : Expr} {to ti : TE} {t : TSet} (ho : PE X o to) (hi : PE X i ti) (hs : PSet X t)
  (ha : ∀ v, assign (.Subscript o i pos) X.env v = (do
   let ov <- holding [v] (eval o X.env)
   let iv <- holding [v, ov] (eval i X.env)
   standAt pos
   holding [v, ov, iv] (setItem ov iv v)
   release [v, ov, iv] []) := by intro _; rfl) : PG X (.Subscript o i pos) (gSub to ti t) := by
 intro pins s σ H v u Q I r h
 rw [ha]
 refine wpAny_bind (wpAny_holding (thn (ho pins s σ H _ I h) fun ov s1 ⟨x, H1, I1, r1, q1⟩ => ?_))
 refine wpAny_bind (wpAny_holding (thn (hi pins s1 σ H1 _ I1 q1) fun iv s2 ⟨y, H2, I2, r2, q2⟩ => ?_))
 refine wpAny_bind (wpAny_standAt (wpAny_bind (wpAny_holding (thn (hs pins s2 σ H2 x y v ov iv u _ I2 r1 r2 r q2) fun _ s3 ⟨H3, I3, q3⟩ => ?_))))
 exact wpAny_release ⟨σ, H3, I3, q3⟩
def tAsg (te : TE) (g : TG) : TS := fun D σ H => te σ H fun x H1 => g x σ H1 D.nx
theorem ps_asg {tg e : Expr} {te : TE} {g : TG} (he : PE X e te) (hg : PG X tg g) (hs : swapsWithSole [tg] e pos.line X.env = pure false := by rfl) (hw : swappedStores [tg] e X.env = pure none := by rfl)
  (h1 : (assignEach [tg] X.env).map (·.2) = [assign tg X.env] := by rfl) : PS X (.Assign [tg] e pos) (tAsg te g) := by
 intro pins s σ H D I h
 refine wpAny_Assign_stores (thn (he pins s σ H _ I h) fun v s1 ⟨x, H1, I1, r1, q1⟩ => ?_) hs hw
 rw [h1]
 exact thn (hg pins s1 σ H1 x v _ I1 r1 q1) fun _ s2 q => q
theorem ps_set {i : Nat} {x : Str} {e : Expr} {te : TE} {pos' : Pos} (hN : X.N.Nodup) (hi : X.N[i]? = some x) (hx : Loc X.env.scope x) (he : PE X e te) (hs : swapsWith e (some (.Name x pos')) pos.line X.env = pure false := by rfl) (hf : X.fn x = true \/ X.env.scope.names.lookup x = some .local := by first | exact .inl rfl | exact .inr rfl | assumption) :
  PS X (.Assign [.Name x pos'] e pos) (tAsg te (gName i)) := by
 intro pins s σ H D I h
 refine wpAny_Assign_Name (thn (he pins s σ H _ I h) fun v s1 ⟨y, H1, I1, r1, q1⟩ => ?_) hs
 exact store_ok I1 hN hi hx r1 (fun s2 I2 => ⟨_, H1, I2, q1⟩) hf
def tAug (i : Nat) (te : TE) (ti : TIp) : TS := fun D σ H => ∃ x, σ[i]? = some (some x) /\ te σ H fun y H1 => ti x y H1 fun z H2 => D.nx (σ.set i (some z)) H2
theorem ps_aug {i : Nat} {x : Str} {e : Expr} {te : TE} {op : Operator} {ti : TIp} {pos' : Pos} (hN : X.N.Nodup) (hi : X.N[i]? = some x) (hx : Loc X.env.scope x) (he : PE X e te) (ho : PIp X op ti) (hf : X.fn x = true \/ X.env.scope.names.lookup x = some .local := by first | exact .inl rfl | exact .inr rfl | assumption) :
  PS X (.AugAssign (.Name x pos') op e pos) (tAug i te ti) := by
 intro pins s σ H D I h
 obtain ⟨v, e1, h⟩ := h
 obtain ⟨m, hn, hl⟩ := I.loc
 have vis : Vis X.env.scope x := by rcases hx with k | k; exact .inl k; exact .inr (.inl k)
 obtain ⟨u, r, l⟩ := hl i x v hi e1 vis
 refine wpAny_AugAssign_Name ?_
 have go : wpAny (model X.prog X.w) X.A (eval e X.env) (fun w s₂ => wpAny (model X.prog X.w) X.A (inplaceOp op u w) (fun r s₃ => wpAny (model X.prog X.w) X.A (storeName X.env x r) (fun _ => SP X pins D .next) X.xe s₃) X.xe s₂) X.xe s := by
  refine thn (he pins s σ H _ I h) fun w s1 ⟨y, H1, I1, r1, q1⟩ => ?_
  refine thn (ho pins s1 σ H1 v y u w _ I1 r r1 q1) fun z s2 ⟨zv, H2, I2, r2, q2⟩ => ?_
  exact store_ok I2 hN hi hx r2 (fun s3 I3 => ⟨_, H2, I3, q2⟩) hf
 rcases l with ⟨hk, hm⟩ | ⟨hk, c, hc, hcell⟩
 ·exact wpAny_loadName_local I.ok.kind hk hn hm go
 ·rcases hk with hk | hk
  ·exact wpAny_loadName_cell I.ok.kind hk hc hcell go
  ·rcases hx with k | k
   ·have : X.env.scope.names.lookup x = some .free := hk
    rw [k] at this; cases this
   ·have : X.env.scope.names.lookup x = some .free := hk
    rw [k] at this; cases this
def tAugS (to ti te : TE) (tget : V -> V -> Hp -> VK -> Prop) (tip : TIp) (tset : TSet) : TS := fun D σ H => to σ H fun o H1 => ti σ H1 fun i H2 => tget o i H2 fun x H3 => te σ H3 fun y H4 => tip x y H4 fun z H5 => tset o i z H5 fun H6 => D.nx σ H6
def PGet (X : Cx) (t : V -> V -> Hp -> VK -> Prop) : Prop :=
 ∀ (pins : List (Addr × Obj)) (s : Shared) (σ : St) (H : Hp) (o i : V) (ov iv : Value) (Q : VK), Inv X pins σ H s -> RelV o ov -> RelV i iv -> t o i H Q ->
  wpAny (model X.prog X.w) X.A (getItem ov iv) (EP X pins σ Q) X.xe s
theorem ps_augS {o i e : Expr} {to ti te : TE} {tget : V -> V -> Hp -> VK -> Prop} {tip : TIp} {tset : TSet} {op : Operator} {tpos : Pos} (ho : PE X o to) (hi : PE X i ti) (hg : PGet X tget) (he : PE X e te) (hp : PIp X op tip) (hs : PSet X tset)
  (ha : ∀ ov iv new, augStore i ov iv new = (do holding [new, ov, iv] (setItem ov iv new); release [new, ov, iv] []; pure .next) := by intros; rfl) : PS X (.AugAssign (.Subscript o i tpos) op e pos) (tAugS to ti te tget tip tset) := by
 intro pins s σ H D I h
 refine wpAny_AugAssign_SubscriptAny (thn (ho pins s σ H _ I h) fun ov s1 ⟨x1, H1, I1, r1, q1⟩ => ?_) ha
 refine thn (hi pins s1 σ H1 _ I1 q1) fun iv s2 ⟨x2, H2, I2, r2, q2⟩ => ?_
 refine thn (hg pins s2 σ H2 x1 x2 ov iv _ I2 r1 r2 q2) fun old s3 ⟨x3, H3, I3, r3, q3⟩ => ?_
 refine thn (he pins s3 σ H3 _ I3 q3) fun v s4 ⟨x4, H4, I4, r4, q4⟩ => ?_
 refine thn (hp pins s4 σ H4 x3 x4 old v _ I4 r3 r4 q4) fun new s5 ⟨x5, H5, I5, r5, q5⟩ => ?_
 exact thn (hs pins s5 σ H5 x1 x2 x5 ov iv new _ I5 r1 r2 r5 q5) fun _ s6 ⟨H6, I6, q6⟩ => ⟨σ, H6, I6, q6⟩
def ipI (f : Int -> Int -> Int) : TIp := fun x y H Q => ∃ i j, x = .int i /\ y = .int j /\ Q (.int (f i j)) H
theorem ip_add : PIp X .Add (ipI fun i j => i + j) := by
 intro pins s σ H x y v u Q I r1 r2 h
 obtain ⟨i, j, e1, e2, q⟩ := h
 subst e1; subst e2
 obtain ⟨t, rfl⟩ := r1
 obtain ⟨t', rfl⟩ := r2
 exact iadd_int ⟨.int _, H, I.tok _, ⟨_, rfl⟩, q⟩
end
section
variable {X : Cx} {pos : Pos}
def tWhile (c : TT) (tb : TS) : TS := fun D σ H => ∃ W : Nat -> St -> Hp -> Prop, (∃ m, W m σ H) /\ ∀ m σ H, W m σ H ->
 c σ H fun b H1 => if b = true then ∃ N : St -> Hp -> Prop, (∀ σ' H', N σ' H' -> ∃ m', m' < m /\ W m' σ' H') /\ tb { D with nx := N, ct := N, bk := D.nx } σ H1 else D.nx σ H1
theorem ps_while {c : Expr} {body : List Stmt} {tc : TT} {tb : TS} (hp : PassesOwn (model X.prog X.w) X.A X.env X.xe) (hc : PT X c tc) (hb : PSs X body tb) : PS X (.While c body [] pos) (tWhile tc tb) := by
 intro pins s σ H D I h
 obtain ⟨W, ⟨m0, w0⟩, turn⟩ := h
 refine wpAny_While (codeAny_whileLoop (fun n s' => ∃ σ' H', Inv X pins σ' H' s' /\ W n σ' H') ?_ m0 ⟨σ, H, I, w0⟩)
 rintro n s1 ⟨σ1, H1, I1, w1⟩
 refine wpAny_passesOwn hp (thn (hc pins s1 σ1 H1 _ I1 (turn n σ1 H1 w1)) fun b s2 ⟨H2, I2, q2⟩ => ?_)
 cases b with
 | true =>
  obtain ⟨N, hN, q2⟩ := q2
  rw [if_pos rfl]
  refine wpAny_passesOwn hp (thn (hb pins s2 σ1 H2 _ I2 q2) fun f s3 q3 => ?_)
  cases f with
  | next =>
   obtain ⟨σ3, H3, I3, n3⟩ := q3
   obtain ⟨m', hm, w3⟩ := hN σ3 H3 n3
   exact ⟨m', hm, σ3, H3, I3, w3⟩
  | cont =>
   obtain ⟨σ3, H3, I3, n3⟩ := q3
   obtain ⟨m', hm, w3⟩ := hN σ3 H3 n3
   exact ⟨m', hm, σ3, H3, I3, w3⟩
  | brk => exact q3
  | ret v => exact q3
 | false =>
  rw [if_neg Bool.false_ne_true]
  exact wpAny_execs_nil ⟨σ1, H2, I2, q2⟩
end
structure It where
 go : Nat -> Hp -> Prop
 yld : Nat -> Hp -> V -> Hp -> Prop
 stop : Nat -> Hp -> Prop
def FpOk (X : Cx) (pins : List (Addr × Obj)) (H : Hp) (b : Addr) : Prop :=
 H b = none /\ b ≠ X.env.locals /\ b ∉ X.fs /\ (b ∈ X.ex \/ X.s₀.heap.objs.size <= b) /\ (∀ x c, X.env.cells.lookup x = some c -> c ≠ b) /\ ∀ p ∈ X.pn ++ pins, p.1 ≠ b
theorem Inv.fpOk {X : Cx} {pins : List (Addr × Obj)} {σ : St} {H H' : Hp} {s : Shared} {b : Addr} (I : Inv X pins σ H s) (hb : s.heap.objs.size <= b) (hn : H' b = none) : FpOk X pins H' b := by
 refine ⟨hn, Nat.ne_of_gt (Nat.lt_of_lt_of_le I.lt hb), I.nofs hb, .inr (Nat.le_trans I.sz hb), fun x c e z => ?_, fun p hp z => ?_⟩
 ·obtain ⟨v, q⟩ := I.cell x c e
  exact absurd (Nat.lt_of_lt_of_le q.lt (by rw [z]; exact hb)) (Nat.lt_irrefl _)
 ·exact absurd (Nat.lt_of_lt_of_le (Heap.lt_size (I.pin p hp).1) (by rw [z]; exact hb)) (Nat.lt_irrefl _)
structure Turn (P : Program) (w : World) (K : W.Frag) (tg : Expr) (J : It) (fp : List Addr) (it : Addr) (tn : Nat -> Heap -> Prop) : Prop where
 mem : it ∈ fp
 obj : ∀ i h, tn i h -> ∀ b ∈ fp, ∃ o, h.get? b = some o /\ ∀ v, o.data ≠ .cell v
 keep : ∀ i h h', tn i h -> (∀ b ∈ fp, ∀ o, h.get? b = some o -> h'.get? b = some o) -> tn i h'
 item : ∀ (X : Cx), X.prog = P -> X.w = w -> X.K = K -> X.calm = true -> ∀ (i : Nat) (pins : List (Addr × Obj)) (s : Shared) (σ : St) (H : Hp) (E : Value -> Shared -> Prop), Inv X pins σ H s -> (∀ b ∈ fp, FpOk X pins H b) -> tn i s.heap -> J.go i H ->
  wpAny (model P w) X.A (pyNext (.ref it)) (fun r s1 => ∃ u, r = some u /\
   wpAny (model P w) X.A (letOwnedTupleGo tg (.ref it) u) (fun _ s2 => ∃ x H', Inv X pins σ H' s2 /\ RelV x u /\ J.yld i H x H' /\ tn (i + 1) s2.heap /\ ∀ b ∈ fp, H' b = none) E s1) E s
 done : ∀ (X : Cx), X.prog = P -> X.w = w -> X.K = K -> X.calm = true -> ∀ (i : Nat) (pins : List (Addr × Obj)) (s : Shared) (σ : St) (H : Hp) (E : Value -> Shared -> Prop), Inv X pins σ H s -> (∀ b ∈ fp, FpOk X pins H b) -> tn i s.heap -> J.stop i H ->
  wpAny (model P w) X.A (pyNext (.ref it)) (fun r s1 => r = none /\ Inv X pins σ H s1) E s
 self : ∀ (A : Around) (i : Nat) (s : Shared) (Q : Value -> Shared -> Prop) (E : Value -> Shared -> Prop), tn i s.heap -> Q (.ref it) s -> wpAny (model P w) A (pyIter (.ref it)) Q E s
abbrev TI := St -> Hp -> (It -> Hp -> Prop) -> Prop
def PIE (X : Cx) (pins : List (Addr × Obj)) (σ : St) (tg : Expr) (R : It -> Hp -> Prop) (itv : Value) (s2 : Shared) : Prop :=
 ∃ (it : Addr) (fp : List Addr) (tn : Nat -> Heap -> Prop) (J : It) (H' : Hp), itv = .ref it /\ Inv X pins σ H' s2 /\ Turn X.prog X.w X.K tg J fp it tn /\ tn 0 s2.heap /\ (∀ b ∈ fp, FpOk X pins H' b) /\ R J H'
def PI (X : Cx) (tg iter : Expr) (wi : TI) : Prop :=
 ∀ (pins : List (Addr × Obj)) (s : Shared) (σ : St) (H : Hp) (R : It -> Hp -> Prop), Inv X pins σ H s -> wi σ H R ->
  wpAny (model X.prog X.w) X.A (eval iter X.env) (fun v s1 => wpAny (model X.prog X.w) X.A (pyIter v) (PIE X pins σ tg R) X.xe s1) X.xe s
theorem go_of {M : Model} {A : Around} {E : Value -> Shared -> Prop} {s : Shared} {tg : Expr} {it : Addr} {u : Value} {o : Obj} {n : String} {vs : Array Value} {Q : Unit -> Shared -> Prop} (ho : s.heap.get? it = some o) (hc : o.cls = .type n) (hd : o.data = .fields vs)
    (hn : ["enumerate", "zip", "dict_itemiterator", "dict_reverseitemiterator", "odict_iterator", "itertools.zip_longest", "itertools.pairwise"].contains n = false) (hQ : Q () s) : wpAny M A (letOwnedTupleGo tg (.ref it) u) Q E s := by
  unfold letOwnedTupleGo
  cases tg <;> first
    | exact wpAny_pure hQ
    | (cases u <;> first
        | exact wpAny_pure hQ
        | (refine wpAny_bind (wpAny_load ho ?_)
           rw [hc, hd]
           show wpAny M A (if (["enumerate", "zip", "dict_itemiterator", "dict_reverseitemiterator", "odict_iterator", "itertools.zip_longest", "itertools.pairwise"].contains n && vs[0]? == some (rawInt _)) = true then _ else _) Q E s
           rw [if_neg (by intro h; rw [hn, Bool.false_and] at h; cases h)]
           exact wpAny_pure hQ))
def Itl (K : W.Frag) (a : Addr) : It :=
 ⟨fun i H => ∃ xs x, SqL K H a xs /\ xs[i]? = some x, fun i H x H' => H' = H /\ ∀ xs, SqL K H a xs -> xs[i]? = some x, fun i H => ∃ xs, SqL K H a xs /\ xs.length <= i⟩
def Itt (K : W.Frag) (a : Addr) : It :=
 ⟨fun i H => ∃ xs x, SqT K H a xs /\ xs[i]? = some x, fun i H x H' => H' = H /\ ∀ xs, SqT K H a xs -> xs[i]? = some x, fun i H => ∃ xs, SqT K H a xs /\ xs.length <= i⟩
def Itr (lo : Int) (n : Nat) : It := ⟨fun i _ => i < n, fun i H x H' => H' = H /\ x = .int (lo + i), fun i _ => n <= i⟩
theorem turn_list {P : Program} {w : World} {K : W.Frag} {tg : Expr} (a it : Addr) : Turn P w K tg (Itl K a) [it] it (fun i h => h.IsListIter it a i) where
 mem := by simp
 obj := fun i h st b hb => by
  have e : b = it := by simpa using hb
  subst e
  obtain ⟨o, e, c, d⟩ := st
  exact ⟨o, e, fun v z => by rw [d] at z; cases z⟩
 keep := fun i h h' st k => st.at fun o e => k it (by simp) o e
 item := by
  intro X hP hw hK hc i pins s σ H E I hf st hg
  subst hP hw hK
  obtain ⟨xs, x, hq, hx⟩ := hg
  obtain ⟨its, rv, p, hz⟩ := I.list hq
  obtain ⟨u, hu, ru⟩ := rv.get hx
  obtain ⟨f0, f1, f2, f3, f4, f5⟩ := hf it (by simp)
  refine wpAny_pyNext_list_item st p.isList (x := u) (by simpa using hu) fun h' st' sb => ?_
  have I1 : Inv X pins σ H { s with heap := h' } := I.turned (t' := s.toks) (fun b o hb e => (sb.2 b hb).trans e) f0 f1 f3 f4 f5
  obtain ⟨o, e, c, d⟩ := id st'
  exact ⟨u, rfl, go_of (s := { s with heap := h' }) e c d (by decide) ⟨x, H, I1, ru, ⟨rfl, fun ys hy => by rw [I.list_inj hy hq]; exact hx⟩, st', fun b hb => (hf b hb).1⟩⟩
 done := by
  intro X hP hw hK hc i pins s σ H E I hf st hg
  subst hP hw hK
  obtain ⟨xs, hq, hx⟩ := hg
  obtain ⟨its, rv, p, hz⟩ := I.list hq
  obtain ⟨f0, f1, f2, f3, f4, f5⟩ := hf it (by simp)
  have hl := rv.length
  exact wpAny_pyNext_list_end (I.ok.hd hc) st p.isList (by simp; omega) fun h' eb => ⟨rfl, I.turned (t' := s.toks) (fun b o hb e => eb b o hb e) f0 f1 f3 f4 f5⟩
 self := fun _ _ _ _ _ st h => wpAny_pyIter_listiter st h
theorem turn_tuple {P : Program} {w : World} {K : W.Frag} {tg : Expr} (a it : Addr) : Turn P w K tg (Itt K a) [it] it (fun i h => h.IsTupleIter it a i) where
 mem := by simp
 obj := fun i h st b hb => by
  have e : b = it := by simpa using hb
  subst e
  obtain ⟨o, e, c, d⟩ := st
  exact ⟨o, e, fun v z => by rw [d] at z; cases z⟩
 keep := fun i h h' st k => st.at fun o e => k it (by simp) o e
 item := by
  intro X hP hw hK hc i pins s σ H E I hf st hg
  subst hP hw hK
  obtain ⟨xs, x, hq, hx⟩ := hg
  obtain ⟨its, rv, p, hz⟩ := I.tuple hq
  obtain ⟨u, hu, ru⟩ := rv.get hx
  obtain ⟨f0, f1, f2, f3, f4, f5⟩ := hf it (by simp)
  refine wpAny_pyNext_tuple_item st (show s.heap.IsTuple a its.toArray from p) (x := u) (by simpa using hu) fun h' st' sb => ?_
  have I1 : Inv X pins σ H { s with heap := h' } := I.turned (t' := s.toks) (fun b o hb e => (sb.2 b hb).trans e) f0 f1 f3 f4 f5
  obtain ⟨o, e, c, d⟩ := id st'
  exact ⟨u, rfl, go_of (s := { s with heap := h' }) e c d (by decide) ⟨x, H, I1, ru, ⟨rfl, fun ys hy => by rw [I.tuple_inj hy hq]; exact hx⟩, st', fun b hb => (hf b hb).1⟩⟩
 done := by
  intro X hP hw hK hc i pins s σ H E I hf st hg
  subst hP hw hK
  obtain ⟨xs, hq, hx⟩ := hg
  obtain ⟨its, rv, p, hz⟩ := I.tuple hq
  obtain ⟨f0, f1, f2, f3, f4, f5⟩ := hf it (by simp)
  have hl := rv.length
  exact wpAny_pyNext_tuple_end (I.ok.hd hc) st (show s.heap.IsTuple a its.toArray from p) (by simp; omega) fun h' eb => ⟨rfl, I.turned (t' := s.toks) (fun b o hb e => eb b o hb e) f0 f1 f3 f4 f5⟩
 self := fun _ _ _ _ _ st h => wpAny_pyIter_tupleiter st h
theorem turn_range {P : Program} {w : World} {K : W.Frag} {tg : Expr} (it : Addr) (lo : Int) (n : Nat) : Turn P w K tg (Itr lo n) [it] it (fun i h => IsRangeIter h it (lo + (i : Nat) * 1) ((n : Int) - (i : Nat)) 1) where
 mem := by simp
 obj := fun i h st b hb => by
  have e : b = it := by simpa using hb
  subst e
  exact ⟨_, st, fun v z => by
   have z' : Data.fields _ = Data.cell v := z
   cases z'⟩
 keep := fun i h h' st k => k it (by simp) _ st
 item := by
  intro X hP hw hK hc i pins s σ H E I hf st hg
  subst hP hw hK
  obtain ⟨f0, f1, f2, f3, f4, f5⟩ := hf it (by simp)
  have W := Walks.range (prog := X.prog) (w := X.w) (I.ok.hd hc) it lo 1 n
  refine W.item i s _ _ hg st fun v h' tk hv st' kk => ?_
  obtain ⟨t, rfl⟩ := hv
  have I1 : Inv X pins σ H { s with heap := h', toks := tk } := I.turned (fun b o hb e => kk b o (by simpa using hb) e) f0 f1 f3 f4 f5
  refine ⟨_, rfl, go_of (s := { s with heap := h', toks := tk }) (n := "range_iterator") st' rfl rfl (by decide) ⟨.int (lo + i), H, I1, ⟨t, ?_⟩, ⟨rfl, rfl⟩, st', fun b hb => (hf b hb).1⟩⟩
  rw [Int.mul_one]
 done := by
  intro X hP hw hK hc i pins s σ H E I hf st hg
  subst hP hw hK
  obtain ⟨f0, f1, f2, f3, f4, f5⟩ := hf it (by simp)
  exact wpAny_pyNext_range_end (I.ok.hd hc) st (by have : n <= i := hg; omega) fun h' eb => ⟨rfl, I.turned (t' := s.toks) (fun b o hb e => eb b o hb e) f0 f1 f3 f4 f5⟩
 self := fun _ _ _ _ _ st h => wpAny_pyIter_rangeiter st h
section
variable {X : Cx} {tg : Expr}
def iList (K : W.Frag) (tl : TE) : TI := fun σ H R => tl σ H fun x H1 => ∃ a, x = .ref a /\ (∃ xs, SqL K H1 a xs) /\ R (Itl K a) H1
def iTup (K : W.Frag) (tl : TE) : TI := fun σ H R => tl σ H fun x H1 => ∃ a, x = .ref a /\ (∃ xs, SqT K H1 a xs) /\ R (Itt K a) H1
theorem pi_list {l : Expr} {tl : TE} (hl : PE X l tl) : PI X tg l (iList X.K tl) := by
 intro pins s σ H R I h
 refine thn (hl pins s σ H _ I h) fun v s1 ⟨x, H1, I1, r1, q1⟩ => ?_
 obtain ⟨a, e, ⟨xs, hq⟩, q⟩ := q1
 subst e
 cases r1
 obtain ⟨its, rv, p, hz⟩ := I1.list hq
 refine wpAny_pyIter_list p.isList ?_
 refine ⟨s1.heap.objs.size, [s1.heap.objs.size], _, _, H1, rfl, I1.kept (t' := s1.toks) fun b o e => Heap.get?_push_of_some _ e, turn_list a _, ⟨_, Heap.get?_push_size _ rfl, rfl, rfl⟩, fun b hb => ?_, q⟩
 have e : b = s1.heap.objs.size := by simpa using hb
 subst e
 exact I1.fpOk (Nat.le_refl _) (I1.hok.fresh (Nat.le_refl _))
theorem pi_tup {l : Expr} {tl : TE} (hl : PE X l tl) : PI X tg l (iTup X.K tl) := by
 intro pins s σ H R I h
 refine thn (hl pins s σ H _ I h) fun v s1 ⟨x, H1, I1, r1, q1⟩ => ?_
 obtain ⟨a, e, ⟨xs, hq⟩, q⟩ := q1
 subst e
 cases r1
 obtain ⟨its, rv, p, hz⟩ := I1.tuple hq
 refine wpAny_pyIter_tuple (show s1.heap.IsTuple a its.toArray from p) ?_
 refine ⟨s1.heap.objs.size, [s1.heap.objs.size], _, _, H1, rfl, I1.kept (t' := s1.toks) fun b o e => Heap.get?_push_of_some _ e, turn_tuple a _, ⟨_, Heap.get?_push_size _ rfl, rfl, rfl⟩, fun b hb => ?_, q⟩
 have e : b = s1.heap.objs.size := by simpa using hb
 subst e
 exact I1.fpOk (Nat.le_refl _) (I1.hok.fresh (Nat.le_refl _))
theorem range_it {pins : List (Addr × Obj)} {σ : St} {H : Hp} {s : Shared} {R : It -> Hp -> Prop} {E : Value -> Shared -> Prop} {lo hi : Int} {t u v : Tok} {tk : Nat} (I : Inv X pins σ H s) (h1 : -(2 ^ 62) <= lo) (h2 : lo < 2 ^ 62) (h3 : -(2 ^ 62) <= hi) (h4 : hi < 2 ^ 62)
  (q : R (Itr lo (hi - lo).toNat) H) : wpAny (model X.prog X.w) X.A (pyIter (.ref s.heap.objs.size)) (PIE X pins σ tg R) E { s with heap := s.heap.push { cls := .type "range", data := .fields #[.int lo t, .int hi u, .int 1 v] }, toks := tk } := by
 refine wpAny_pyIter_range (IsRange.new ..) (small_one h1 h2 h3 h4) ?_
 have I1 : Inv X pins σ H { s with heap := s.heap.push { cls := .type "range", data := .fields #[.int lo t, .int hi u, .int 1 v] }, toks := tk } := I.kept fun b o e => Heap.get?_push_of_some _ e
 refine ⟨(s.heap.push { cls := .type "range", data := .fields #[.int lo t, .int hi u, .int 1 v] }).objs.size, [(s.heap.push { cls := .type "range", data := .fields #[.int lo t, .int hi u, .int 1 v] }).objs.size], _, _, H, rfl,
  I1.kept (t' := tk) fun b o e => Heap.get?_push_of_some _ e, turn_range _ lo (hi - lo).toNat, ?_, fun b hb => ?_, q⟩
 ·have e1 : lo + ((0 : Nat) : Int) * 1 = lo := by simp
  have e2 : (((hi - lo).toNat : Nat) : Int) - ((0 : Nat) : Int) = Builtin.Range.rangeSize lo hi 1 := by rw [rangeSize_one]; split <;> omega
  show IsRangeIter _ _ (lo + ((0 : Nat) : Int) * 1) ((((hi - lo).toNat : Nat) : Int) - ((0 : Nat) : Int)) 1
  rw [e1, e2]
  exact Heap.get?_push_size _ rfl
 ·have e : b = (s.heap.push { cls := .type "range", data := .fields #[.int lo t, .int hi u, .int 1 v] }).objs.size := by simpa using hb
  subst e
  exact I1.fpOk (Nat.le_refl _) (I1.hok.fresh (Nat.le_refl _))
def iRng1 (ta : TA) : TI := fun σ H R => ta σ H fun vs H1 => ∃ j : Int, vs = [.int j] /\ -(2 ^ 62) <= j /\ j < 2 ^ 62 /\ R (Itr 0 j.toNat) H1
def iRng2 (ta : TA) : TI := fun σ H R => ta σ H fun vs H1 => ∃ i j : Int, vs = [.int i, .int j] /\ (-(2 ^ 62) <= i /\ i < 2 ^ 62 /\ -(2 ^ 62) <= j /\ j < 2 ^ 62) /\ R (Itr i (j - i).toNat) H1
theorem pi_range1 {a : Expr} {ta : TA} {p pos : Pos} (hg : Gl X "range") (hm : X.mg "range" = none) (ha : PA X [a] ta) (hs : starEach [a] X.env = [(false, eval a X.env)] := by rfl) : PI X tg (.Call (.Name "range" p) [a] [] pos) (iRng1 ta) := by
 intro pins s σ H R I h
 refine Call_ (ld_blt I hg hm boot_range (PyProof.Rows.callWith_type1 (thn (ha pos pins s σ H _ I h) fun us s1 ⟨vs, H1, I1, r1, q1⟩ => ?_) hs rfl))
 obtain ⟨j, e, q1, q2, q⟩ := q1
 subst e
 cases r1 with
 | cons r rr =>
  cases rr
  obtain ⟨t, rfl⟩ := r
  exact call_range_1 (range_it I1 (by omega) (by omega) q1 q2 (by simpa using q))
theorem pi_range2 {a b : Expr} {ta : TA} {p pos : Pos} (hg : Gl X "range") (hm : X.mg "range" = none) (ha : PA X [a, b] ta) (hs : starEach [a, b] X.env = [(false, eval a X.env), (false, eval b X.env)] := by rfl) (hs2 : starEach [b] X.env = [(false, eval b X.env)] := by rfl) :
  PI X tg (.Call (.Name "range" p) [a, b] [] pos) (iRng2 ta) := by
 intro pins s σ H R I h
 refine Call_ (ld_blt I hg hm boot_range (PyProof.Rows.callWith_type1 (thn (ha pos pins s σ H _ I h) fun us s1 ⟨vs, H1, I1, r1, q1⟩ => ?_) (by rw [hs, hs2]) (by rw [hs2]; rfl)))
 obtain ⟨i, j, e, ⟨q1, q2, q3, q4⟩, q⟩ := q1
 subst e
 cases r1 with
 | cons r rr =>
  cases rr with
  | cons r' rr =>
   cases rr
   obtain ⟨t, rfl⟩ := r
   obtain ⟨t', rfl⟩ := r'
   exact call_range_2 (range_it I1 q1 q2 q3 q4 q)
def tFor (wi : TI) (g : TG) (tb : TS) : TS := fun D σ H => wi σ H fun J H1 => ∃ W : Nat -> Nat -> St -> Hp -> Prop, (∃ m, W 0 m σ H1) /\ ∀ i m σ H, W i m σ H ->
 (J.stop i H /\ D.nx σ H) \/ (J.go i H /\ ∃ N : St -> Hp -> Prop, (∀ σ' H', N σ' H' -> ∃ m', m' < m /\ W (i + 1) m' σ' H') /\ ∀ x H', J.yld i H x H' -> g x σ H' fun σ2 H2 => tb { D with nx := N, ct := N, bk := D.nx } σ2 H2)
def pinsAt (fp : List Addr) (h : Heap) : List (Addr × Obj) := fp.filterMap fun b => (h.get? b).map fun o => (b, o)
theorem mem_pinsAt {fp : List Addr} {h : Heap} {b : Addr} {o : Obj} (hb : b ∈ fp) (e : h.get? b = some o) : (b, o) ∈ pinsAt fp h := List.mem_filterMap.mpr ⟨b, hb, by rw [e]; rfl⟩
theorem of_pinsAt {fp : List Addr} {h : Heap} {p : Addr × Obj} (hp : p ∈ pinsAt fp h) : p.1 ∈ fp /\ h.get? p.1 = some p.2 := by
 obtain ⟨b, hb, e⟩ := List.mem_filterMap.mp hp
 cases q : h.get? b with
 | none => rw [q] at e; cases e
 | some o =>
  rw [q] at e
  have e' : (b, o) = p := Option.some.inj e
  subst e'
  exact ⟨hb, q⟩
theorem Inv.pinned {pins : List (Addr × Obj)} {σ : St} {H : Hp} {s : Shared} {fp : List Addr} (I : Inv X pins σ H s) (hf : ∀ b ∈ fp, FpOk X pins H b) (ho : ∀ b ∈ fp, ∃ o, s.heap.get? b = some o /\ ∀ v, o.data ≠ .cell v) : Inv X (pins ++ pinsAt fp s.heap) σ H s :=
 I.pins_of fun p hp => (List.mem_append.mp hp).elim (fun z => I.pin p (List.mem_append_right _ z)) fun z => by
  obtain ⟨hb, e⟩ := of_pinsAt z
  obtain ⟨f0, f1, f2, _⟩ := hf p.1 hb
  obtain ⟨o, e', d⟩ := ho p.1 hb
  rw [e] at e'; cases e'
  exact ⟨e, f0, f1, f2, d⟩
theorem Inv.unpinned {pins pl : List (Addr × Obj)} {σ : St} {H : Hp} {s : Shared} (I : Inv X (pins ++ pl) σ H s) : Inv X pins σ H s := I.pins_of fun p hp => I.pin p (List.mem_append_right _ (List.mem_append_left _ hp))
theorem ps_for {iter : Expr} {body : List Stmt} {wi : TI} {g : TG} {tb : TS} {pos : Pos} (hp : PassesOwn (model X.prog X.w) X.A X.env X.xe) (hc : X.calm = true) (hi : PI X tg iter wi) (hg : PG X tg g) (hb : PSs X body tb)
  (hs : ∀ x, foldedSetIterable iter X.env x = pure x := by intro _; rfl) : PS X (.For tg iter body [] pos) (tFor wi g tb) := by
 intro pins s σ H D I h
 refine wpAny_For (thn (hi pins s σ H _ I h) fun v s1 h1 => thn h1 fun itv s2 h2 => ?_) hs
 obtain ⟨it, fp, tn, J, H2, e, I2, T, st2, f2, W, ⟨m0, w0⟩, turn⟩ := h2
 subst e
 -- what stays true of the iterator's objects through the loop
 have stat : ∀ {H' : Hp}, (∀ b ∈ fp, H' b = none) -> ∀ b ∈ fp, FpOk X pins H' b := fun hn b hb => ⟨hn b hb, (f2 b hb).2⟩
 refine codeAny_forLoop_any (fun n s' => ∃ i σ' H', Inv X pins σ' H' s' /\ tn i s'.heap /\ (∀ b ∈ fp, H' b = none) /\ W i n σ' H') ?_ m0 ⟨0, σ, H2, I2, st2, fun b hb => (f2 b hb).1, w0⟩
 rintro n s3 ⟨i, σ3, H3, I3, st3, fr3, w3⟩
 rcases turn i n σ3 H3 w3 with ⟨stop, qn⟩ | ⟨go, N, hN, step⟩
 ·refine wpAny_passesOwn hp (thn (T.done X rfl rfl rfl hc i pins s3 σ3 H3 X.xe I3 (stat fr3) st3 stop) fun r s4 ⟨hr, I4⟩ => ?_)
  subst hr
  exact wpAny_execs_nil ⟨σ3, H3, I4, qn⟩
 ·refine wpAny_passesOwn hp (thn (T.item X rfl rfl rfl hc i pins s3 σ3 H3 X.xe I3 (stat fr3) st3 go) fun r s4 ⟨u, hr, h4⟩ => ?_)
  subst hr
  refine wpAny_passesOwn hp (thn h4 fun _ s5 ⟨x, H5, I5, r5, y5, st5, fr5⟩ => ?_)
  have I5' := I5.pinned (stat fr5) (T.obj _ _ st5)
  refine wpAny_passesOwn hp (thn (hg _ s5 σ3 H5 x u _ I5' r5 (step x H5 y5)) fun _ s6 ⟨σ6, H6, I6, q6⟩ => ?_)
  refine wpAny_passesOwn hp (thn (hb _ s6 σ6 H6 _ I6 q6) fun f s7 q7 => ?_)
  have again : ∀ {σ7 : St} {H7 : Hp}, Inv X (pins ++ pinsAt fp s5.heap) σ7 H7 s7 -> N σ7 H7 -> ∃ m, m < n /\ ∃ i σ' H', Inv X pins σ' H' s7 /\ tn i s7.heap /\ (∀ b ∈ fp, H' b = none) /\ W i m σ' H' := fun {σ7 H7} I7 n7 => by
   obtain ⟨m', hm, w7⟩ := hN σ7 H7 n7
   refine ⟨m', hm, i + 1, σ7, H7, I7.unpinned, T.keep _ _ _ st5 fun b hb o e => (I7.pin (b, o) (List.mem_append_right _ (List.mem_append_right _ (mem_pinsAt hb e)))).1, fun b hb => ?_, w7⟩
   obtain ⟨o, e, d⟩ := T.obj _ _ st5 b hb
   exact (I7.pin (b, o) (List.mem_append_right _ (List.mem_append_right _ (mem_pinsAt hb e)))).2.1
  cases f with
  | next => obtain ⟨σ7, H7, I7, n7⟩ := q7; exact again I7 n7
  | cont => obtain ⟨σ7, H7, I7, n7⟩ := q7; exact again I7 n7
  | brk => obtain ⟨σ7, H7, I7, q7⟩ := q7; exact ⟨σ7, H7, I7.unpinned, q7⟩
  | ret v => obtain ⟨x7, σ7, H7, I7, r7, q7⟩ := q7; exact ⟨x7, σ7, H7, I7.unpinned, r7, q7⟩
end
theorem for_list {K : W.Frag} {a : Addr} {xs : List V} {g : TG} {tb : TS} {D : Ends} {σ : St} {H : Hp} (Pv : Nat -> St -> Hp -> Prop) (h0 : Pv 0 σ H) (hl : ∀ i σ H, i <= xs.length -> Pv i σ H -> SqL K H a xs)
  (hs : ∀ i x σ H, xs[i]? = some x -> Pv i σ H -> g x σ H fun σ2 H2 => tb { D with nx := Pv (i + 1), ct := Pv (i + 1), bk := D.nx } σ2 H2) (hd : ∀ σ H, Pv xs.length σ H -> D.nx σ H) :
  ∃ W : Nat -> Nat -> St -> Hp -> Prop, (∃ m, W 0 m σ H) /\ ∀ i m σ H, W i m σ H ->
   ((Itl K a).stop i H /\ D.nx σ H) \/ ((Itl K a).go i H /\ ∃ N : St -> Hp -> Prop, (∀ σ' H', N σ' H' -> ∃ m', m' < m /\ W (i + 1) m' σ' H') /\ ∀ x H', (Itl K a).yld i H x H' -> g x σ H' fun σ2 H2 => tb { D with nx := N, ct := N, bk := D.nx } σ2 H2) := by
 refine ⟨fun i m σ H => m = xs.length - i /\ i <= xs.length /\ Pv i σ H, ⟨xs.length, by simp, Nat.zero_le _, h0⟩, ?_⟩
 rintro i m σ H ⟨rfl, hi, p⟩
 have q := hl i σ H hi p
 by_cases hlt : i < xs.length
 ·refine .inr ⟨⟨xs, xs[i], q, by simp [hlt]⟩, Pv (i + 1), fun σ' H' p' => ⟨xs.length - (i + 1), by omega, rfl, hlt, p'⟩, fun x H' y => ?_⟩
  obtain ⟨e, y⟩ := y
  subst e
  exact hs i x σ _ (y xs q) p
 ·have e : i = xs.length := by omega
  subst e
  exact .inl ⟨⟨xs, q, Nat.le_refl _⟩, hd σ H p⟩
theorem for_tup {K : W.Frag} {a : Addr} {xs : List V} {g : TG} {tb : TS} {D : Ends} {σ : St} {H : Hp} (Pv : Nat -> St -> Hp -> Prop) (h0 : Pv 0 σ H) (hl : ∀ i σ H, i <= xs.length -> Pv i σ H -> SqT K H a xs)
  (hs : ∀ i x σ H, xs[i]? = some x -> Pv i σ H -> g x σ H fun σ2 H2 => tb { D with nx := Pv (i + 1), ct := Pv (i + 1), bk := D.nx } σ2 H2) (hd : ∀ σ H, Pv xs.length σ H -> D.nx σ H) :
  ∃ W : Nat -> Nat -> St -> Hp -> Prop, (∃ m, W 0 m σ H) /\ ∀ i m σ H, W i m σ H ->
   ((Itt K a).stop i H /\ D.nx σ H) \/ ((Itt K a).go i H /\ ∃ N : St -> Hp -> Prop, (∀ σ' H', N σ' H' -> ∃ m', m' < m /\ W (i + 1) m' σ' H') /\ ∀ x H', (Itt K a).yld i H x H' -> g x σ H' fun σ2 H2 => tb { D with nx := N, ct := N, bk := D.nx } σ2 H2) := by
 refine ⟨fun i m σ H => m = xs.length - i /\ i <= xs.length /\ Pv i σ H, ⟨xs.length, by simp, Nat.zero_le _, h0⟩, ?_⟩
 rintro i m σ H ⟨rfl, hi, p⟩
 have q := hl i σ H hi p
 by_cases hlt : i < xs.length
 ·refine .inr ⟨⟨xs, xs[i], q, by simp [hlt]⟩, Pv (i + 1), fun σ' H' p' => ⟨xs.length - (i + 1), by omega, rfl, hlt, p'⟩, fun x H' y => ?_⟩
  obtain ⟨e, y⟩ := y
  subst e
  exact hs i x σ _ (y xs q) p
 ·have e : i = xs.length := by omega
  subst e
  exact .inl ⟨⟨xs, q, Nat.le_refl _⟩, hd σ H p⟩
theorem for_range {lo : Int} {n : Nat} {g : TG} {tb : TS} {D : Ends} {σ : St} {H : Hp} (Pv : Nat -> St -> Hp -> Prop) (h0 : Pv 0 σ H)
  (hs : ∀ i σ H, i < n -> Pv i σ H -> g (.int (lo + i)) σ H fun σ2 H2 => tb { D with nx := Pv (i + 1), ct := Pv (i + 1), bk := D.nx } σ2 H2) (hd : ∀ σ H, Pv n σ H -> D.nx σ H) :
  ∃ W : Nat -> Nat -> St -> Hp -> Prop, (∃ m, W 0 m σ H) /\ ∀ i m σ H, W i m σ H ->
   ((Itr lo n).stop i H /\ D.nx σ H) \/ ((Itr lo n).go i H /\ ∃ N : St -> Hp -> Prop, (∀ σ' H', N σ' H' -> ∃ m', m' < m /\ W (i + 1) m' σ' H') /\ ∀ x H', (Itr lo n).yld i H x H' -> g x σ H' fun σ2 H2 => tb { D with nx := N, ct := N, bk := D.nx } σ2 H2) := by
 refine ⟨fun i m σ H => m = n - i /\ i <= n /\ Pv i σ H, ⟨n, by simp, Nat.zero_le _, h0⟩, ?_⟩
 rintro i m σ H ⟨rfl, hi, p⟩
 by_cases hlt : i < n
 ·refine .inr ⟨hlt, Pv (i + 1), fun σ' H' p' => ⟨n - (i + 1), by omega, rfl, hlt, p'⟩, fun x H' y => ?_⟩
  obtain ⟨e, y⟩ := y
  subst e y
  exact hs i σ _ hlt p
 ·have e : i = n := by omega
  subst e
  exact .inl ⟨Nat.le_refl _, hd σ H p⟩
abbrev R2 := V -> V -> Hp -> VK -> Prop
def OpR (X : Cx) (f : Value -> Value -> Sem Value) (r : R2) : Prop :=
 ∀ (pins : List (Addr × Obj)) (s : Shared) (σ : St) (H : Hp) (x y : V) (v u : Value) (Q : VK), Inv X pins σ H s -> RelV x v -> RelV y u -> r x y H Q ->
  wpAny (model X.prog X.w) X.A (f v u) (EP X pins σ Q) X.xe s
def UnR (X : Cx) (f : Value -> Sem Value) (r : V -> Hp -> VK -> Prop) : Prop :=
 ∀ (pins : List (Addr × Obj)) (s : Shared) (σ : St) (H : Hp) (x : V) (v : Value) (Q : VK), Inv X pins σ H s -> RelV x v -> r x H Q ->
  wpAny (model X.prog X.w) X.A (f v) (EP X pins σ Q) X.xe s
def CallR (X : Cx) (f : Value) (r : List V -> Hp -> VK -> Prop) : Prop :=
 ∀ (pins : List (Addr × Obj)) (s : Shared) (σ : St) (H : Hp) (xs : List V) (us : List Value) (Q : VK), Inv X pins σ H s -> Vals xs us -> r xs H Q ->
  wpAny (model X.prog X.w) X.A (call f us) (EP X pins σ Q) X.xe s
def TruR (X : Cx) (r : V -> Hp -> (Bool -> Hp -> Prop) -> Prop) : Prop :=
 ∀ (pins : List (Addr × Obj)) (s : Shared) (σ : St) (H : Hp) (x : V) (v : Value) (Q : Bool -> Hp -> Prop), Inv X pins σ H s -> RelV x v -> r x H Q ->
  wpAny (model X.prog X.w) X.A (truthy v) (TP X pins σ Q) X.xe s
def tOp (r : R2) (ta tb : TE) : TE := fun σ H Q => ta σ H fun x H1 => tb σ H1 fun y H2 => r x y H2 Q
def tUn (r : V -> Hp -> VK -> Prop) (ta : TE) : TE := fun σ H Q => ta σ H fun x H1 => r x H1 Q
def rI (C : Int -> Int -> Prop) (g : Int -> Int -> V) : R2 := fun x y H Q => ∃ i j, x = .int i /\ y = .int j /\ C i j /\ Q (g i j) H
def rI0 (g : Int -> Int -> V) : R2 := fun x y H Q => ∃ i j, x = .int i /\ y = .int j /\ Q (g i j) H
def rU (g : Int -> V) : V -> Hp -> VK -> Prop := fun x H Q => ∃ i, x = .int i /\ Q (g i) H
section
variable {X : Cx} {a b c : Expr} {ta tb tc : TE} {pos : Pos}
theorem binT (ha : PE X a ta) (hb : PE X b tb) {pins : List (Addr × Obj)} {s : Shared} {σ : St} {H : Hp} {R : V -> V -> Hp -> Prop} (I : Inv X pins σ H s)
  (h : ta σ H fun x H1 => tb σ H1 fun y H2 => R x y H2) {Q : Value -> Shared -> Prop} {f : Value -> Value -> Sem Value}
  (hf : ∀ v u s2 x y H2, Inv X pins σ H2 s2 -> RelV x v -> RelV y u -> R x y H2 -> wpAny (model X.prog X.w) X.A (f v u) Q X.xe s2) :
  wpAny (model X.prog X.w) X.A (eval a X.env) (fun v s₁ => wpAny (model X.prog X.w) X.A (eval b X.env) (fun u s₂ => wpAny (model X.prog X.w) X.A (f v u) Q X.xe s₂) X.xe s₁) X.xe s := by
 refine thn (ha pins s σ H _ I h) fun v s1 ⟨x, H1, I1, r1, q1⟩ => ?_
 refine thn (hb pins s1 σ H1 _ I1 q1) fun u s2 ⟨y, H2, I2, r2, q2⟩ => ?_
 exact hf v u s2 x y H2 I2 r1 r2 q2
theorem pe_op {op : Operator} {r : R2} (ho : OpR X (binaryOp op) r) (ha : PE X a ta) (hb : PE X b tb) : PE X (.BinOp a op b pos) (tOp r ta tb) := by
 intro pins s σ H Q I h
 exact wpAny_BinOp (binT ha hb I h fun v u s2 x y H2 I2 rx ry q => ho pins s2 σ H2 x y v u Q I2 rx ry q)
theorem pe_un {op : UnaryOp} {r : V -> Hp -> VK -> Prop} (ho : UnR X (unaryOp op) r) (ha : PE X a ta) : PE X (.UnaryOp op a pos) (tUn r ta) := by
 intro pins s σ H Q I h
 exact UnaryOp_ (thn (ha pins s σ H _ I h) fun v s1 ⟨x, H1, I1, r1, q1⟩ => ho pins s1 σ H1 x v Q I1 r1 q1)
theorem opI {f : Value -> Value -> Sem Value} {C : Int -> Int -> Prop} {g : Int -> Int -> Int}
  (rule : ∀ (i j : Int) (t u : Tok) (s : Shared) (Q : Value -> Shared -> Prop) (E : Value -> Shared -> Prop), C i j -> Q (.int (g i j) s.toks) { s with toks := s.toks + 1 } -> wpAny (model X.prog X.w) X.A (f (.int i t) (.int j u)) Q E s) :
  OpR X f (rI C fun i j => .int (g i j)) := by
 intro pins s σ H x y v u Q I rx ry h
 obtain ⟨i, j, rfl, rfl, hc, q⟩ := h
 obtain ⟨t, rfl⟩ := rx
 obtain ⟨t', rfl⟩ := ry
 exact rule i j t t' s _ _ hc ⟨.int (g i j), H, I.tok _, ⟨_, rfl⟩, q⟩
theorem opI0 {f : Value -> Value -> Sem Value} {g : Int -> Int -> Int}
  (rule : ∀ (i j : Int) (t u : Tok) (s : Shared) (Q : Value -> Shared -> Prop) (E : Value -> Shared -> Prop), Q (.int (g i j) s.toks) { s with toks := s.toks + 1 } -> wpAny (model X.prog X.w) X.A (f (.int i t) (.int j u)) Q E s) :
  OpR X f (rI0 fun i j => .int (g i j)) := by
 intro pins s σ H x y v u Q I rx ry h
 obtain ⟨i, j, rfl, rfl, q⟩ := h
 obtain ⟨t, rfl⟩ := rx
 obtain ⟨t', rfl⟩ := ry
 exact rule i j t t' s _ _ ⟨.int (g i j), H, I.tok _, ⟨_, rfl⟩, q⟩
theorem opB0 {f : Value -> Value -> Sem Value} {g : Int -> Int -> Bool}
  (rule : ∀ (i j : Int) (t u : Tok) (s : Shared) (Q : Value -> Shared -> Prop) (E : Value -> Shared -> Prop), Q (.bool (g i j)) s -> wpAny (model X.prog X.w) X.A (f (.int i t) (.int j u)) Q E s) :
  OpR X f (rI0 fun i j => .bl (g i j)) := by
 intro pins s σ H x y v u Q I rx ry h
 obtain ⟨i, j, rfl, rfl, q⟩ := h
 obtain ⟨t, rfl⟩ := rx
 obtain ⟨t', rfl⟩ := ry
 exact rule i j t t' s _ _ ⟨.bl (g i j), H, I, rfl, q⟩
def CDiv (i j : Int) : Prop := 0 < j /\ j < 1073741824
def CPow (i j : Int) : Prop := 0 <= j /\ j <= 1000000 /\ i.natAbs < 2 ^ 64
def CMul (i j : Int) : Prop := (-(2 ^ 64) < i /\ i < 2 ^ 64) \/ (-(2 ^ 64) < j /\ j < 2 ^ 64)
theorem CMul.ok {i j : Int} (h : CMul i j) : IntMulOk i j := by
 rcases h with ⟨h1, h2⟩ | ⟨h1, h2⟩
 ·exact .of_left (intBits_le_64 h1 h2)
 ·exact .of_right (intBits_le_64 h1 h2)
theorem op_add : OpR X (binaryOp .Add) (rI0 fun i j => .int (i + j)) := opI0 fun _ _ _ _ _ _ _ q => add_int q
theorem op_sub : OpR X (binaryOp .Sub) (rI0 fun i j => .int (i - j)) := opI0 fun _ _ _ _ _ _ _ q => sub_int q
theorem op_mul : OpR X (binaryOp .Mult) (rI CMul fun i j => .int (i * j)) := opI fun _ _ _ _ _ _ _ hc q => mul_int q hc.ok
theorem op_fdiv : OpR X (binaryOp .FloorDiv) (rI CDiv fun i j => .int (i / j)) := opI fun i j _ _ _ _ _ hc q => by
 have h1 : (0 : Int) < j := hc.1
 have h2 : j < 1073741824 := hc.2
 exact floordiv_int (by omega) (by rw [Int.fdiv_eq_ediv_of_nonneg i (by omega)]; exact q) (.inl (PyProof.noPylong_small (by omega)))
theorem op_mod : OpR X (binaryOp .Mod) (rI (fun _ j => 0 < j) fun i j => .int (i % j)) := opI fun i j _ _ _ _ _ hc q => by
 have h1 : (0 : Int) < j := hc
 exact mod_int' (by omega) (by rw [Int.fmod_eq_emod_of_nonneg i (by omega)]; exact q)
theorem op_pow : OpR X (binaryOp .Pow) (rI CPow fun i j => .int (i ^ j.toNat)) := opI fun _ _ _ _ _ _ _ hc q => pow_int_small hc.1 hc.2.1 hc.2.2 q
theorem unI {f : Value -> Sem Value} {g : Int -> Int}
  (rule : ∀ (i : Int) (t : Tok) (s : Shared) (Q : Value -> Shared -> Prop) (E : Value -> Shared -> Prop), Q (.int (g i) s.toks) { s with toks := s.toks + 1 } -> wpAny (model X.prog X.w) X.A (f (.int i t)) Q E s) :
  UnR X f (rU fun i => .int (g i)) := by
 intro pins s σ H x v Q I rx h
 obtain ⟨i, rfl, q⟩ := h
 obtain ⟨t, rfl⟩ := rx
 exact rule i t s _ _ ⟨.int (g i), H, I.tok _, ⟨_, rfl⟩, q⟩
theorem un_neg : UnR X (unaryOp .USub) (rU fun i => .int (-i)) := unI fun _ _ _ _ _ q => neg_int q
end
def scal : V -> V -> Bool
 | .non, .non => true | .non, .int _ => true | .int _, .non => true | .non, .bl _ => true | .bl _, .non => true | .non, .str _ => true | .str _, .non => true
 | .int _, .int _ => true | .bl _, .bl _ => true | .str _, .str _ => true | .byt _, .byt _ => true
 | .int _, .str _ => true | .str _, .int _ => true | .bl _, .str _ => true | .str _, .bl _ => true
 | _, _ => false
def rEq : R2 := fun x y H Q => scal x y = true /\ Q (.bl (decide (x = y))) H
def rNe : R2 := fun x y H Q => scal x y = true /\ Q (.bl (!decide (x = y))) H
theorem dec_int {i j : Int} : decide (V.int i = V.int j) = (i == j) := by
 rw [Bool.eq_iff_iff]
 simp
theorem dec_bl {i j : Bool} : decide (V.bl i = V.bl j) = (i == j) := by
 rw [Bool.eq_iff_iff]
 simp
theorem dec_str {i j : Str} : decide (V.str i = V.str j) = (i == j) := by
 rw [Bool.eq_iff_iff]
 simp
theorem dec_byt {i j : Array UInt8} : decide (V.byt i = V.byt j) = (i.toList == j.toList) := by
 rw [Bool.eq_iff_iff]
 cases i
 cases j
 simp
section
variable {X : Cx} {a b c : Expr} {ta tb tc : TE} {pos : Pos}
theorem fin_bl {pins : List (Addr × Obj)} {σ : St} {H : Hp} {s : Shared} {Q : VK} {k k' : Bool} (I : Inv X pins σ H s) (q : Q (.bl k) H) (e : k = k') : EP X pins σ Q (.bool k') s := by
 subst e
 exact ⟨.bl k, H, I, rfl, q⟩
theorem op_eq : OpR X (compareOp .Eq) rEq := by
 intro pins s σ H x y v u Q I rx ry h
 obtain ⟨hs, q⟩ := h
 cases x with
 | non =>
  cases rx
  cases y with
  | non => cases ry; exact PySem.EqNone.eq_none_none (fin_bl I q (by simp))
  | bl j => cases ry; exact PySem.EqNone.eq_none_bool (fin_bl I q (by simp))
  | int j => obtain ⟨t', rfl⟩ := ry; exact PySem.EqNone.eq_none_int (fin_bl I q (by simp))
  | str j => obtain ⟨t', rfl⟩ := ry; exact PySem.EqNone.eq_none_str (fin_bl I q (by simp))
  | _ => exact absurd (show false = true from hs) Bool.false_ne_true
 | bl i =>
  cases rx
  cases y with
  | non => cases ry; exact PySem.EqNone.eq_bool_none (fin_bl I q (by simp))
  | bl j => cases ry; exact eq_bool (fin_bl I q dec_bl)
  | str j => obtain ⟨t', rfl⟩ := ry; exact PySem.EqMixed.eq_bool_str (fin_bl I q (by simp))
  | _ => exact absurd (show false = true from hs) Bool.false_ne_true
 | int i =>
  obtain ⟨t, rfl⟩ := rx
  cases y with
  | non => cases ry; exact PySem.EqNone.eq_int_none (fin_bl I q (by simp))
  | int j => obtain ⟨t', rfl⟩ := ry; exact eq_int (fin_bl I q dec_int)
  | str j => obtain ⟨t', rfl⟩ := ry; exact PySem.EqMixed.eq_int_str (fin_bl I q (by simp))
  | _ => exact absurd (show false = true from hs) Bool.false_ne_true
 | str i =>
  obtain ⟨t, rfl⟩ := rx
  cases y with
  | non => cases ry; exact PySem.EqNone.eq_str_none (fin_bl I q (by simp))
  | bl j => cases ry; exact PySem.EqMixed.eq_str_bool (fin_bl I q (by simp))
  | int j => obtain ⟨t', rfl⟩ := ry; exact PySem.EqMixed.eq_str_int (fin_bl I q (by simp))
  | str j => obtain ⟨t', rfl⟩ := ry; exact eq_str (fin_bl I q dec_str)
  | _ => exact absurd (show false = true from hs) Bool.false_ne_true
 | byt i =>
  obtain ⟨t, rfl⟩ := rx
  cases y with
  | byt j => obtain ⟨t', rfl⟩ := ry; exact PySem.W.eq_bytes (fin_bl I q dec_byt)
  | _ => exact absurd (show false = true from hs) Bool.false_ne_true
 | _ => cases y <;> exact absurd (show false = true from hs) Bool.false_ne_true
theorem op_ne : OpR X (compareOp .NotEq) rNe := by
 intro pins s σ H x y v u Q I rx ry h
 obtain ⟨hs, q⟩ := h
 cases x with
 | non =>
  cases rx
  cases y with
  | non => cases ry; exact PySem.EqNone.ne_none_none (fin_bl I q (by simp))
  | bl j => cases ry; exact PySem.EqNone.ne_none_bool (fin_bl I q (by simp))
  | int j => obtain ⟨t', rfl⟩ := ry; exact PySem.EqNone.ne_none_int (fin_bl I q (by simp))
  | str j => obtain ⟨t', rfl⟩ := ry; exact PySem.EqNone.ne_none_str (fin_bl I q (by simp))
  | _ => exact absurd (show false = true from hs) Bool.false_ne_true
 | bl i =>
  cases rx
  cases y with
  | non => cases ry; exact PySem.EqNone.ne_bool_none (fin_bl I q (by simp))
  | bl j => cases ry; exact ne_bool (fin_bl I q (congrArg not dec_bl))
  | str j => obtain ⟨t', rfl⟩ := ry; exact PySem.EqMixed.ne_bool_str (fin_bl I q (by simp))
  | _ => exact absurd (show false = true from hs) Bool.false_ne_true
 | int i =>
  obtain ⟨t, rfl⟩ := rx
  cases y with
  | non => cases ry; exact PySem.EqNone.ne_int_none (fin_bl I q (by simp))
  | int j => obtain ⟨t', rfl⟩ := ry; exact ne_int (fin_bl I q (congrArg not dec_int))
  | str j => obtain ⟨t', rfl⟩ := ry; exact PySem.EqMixed.ne_int_str (fin_bl I q (by simp))
  | _ => exact absurd (show false = true from hs) Bool.false_ne_true
 | str i =>
  obtain ⟨t, rfl⟩ := rx
  cases y with
  | non => cases ry; exact PySem.EqNone.ne_str_none (fin_bl I q (by simp))
  | bl j => cases ry; exact PySem.EqMixed.ne_str_bool (fin_bl I q (by simp))
  | int j => obtain ⟨t', rfl⟩ := ry; exact PySem.EqMixed.ne_str_int (fin_bl I q (by simp))
  | str j => obtain ⟨t', rfl⟩ := ry; exact ne_str (fin_bl I q (congrArg not dec_str))
  | _ => exact absurd (show false = true from hs) Bool.false_ne_true
 | byt i =>
  obtain ⟨t, rfl⟩ := rx
  cases y with
  | byt j => obtain ⟨t', rfl⟩ := ry; exact PySem.W.ne_bytes (fin_bl I q (congrArg not dec_byt))
  | _ => exact absurd (show false = true from hs) Bool.false_ne_true
 | _ => cases y <;> exact absurd (show false = true from hs) Bool.false_ne_true
theorem op_lt : OpR X (compareOp .Lt) (rI0 fun i j => .bl (decide (i < j))) := opB0 fun _ _ _ _ _ _ _ q => lt_int q
theorem op_le : OpR X (compareOp .LtE) (rI0 fun i j => .bl (decide (i <= j))) := opB0 fun _ _ _ _ _ _ _ q => le_int q
theorem op_gt : OpR X (compareOp .Gt) (rI0 fun i j => .bl (decide (j < i))) := opB0 fun _ _ _ _ _ _ _ q => gt_int q
theorem op_isN : OpR X (compareOp .Is) (fun x y H Q => y = .non /\ Q (.bl (decide (x = .non))) H) := by
 intro pins s σ H x y v u Q I rx ry h
 obtain ⟨rfl, q⟩ := h
 cases ry
 refine is_none_gen (fin_bl I q ?_)
 cases x <;> first
  | (cases rx; rfl)
  | (obtain ⟨t, rfl⟩ := rx; rfl)
theorem op_notN : OpR X (compareOp .IsNot) (fun x y H Q => y = .non /\ Q (.bl (!decide (x = .non))) H) := by
 intro pins s σ H x y v u Q I rx ry h
 obtain ⟨rfl, q⟩ := h
 cases ry
 refine isnot_none_gen (fin_bl I q ?_)
 cases x <;> first
  | (cases rx; rfl)
  | (obtain ⟨t, rfl⟩ := rx; rfl)
theorem nomark (b : Expr) {op : CmpOp} (h : op ≠ .In := by decide) (h2 : op ≠ .NotIn := by decide) : behindInMarks op b = false := by
 have e1 : (op == CmpOp.In) = false := by cases op <;> first | rfl | exact absurd rfl h
 have e2 : (op == CmpOp.NotIn) = false := by cases op <;> first | rfl | exact absurd rfl h2
 cases b <;> simp [behindInMarks, e1, e2]
theorem pe_cmpR {op : CmpOp} {r : R2} (ho : OpR X (compareOp op) r) (ha : PE X a ta) (hb : PE X b tb) (hm : behindInMarks op b = false) : PE X (.Compare a [op] [b] pos) (tOp r ta tb) := by
 intro pins s σ H Q I h
 exact wpAny_Compare1 (binT ha hb I h fun v u s2 x y H2 I2 rx ry q => ho pins s2 σ H2 x y v u Q I2 rx ry q) hm
def tTest (t : TE) : TT := fun σ H Q => t σ H fun x H' => ∃ k, x = .bl k /\ Q k H'
theorem pt_cmpR {op : CmpOp} {r : R2} (ho : OpR X (compareOp op) r) (ha : PE X a ta) (hb : PE X b tb) (hm : behindInMarks op b = false) : PT X (.Compare a [op] [b] pos) (tTest (tOp r ta tb)) := by
 intro pins s σ H Q I h
 refine wpAny_isTrue_Compare1 (thn (ha pins s σ H _ I h) fun v s1 ⟨x, H1, I1, r1, q1⟩ => thn (hb pins s1 σ H1 _ I1 q1) fun u s2 ⟨y, H2, I2, r2, q2⟩ =>
  thn (ho pins s2 σ H2 x y v u _ I2 r1 r2 q2) fun c s3 ⟨z, H3, I3, r3, k, e, q3⟩ => ?_) hm
 subst e
 cases r3
 exact wpAny_truthy_bool ⟨H3, I3, q3⟩
def tChain (r r' : R2) (ta tb tc : TE) : TE := fun σ H Q => ta σ H fun x H1 => tb σ H1 fun y H2 => r x y H2 fun z H3 => ∃ k, z = .bl k /\
 (if k = true then tc σ H3 fun w' H4 => r' y w' H4 Q else Q (.bl false) H3)
theorem pe_chain {op op' : CmpOp} {r r' : R2} (ho : OpR X (compareOp op) r) (ho' : OpR X (compareOp op') r') (ha : PE X a ta) (hb : PE X b tb) (hc : PE X c tc)
  (hm : lastMarks [op, op'] [b, c] = false := by with_unfolding_all rfl) : PE X (.Compare a [op, op'] [b, c] pos) (tChain r r' ta tb tc) := by
 intro pins s σ H Q I h
 refine Compare_chain (thn (ha pins s σ H _ I h) fun v s1 ⟨x, H1, I1, r1, q1⟩ => chain_link (thn (hb pins s1 σ H1 _ I1 q1) fun u s2 ⟨y, H2, I2, r2, q2⟩ =>
  thn (ho pins s2 σ H2 x y v u _ I2 r1 r2 q2) fun d s3 ⟨z, H3, I3, r3, k, e, q3⟩ => ?_)) hm
 subst e
 cases r3
 refine wpAny_truthy_bool ?_
 cases k with
 | false => exact ite_ff ⟨.bl false, H3, I3, rfl, q3⟩
 | true => exact ite_tt (chain_last (thn (hc pins s3 σ H3 _ I3 q3) fun w' s4 ⟨z', H4, I4, r4, q4⟩ => ho' pins s4 σ H4 y z' u w' Q I4 r2 r4 q4))
theorem pt_chain {op op' : CmpOp} {r r' : R2} (ho : OpR X (compareOp op) r) (ho' : OpR X (compareOp op') r') (ha : PE X a ta) (hb : PE X b tb) (hc : PE X c tc)
  (hm : lastMarks [op, op'] [b, c] = false := by with_unfolding_all rfl) : PT X (.Compare a [op, op'] [b, c] pos) (tTest (tChain r r' ta tb tc)) := by
 intro pins s σ H Q I h
 refine isTrue_chain (thn (ha pins s σ H _ I h) fun v s1 ⟨x, H1, I1, r1, q1⟩ => test_link (thn (hb pins s1 σ H1 _ I1 q1) fun u s2 ⟨y, H2, I2, r2, q2⟩ =>
  thn (ho pins s2 σ H2 x y v u _ I2 r1 r2 q2) fun d s3 ⟨z, H3, I3, r3, k, e, q3⟩ => ?_)) hm
 subst e
 cases r3
 refine wpAny_truthy_bool ?_
 cases k with
 | false =>
  obtain ⟨k', e', q'⟩ := q3
  cases e'
  exact ite_ff ⟨H3, I3, q'⟩
 | true =>
  refine ite_tt (test_last (thn (hc pins s3 σ H3 _ I3 q3) fun w' s4 ⟨z', H4, I4, r4, q4⟩ => thn (ho' pins s4 σ H4 y z' u w' _ I4 r2 r4 q4) fun d' s5 ⟨z2, H5, I5, r5, k2, e2, q5⟩ => ?_))
  subst e2
  cases r5
  exact wpAny_truthy_bool ⟨H5, I5, q5⟩
def TruV (K : W.Frag) (x : V) (H : Hp) (k : Bool) : Prop :=
 match x with
 | .non => k = false
 | .bl b => k = b
 | .int i => k = (i != 0)
 | .str y => y.length <= sizeLine /\ k = ((y.length : Int) != 0)
 | .byt y => y.size <= sizeLine /\ k = ((y.size : Int) != 0)
 | .ref p => (∃ xs, SqL K H p xs /\ k = !xs.isEmpty) \/ (∃ xs, SqT K H p xs /\ k = !xs.isEmpty) \/ ∃ kvs, H p = some (.dK kvs) /\ k = !kvs.isEmpty
 | _ => False
theorem isEmpty_kv {κ : Type} {kvs : List (κ × V)} {vs : List (κ × Value)} (r : KV kvs vs) : (!vs.isEmpty) = !kvs.isEmpty := by
 cases r <;> rfl
theorem isEmpty_of {xs : List V} {its : List Value} (r : Vals xs its) : (!its.toArray.isEmpty) = !xs.isEmpty := by
 cases r <;> simp
theorem line63 : (sizeLine : Nat) < 2 ^ 63 := by rw [sizeLine_eq]; decide
theorem tru_ok : TruR X (fun x H Q => ∃ k, TruV X.K x H k /\ Q k H) := by
 intro pins s σ H x v Q I rx h
 obtain ⟨k, e, q⟩ := h
 have hl := line63
 have hs : sizeLine = 16777216 := sizeLine_eq
 cases x with
 | non =>
  cases rx
  have e' : k = false := e
  subst e'
  exact truthy_none ⟨H, I, q⟩
 | bl b =>
  cases rx
  have e' : k = b := e
  subst e'
  exact wpAny_truthy_bool ⟨H, I, q⟩
 | int i =>
  obtain ⟨t, rfl⟩ := rx
  have e' : k = (i != 0) := e
  subst e'
  exact PySem.P.truthy_int ⟨H, I, q⟩
 | str y =>
  obtain ⟨t, rfl⟩ := rx
  obtain ⟨hy, e'⟩ : y.length <= sizeLine /\ k = ((y.length : Int) != 0) := e
  subst e'
  exact PySem.P.truthy_str (by omega) ⟨H, I.tok _, q⟩
 | byt y =>
  obtain ⟨t, rfl⟩ := rx
  obtain ⟨hy, e'⟩ : y.size <= sizeLine /\ k = ((y.size : Int) != 0) := e
  subst e'
  exact PySem.W.truthy_bytes (by omega) ⟨H, I.tok _, q⟩
 | ref p =>
  cases rx
  have e' : (∃ xs, SqL X.K H p xs /\ k = !xs.isEmpty) \/ (∃ xs, SqT X.K H p xs /\ k = !xs.isEmpty) \/ ∃ kvs, H p = some (.dK kvs) /\ k = !kvs.isEmpty := e
  rcases e' with ⟨xs, hx, e'⟩ | ⟨xs, hx, e'⟩ | ⟨kvs, hx, e'⟩
  ·subst e'
   obtain ⟨its, r, pl, hz⟩ := I.list hx
   have hlen := r.length
   exact wpAny_truthy_list pl.isList (by simp only [List.size_toArray]; omega) ⟨H, I.tok _, by rw [isEmpty_of r]; exact q⟩
  ·subst e'
   obtain ⟨its, r, pl, hz⟩ := I.tuple hx
   have hlen := r.length
   exact truthy_tuple pl (by simp only [List.size_toArray]; omega) ⟨H, I.tok _, by rw [isEmpty_of r]; exact q⟩
  ·subst e'
   obtain ⟨hz, hS, vs, r, m⟩ : kvs.length <= sizeLine /\ (p == sysModules) = false /\ ∃ vs, KV kvs vs /\ s.heap.DictOf (mixKind X.prog X.w) p vs := I.hok p _ hx
   have hlen : kvs.length = vs.length := Paired.length r
   exact wpAny_truthy_dict hS m (by omega) ⟨H, I.tok _, by rw [isEmpty_kv r]; exact q⟩
 | _ => exact (show False from e).elim
theorem pt_truth (ha : PE X a ta) (he : ∀ whole, isTrue a X.env whole = (do let v <- whole; standAt a.pos; holding [v] (truthy v))) :
  PT X a (fun σ H Q => ta σ H fun x H' => ∃ k, TruV X.K x H' k /\ Q k H') := by
 intro pins s σ H Q I h
 exact isTrue_plain (thn (ha pins s σ H _ I h) fun v s1 ⟨x, H1, I1, r1, q1⟩ => tru_ok pins s1 σ H1 x v Q I1 r1 q1) (he _)
theorem vals1 {x : V} {us : List Value} (r : Vals [x] us) : ∃ u, us = [u] /\ RelV x u := by
 cases r with
 | cons r1 r2 => cases r2; exact ⟨_, rfl, r1⟩
theorem vals2 {x y : V} {us : List Value} (r : Vals [x, y] us) : ∃ u w', us = [u, w'] /\ RelV x u /\ RelV y w' := by
 cases r with
 | cons r1 r2 =>
  cases r2 with
  | cons r3 r4 => cases r4; exact ⟨_, _, rfl, r1, r3⟩
theorem call_max2 (hc : X.calm = true) : CallR X (.builtin "max") (fun xs H Q => ∃ i j, xs = [.int i, .int j] /\ Q (.int (if j > i then j else i)) H) := by
 intro pins s σ H xs us Q I r h
 obtain ⟨i, j, rfl, q⟩ := h
 obtain ⟨u, w', rfl, ⟨t, rfl⟩, ⟨t', rfl⟩⟩ := vals2 r
 refine max_two_ints (I.ok.hd hc) fun h' tk k => ⟨_, H, I.kept k, ?_, q⟩
 by_cases hj : j > i
 ·rw [if_pos hj, if_pos hj]; exact ⟨_, rfl⟩
 ·rw [if_neg hj, if_neg hj]; exact ⟨_, rfl⟩
theorem call_min2 (hc : X.calm = true) : CallR X (.builtin "min") (fun xs H Q => ∃ i j, xs = [.int i, .int j] /\ Q (.int (if j < i then j else i)) H) := by
 intro pins s σ H xs us Q I r h
 obtain ⟨i, j, rfl, q⟩ := h
 obtain ⟨u, w', rfl, ⟨t, rfl⟩, ⟨t', rfl⟩⟩ := vals2 r
 refine min_two_ints (I.ok.hd hc) fun h' tk k => ⟨_, H, I.kept k, ?_, q⟩
 by_cases hj : j < i
 ·rw [if_pos hj, if_pos hj]; exact ⟨_, rfl⟩
 ·rw [if_neg hj, if_neg hj]; exact ⟨_, rfl⟩
end
structure ObjM (h : Heap) (x dx C : Addr) (mA : Str -> Option Value) : Prop where
 obj : h.get? x = some (PySem.W.instObj C dx)
 ns : h.Ns1 dx mA
 ne : dx ≠ x
section
variable {prog : Program} {w : World} {A : Around} {E : Value -> Shared -> Prop} {s : Shared} {K : W.Frag} {x dx C f : Addr} {mA : Str -> Option Value} {name : Str} {v : Value}
end
section
variable {P : Program} {w : World} {H H' : Hp} {h h' : Heap} {a C dx : Addr} {fs fs' : List (Str × V)}
end
structure Cls (K : W.Frag) (C : Addr) : Prop where
 pg : PySem.W.plainGet K C Str.empty = true
 hd : PySem.W.hasDictIn K C = true
 po : PySem.W.plainOver K C = true
 sa : PySem.W.findIn K (.ref C) "__setattr__" = some (some (.builtin "object.__setattr__"))
structure Con (K : W.Frag) (C : Addr) (f : Str) (v : V) (u : Value) : Prop where
 at_ : PySem.W.findIn K (.ref C) f = some (some u)
 rel : RelV v u
 get : PySem.W.specialIn K u "__get__" = some none
 cp : PySem.W.copiedNames.contains f = false
structure Meth (K : W.Frag) (C : Addr) (m : Str) (f : Addr) : Prop where
 at_ : PySem.W.findIn K (.ref C) m = some (some (.ref f))
 fn : PySem.W.isFn K (.ref f) = true
 kp : PySem.W.keepIn K (.ref f) = true
section
variable {X : Cx} {pins : List (Addr × Obj)} {σ : St} {H : Hp} {s : Shared} {a C dx : Addr} {fs : List (Str × V)} {f : Str} {v : V} {A : Around} {E : Value -> Shared -> Prop}
end
section
variable {X : Cx} {o e value : Expr} {f : Str} {pos pos' tpos : Pos} {ta tv : TE}
end
section
variable {X : Cx} {pins : List (Addr × Obj)} {σ : St} {H : Hp} {s : Shared} {A : Around} {E : Value -> Shared -> Prop} {Q : Value -> Shared -> Prop} {c : Value} {b : Bool}
inductive TyOf (K : W.Frag) (H : Hp) : V -> Value -> Prop where
 | non : TyOf K H .non (.type "NoneType")
 | bl (x : Bool) : TyOf K H (.bl x) (.type "bool")
 | int (i : Int) : TyOf K H (.int i) (.type "int")
 | str (x : Str) : TyOf K H (.str x) (.type "str")
 | flt (x : UInt64) : TyOf K H (.flt x) (.type "float")
 | lst {a : Addr} {xs : List V} (e : H a = some (.lst xs)) : TyOf K H (.ref a) (.type "list")
 | frz {a : Addr} {o : Obj} {xs : List V} (e : H a = some (.frz o (.lst xs))) : TyOf K H (.ref a) (.type "list")
 | tup {a : Addr} {xs : List V} (e : H a = some (.tup xs)) : TyOf K H (.ref a) (.type "tuple")
 | dK {a : Addr} {kvs : List (Key × V)} (e : H a = some (.dK kvs)) : TyOf K H (.ref a) (.type "dict")
 | dT {a : Addr} {kvs : List (List Key × V)} (e : H a = some (.dT kvs)) : TyOf K H (.ref a) (.type "dict")
 | ins {a C dx : Addr} {fs : List (Str × V)} (e : H a = some (.ins C dx fs)) (cl : Cls K C) (ha : PySem.W.findIn K (.ref C) "__class__" = some (some (.builtin "object.__class__")))
   (hn : PySem.W.specialIn K (.builtin "object.__class__") "__get__" = some (some (.builtin "getset_descriptor.__get__"))) (htk : PySem.W.takesIn K (.builtin "object.__class__") = some true)
   (hm : PySem.W.mroIn K C (.type "object") = some true) : TyOf K H (.ref a) (.ref C)
end
structure Room (k : Nat) (A : Around) : Prop where
 hd : A.handled = none
 dp : A.depth + 3 * k + 5 < recursionLimit
 un : A.units + 16 * k + 200 < cLine
theorem Room.mono {j k : Nat} {A : Around} (r : Room k A) (h : j <= k) : Room j A := ⟨r.hd, by have := r.dp; omega, by have := r.un; omega⟩
theorem Room.deeper {k : Nat} {A : Around} (r : Room (k + 1) A) (env : Env) : Room k (A.deeper env) :=
 ⟨r.hd, by have := r.dp; show A.depth + 1 + 3 * k + 5 < _; omega, by have := r.un; show A.units + 3 + 16 * k + 200 < _; omega⟩
theorem Room.depth {k : Nat} {A : Around} (r : Room k A) : A.depth < recursionLimit := by have := r.dp; omega
theorem Room.units {k : Nat} {A : Around} (r : Room k A) : A.units + 64 < cLine := by have := r.un; omega
def tNil : TA := fun _ H Q => Q [] H
def tCons (ta : TE) (tr : TA) : TA := fun σ H Q => ta σ H fun x H1 => tr σ H1 fun xs H2 => Q (x :: xs) H2
section
variable {X : Cx} {e : Expr} {es : List Expr} {te : TE} {t : TA} {pos : Pos}
theorem pa_nil : PA X [] tNil := fun _ _ _ _ H Q I h => Calls.spliced_nil ⟨[], H, I, .nil, h⟩
theorem pa_cons (ha : PE X e te) (hr : PA X es t) (hs : starEach (e :: es) X.env = (false, eval e X.env) :: starEach es X.env := by rfl) : PA X (e :: es) (tCons te t) := by
 intro pos pins s σ H Q I h
 rw [hs]
 show wpAny _ _ (spliced ((false, eval e X.env) :: backTo pos (starEach es X.env))) _ _ s
 refine Calls.spliced_cons (thn (ha pins s σ H _ I h) fun u s1 ⟨x, H1, I1, r1, q1⟩ => ?_)
 exact thn (hr pos pins s1 σ H1 _ I1 q1) fun us s2 ⟨xs, H2, I2, r2, q2⟩ => ⟨x :: xs, H2, I2, .cons r1 r2, q2⟩
def tTup (t : TA) : TE := fun σ H Q => t σ H fun xs H1 => xs.length <= sizeLine /\ ∀ p, H1 p = none -> Q (.ref p) (upd H1 p (.tup xs))
def tLst (t : TA) : TE := fun σ H Q => t σ H fun xs H1 => xs.length <= sizeLine /\ ∀ p, H1 p = none -> Q (.ref p) (upd H1 p (.lst xs))
theorem pe_tup {x1} (h : PA X es t) : PE X (.Tuple es x1 pos) (tTup t) := by
 intro pins s σ H Q I hq
 refine wpAny_Tuple_spliced (thn (h pos pins s σ H _ I hq) fun us s1 ⟨xs, H1, I1, r, z, q⟩ => ⟨by rw [<- r.length]; exact z, ?_⟩)
 have hf : H1 s1.heap.objs.size = none := I1.hok.fresh (Nat.le_refl _)
 refine ⟨.ref s1.heap.objs.size, upd H1 s1.heap.objs.size (.tup xs), I1.laid (t' := s1.toks) (fun b u e => Heap.get?_push_of_some _ e) (Nat.le_refl _) ?_, rfl, q _ hf⟩
 exact ⟨z, us, r, ⟨_, Heap.get?_push_size _ rfl, rfl, _, rfl⟩⟩
theorem pe_lst (h : PA X es t) : PE X (.List es pos) (tLst t) := by
 intro pins s σ H Q I hq
 refine wpAny_List_spliced (thn (h pos pins s σ H _ I hq) fun us s1 ⟨xs, H1, I1, r, z, q⟩ => ⟨by rw [<- r.length]; exact z, ?_⟩)
 have hf : H1 s1.heap.objs.size = none := I1.hok.fresh (Nat.le_refl _)
 refine ⟨.ref s1.heap.objs.size, upd H1 s1.heap.objs.size (.lst xs), I1.laid (t' := s1.toks) (fun b u e => Heap.get?_push_of_some _ e) (Nat.le_refl _) ?_, rfl, q _ hf⟩
 exact ⟨z, us, 0, r, Heap.get?_push_size _ rfl⟩
end
abbrev Sp := List V -> Hp -> VK -> XK -> Prop
abbrev CXT := List Env -> Hp -> Shared -> XK -> Value -> Shared -> Prop
structure Env0 (P : Program) (w : World) (K : W.Frag) (mg : Str -> Option Value) (base : Heap) (A : Around) (outer : List Env) (s : Shared) (H : Hp) : Prop where
 frames : A.frames = some outer
 mod : Mod K mg base
 bs : ∀ b o, base.get? b = some o -> s.heap.get? b = some o /\ H b = none
 bsz : base.objs.size <= s.heap.objs.size
 funs : s.heap.FunFrames base outer
 frf : ∀ b ∈ frs outer, H b = none
 hok : HOk P w H s.heap
 bare : AllBare s.gens
def CE (outer : List Env) (P : Program) (w : World) (H : Hp) (s : Shared) (Q : VK) (u : Value) (s' : Shared) : Prop :=
 ∃ v H', s'.os = s.os /\ AllBare s'.gens /\ Un (frs outer) [] H H' s.heap s'.heap /\ HOk P w H' s'.heap /\ RelV v u /\ Q v H'
def CR (CX : CXT) (outer : List Env) (P : Program) (w : World) (H : Hp) (s : Shared) (Q : VK) (E : XK) (r : Result) (s' : Shared) : Prop :=
 match r with
 | .ok (.ret u) => CE outer P w H s Q u s'
 | .ok _ => False
 | .error e => CX outer H s E e s'
structure FnOk (P : Program) (w : World) (K : W.Frag) (mg : Str -> Option Value) (base : Heap) (CX : CXT) (k : Nat) (f : Addr) (fd : FuncData) (ps : List Str) (sp : Sp) : Prop where
 len : ∀ vs H Q E, sp vs H Q E -> vs.length = ps.length
 run : ∀ (A : Around) (outer : List Env) (s : Shared) (H : Hp) (args : Args) (us : List Value) (vs : List V) (Q : VK) (E : XK), Room k A -> Env0 P w K mg base A outer s H -> BindsTo s fd args (ps.zip us) -> Vals vs us -> sp vs H Q E ->
  codeAny (model P w) A (.call (.ref f) args) (CR CX outer P w H s Q E) s
theorem FnOk.mono {P : Program} {w : World} {K : W.Frag} {mg : Str -> Option Value} {base : Heap} {CX : CXT} {j k : Nat} {f : Addr} {fd : FuncData} {ps : List Str} {sp : Sp} (F : FnOk P w K mg base CX j f fd ps sp) (h : j <= k) :
  FnOk P w K mg base CX k f fd ps sp := ⟨F.len, fun A outer s H args us vs Q E hr => F.run A outer s H args us vs Q E (hr.mono h)⟩
section
variable {X : Cx} {pins : List (Addr × Obj)} {σ : St} {H : Hp} {s s' : Shared}
theorem Inv.env0 (I : Inv X pins σ H s) : Env0 X.prog X.w X.K X.mg X.base X.A X.stack s H :=
 ⟨I.ok.frames, I.ok.mod, I.bs, Nat.le_trans I.ok.bsz I.sz, I.stack, I.stkFree, I.hok, I.bare⟩
theorem Inv.after {Q : VK} {u : Value} (I : Inv X pins σ H s) (h : CE X.stack X.prog X.w H s Q u s') : EP X pins σ Q u s' := by
 obtain ⟨v, H', os, bare, un, hok, r, q⟩ := h
 obtain ⟨hh, g, d, t, os'⟩ := s'
 obtain rfl : os' = s.os := os
 exact ⟨v, H', I.call (h' := hh) (g' := g) (d' := d) (t' := t) (ch := []) un hok bare (fun b z => absurd z (by simp)), r, q⟩
end
def tCall (sp : Sp) (dvs : List V) (E : XK) (t : TA) : TE := fun σ H Q => t σ H fun vs H1 => sp (vs ++ dvs) H1 Q E
def Binds (K : W.Frag) (fd : FuncData) (ps : List Str) (ds : List Value) : Prop :=
 ∀ (s : Shared) (us : List Value), K.In s.heap -> (us ++ ds).length = ps.length -> BindsTo s fd ⟨us, []⟩ (ps.zip (us ++ ds))
theorem Binds.all {K : W.Frag} {fd : FuncData} {ps : List Str} (h : ∀ us : List Value, us.length = ps.length -> bindArgs fd ⟨us, []⟩ = pure (ps.zip us)) : Binds K fd ps [] := fun s us _ hl => by
 rw [List.append_nil] at hl ⊢
 exact .of_eq (h us hl)
def Passes (CX : CXT) (X : Cx) (E : XK) : Prop := ∀ (pins : List (Addr × Obj)) (σ : St) (H : Hp) (s : Shared) (e : Value) (s' : Shared), Inv X pins σ H s -> CX X.stack H s E e s' -> X.xe e s'
section
variable {X : Cx} {CX : CXT} {k : Nat} {f C : Addr} {fd : FuncData} {ps : List Str} {sp : Sp} {dvs : List V} {ds : List Value} {E : XK} {x m : Str} {p pos apos : Pos} {e o : Expr} {es : List Expr} {ta : TE} {t : TA}
theorem run_fn {pins : List (Addr × Obj)} {σ : St} {H : Hp} {s : Shared} {Q : VK} {us : List Value} {vs : List V} (F : FnOk X.prog X.w X.K X.mg X.base CX k f fd ps sp) (hr : Room k X.A) (hb : Binds X.K fd ps ds) (hd : Vals dvs ds) (hx : Passes CX X E)
  (I : Inv X pins σ H s) (r : Vals vs us) (h : sp (vs ++ dvs) H Q E) : wpAny (model X.prog X.w) X.A (call (.ref f) us) (EP X pins σ Q) X.xe s := by
 have r2 : Vals (vs ++ dvs) (us ++ ds) := r.append hd
 have hl : (us ++ ds).length = ps.length := by rw [<- r2.length]; exact F.len _ _ _ _ h
 refine wpAny_call (codeAny_mono (F.run X.A X.stack s H ⟨us, []⟩ (us ++ ds) (vs ++ dvs) Q E hr I.env0 (hb s us I.kIn hl) r2 h) fun r s' hq => ?_)
 cases r with
 | error e => exact hx pins σ H s e s' I hq
 | ok fl =>
  cases fl with
  | ret u => exact I.after hq
  | next => exact False.elim hq
  | brk => exact False.elim hq
  | cont => exact False.elim hq
theorem pe_call (F : FnOk X.prog X.w X.K X.mg X.base CX k f fd ps sp) (hr : Room k X.A) (hg : Gl X x) (hm : X.mg x = some (.ref f)) (hk : PySem.W.keepIn X.K (.ref f) = true) (hb : Binds X.K fd ps ds) (hd : Vals dvs ds) (hx : Passes CX X E)
  (ha : PA X (e :: es) t) (hdb : (x == ("__debug__" : Str)) = false := by decide) (he : starEach (e :: es) X.env = (false, eval e X.env) :: starEach es X.env := by rfl) (hpl : (backTo pos (starEach es X.env)).any (·.1) = false := by rfl) :
  PE X (.Call (.Name x p) (e :: es) [] pos) (tCall sp dvs E t) := by
 intro pins s σ H Q I h
 refine wpAny_Call_Name_kw (ld_glob I hg hm ?_ hdb)
 refine PySem.W.callWith_K (h₀ := X.base) I.ok.mod.kin hk (thn (ha pos pins s σ H _ I h) fun us s1 ⟨vs, H1, I1, r, q⟩ => ⟨I1.kIn, ?_⟩) he hpl
 exact run_fn F hr hb hd hx I1 r q
structure Mk (K : W.Frag) (C f : Addr) : Prop where
 makes : PySem.W.makesIn K C = true
 init : PySem.W.findIn K (.ref C) "__init__" = some (some (.ref f))
 fn : PySem.W.isFn K (.ref f) = true
 kp : PySem.W.keepIn K (.ref C) = true
end
def PK (X : Cx) (kws : List Keyword) (t : TA) : Prop :=
 ∀ (pos : Pos) (pins : List (Addr × Obj)) (s : Shared) (σ : St) (H : Hp) (Q : List V -> Hp -> Prop), Inv X pins σ H s -> t σ H Q -> wpAny (model X.prog X.w) X.A (evalAll ((backToKw pos (keywordEach kws X.env)).map (·.2))) (AP X pins σ Q) X.xe s
section
variable {X : Cx} {CX : CXT} {k : Nat} {f C : Addr} {fd : FuncData} {ps ks : List Str} {sp : Sp} {E : XK} {x m : Str} {p pos apos kpos : Pos} {e o : Expr} {es : List Expr} {kws : List Keyword} {te ta : TE} {t tk : TA} {nm : Option Str}
theorem pk_nil : PK X [] tNil := fun _ _ _ _ H Q I h => wpAny_evalAll_nil ⟨[], H, I, .nil, h⟩
theorem pk_cons (ha : PE X e te) (hr : PK X kws t) : PK X (⟨nm, e, kpos⟩ :: kws) (tCons te t) := by
 intro pos pins s σ H Q I h
 show wpAny _ _ (evalAll ((do let v <- eval e X.env; standAt pos; pure v) :: (backToKw pos (keywordEach kws X.env)).map (·.2))) _ _ s
 refine wpAny_evalAll_cons (wpAny_bind (thn (ha pins s σ H _ I h) fun u s1 ⟨x, H1, I1, r1, q1⟩ => wpAny_bind (wpAny_standAt (wpAny_pure ?_))))
 exact thn (hr pos pins s1 σ H1 _ I1 q1) fun us s2 ⟨xs, H2, I2, r2, q2⟩ => ⟨x :: xs, H2, I2, .cons r1 r2, q2⟩
structure KBinds (K : W.Frag) (fd : FuncData) (ps ks : List Str) (g : List Value -> List Value -> List Value) (gV : List V -> List V -> List V) : Prop where
 to : ∀ (s : Shared) (us ws : List Value), K.In s.heap -> (g us ws).length = ps.length -> BindsTo s fd ⟨us, ks.zip ws⟩ (ps.zip (g us ws))
 rel : ∀ {vs : List V} {us : List Value} {zs : List V} {ws : List Value}, Vals vs us -> Vals zs ws -> Vals (gV vs zs) (g us ws)
variable {g : List Value -> List Value -> List Value} {gV : List V -> List V -> List V}
end
structure FnScope (N P : List Str) (sc : Scope) : Prop where
 kind : sc.kind = .function
 co : sc.isCoroutine = false
 gen : sc.isGenerator = false
 nd : N.Nodup
 pre : N.take P.length = P
 par : ∀ x ∈ P, sc.names.lookup x = some .local \/ sc.names.lookup x = some .cell
 nofree : ∀ y ∈ sc.names, y.2 ≠ .free
theorem bindL_out {kindOf : Str -> Option NameKind} {x : Str} : ∀ {binds : List (Str × Value)} {m : Str -> Option Value}, (∀ v, (x, v) ∉ binds) -> bindL kindOf binds m x = m x
 | [], _, _ => rfl
 | (n, v) :: r, m, h => by
  unfold bindL
  rw [bindL_out fun w hw => h w (List.mem_cons_of_mem _ hw)]
  split
  ·have : x ≠ n := by rintro rfl; exact h v List.mem_cons_self
   simp [this]
  ·rfl
theorem bindC_out {kindOf : Str -> Option NameKind} {x : Str} : ∀ {binds : List (Str × Value)} {m : Str -> Option Value}, (∀ v, (x, v) ∉ binds) -> bindC kindOf binds m x = m x
 | [], _, _ => rfl
 | (n, v) :: r, m, h => by
  unfold bindC
  rw [bindC_out fun w hw => h w (List.mem_cons_of_mem _ hw)]
  split
  ·rfl
  ·have : x ≠ n := by rintro rfl; exact h v List.mem_cons_self
   simp [this]
theorem bindL_get {kindOf : Str -> Option NameKind} {x : Str} {v : Value} : ∀ {P : List Str} {vs : List Value} {i : Nat} {m : Str -> Option Value}, P.Nodup -> P[i]? = some x -> vs[i]? = some v -> kindOf x = some .local ->
  bindL kindOf (P.zip vs) m x = some v
 | [], _, _, _, _, h, _, _ => by simp at h
 | _ :: _, [], _, _, _, _, h, _ => by simp at h
 | p :: P, w :: vs, 0, m, nd, h1, h2, hk => by
  simp at h1 h2; subst h1; subst h2
  show bindL kindOf ((p, w) :: P.zip vs) m p = _
  unfold bindL
  rw [bindL_out fun v hv => (List.nodup_cons.mp nd).1 (List.of_mem_zip hv).1, if_pos hk]
  simp
 | p :: P, w :: vs, i + 1, m, nd, h1, h2, hk => by
  show bindL kindOf ((p, w) :: P.zip vs) m x = _
  unfold bindL
  exact bindL_get (i := i) (List.nodup_cons.mp nd).2 (by simpa using h1) (by simpa using h2) hk
theorem bindC_get {kindOf : Str -> Option NameKind} {x : Str} {v : Value} : ∀ {P : List Str} {vs : List Value} {i : Nat} {m : Str -> Option Value}, P.Nodup -> P[i]? = some x -> vs[i]? = some v -> kindOf x ≠ some .local ->
  bindC kindOf (P.zip vs) m x = some v
 | [], _, _, _, _, h, _, _ => by simp at h
 | _ :: _, [], _, _, _, _, h, _ => by simp at h
 | p :: P, w :: vs, 0, m, nd, h1, h2, hk => by
  simp at h1 h2; subst h1; subst h2
  show bindC kindOf ((p, w) :: P.zip vs) m p = _
  unfold bindC
  rw [bindC_out fun v hv => (List.nodup_cons.mp nd).1 (List.of_mem_zip hv).1, if_neg hk]
  simp
 | p :: P, w :: vs, i + 1, m, nd, h1, h2, hk => by
  show bindC kindOf ((p, w) :: P.zip vs) m x = _
  unfold bindC
  exact bindC_get (i := i) (List.nodup_cons.mp nd).2 (by simpa using h1) (by simpa using h2) hk
def start (N : List Str) (vs : List V) : St := vs.map some ++ List.replicate (N.length - vs.length) none
def cxOf (CX : CXT) (P : Program) (w : World) (K : W.Frag) (mg : Str -> Option Value) (base : Heap) (N : List Str) (qual : Str) (scope : Scope) (f : Addr) (cd : Value) (A : Around) (outer : List Env) (s : Shared) (H : Hp) (E : XK) : Cx where
 prog := P
 w := w
 K := K
 mg := mg
 base := base
 A := A.deeper (envOfC qual scope s.heap.objs.size f cd)
 N := N
 s₀ := s
 H₀ := H
 env := envOfC qual scope s.heap.objs.size f cd
 outer := outer
 stack := envOfC qual scope s.heap.objs.size f cd :: outer
 ex := []
 calm := true
 fn := fun _ => true
 pn := []
 xe := fun e s' => wpAny (model P w) (A.deeper (envOfC qual scope s.heap.objs.size f cd)) (leaving (envOfC qual scope s.heap.objs.size f cd) e) (fun _ s'' => CX outer H s E e s'') (fun e' s'' => CX outer H s E e' s'') s'
theorem cell_has {sc : Scope} {n : Nat} {x : Str} (h : sc.names.lookup x = some .cell) : ∃ c, (cellsFrom n sc.names []).lookup x = some c := by
 have q := PySem.W.cellsFrom_some sc.names n [] (.inl h)
 exact Option.isSome_iff_exists.mp q
theorem inv_start {CX : CXT} {P : Program} {w : World} {K : W.Frag} {mg : Str -> Option Value} {base : Heap} {N ps : List Str} {qual : Str} {scope : Scope} {f : Addr} {cd : Value} {A : Around} {outer : List Env} {s s1 : Shared} {H : Hp} {E : XK} {us : List Value} {vs : List V}
  (S : FnScope N ps scope) (hd : A.handled = none) (e0 : Env0 P w K mg base A outer s H) (hl : vs.length = ps.length) (r : Vals vs us)
  (x : InCallC s s.heap.objs.size (bindL (envOfC qual scope s.heap.objs.size f cd).kindOf (ps.zip us) fun _ => none) (cellsFrom (s.heap.objs.size + 1) scope.names []) (bindC (envOfC qual scope s.heap.objs.size f cd).kindOf (ps.zip us) fun _ => none) s1) :
  Inv (cxOf CX P w K mg base N qual scope f cd A outer s H E) [] (start N vs) H s1 := by
 have hpl : ps.length <= N.length := by have := congrArg List.length S.pre; rw [List.length_take] at this; omega
 obtain ⟨h1, tk, rfl, hk⟩ := x.done
 have noA : ∀ b : Addr, b ∉ (cxOf CX P w K mg base N qual scope f cd A outer s H E).ex := fun b z => absurd (show b ∈ ([] : List Addr) from z) (by simp)
 refine ⟨⟨e0.mod, S.kind, rfl, rfl, Nat.le_refl _, fun y z c h1 h2 => ?_, fun y hy => ?_, fun y c _ h => ?_, fun _ => hd, Around.frames_deeper e0.frames, .inr ⟨rfl, rfl⟩, fun b z => absurd z (noA b), e0.bs, e0.bsz, fun b _ _ => noA b, fun b z => absurd z (noA b), e0.funs, e0.frf⟩,
  rfl, e0.bare, Un.kept hk, ⟨_, x.toInCall.ns, fun i y v h1 h2 h3 => ?_⟩, fun y c h => ⟨_, x.cell y c h⟩, e0.hok.fresh (Nat.le_refl _), fun y c h => ?_, fun p hp => absurd (show p ∈ ([] : List (Addr × Obj)) from hp) (by simp), e0.hok.kept hk, ?_⟩
 ·exact name_of_addr x.apart (PySem.mem_of_lookup h1) (PySem.mem_of_lookup h2)
 ·have hy : scope.names.lookup y = some .cell \/ scope.names.lookup y = some .free := hy
  rcases hy with hy | hy
  ·exact cell_has hy
  ·exact absurd rfl (S.nofree _ (PySem.mem_of_lookup hy))
 ·exact Nat.le_of_lt (x.above y c (PySem.mem_of_lookup h))
 ·have hi : i < vs.length := by
   unfold start at h2
   by_cases hi : i < vs.length
   ·exact hi
   ·rw [List.getElem?_append_right (by simpa using hi)] at h2
    rw [List.getElem?_replicate] at h2
    split at h2 <;> cases h2
  have ha : vs[i]? = some v := by
   unfold start at h2
   rw [List.getElem?_append_left (by simpa using hi), List.getElem?_map] at h2
   cases e : vs[i]? with
   | none => rw [e] at h2; cases h2
   | some a => rw [e] at h2; cases h2; rfl
  obtain ⟨u, hu, rv⟩ := r.get ha
  have hp : ps[i]? = some y := by
   rw [<- S.pre, List.getElem?_take_of_lt (by omega)]; exact h1
  have ndP : ps.Nodup := by rw [<- S.pre]; exact S.nd.sublist (List.take_sublist _ _)
  refine ⟨u, rv, ?_⟩
  rcases S.par y (List.mem_of_getElem? hp) with k | k
  ·exact .inl ⟨k, bindL_get ndP hp hu k⟩
  ·obtain ⟨c, e⟩ := cell_has (n := s.heap.objs.size + 1) k
   refine .inr ⟨.inl k, c, e, ?_⟩
   have q := x.cell y c e
   rw [bindC_get ndP hp hu (by show scope.names.lookup y ≠ _; rw [k]; decide)] at q
   exact q
 ·exact e0.hok.fresh (Nat.le_of_lt (x.above y c (PySem.mem_of_lookup h)))
 ·unfold start
  show _ = N.length
  rw [List.length_append, List.length_map, List.length_replicate]
  omega
theorem fn_of {CX : CXT} {P : Program} {w : World} {K : W.Frag} {mg : Str -> Option Value} {base : Heap} {k : Nat} {f : Addr} {name qual : Str} {params : Arguments} {body : List Stmt} {scope : Scope} {dV kV doc pm cdv ct oc : Value} {an od : Option Addr}
  {osl : Array (Option Value)} {N ps : List Str} {sp : Sp} (lk : K.lookup f = some ⟨oc, od, .func (PySem.W.fnOf name qual params body scope dV kV doc pm an cdv ct), osl⟩) (hcd : PySem.W.codeIn K cdv qual = true) (S : FnScope N ps scope)
  (len : ∀ vs H Q E, sp vs H Q E -> vs.length = ps.length)
  (hbody : ∀ (A : Around) (outer : List Env) (s : Shared) (H : Hp) (vs : List V) (Q : VK) (E : XK), Room k (A.deeper (envOfC qual scope s.heap.objs.size f cdv)) -> sp vs H Q E ->
   ∃ t, PSs (cxOf CX P w K mg base N qual scope f cdv A outer s H E) body t /\ t { nx := fun _ H' => Q .non H', rt := Q } (start N vs) H) :
  FnOk P w K mg base CX (k + 1) f (PySem.W.fnOf name qual params body scope dV kV doc pm an cdv ct) ps sp := by
 refine ⟨len, fun A outer s H args us vs Q E hr e0 hb r hsp => ?_⟩
 have hl := len _ _ _ _ hsp
 have KX : K.In s.heap := e0.mod.kin.keeps fun b o e => (e0.bs b o e).1
 have lim : s.heap.NoLimit := e0.mod.nolimit.keeps fun b o e => (e0.bs b o e).1
 have hkind : ∀ y ∈ ps.zip us, scope.names.lookup y.1 = some .local \/ (scope.names.lookup y.1 = some .cell /\ ((cellsFrom (s.heap.objs.size + 1) scope.names []).lookup y.1).isSome = true) := fun ⟨n, v⟩ hy => by
  rcases S.par n (List.of_mem_zip hy).1 with q | q
  ·exact .inl q
  ·exact .inr ⟨q, PySem.W.cellsFrom_some _ _ _ (.inl q)⟩
 refine codeAny_call_function hr.depth (KX _ _ lk) rfl S.co S.gen rfl (PySem.W.codeRec_of KX hcd) (hb _ _ _ _ ?_)
 refine wpAny_newFunctionEnv_cells S.kind hkind fun env he s1 x => ?_
 subst he
 refine ⟨lim.keeps x.toInCall.keep, codeAny_func ?_⟩
 obtain ⟨t, ht, hq⟩ := hbody A outer s H vs Q E (hr.deeper _) hsp
 have I : Inv (cxOf CX P w K mg base N qual scope f cdv A outer s H E) [] (start N vs) H s1 := inv_start S hr.hd e0 hl r x
 refine wpAny_mono (ht [] s1 (start N vs) H _ I hq) (fun fl s' hs => ?_) fun e s' hs => hs
 have fin : ∀ {σ' : St} {H' : Hp} {v : V} {u : Value}, Inv (cxOf CX P w K mg base N qual scope f cdv A outer s H E) [] σ' H' s' -> RelV v u -> Q v H' -> CE outer P w H s Q u s' :=
  fun {σ' H' v u} J rv q => ⟨v, H', J.os, J.bare, J.base, J.hok, rv, q⟩
 cases fl with
 | ret u =>
  obtain ⟨v, σ', H', J, rv, q⟩ := hs
  exact fin J rv q
 | next =>
  obtain ⟨σ', H', J, q⟩ := hs
  exact fin (v := V.non) (u := Value.none) J rfl q
 | brk =>
  obtain ⟨_, _, _, q⟩ := hs
  exact False.elim q
 | cont =>
  obtain ⟨_, _, _, q⟩ := hs
  exact False.elim q
section
variable {X : Cx} {x : Str} {p pos : Pos} {e : Expr} {es : List Expr} {t : TA} {id T : String} {r : List V -> Hp -> VK -> Prop}
def tCB (r : List V -> Hp -> VK -> Prop) (t : TA) : TE := fun σ H Q => t σ H fun vs H1 => r vs H1 Q
theorem pe_callB (hc : CallR X (.builtin id) r) (hg : Gl X x) (hm : X.mg x = none) (hv : bootBuiltins x = some (.builtin id)) (ha : PA X (e :: es) t) (hn : x ≠ "__name__" := by decide) (hdb : (x == ("__debug__" : Str)) = false := by decide)
  (he : starEach (e :: es) X.env = (false, eval e X.env) :: starEach es X.env := by rfl) (hpl : (backTo pos (starEach es X.env)).any (·.1) = false := by rfl) : PE X (.Call (.Name x p) (e :: es) [] pos) (tCB r t) := by
 intro pins s σ H Q I h
 refine wpAny_Call_Name_kw (ld_blt I hg hm hv ?_ hn hdb)
 exact PyProof.Rows.callWith_builtin1 (thn (ha pos pins s σ H _ I h) fun us s1 ⟨vs, H1, I1, r1, q1⟩ => hc pins s1 σ H1 vs us Q I1 r1 q1) he hpl
theorem pe_callTy (hc : CallR X (.type T) r) (hg : Gl X x) (hm : X.mg x = none) (hv : bootBuiltins x = some (.type T)) (ha : PA X (e :: es) t) (hn : x ≠ "__name__" := by decide) (hdb : (x == ("__debug__" : Str)) = false := by decide)
  (he : starEach (e :: es) X.env = (false, eval e X.env) :: starEach es X.env := by rfl) (hpl : (backTo pos (starEach es X.env)).any (·.1) = false := by rfl) : PE X (.Call (.Name x p) (e :: es) [] pos) (tCB r t) := by
 intro pins s σ H Q I h
 refine wpAny_Call_Name_kw (ld_blt I hg hm hv ?_ hn hdb)
 exact PyProof.Rows.callWith_type1 (thn (ha pos pins s σ H _ I h) fun us s1 ⟨vs, H1, I1, r1, q1⟩ => hc pins s1 σ H1 vs us Q I1 r1 q1) he hpl
end
end L2
namespace HT
open PySem PyProof.Rows
section
open PySem.SeqAt
open PySem.AutoSeq1 (wpAny_loadPart')
open PySem.MeetsSeq PySem.MeetsSeq2 PySem.MeetsSeq3
end
section
variable {prog : Program} {w : World} {A : Around} {E : Value -> Shared -> Prop} {s : Shared}
theorem cat_tup {t b : Addr} {vs ws : List Value} {Q : Value -> Shared -> Prop} (ht : IsTup s.heap t vs.toArray) (hb : IsTup s.heap b ws.toArray) (hv : vs ≠ [])
  (h1 : ws = [] -> Q (.ref t) s) (h2 : ws ≠ [] -> Q (.ref s.heap.objs.size) { s with heap := s.heap.push { cls := .type "tuple", data := .seq (vs ++ ws).toArray } })
  (hsz : vs.length + ws.length <= sizeLine) : wpAny (model prog w) A (binaryOp .Add (.ref t) (.ref b)) Q E s := by
 obtain ⟨⟨cls, dd, data, sl⟩, ho, hc, n, hd⟩ := id ht
 obtain ⟨⟨cls2, dd2, data2, sl2⟩, ho2, hc2, n2, hd2⟩ := id hb
 simp only at hc hd hc2 hd2
 subst hc hd hc2 hd2
 have e : vs.toArray ++ ws.toArray = (vs ++ ws).toArray := by simp
 by_cases hw : ws = []
 ·exact concat_meets ⟨_, ho, rfl⟩ ⟨_, ho2, rfl⟩ noFill_tuple_add seq_tuple_add PySem.F.slot_tuple_add PySem.F.entry_tuple_add (PySem.F.args_tuple_add_2 _ _)
   (tuple_addW1 t b vs.toArray ws.toArray n n2 dd dd2 sl sl2 (by simpa using hv) (by simp [hw])) ⟨ho, ho2, h1 hw⟩
 ·refine concat_meets ⟨_, ho, rfl⟩ ⟨_, ho2, rfl⟩ noFill_tuple_add seq_tuple_add PySem.F.slot_tuple_add PySem.F.entry_tuple_add (PySem.F.args_tuple_add_2 _ _)
   (tuple_addW2 t b vs.toArray ws.toArray n n2 dd dd2 sl sl2 (by simpa using hv) (by simpa using hw) (by rw [List.size_toArray, List.size_toArray]; exact hsz)) ⟨ho, ho2, ?_⟩
  rw [e]
  exact h2 hw
def sIx (n d : Nat) : Option Int -> Nat
 | none => d
 | some v => if v < 0 then (v + (n : Int)).toNat else min v.toNat n
theorem sIx_none (n d : Nat) : sIx n d none = d := rfl
theorem sIx_nat (n d k : Nat) : sIx n d (some (k : Int)) = min k n := by
 show (if (k : Int) < 0 then ((k : Int) + (n : Int)).toNat else min (k : Int).toNat n) = min k n
 rw [if_neg (by omega), Int.toNat_natCast]
end
end HT
namespace L2
open PySem PySem.Spec PyProof.Rows
abbrev TO := St -> Hp -> (Option Int -> Hp -> Prop) -> Prop
def PO (X : Cx) (e : Option Expr) (t : TO) : Prop :=
 ∀ (pins : List (Addr × Obj)) (s : Shared) (σ : St) (H : Hp) (Q : Option Int -> Hp -> Prop), Inv X pins σ H s -> t σ H Q ->
  wpAny (model X.prog X.w) X.A (evalPart e X.env) (fun u s' => ∃ o H', Inv X pins σ H' s' /\ IsPart u o /\ Q o H') X.xe s
def tNoPart : TO := fun _ H Q => Q none H
def tPart (t : TE) : TO := fun σ H Q => t σ H fun x H1 => ∃ i, x = .int i /\ Q (some i) H1
theorem intsAre_of {ns : List Int} : ∀ {us : List Value}, Vals (ns.map V.int) us -> IntsAre us ns := by
 induction ns with
 | nil => intro us r; rw [List.map_nil] at r; cases r; exact .nil
 | cons n ns ih =>
  intro us r
  rw [List.map_cons] at r
  cases r with
  | cons r1 r2 =>
   obtain ⟨t, e⟩ := r1
   subst e
   exact .cons n t (ih r2)
section
variable {X : Cx} {e : Expr} {te : TE} {lo hi : Option Expr} {tl th : TO} {pos p2 : Pos}
theorem po_none : PO X none tNoPart := by
 intro pins s σ H Q I h
 rw [evalPart_none]
 exact wpAny_pure ⟨none, H, I, .none, h⟩
theorem po_some (h : PE X e te) : PO X (some e) (tPart te) := by
 intro pins s σ H Q I hw
 rw [evalPart_some]
 refine thn (h pins s σ H _ I hw) fun u s1 ⟨x, H1, I1, r1, q1⟩ => ?_
 obtain ⟨i, rfl, q⟩ := q1
 obtain ⟨t, rfl⟩ := r1
 exact ⟨some i, H1, I1, .int i t, q⟩
def SlR (X : Cx) (r : V -> Option Int -> Option Int -> Hp -> VK -> Prop) : Prop :=
 ∀ (pins : List (Addr × Obj)) (s : Shared) (σ : St) (H : Hp) (x : V) (v vl vu : Value) (lo hi : Option Int) (sl : Addr) (Q : VK), Inv X pins σ H s -> RelV x v -> s.heap.IsSliceOf sl vl vu .none -> IsPart vl lo -> IsPart vu hi -> r x lo hi H Q ->
  ∃ T id, typeLookup (.type T) "__getitem__" = pure (some (.builtin id)) /\ s.TypeIs v T /\ wpAny (model X.prog X.w) X.A (getItem v (.ref sl)) (EP X pins σ Q) X.xe s
def tSl (r : V -> Option Int -> Option Int -> Hp -> VK -> Prop) (te : TE) (tl th : TO) : TE := fun σ H Q => te σ H fun x H1 => tl σ H1 fun l H2 => th σ H2 fun u H3 => r x l u H3 Q
theorem pe_slice {r : V -> Option Int -> Option Int -> Hp -> VK -> Prop} (hr : SlR X r) (he : PE X e te) (hl : PO X lo tl) (hu : PO X hi th) : PE X (.Subscript e (.Slice lo hi none p2) pos) (tSl r te tl th) := by
 intro pins s σ H Q I h
 refine Subscript_ (thn (he pins s σ H _ I h) fun v s1 ⟨x, H1, I1, r1, q1⟩ => ?_)
 refine wpAny_Slice (thn (hl pins s1 σ H1 _ I1 q1) fun vl s2 ⟨l, H2, I2, pl, q2⟩ => thn (hu pins s2 σ H2 _ I2 q2) fun vu s3 ⟨u, H3, I3, pu, q3⟩ => ?_)
 rw [evalPart_none]
 refine wpAny_pure ?_
 have I4 : Inv X pins σ H3 { s3 with heap := s3.heap.push { cls := .type "slice", data := .fields #[vl, vu, .none] } } := I3.kept (t' := s3.toks) fun b ob q => Heap.get?_push_of_some _ q
 obtain ⟨T, id, hT, ht, hg⟩ := hr pins { s3 with heap := s3.heap.push { cls := .type "slice", data := .fields #[vl, vu, .none] } } σ H3 x v vl vu l u s3.heap.objs.size Q I4 r1 (Heap.IsSliceOf.new ..) pl pu q3
 show wpAny (model X.prog X.w) X.A (subscriptTail e (.Slice lo hi none p2) v (.ref s3.heap.objs.size)) (EP X pins σ Q) X.xe { s3 with heap := s3.heap.push { cls := .type "slice", data := .fields #[vl, vu, .none] } }
 exact tail_any (ops := [.ref s3.heap.objs.size, v]) ht hT hg (by with_unfolding_all rfl)
def cutV (xs : List V) (lo hi : Option Int) : List V := (xs.drop (HT.sIx xs.length 0 lo)).take (HT.sIx xs.length xs.length hi - HT.sIx xs.length 0 lo)
theorem cutV_length (xs : List V) (lo hi : Option Int) : (cutV xs lo hi).length <= xs.length := by
 unfold cutV
 rw [List.length_take, List.length_drop]
 omega
def rCatT (K : W.Frag) : R2 := fun x y H Q => ∃ a b xs ys, x = .ref a /\ y = .ref b /\ SqT K H a xs /\ SqT K H b ys /\ xs ≠ [] /\ xs.length + ys.length <= sizeLine /\
 (ys = [] -> Q (.ref a) H) /\ (ys ≠ [] -> ∀ p, H p = none -> Q (.ref p) (upd H p (.tup (xs ++ ys))))
theorem Vals.nil_iff {xs : List V} {us : List Value} (r : Vals xs us) : us = [] ↔ xs = [] := by
 cases r with
 | nil => simp
 | cons _ _ => simp
theorem op_catT : OpR X (binaryOp .Add) (rCatT X.K) := by
 intro pins s σ H x y v u Q I rx ry h
 obtain ⟨a, b, xs, ys, rfl, rfl, ha, hb, hx, hz, q1, q2⟩ := h
 cases rx
 cases ry
 obtain ⟨its, r1, p1, _⟩ := I.tuple ha
 obtain ⟨its2, r2, p2, _⟩ := I.tuple hb
 refine HT.cat_tup p1 p2 (fun z => hx (r1.nil_iff.mp z)) (fun z => ⟨.ref a, H, I, rfl, q1 (r2.nil_iff.mp z)⟩) (fun z => ?_) (by rw [<- r1.length, <- r2.length]; exact hz)
 refine ⟨.ref s.heap.objs.size, _, I.laid (t' := s.toks) (o := .tup (xs ++ ys)) (fun b ob q => Heap.get?_push_of_some _ q) (Nat.le_refl _) ?_, rfl, q2 (fun w => z (r2.nil_iff.mpr w)) _ (I.hok.fresh (Nat.le_refl _))⟩
 exact ⟨by rw [List.length_append]; exact hz, _, r1.append r2, IsTup.new _ _⟩
end
def ixN (n : Nat) (i : Int) : Option Nat := if 0 <= i then (if i < n then some i.toNat else none) else if -(n : Int) <= i then some (i + n).toNat else none
def atI {α : Type} (xs : List α) (i : Int) : Option α := (ixN xs.length i).bind fun j => xs[j]?
theorem ixN_seq {n : Nat} {i : Int} {j : Nat} (h : ixN n i = some j) : seqIndex? i n = some j /\ j < n /\ -(n : Int) <= i /\ i < n := by
 unfold ixN at h
 by_cases h0 : 0 <= i
 ·rw [if_pos h0] at h
  by_cases h1 : i < n
  ·rw [if_pos h1] at h
   have e : i.toNat = j := Option.some.inj h
   exact ⟨by rw [seqIndex_of h0 h1, e], by omega, by omega, h1⟩
  ·rw [if_neg h1] at h; cases h
 ·rw [if_neg h0] at h
  by_cases h1 : -(n : Int) <= i
  ·rw [if_pos h1] at h
   have e : (i + n).toNat = j := Option.some.inj h
   exact ⟨by rw [seqIndex_neg (by omega) h1, e], by omega, h1, by omega⟩
  ·rw [if_neg h1] at h; cases h
theorem atI_get {α : Type} {xs : List α} {i : Int} {v : α} (h : atI xs i = some v) : ∃ j, seqIndex? i xs.length = some j /\ xs[j]? = some v /\ j < xs.length /\ -(xs.length : Int) <= i /\ i < xs.length := by
 unfold atI at h
 cases e : ixN xs.length i with
 | none => rw [e] at h; cases h
 | some j =>
  rw [e] at h
  obtain ⟨h1, h2, h3, h4⟩ := ixN_seq e
  exact ⟨j, h1, h, h2, h3, h4⟩
theorem atI_nat {α : Type} {xs : List α} {j : Nat} {v : α} (h : xs[j]? = some v) : atI xs (j : Int) = some v := by
 have hj : j < xs.length := (List.getElem?_eq_some_iff.mp h).1
 have e : ixN xs.length (j : Int) = some j := by
  unfold ixN
  rw [if_pos (by omega), if_pos (by omega)]; simp
 unfold atI; rw [e]; exact h
def PlainIx (b : Expr) : Prop := ∀ o i, subscripted b false o i = operate [o, i] (getItem o i)
def IxR (X : Cx) (r : R2) : Prop :=
 ∀ (value slice : Expr) (pins : List (Addr × Obj)) (s : Shared) (σ : St) (H : Hp) (x y : V) (v u : Value) (Q : VK), Inv X pins σ H s -> RelV x v -> RelV y u -> r x y H Q ->
  subscripted slice false v u = operate [v, u] (getItem v u) -> wpAny (model X.prog X.w) X.A (subscriptTail value slice v u) (EP X pins σ Q) X.xe s
def MtR (X : Cx) (id : String) (r : V -> List V -> Hp -> VK -> Prop) : Prop :=
 ∀ (pins : List (Addr × Obj)) (s : Shared) (σ : St) (H : Hp) (x : V) (xs : List V) (v : Value) (us : List Value) (Q : VK), Inv X pins σ H s -> RelV x v -> Vals xs us -> r x xs H Q ->
  wpAny (model X.prog X.w) X.A (call (.builtin id) (v :: us)) (EP X pins σ Q) X.xe s
section
variable {X : Cx} {a b : Expr} {ta tb : TE} {pos : Pos}
theorem IxR.or {r r' : R2} (h : IxR X r) (h' : IxR X r') : IxR X (fun x y H Q => r x y H Q \/ r' x y H Q) := by
 intro value slice pins s σ H x y v u Q I rx ry q hs
 rcases q with q | q
 ·exact h value slice pins s σ H x y v u Q I rx ry q hs
 ·exact h' value slice pins s σ H x y v u Q I rx ry q hs
theorem pe_ix {r : R2} (hr : IxR X r) (ha : PE X a ta) (hb : PE X b tb) (hs : PlainIx b) : PE X (.Subscript a b pos) (tOp r ta tb) := by
 intro pins s σ H Q I h
 exact Subscript_ (binT ha hb I h fun v u s2 x y H2 I2 rx ry q => hr a b pins s2 σ H2 x y v u Q I2 rx ry q (hs _ _))
def rIxL (K : W.Frag) : R2 := fun x y H Q => ∃ p xs i v, x = .ref p /\ y = .int i /\ SqL K H p xs /\ atI xs i = some v /\ Q v H
def rIxT (K : W.Frag) : R2 := fun x y H Q => ∃ p xs i v, x = .ref p /\ y = .int i /\ SqT K H p xs /\ atI xs i = some v /\ Q v H
def rIxS : R2 := fun x y H Q => ∃ z i c, x = .str z /\ y = .int i /\ z.length <= sizeLine /\ atI z.cps.toList i = some c /\ Q (.str ⟨#[c]⟩) H
theorem ix_list : IxR X (rIxL X.K) := by
 intro value slice pins s σ H x y v u Q I rx ry h hs
 obtain ⟨p, xs, i, z, rfl, rfl, hq, he, q⟩ := h
 cases rx
 obtain ⟨t, rfl⟩ := ry
 obtain ⟨its, r, pl, hz⟩ := I.list hq
 obtain ⟨j, h1, h2, h3, h4, h5⟩ := atI_get he
 obtain ⟨w, ew, rw'⟩ := r.get h2
 have hl := r.length
 have hn := line63
 have fin : EP X pins σ Q w s := ⟨z, H, I, rw', q⟩
 by_cases h0 : 0 <= i
 ·have hj : i.toNat = j := by
   rw [seqIndex_of h0 h5] at h1
   exact Option.some.inj h1
  exact item_listR pl.isList h0 (by omega) (by rw [hj]; simpa using ew) fin hs
 ·have hj : (i + (its.toArray.size : Int)).toNat = j := by
   rw [seqIndex_neg (by omega) h4] at h1
   rw [List.size_toArray, <- hl]
   exact Option.some.inj h1
  exact subscriptTail_builtinR (x := w) pl.isList.typeIs slot_list_getitem.lookup
   (wpAny_getItem_list_neg (Q := fun r s' => r = w /\ EP X pins σ Q r s') pl.isList (by omega) (by rw [List.size_toArray] <;> omega) (by omega) (by rw [hj]; simpa using ew) ⟨rfl, fin⟩) hs
theorem ix_tup : IxR X (rIxT X.K) := by
 intro value slice pins s σ H x y v u Q I rx ry h hs
 obtain ⟨p, xs, i, z, rfl, rfl, hq, he, q⟩ := h
 cases rx
 obtain ⟨t, rfl⟩ := ry
 obtain ⟨its, r, pl, hz⟩ := I.tuple hq
 obtain ⟨j, h1, h2, h3, h4, h5⟩ := atI_get he
 obtain ⟨w, ew, rw'⟩ := r.get h2
 have hl := r.length
 have hn := line63
 have fin : EP X pins σ Q w s := ⟨z, H, I, rw', q⟩
 exact subscriptTail_builtinR (x := w) pl.typeIs slot_tuple_getitem.lookup
  (getItem_tuple (j := j) (Q := fun r s' => r = w /\ EP X pins σ Q r s') pl (by omega) (by omega) (by rw [List.size_toArray, <- hl]; exact h1) (by simpa using ew) ⟨rfl, fin⟩) hs
theorem ix_str : IxR X rIxS := by
 intro value slice pins s σ H x y v u Q I rx ry h hs
 obtain ⟨z, i, c, rfl, rfl, hz, he, q⟩ := h
 obtain ⟨t, rfl⟩ := rx
 obtain ⟨t', rfl⟩ := ry
 obtain ⟨j, h1, h2, h3, h4, h5⟩ := atI_get he
 have hl : z.cps.toList.length = z.length := by simp [Str.length]
 rw [hl] at h1 h4 h5
 have hn := line63
 exact tail_any (typeIs_str s z t) slot_str_getitem.lookup (getItem_str (c := c) (by
  have e1 : decide (i < -(2 ^ 63 : Int)) = false := decide_eq_false (by omega)
  have e2 : decide (i ≥ 2 ^ 63) = false := decide_eq_false (by omega)
  rw [e1, e2, Bool.or_false]) (by rw [h1]; simpa using h2) ⟨.str ⟨#[c]⟩, H, I.tok _, ⟨_, rfl⟩, q⟩) hs
def rIx (K : W.Frag) : R2 := fun x y H Q => rIxL K x y H Q \/ rIxT K x y H Q \/ rIxS x y H Q
theorem ix_seq : IxR X (rIx X.K) := ix_list.or (ix_tup.or ix_str)
theorem mapSeq_set (its : List Value) (n j : Nat) (u : Value) : Obj.mapSeq (·.setIfInBounds j u) { cls := .type "list", data := .seq its.toArray n } = { cls := .type "list", data := .seq (its.set j u).toArray n } := by
 simp [Obj.mapSeq]
theorem Inv.lst {pins : List (Addr × Obj)} {σ : St} {H : Hp} {s : Shared} {p : Addr} {xs : List V} (I : Inv X pins σ H s) (h : H p = some (.lst xs)) :
  ∃ (its : List Value) (n : Nat), Vals xs its /\ s.heap.get? p = some { cls := .type "list", data := .seq its.toArray n } /\ xs.length <= sizeLine := by
 obtain ⟨z, its, n, r, e⟩ := I.hok p _ h
 exact ⟨its, n, r, e, z⟩
theorem Inv.lstUpd {pins : List (Addr × Obj)} {σ : St} {H : Hp} {s : Shared} {p : Addr} {xs ys : List V} {its its' : List Value} {n n' : Nat} {f : Obj -> Obj} (I : Inv X pins σ H s) (h : H p = some (.lst xs))
  (ho : s.heap.get? p = some { cls := .type "list", data := .seq its.toArray n }) (hf : f { cls := .type "list", data := .seq its.toArray n } = { cls := .type "list", data := .seq its'.toArray n' }) (r : Vals ys its') (hz : ys.length <= sizeLine) (t : Nat) :
  Inv X pins σ (upd H p (.lst ys)) { s with heap := s.heap.update p f, toks := t } := by
 have e : (s.heap.update p f).get? p = some { cls := .type "list", data := .seq its'.toArray n' } := by
  rw [Heap.get?_update_self f ho (by rw [hf] <;> rfl), hf]
 refine I.write (x := p) (e := p) (by rw [h]; trivial) (.inl rfl) (fun b u hb q => (Heap.get?_update_other _ _ (Ne.symm hb)).trans q) ⟨_, e⟩ ?_
 exact ⟨hz, its', n', r, e⟩
def rSetL : V -> V -> V -> Hp -> (Hp -> Prop) -> Prop := fun o i v H Q => ∃ p xs k j, o = .ref p /\ i = .int k /\ H p = some (.lst xs) /\ ixN xs.length k = some j /\ Q (upd H p (.lst (xs.set j v)))
theorem set_list : PSet X rSetL := by
 intro pins s σ H o i v ov iv u Q I ro ri rv h
 obtain ⟨p, xs, k, j, rfl, rfl, hp, hj, q⟩ := h
 cases ro
 obtain ⟨t, rfl⟩ := ri
 obtain ⟨its, n, r, ho, hz⟩ := I.lst hp
 obtain ⟨h1, h2, h3, h4⟩ := ixN_seq hj
 have hl := r.length
 have hn := line63
 have I' : Inv X pins σ (upd H p (.lst (xs.set j v))) { s with heap := s.heap.update p (Obj.mapSeq (·.setIfInBounds j u)) } :=
  I.lstUpd hp ho (mapSeq_set its n j u) (r.set rv j) (by rw [List.length_set]; exact hz) s.toks
 by_cases h0 : 0 <= k
 ·have hk : k.toNat = j := by
   rw [seqIndex_of h0 h4] at h1
   exact Option.some.inj h1
  exact PySem.W.ki_setAt ho h0 (by omega) (by rw [List.size_toArray, <- hl]; exact h4) (by rw [hk]; exact ⟨_, I', q⟩)
 ·have hk : (k + (its.toArray.size : Int)).toNat = j := by
   rw [seqIndex_neg (by omega) h3] at h1
   rw [List.size_toArray, <- hl]
   exact Option.some.inj h1
  exact PySem.W.ki_setBack ho (by omega) (by rw [List.size_toArray, <- hl]; exact h3) (by omega) (by rw [hk]; exact ⟨_, I', q⟩)
theorem slice_bounds (lo hi : Option Int) (n : Nat) : (sliceBounds lo hi none n).1 = ((HT.sIx n 0 lo : Nat) : Int) /\ (sliceBounds lo hi none n).2.1 = ((HT.sIx n n hi : Nat) : Int) /\ (sliceBounds lo hi none n).2.2 = 1 := by
 refine ⟨?_, ?_, rfl⟩
 ·cases lo with
  | none => simp [sliceBounds, HT.sIx]
  | some i =>
   simp only [sliceBounds, HT.sIx, Option.getD_none, show (1 : Int) > 0 by decide, if_true]
   by_cases h : i < 0
   ·simp only [h, if_true] <;> omega
   ·simp only [h, if_false] <;> omega
 ·cases hi with
  | none => simp [sliceBounds, HT.sIx]
  | some i =>
   simp only [sliceBounds, HT.sIx, Option.getD_none, show (1 : Int) > 0 by decide, if_true]
   by_cases h : i < 0
   ·simp only [h, if_true] <;> omega
   ·simp only [h, if_false] <;> omega
theorem slicePick_cut (its : List Value) (lo hi : Option Int) : slicePick its.toArray lo hi none = ((its.drop (HT.sIx its.length 0 lo)).take (HT.sIx its.length its.length hi - HT.sIx its.length 0 lo)).toArray := by
 obtain ⟨h1, h2, h3⟩ := slice_bounds lo hi its.toArray.size
 unfold slicePick
 rw [h1, h2, h3]
 simp only [sliceRange_one, pick_run, List.size_toArray] <;> rfl
def rSlL (K : W.Frag) : V -> Option Int -> Option Int -> Hp -> VK -> Prop := fun x lo hi H Q => ∃ a xs, x = .ref a /\ SqL K H a xs /\ ∀ p, H p = none -> Q (.ref p) (upd H p (.lst (cutV xs lo hi)))
theorem sl_list : SlR X (rSlL X.K) := by
 intro pins s σ H x v vl vu lo hi sl Q I rx hs pl pu h
 obtain ⟨a, xs, rfl, hx, q⟩ := h
 cases rx
 obtain ⟨its, r, ht, hz⟩ := I.list hx
 have hlen := r.length
 refine ⟨"list", _, slot_list_getitem.lookup, ht.isList.typeIs, ?_⟩
 refine wpAny_getItem_list_slice ht.isList hs pl pu .none (by simp) ?_ (by rw [List.size_toArray] <;> omega)
 rw [slicePick_cut, <- hlen]
 refine ⟨.ref s.heap.objs.size, _, I.laid (t' := s.toks) (o := .lst (cutV xs lo hi)) (fun b ob q => Heap.get?_push_of_some _ q) (Nat.le_refl _) ?_, rfl, q _ (I.hok.fresh (Nat.le_refl _))⟩
 exact ⟨Nat.le_trans (cutV_length xs lo hi) hz, _, 0, (r.drop (HT.sIx xs.length 0 lo)).take (HT.sIx xs.length xs.length hi - HT.sIx xs.length 0 lo), Heap.get?_push_size _ rfl⟩
theorem call_len_seq : CallR X (.builtin "len") (fun xs H Q => ∃ p ys, xs = [.ref p] /\ (SqL X.K H p ys \/ SqT X.K H p ys) /\ Q (.int ys.length) H) := by
 intro pins s σ H xs us Q I r h
 obtain ⟨p, ys, rfl, hq, q⟩ := h
 obtain ⟨u, rfl, rx⟩ := vals1 r
 cases rx
 have hn := line63
 rcases hq with hq | hq
 ·obtain ⟨its, r', pl, hz⟩ := I.list hq
  have hlen := r'.length
  exact Calls.call_len_list pl.isList (by simp only [List.size_toArray] <;> omega) ⟨.int ys.length, H, I.tok _, ⟨s.toks + 1, by rw [List.size_toArray, hlen]⟩, q⟩
 ·obtain ⟨its, r', pl, hz⟩ := I.tuple hq
  have hlen := r'.length
  exact len_tuple pl (by simp only [List.size_toArray] <;> omega) ⟨.int ys.length, H, I.tok _, ⟨s.toks + 1, by rw [List.size_toArray, hlen]⟩, q⟩
theorem call_list_of : CallR X (.type "list") (fun xs H Q => ∃ p ys, xs = [.ref p] /\ (SqL X.K H p ys \/ SqT X.K H p ys) /\ ∀ l, H l = none -> Q (.ref l) (upd H l (.lst ys))) := by
 intro pins s σ H xs us Q I r h
 obtain ⟨p, ys, rfl, hq, q⟩ := h
 obtain ⟨u, rfl, rx⟩ := vals1 r
 cases rx
 have fin : ∀ (its : List Value), Vals ys its -> ys.length <= sizeLine -> ∀ (h' : Heap) (c' : Nat), (∀ b o', s.heap.get? b = some o' -> h'.get? b = some o') ->
   h'.get? s.heap.objs.size = some { cls := .type "list", dict := none, data := .seq its.toArray c', slots := #[] } -> EP X pins σ Q (.ref s.heap.objs.size) { s with heap := h' } := fun its r' hz h' c' kp e =>
  ⟨.ref s.heap.objs.size, _, I.laid (t' := s.toks) kp (Nat.le_refl _) (show ObjOk X.prog X.w _ h' _ (.lst ys) from ⟨hz, its, c', r', e⟩), rfl, q _ (I.hok.fresh (Nat.le_refl _))⟩
 rcases hq with hq | hq
 ·obtain ⟨its, r', pl, hz⟩ := I.list hq
  have hlen := r'.length
  obtain ⟨o, ho, hc, n, hd⟩ := pl.isList
  exact call_list_seq p (.inl rfl) ho hc hd (fun h' c' kp e => fin its r' hz h' c' kp e) (by simp only [List.size_toArray] <;> omega)
 ·obtain ⟨its, r', pl, hz⟩ := I.tuple hq
  have hlen := r'.length
  obtain ⟨o, ho, hc, n, hd⟩ := pl
  exact call_list_seq p (.inr rfl) ho hc hd (fun h' c' kp e => fin its r' hz h' c' kp e) (by simp only [List.size_toArray] <;> omega)
theorem call_tuple_of : CallR X (.type "tuple") (fun xs H Q => ∃ p ys, xs = [.ref p] /\ ((SqL X.K H p ys /\ ∀ l, H l = none -> Q (.ref l) (upd H l (.tup ys))) \/ (SqT X.K H p ys /\ Q (.ref p) H))) := by
 intro pins s σ H xs us Q I r h
 obtain ⟨p, ys, rfl, h⟩ := h
 obtain ⟨u, rfl, rx⟩ := vals1 r
 cases rx
 rcases h with ⟨hq, q⟩ | ⟨hq, q⟩
 ·obtain ⟨its, r', pl, hz⟩ := I.list hq
  have hlen := r'.length
  refine call_tuple_list pl.isList (fun h' kp => ?_) (by simp only [List.size_toArray] <;> omega)
  have I1 : Inv X pins σ H { s with heap := h' } := I.kept (t' := s.toks) kp
  have I2 : Inv X pins σ (upd H h'.objs.size (.tup ys)) { s with heap := h'.push { cls := .type "tuple", data := .seq its.toArray } } :=
   I1.laid (t' := s.toks) (fun b o e => Heap.get?_push_of_some _ e) (Nat.le_refl _) (show ObjOk X.prog X.w _ _ _ (.tup ys) from ⟨hz, its, r', IsTup.new _ _⟩)
  exact ⟨.ref h'.objs.size, _, I2, rfl, q _ (I1.hok.fresh (Nat.le_refl _))⟩
 ·obtain ⟨its, r', pl, hz⟩ := I.tuple hq
  exact call_tuple_same pl ⟨.ref p, H, I, rfl, q⟩
def tyV (K : W.Frag) (T : String) (x : V) (H : Hp) : Prop := match x with
 | .str _ => T = "str"
 | .int _ => T = "int"
 | .ref p => (T = "list" /\ ∃ xs, SqL K H p xs) \/ (T = "tuple" /\ ∃ o, K.lookup p = some o /\ o.cls = .type "tuple" /\ o.dict = none) \/
   (T = "dict" /\ ((∃ kvs, H p = some (.dK kvs)) \/ ∃ kvs, H p = some (.dT kvs))) \/ (T = "set" /\ ∃ S n, H p = some (.set S n))
 | _ => False
theorem tyV_is {pins : List (Addr × Obj)} {σ : St} {H : Hp} {s : Shared} {T : String} {x : V} {v : Value} (I : Inv X pins σ H s) (r : RelV x v) (ty : tyV X.K T x H) :
  s.TypeIs v T /\ ∀ a, v = .ref a -> ∃ ob, s.heap.get? a = some ob /\ ob.dict = none := by
 cases x with
 | str z =>
  obtain ⟨t, rfl⟩ := r
  cases (show T = "str" from ty)
  exact ⟨typeIs_str s z t, fun _ e => nomatch e⟩
 | int i =>
  obtain ⟨t, rfl⟩ := r
  cases (show T = "int" from ty)
  exact ⟨typeIs_int s i t, fun _ e => nomatch e⟩
 | ref p =>
  cases r
  rcases ty with ⟨rfl, xs, hq⟩ | ⟨rfl, o, hk, hc, hd⟩ | ⟨rfl, hk⟩ | ⟨rfl, S, n, hk⟩
  ·obtain ⟨its, _, pl, _⟩ := I.list hq
   refine ⟨pl.isList.typeIs, fun a e => ?_⟩
   cases e
   obtain ⟨o, n, e, c, hd, _⟩ := pl
   exact ⟨o, e, hd⟩
  ·refine ⟨⟨o, I.kIn p o hk, hc⟩, fun a e => ?_⟩
   cases e
   exact ⟨o, I.kIn _ o hk, hd⟩
  ·have z : ∃ o, s.heap.get? p = some o /\ o.ExactDict := by
    rcases hk with ⟨kvs, hk⟩ | ⟨kvs, hk⟩
    ·obtain ⟨_, _, _, _, o, _, _, e, ex, _⟩ := I.hok p _ hk
     exact ⟨o, e, ex⟩
    ·obtain ⟨_, _, _, _, o, _, _, e, ex, _⟩ := I.hok p _ hk
     exact ⟨o, e, ex⟩
   obtain ⟨o, e, ex⟩ := z
   refine ⟨⟨o, e, ex.1⟩, fun a e2 => ?_⟩
   cases e2
   exact ⟨o, e, ex.2.1⟩
  ·obtain ⟨o, _, _, _, e, ex, _⟩ := I.hok p _ hk
   refine ⟨⟨o, e, ex.1⟩, fun a e2 => ?_⟩
   cases e2
   exact ⟨o, e, ex.2.1⟩
 | _ => exact False.elim ty
def tBM (K : W.Frag) (T : String) (r : V -> List V -> Hp -> VK -> Prop) (to : TE) (t : TA) : TE := fun σ H Q => to σ H fun x H1 => tyV K T x H1 /\ t σ H1 fun xs H2 => r x xs H2 Q
variable {o e : Expr} {es : List Expr} {to : TE} {t : TA} {name : Str} {apos cpos : Pos} {T id : String} {r : V -> List V -> Hp -> VK -> Prop}
theorem pe_bm (pa : PlainAttrs T) (slot : Slot T name id) (hty : typeOf (.builtin id) = pure (.type "method_descriptor")) (hm : MtR X id r) (ho : PE X o to) (ha : PA X (e :: es) t)
  (hbase : attributeBase o name X.env (eval o X.env) = eval o X.env := by rfl)
  (hfew : ((backTo cpos (starEach (e :: es) X.env)).all (fun x => !x.1) && (backToKw cpos (keywordEach [] X.env)).all (fun x => x.1.isSome)
   && decide ((e :: es).length + ([] : List Keyword).length + (if ([] : List Keyword).isEmpty then 0 else 1) < 30)) = true := by rfl)
  (hline : (apos.endLine == cpos.line) = true := by rfl) (hs : starEach (e :: es) X.env = (false, eval e X.env) :: starEach es X.env := by rfl) (hplain : (backTo cpos (starEach es X.env)).any (·.1) = false := by rfl) :
  PE X (.Call (.Attribute o name apos) (e :: es) [] cpos) (tBM X.K T r to t) := by
 intro pins s σ H Q I h
 refine wpAny_Call_method_late hbase hfew hline rfl (thn (ho pins s σ H _ I h) fun v s1 ⟨x, H1, I1, r1, ty, q1⟩ => ?_)
 obtain ⟨h1, h2⟩ := tyV_is I1 r1 ty
 refine ⟨T, id, pa, slot, hty, h1, h2, ?_⟩
 have hA := ha cpos pins s1 σ H1 _ I1 q1
 rw [hs] at hA ⊢
 refine Calls.callWith_builtin (by show (false || (backTo cpos (starEach es X.env)).any (·.1)) = false; rw [hplain] <;> rfl) (Calls.evalArgs_plain ?_)
 exact thn hA fun us s2 ⟨vs, H2, I2, r2, q2⟩ => hm pins s2 σ H2 x vs v us Q I2 r1 r2 q2
/- xs.append(e), list.index on a module's tuple .. are MtR facts of 06m -/
end
def MtM (X : Cx) (id : String) (r : V -> List V -> Hp -> VK -> Prop) : Prop :=
 ∀ (pins : List (Addr × Obj)) (s : Shared) (σ : St) (H : Hp) (x : V) (xs : List V) (v : Value) (us : List Value) (Q : VK), Inv X pins σ H s -> RelV x v -> Vals xs us -> r x xs H Q ->
  wpAny (model X.prog X.w) X.A (call (.builtin id) (v :: us)) (EP X pins σ Q) X.xe s
theorem Vals.one : ∀ {x : V} {us : List Value}, Vals [x] us -> ∃ u, us = [u] /\ RelV x u
 | _, _, .cons r .nil => ⟨_, rfl, r⟩
theorem Vals.rep {xs : List V} {us : List Value} (h : Vals xs us) : ∀ k : Nat, Vals (List.replicate k xs).flatten (List.replicate k us).flatten
 | 0 => .nil
 | k + 1 => by
  rw [List.replicate_succ, List.replicate_succ, List.flatten_cons, List.flatten_cons]
  exact Vals.append h (Vals.rep h k)
theorem foldl_rep (its : List Value) : ∀ (k : Nat) (acc : List Value),
  List.foldl (fun x1 x2 => x1 ++ x2) acc.toArray (List.replicate k its.toArray) = (acc ++ (List.replicate k its).flatten).toArray
 | 0, acc => by simp
 | k + 1, acc => by
  have e : acc.toArray ++ its.toArray = (acc ++ its).toArray := by simp
  have e2 : (acc ++ its) ++ (List.replicate k its).flatten = acc ++ (List.replicate (k + 1) its).flatten := by
   rw [List.replicate_succ, List.flatten_cons, List.append_assoc]
  rw [<- e2, <- foldl_rep its k (acc ++ its), <- e, List.replicate_succ, List.foldl_cons]
section
variable {X : Cx} {pins : List (Addr × Obj)} {σ : St} {H : Hp} {s : Shared} {l b : Addr} {xs ys zs : List V}
theorem Inv.lset {its its' : List Value} {n : Nat} {f : Array Value -> Array Value} {t' : Nat} (I : Inv X pins σ H s) (hH : H l = some (.lst xs))
  (e : s.heap.get? l = some { cls := .type "list", data := .seq its.toArray n }) (hf : f its.toArray = its'.toArray) (hv : Vals ys its') (hz : ys.length <= sizeLine) :
  Inv X pins σ (upd H l (.lst ys)) { s with heap := s.heap.update l (Obj.mapSeq f), toks := t' } := by
 have q := PySem.IsL.update e f
 rw [hf] at q
 refine I.write (x := l) (e := l) (by rw [hH]; exact trivial) (.inl rfl) (fun b' u hb hu => (Heap.get?_update_other s.heap (Obj.mapSeq f) (Ne.symm hb)).trans hu) ⟨_, q⟩ ?_
 exact ⟨hz, its', _, hv, q⟩
theorem Inv.lnew {its : List Value} {t' : Nat} (I : Inv X pins σ H s) (hv : Vals ys its) (hz : ys.length <= sizeLine) :
  Inv X pins σ (upd H s.heap.objs.size (.lst ys)) { s with heap := s.heap.push { cls := .type "list", data := .seq its.toArray }, toks := t' } :=
 I.laid (fun _ _ q => Heap.get?_push_of_some _ q) (Nat.le_refl _) ⟨hz, its, 0, hv, Heap.get?_push_size _ rfl⟩
theorem Inv.fresh (I : Inv X pins σ H s) : H s.heap.objs.size = none := I.hok.fresh (Nat.le_refl _)
theorem Inv.lstM (I : Inv X pins σ H s) (hH : H l = some (.lst xs)) : xs.length <= sizeLine /\ ∃ (its : List Value) (n : Nat), Vals xs its /\ xs.length = its.length /\ s.heap.get? l = some { cls := .type "list", data := .seq its.toArray n } := by
 obtain ⟨z, its, n, r, e⟩ := I.hok l _ hH
 exact ⟨z, its, n, r, r.length, e⟩
theorem notLongL {n : Nat} (h : n <= sizeLine) : Builtin.List.listTooLong n = false := by
 unfold Builtin.List.listTooLong
 exact decide_eq_false (by omega)
end
section
variable {X : Cx}
def rAppend : V -> List V -> Hp -> VK -> Prop := fun x vs H Q => ∃ l xs y, x = .ref l /\ vs = [y] /\ H l = some (.lst xs) /\ xs.length < sizeLine /\ Q .non (upd H l (.lst (xs ++ [y])))
theorem mt_append : MtM X "list.append" rAppend := by
 intro pins s σ H x vs v us Q I rx rv h
 obtain ⟨l, xs, y, rfl, rfl, hH, hz, q⟩ := h
 cases rx
 obtain ⟨u, rfl, ru⟩ := rv.one
 obtain ⟨z, its, n, r, hl, e⟩ := I.lstM hH
 refine call_meets F.slot_list_append ⟨_, e, rfl⟩ F.entry_list_append (F.args_list_append_2 _ _) (PySem.list_append l its.toArray n u (by rw [List.size_toArray]; omega)) ⟨e, ?_⟩
 refine ⟨.non, _, I.lset (its' := its ++ [u]) hH e (by simp) (r.append (.cons ru .nil)) ?_, rfl, q⟩
 rw [List.length_append, List.length_singleton]
 omega
def rCat : R2 := fun x y H Q => ∃ l b xs zs, x = .ref l /\ y = .ref b /\ H l = some (.lst xs) /\ H b = some (.lst zs) /\ xs.length + zs.length <= sizeLine /\ ∀ p, H p = none -> Q (.ref p) (upd H p (.lst (xs ++ zs)))
theorem op_cat : OpR X (binaryOp .Add) rCat := by
 intro pins s σ H x y v u Q I rx ry h
 obtain ⟨l, b, xs, zs, rfl, rfl, hH, hB, hz, q⟩ := h
 cases rx
 cases ry
 obtain ⟨z, its, n, r, hl, e⟩ := I.lstM hH
 obtain ⟨z2, its2, n2, r2, hl2, e2⟩ := I.lstM hB
 refine PySem.P.add_list e e2 ?_ (by rw [List.size_toArray, List.size_toArray]; omega)
 have ea : its.toArray ++ its2.toArray = (its ++ its2).toArray := by simp
 rw [ea]
 exact ⟨.ref _, _, I.lnew (t' := s.toks) (r.append r2) (by rw [List.length_append]; omega), rfl, q _ I.fresh⟩
def rRep : R2 := fun x y H Q => ∃ l k xs, x = .ref l /\ y = .int k /\ H l = some (.lst xs) /\ -(2 ^ 63) <= k /\ k < 2 ^ 63 /\ xs.length * k.toNat <= sizeLine /\
 ∀ p, H p = none -> Q (.ref p) (upd H p (.lst (List.replicate k.toNat xs).flatten))
theorem len_rep {α : Type} (xs : List α) (k : Nat) : (List.replicate k xs).flatten.length = k * xs.length := by
 induction k with
 | zero => simp
 | succ k ih => rw [List.replicate_succ, List.flatten_cons, List.length_append, ih, Nat.succ_mul, Nat.add_comm]
theorem op_rep : OpR X (binaryOp .Mult) rRep := by
 intro pins s σ H x y v u Q I rx ry h
 obtain ⟨l, k, xs, rfl, rfl, hH, h1, h2, hz, q⟩ := h
 cases rx
 obtain ⟨t, rfl⟩ := ry
 obtain ⟨z, its, n, r, hl, e⟩ := I.lstM hH
 have hlen : its.toArray.size * k.toNat <= sizeLine := by rw [List.size_toArray, <- hl]; exact hz
 have hcap : ¬ its.toArray.size * k.toNat > (2 ^ 63 - 1) / 8 := by
  have : (sizeLine : Nat) <= (2 ^ 63 - 1) / 8 := by decide
  omega
 have hfit : ¬ (!Builtin.List.listFitsIndex k) = true := by
  rw [fitsIndex_both h1 h2]
  exact Bool.false_ne_true
 have hlong : ¬ Builtin.List.listTooLong (its.toArray.size * k.toNat) = true := by
  rw [notLongL hlen]
  exact Bool.false_ne_true
 have hnew : List.foldl (fun x1 x2 => x1 ++ x2) #[] (List.replicate (if its.toArray.isEmpty = true then 0 else k.toNat) its.toArray) = (List.replicate k.toNat its).flatten.toArray := by
  have f0 : ∀ m : Nat, List.foldl (fun x1 x2 => x1 ++ x2) #[] (List.replicate m its.toArray) = (List.replicate m its).flatten.toArray := fun m => by
   have := foldl_rep its m []
   rw [List.nil_append] at this
   exact this
  rw [f0]
  cases its with
  | nil => simp
  | cons a r' => rw [if_neg (by simp)]
 refine wpAny_binaryOp_repeat_ref (T := "list") (U := "int") (by decide) ⟨_, e, rfl⟩ (fun s' => typeIs_int s' k t) noFill_list_mul F.fills_int_mul F.slot_int_rmul repeat_list F.slot_int_index.lookup
  (call_meets F.slot_int_rmul (typeIs_int s k t) F.entry_int_rmul (F.args_int_rmul_2 _ _) (int___rmul___int_list k t l its.toArray n)
   ⟨e, rfl, ⟨_, e, rfl⟩, call_meets F.slot_list_mul ⟨_, e, rfl⟩ F.entry_list_mul (F.args_list_mul_2 _ _) (AutoListH.list___mul___list_int_3 l its.toArray n k t hfit hcap hlong) ⟨e, ?_⟩⟩)
 rw [hnew]
 exact ⟨.ref _, _, I.lnew (t' := s.toks) (r.rep k.toNat) (by rw [len_rep, Nat.mul_comm]; exact hz), rfl, q _ I.fresh⟩
end
section
variable {prog : Program} {w : World} {A : Around} {E : Value -> Shared -> Prop} {s : Shared}
end
section
variable {X : Cx}
end
end L2
namespace Att
open PySem PySem.W PySem.Calls PyProof.Rows
theorem ints_of_wellAll {P : Params} {h : Heap} : ∀ (ns : List Int) (vs : List Value), WellAll P h vs (ns.map WData.int) -> IntsAre vs ns := by
 intro ns
 induction ns with
 | nil =>
  intro vs w
  rw [List.map_nil] at w
  cases w
  exact .nil
 | cons n ns ih =>
  intro vs w
  rw [List.map_cons] at w
  cases w with
  | cons a b =>
   cases a
   exact .cons _ _ (ih _ b)
theorem script_of {l : OpenLaw} {n : Nat} (hn : l.most = some n) {P : Params} {h : Heap} {args : List WData} {vals : List Value}
  (hpre : l.row.toRowW.claim.pre args = true) (hwl : WellAll P h vals args) :
  ∃ a vs ns, vals = [Value.ref a] /\ args = [WData.list (ns.map WData.int)] /\ h.get? a = some { cls := .type "list", data := .seq vs.toArray } /\ IntsAre vs ns /\ ns.length <= n := by
 have hsh : WShape.hasAll [] args [.list .int] = true := (pre_splitW hpre).1
 have hc : l.pre.holds [] { args := args } = true := (pre_splitW hpre).2
 obtain ⟨d, r, rfl, h1, h2⟩ := hasAllW_cons hsh
 obtain rfl := hasAllW_nil h2
 obtain ⟨xs, rfl, h3⟩ := hasW_list h1
 obtain ⟨ns, rfl⟩ := items_int h3
 have hlen : ns.length <= n := by
  unfold OpenLaw.pre at hc
  have h4 : (WTm.not (.lt (.lit (.int (n : Int))) (.len (.arg 0)))).holds [] { args := [.list (ns.map .int)] } = true := by
   have h4 := (holds_andW hc).1
   rw [hn] at h4
   exact h4
  have h5 := condW_of h4 (w_not (w_lt w_lit (w_len_list (w_arg rfl))))
  rw [List.length_map] at h5
  refine Nat.le_of_not_lt fun q => ?_
  have q' : (n : Int) < ((ns.length : Nat) : Int) := by omega
  first
   | (rw [decide_eq_true q'] at h5; exact absurd h5 (by decide))
   | (simp at h5; omega)
 cases hwl with
 | cons w1 w2 =>
  cases w2
  cases w1 with
  | list ho hall => exact ⟨_, _, ns, rfl, rfl, ho, ints_of_wellAll ns _ hall, hlen⟩
theorem post_true (l : OpenLaw) (args : List WData) : l.row.toRowW.claim.post args (.bool true) args = true :=
 postW_of (r := l.row.toRowW) (X := (true == true))
  (show WShape.has [] (.bool true) .bool = true by first | rfl | decide | simp [WShape.has, WShape.arms, WShape.armsAll])
  (show (WTm.eq .res (.lit (.bool true))).value [] { args := args, res := some (.bool true), after := args } = some (.bool (true == true)) from w_eq_bool (w_res rfl) w_lit) rfl
theorem attach_call {l : OpenLaw} {n : Nat} {q : Program} {loose : List Str} {XP : (Str -> Option Value) -> Heap -> Prop} {YP : World -> Heap -> Prop} {d : DefRec}
  (hn : l.most = some n) (hdf : d.params.defaults = [])
  (call : ∀ (w : World) (s₀ s₁ : Shared) (mg mb : Str -> Option Value) (fa : Addr) (o : Obj) (pm cd doc : Value) (a : Addr) (vs : List Value) (ns : List Int),
   Ground q loose [] XP w s₀ mg mb s₁.heap -> YP w s₁.heap ->
   s₁.heap.get? fa = some o -> o.data = .func (docDef d.name d.params d.body d.scope pm cd doc) -> s₁.heap.CodeRec cd d.name -> mg d.name = some (.ref fa) ->
   s₁.heap.get? a = some { cls := .type "list", data := .seq vs.toArray } -> IntsAre vs ns -> ns.length <= n -> s₁.gens = #[] ->
   codeAny (model l.prog w) callerA (.call (.ref fa) ⟨[.ref a], []⟩) (fun r s' => r = .ok (.ret (.bool true)) /\ OldK s₁.heap s'.heap /\ s'.os = s₁.os /\ AllBare s'.gens) s₁) :
  WalkO q loose XP YP l.row.toRowW d [] (fun f vs => PySem.call f vs) := by
 intro w s₀ s₁ mg mb G Y fa o pm cd doc dV kV ho hd hcd hD hmg hg args vals as hpre hlay hrd hwl hlo
 obtain rfl : dV = .none := Dflts.none hD hdf
 obtain rfl : kV = .none := Dflts.noKw hD
 obtain ⟨a, vs, ns, rfl, rfl, hobj, hints, hlen⟩ := script_of hn hpre hwl
 refine enter_call (codeAny_mono (call w s₀ s₁ mg mb fa o pm cd doc a vs ns G Y ho (fd_plain hd) hcd hmg hobj hints hlen hg) fun r s' hq => ?_)
 obtain ⟨rfl, h2, h3, h4⟩ := hq
 exact ⟨.inl ⟨.bool true, .bool true, [], rfl, fun _ => rfl, .bool true, post_true l _, fun _ => ⟨List.Pairwise.nil, fun _ hm => (nomatch hm)⟩⟩, h2, h3, h4⟩
section
variable {prog : Program} {w : World} {A : Around} {E : Value -> Shared -> Prop} {s : Shared} {K : Frag}
end
end Att
namespace L2
open PySem PySem.Spec PyProof.Rows
theorem vals_ints : ∀ {vs : List Value} {ns : List Int}, IntsAre vs ns -> Vals (ns.map V.int) vs
 | _, _, .nil => .nil
 | _, _, .cons n t h => .cons ⟨t, rfl⟩ (vals_ints h)
end L2
namespace L2
open PySem PySem.Spec PyProof.Rows
def defArgs (s : Stmt) : Arguments := match s with
 | .FunctionDef _ a _ _ _ _ _ _ _ _ => a
 | _ => { posonlyargs := [], args := [], vararg := none, kwonlyargs := [], kw_defaults := [], kwarg := none, defaults := [] }
def defBody (s : Stmt) : List Stmt := match s with
 | .FunctionDef _ _ b _ _ _ _ _ _ _ => b
 | _ => []
def defScope (s : Stmt) : Scope := match s with
 | .FunctionDef _ _ _ _ _ _ sc _ _ _ => sc
 | _ => { kind := .function, names := [], isGenerator := false, isCoroutine := false }
abbrev CX0 : CXT := fun _ _ _ _ _ _ => False
abbrev E0 : XK := fun _ _ _ => False
theorem pass0 {X : Cx} : Passes CX0 X E0 := fun _ _ _ _ _ _ _ h => h.elim
structure Fun (K : W.Frag) (x qual : Str) (st : Stmt) (f : Addr) (fd : FuncData) : Prop where
 ex : ∃ (oc : Value) (od : Option Addr) (kV doc pm : Value) (an : Option Addr) (cdv ct : Value) (osl : Array (Option Value)),
  fd = PySem.W.fnOf x qual (defArgs st) (defBody st) (defScope st) .none kV doc pm an cdv ct /\ K.lookup f = some ⟨oc, od, .func fd, osl⟩ /\ PySem.W.codeIn K cdv qual = true
 kp : PySem.W.keepIn K (.ref f) = true
section
variable {P : Program} {w : World} {K : W.Frag} {mg : Str -> Option Value} {base : Heap}
theorem Fun.ok {x qual : Str} {st : Stmt} {f : Addr} {fd : FuncData} {N ps : List Str} {k : Nat} {sp : Sp} (F : Fun K x qual st f fd) (S : FnScope N ps (defScope st)) (len : ∀ vs H Q E, sp vs H Q E -> vs.length = ps.length)
  (hbody : ∀ (cdv : Value) (A : Around) (outer : List Env) (s : Shared) (H : Hp) (vs : List V) (Q : VK) (E : XK), Room k (A.deeper (envOfC qual (defScope st) s.heap.objs.size f cdv)) -> sp vs H Q E ->
   ∃ t, PSs (cxOf CX0 P w K mg base N qual (defScope st) f cdv A outer s H E).nox (defBody st) t /\ t { nx := fun _ H' => Q .non H', rt := Q } (start N vs) H) : FnOk P w K mg base CX0 (k + 1) f fd ps sp := by
 obtain ⟨oc, od, kV, doc, pm, an, cdv, ct, osl, rfl, lk, hcd⟩ := F.ex
 refine fn_of lk hcd S len fun A outer s H vs Q E hr hsp => ?_
 obtain ⟨t, h, q⟩ := hbody cdv A outer s H vs Q E hr hsp
 exact ⟨t, h.nox, q⟩
theorem Fun.binds {x qual : Str} {st : Stmt} {f : Addr} {fd : FuncData} {ps : List Str} (F : Fun K x qual st f fd)
  (h : ∀ (kV doc pm : Value) (an : Option Addr) (cdv ct : Value) (us : List Value), us.length = ps.length -> bindArgs (PySem.W.fnOf x qual (defArgs st) (defBody st) (defScope st) .none kV doc pm an cdv ct) ⟨us, []⟩ = pure (ps.zip us)) : Binds K fd ps [] := by
 obtain ⟨oc, od, kV, doc, pm, an, cdv, ct, osl, rfl, lk, hcd⟩ := F.ex
 exact .all (h kV doc pm an cdv ct)
theorem fun_mk {x qual : Str} {st : Stmt} {f : Addr} {oc : Value} {od an : Option Addr} {osl : Array (Option Value)} {kV doc pm cdv ct : Value} (l : K.lookup f = some ⟨oc, od, .func (PySem.W.fnOf x qual (defArgs st) (defBody st) (defScope st) .none kV doc pm an cdv ct), osl⟩)
  (c : PySem.W.codeIn K cdv qual = true) (k : PySem.W.keepIn K (.ref f) = true) : Fun K x qual st f (PySem.W.fnOf x qual (defArgs st) (defBody st) (defScope st) .none kV doc pm an cdv ct) := ⟨⟨oc, od, kV, doc, pm, an, cdv, ct, osl, rfl, l, c⟩, k⟩
end
section
variable {X : Cx}
theorem pv (i : Nat) {x : Str} {pos : Pos} (hN : X.N[i]? = some x := by rfl) (hv : Vis X.env.scope x := by first | exact Or.inl rfl | exact Or.inr (Or.inl rfl) | exact Or.inr (Or.inr rfl)) (hd : (x == ("__debug__" : Str)) = false := by decide)
  (hcd : (x == ("__classdict__" : Str)) = false := by decide) : PE X (.Name x pos) (tVar i) := pe_var hN hv hd hcd
end
theorem iteF {A B : Prop} (h : B) : if false = true then A else B := by
 rw [if_neg Bool.false_ne_true]
 exact h
theorem iteT {A B : Prop} (h : A) : if true = true then A else B := by
 rw [if_pos rfl]
 exact h
theorem ite2 {c A B : Prop} [Decidable c] (h1 : c -> A) (h2 : ¬ c -> B) : if c then A else B := by
 by_cases h : c
 ·rw [if_pos h]
  exact h1 h
 ·rw [if_neg h]
  exact h2 h
theorem iteNS {c A B : Prop} [Decidable c] (hc : c) (h : B) : if (!decide c) = true then A else B := by
 rw [decide_eq_true hc]
 exact iteF h
def Same (H H' : Hp) : Prop := ∀ b o, H b = some o -> H' b = some o
theorem Same.refl (H : Hp) : Same H H := fun _ _ h => h
theorem Same.trans {H H1 H2 : Hp} (a : Same H H1) (b : Same H1 H2) : Same H H2 := fun c o h => b c o (a c o h)
theorem Same.free {H H' : Hp} (e : Same H H') {l : Addr} (h : H' l = Option.none) : H l = Option.none := by
 cases q : H l with
 | none => rfl
 | some o =>
  rw [e l o q] at h
  cases h
theorem Same.seq {K : W.Frag} {H H' : Hp} {a : Addr} {xs : List V} (e : Same H H') (h : SqL K H a xs) : SqL K H' a xs := by
 rcases h with (h | ⟨o, h⟩) | h
 ·exact .inl (.inl (e _ _ h))
 ·exact .inl (.inr ⟨o, e _ _ h⟩)
 ·exact .inr h
end L2
namespace Tim
open PySem PyProof.Rows
structure Ord (B : Keyed -> Keyed -> Bool) : Prop where
 irr : ∀ x, B x x = false
 tr : ∀ x y z, B x y = true -> B y z = true -> B x z = true
 ng : ∀ x y z, B x z = true -> B x y = true \/ B y z = true
def le (B : Keyed -> Keyed -> Bool) (x y : Keyed) : Prop := B y x = false
section
variable {prog : Program} {w : World} {A : Around} {E : Value -> Shared -> Prop} {s : Shared} {κ : SortKind} {S : Keyed -> Prop} {B : Keyed -> Keyed -> Bool}
def Cmp (prog : Program) (w : World) (A : Around) (E : Value -> Shared -> Prop) (s : Shared) (κ : SortKind) (S : Keyed -> Prop) (B : Keyed -> Keyed -> Bool) : Prop :=
 ∀ (x y : Keyed), S x -> S y -> ∀ (Q : Bool -> Shared -> Prop), Q (B x y) s -> wpAny (model prog w) A (keyLt' κ x.1 y.1) Q (fun _ _ => False) s
theorem wpS_lt (C : Cmp prog w A E s κ S B) {x y : Keyed} {st : SortSt} {Q : Option Bool -> SortSt -> Prop} (hk : kindOf st = κ) (hx : S x) (hy : S y) (h : Q (some (B x y)) st) : wpS (model prog w) A E s (lt' x y) Q st := by
 rw [lt'_eq]
 refine wpS_bind (wpS_get ?_)
 rw [hk]
 refine wpS_bind (wpS_lift (wpAny_attempt ?_))
 refine wpAny_mono (C x y hx hy (fun b s' => s' = s /\ b = B x y) ⟨rfl, rfl⟩) (fun b s' hb => ?_) (fun _ _ f => f.elim)
 obtain ⟨rfl, rfl⟩ := hb
 exact ⟨rfl, wpS_pure h⟩
theorem wpS_elem {arr : Array Keyed} {i : Nat} {x : Keyed} {st : SortSt} {Q : Keyed -> SortSt -> Prop} (hi : arr[i]? = some x) (h : Q x st) : wpS (model prog w) A E s (elem' arr i) Q st := by
 rw [elem'_eq, hi]
 exact wpS_pure h
theorem wpS_ltAt' (C : Cmp prog w A E s κ S B) {i j : Nat} {x y : Keyed} {st : SortSt} {Q : Option Bool -> SortSt -> Prop} (hk : kindOf st = κ) (hi : (arrOf st)[i]? = some x) (hj : (arrOf st)[j]? = some y) (hx : S x) (hy : S y) (h : Q (some (B x y)) st) :
  wpS (model prog w) A E s (ltAt' i j) Q st := by
 rw [ltAt'_eq]
 refine wpS_bind (wpS_get ?_)
 show wpS _ _ _ _ (do let x <- elem' (arrOf st) i; let y <- elem' (arrOf st) j; lt' x y) Q st
 exact wpS_bind (wpS_elem hi (wpS_bind (wpS_elem hj (wpS_lt C hk hx hy h))))
end
structure MI (R : Keyed -> Keyed -> Prop) (out ra rb all : List Keyed) : Prop where
 so : out.Pairwise R
 oa : ∀ x ∈ out, ∀ y ∈ ra, R x y
 ob : ∀ x ∈ out, ∀ y ∈ rb, R x y
 sa : ra.Pairwise R
 sb : rb.Pairwise R
 pm : (out ++ (ra ++ rb)).Perm all
structure Sm (st st' : SortSt) : Prop where
 k : kindOf st' = kindOf st
 a : arrOf st' = arrOf st
 p : pendingOf st' = pendingOf st
 f : failedOf st' = failedOf st
section
variable {prog : Program} {w : World} {A : Around} {E : Value -> Shared -> Prop} {s : Shared} {κ : SortKind} {S : Keyed -> Prop} {B : Keyed -> Keyed -> Bool}
structure LoI (B : Keyed -> Keyed -> Bool) (a b out : Array Keyed) (ia ib : Nat) : Prop where
 m : MI (le B) out.toList (a.toList.drop ia) (b.toList.drop ib) (a.toList ++ b.toList)
 ha : ia + 1 < a.size
 hb : ib < b.size
 sz : out.size = ia + ib
def Good (B : Keyed -> Keyed -> Bool) (a b r : Array Keyed) : Prop := r.toList.Pairwise (le B) /\ r.toList.Perm (a.toList ++ b.toList)
end
section
variable {prog : Program} {w : World} {A : Around} {E : Value -> Shared -> Prop} {s : Shared} {κ : SortKind} {S : Keyed -> Prop} {B : Keyed -> Keyed -> Bool}
abbrev HM (B : Keyed -> Keyed -> Bool) (a b out : Array Keyed) (na nb : Nat) : Prop := MI (fun x y => le B y x) out.toList (a.toList.take na).reverse (b.toList.take nb).reverse (a.toList ++ b.toList)
structure HiI (B : Keyed -> Keyed -> Bool) (a b out : Array Keyed) (na nb : Nat) : Prop where
 m : HM B a b out na nb
 ha : 0 < na
 ha' : na <= a.size
 hb : 1 < nb
 hb' : nb <= b.size
 sz : out.size + na + nb = a.size + b.size
end
def KF {O : KeyOrd} (f : Keyed -> O.α) (d : O.α) (xs : Array Keyed) (i : Nat) : O.α := match xs[i]? with
 | some p => f p
 | none => d
def Bf {O : KeyOrd} (f : Keyed -> O.α) (x y : Keyed) : Bool := O.blt (f x) (f y)
section
variable {O : KeyOrd} {f : Keyed -> O.α} {d : O.α}
theorem KF_some {xs : Array Keyed} {i : Nat} {x : Keyed} (h : xs[i]? = some x) : KF f d xs i = f x := by unfold KF; rw [h]
end
def SortedF {O : KeyOrd} (f : Keyed -> O.α) (d : O.α) (lo : Nat) (xs : Array Keyed) (k : Nat) : Prop := ∀ i j, i <= j -> j < k -> O.kle (KF f d xs (lo + i)) (KF f d xs (lo + j))
structure SI (a₀ : Array Keyed) (κ : SortKind) (p : Array (Nat × Nat × Nat)) (st : SortSt) : Prop where
 perm : (arrOf st).Perm a₀
 kind : kindOf st = κ
 failed : failedOf st = none
 pend : pendingOf st = p
section
variable {prog : Program} {w : World} {A : Around} {E : Value -> Shared -> Prop} {s : Shared} {κ : SortKind} {a₀ : Array Keyed} {p : Array (Nat × Nat × Nat)} {O : KeyOrd} {f : Keyed -> O.α} {d : O.α}
theorem SI.size {st : SortSt} (h : SI a₀ κ p st) : (arrOf st).size = a₀.size := h.perm.size_eq
theorem SI.at {st : SortSt} (h : SI a₀ κ p st) {i : Nat} (hi : i < a₀.size) : ∃ x, (arrOf st)[i]? = some x /\ x ∈ a₀.toList := by
 have hi' : i < (arrOf st).size := by rw [h.size]; exact hi
 exact ⟨(arrOf st)[i], getElem?_pos _ i hi', (Array.perm_iff_toList_perm.mp h.perm).mem_iff.mp (by simp)⟩
abbrev CmpA (prog : Program) (w : World) (A : Around) (E : Value -> Shared -> Prop) (s : Shared) (κ : SortKind) (a₀ : Array Keyed) {O : KeyOrd} (f : Keyed -> O.α) : Prop := Cmp prog w A E s κ (· ∈ a₀.toList) (Bf f)
theorem wpS_ltF (C : CmpA prog w A E s κ a₀ f) {st : SortSt} {i j : Nat} {Q : Option Bool -> SortSt -> Prop} (hB : SI a₀ κ p st) (hi : i < a₀.size) (hj : j < a₀.size)
  (h : Q (some (O.blt (KF f d (arrOf st) i) (KF f d (arrOf st) j))) st) : wpS (model prog w) A E s (ltAt' i j) Q st := by
 obtain ⟨x, e1, hx⟩ := hB.at hi
 obtain ⟨y, e2, hy⟩ := hB.at hj
 rw [KF_some e1, KF_some e2] at h
 exact wpS_ltAt' C hB.kind e1 e2 hx hy h
theorem wpS_asc {st : SortSt} {lo a nrem : Nat} {Q : Option (Option Nat) × Nat -> SortSt -> Prop} {b : Nat -> Option (Option Nat) × Nat -> StateT SortSt Sem (ForInStep (Option (Option Nat) × Nat))} (ha : 1 <= a) (han : a <= nrem)
  (hb : ∀ x n (R : ForInStep (Option (Option Nat) × Nat) -> SortSt -> Prop), 1 <= n -> n < nrem -> (O.klt (KF f d (arrOf st) (lo + n)) (KF f d (arrOf st) (lo + n - 1)) -> R (.done (none, n)) st) ->
   (O.kle (KF f d (arrOf st) (lo + n - 1)) (KF f d (arrOf st) (lo + n)) -> R (.yield (none, n + 1)) st) -> wpS (model prog w) A E s (b x (none, n)) R st)
  (hs : SortedF f d lo (arrOf st) a)
  (h : ∀ n, a <= n -> n <= nrem -> SortedF f d lo (arrOf st) n -> (n = nrem \/ O.klt (KF f d (arrOf st) (lo + n)) (KF f d (arrOf st) (lo + n - 1))) -> Q (none, n) st) :
  wpS (model prog w) A E s (forIn [a:nrem] (none, a) b) Q st := by
 refine wpS_forRange (I := fun x c st' => st' = st /\ c = (none, x) /\ SortedF f d lo (arrOf st) x) ?step ?fin ⟨rfl, rfl, hs⟩
 case fin =>
  rintro c st' ⟨rfl, rfl, hs'⟩
  rw [show max a nrem = nrem by omega] at hs' ⊢
  exact h nrem han (Nat.le_refl _) hs' (.inl rfl)
 case step =>
  rintro x c st' hax hxn ⟨rfl, rfl, hs'⟩
  refine hb x x _ (by omega) hxn (fun q => h x hax (by omega) hs' (.inr q)) (fun q => ⟨rfl, rfl, fun i j hij hj => ?_⟩)
  by_cases hjx : j < x
  ·exact hs' i j hij hjx
  ·have hj' : j = x := by omega
   subst hj'
   by_cases hi' : i = j
   ·subst hi'; exact KeyOrd.kle_refl _
   ·refine KeyOrd.kle_trans (hs' i (j - 1) (by omega) (by omega)) ?_
    rw [show lo + (j - 1) = lo + j - 1 by omega]
    exact q
end
def shape (ps : List (Nat × Nat × Nat)) : List (Nat × Nat) := ps.map fun x => (x.1, x.2.1)
def offs : Nat -> List (List Keyed) -> List (Nat × Nat)
 | _, [] => []
 | k, r :: rs => (k, r.length) :: offs (k + r.length) rs
structure SR (a₀ : Array Keyed) (κ : SortKind) (B : Keyed -> Keyed -> Bool) (runs : List (List Keyed)) (suf : List Keyed) (st : SortSt) : Prop where
 perm : (arrOf st).Perm a₀
 kind : kindOf st = κ
 failed : failedOf st = none
 sh : shape (pendingOf st).toList = offs 0 runs
 ok : ∀ r ∈ runs, r ≠ [] /\ r.Pairwise (le B)
 arr : (arrOf st).toList = runs.flatten ++ suf
section
variable {prog : Program} {w : World} {A : Around} {E : Value -> Shared -> Prop} {s : Shared} {κ : SortKind} {a₀ : Array Keyed} {B : Keyed -> Keyed -> Bool}
end
section
variable {prog : Program} {w : World} {A : Around} {E : Value -> Shared -> Prop} {s : Shared} {κ : SortKind} {a₀ : Array Keyed} {O : KeyOrd} {f : Keyed -> O.α}
end
end Tim
namespace Tim
open PySem PyProof.Rows PySem.W
def lexB : List Int -> List Int -> Bool
 | [], [] => false
 | [], _ :: _ => true
 | _ :: _, [] => false
 | a :: x, b :: y => if a = b then lexB x y else decide (a < b)
theorem lexB_irr : ∀ x, lexB x x = false
 | [] => rfl
 | a :: x => by unfold lexB; rw [if_pos rfl]; exact lexB_irr x
theorem lexB_tr : ∀ x y z, lexB x y = true -> lexB y z = true -> lexB x z = true
 | [], [], z, h, _ => by cases h
 | [], _ :: _, [], _, h => by cases h
 | [], _ :: _, _ :: _, _, _ => rfl
 | _ :: _, [], z, h, _ => by cases h
 | _ :: _, _ :: _, [], _, h => by cases h
 | a :: x, b :: y, c :: z, h1, h2 => by
  unfold lexB at h1 h2 ⊢
  by_cases e1 : a = b
  ·subst e1
   rw [if_pos rfl] at h1
   by_cases e2 : a = c
   ·rw [if_pos e2] at h2 ⊢
    exact lexB_tr x y z h1 h2
   ·rw [if_neg e2] at h2 ⊢
    exact h2
  ·rw [if_neg e1, decide_eq_true_eq] at h1
   by_cases e2 : b = c
   ·subst e2
    rw [if_neg e1, decide_eq_true_eq]
    exact h1
   ·rw [if_neg e2, decide_eq_true_eq] at h2
    rw [if_neg (by omega), decide_eq_true_eq]
    omega
theorem lexB_tot : ∀ x y, lexB x y = false -> lexB y x = false -> x = y
 | [], [], _, _ => rfl
 | [], _ :: _, h, _ => by cases h
 | _ :: _, [], _, h => by cases h
 | a :: x, b :: y, h1, h2 => by
  unfold lexB at h1 h2
  by_cases e : a = b
  ·subst e
   rw [if_pos rfl] at h1 h2
   rw [lexB_tot x y h1 h2]
  ·rw [if_neg e, decide_eq_false_iff_not] at h1
   rw [if_neg (Ne.symm e), decide_eq_false_iff_not] at h2
   omega
theorem lexB_ng (x y z : List Int) (h : lexB x z = true) : lexB x y = true \/ lexB y z = true := by
 cases e1 : lexB x y with
 | true => exact .inl rfl
 | false =>
  cases e2 : lexB y x with
  | true => exact .inr (lexB_tr _ _ _ e2 h)
  | false => rw [lexB_tot x y e1 e2] at h; exact .inr h
def lexO : KeyOrd := ⟨List Int, lexB, lexB_irr, lexB_tr, lexB_ng, lexB_tot⟩
section
variable {prog : Program} {w : World}
def IsK (prog : Program) (w : World) (h : Heap) (k : List Int) (v : Value) : Prop := ∃ a, v = .ref a /\ IsTupleKey (intKind prog w) h k a
theorem IsK.inj {h : Heap} {k k' : List Int} {v : Value} (x : IsK prog w h k v) (y : IsK prog w h k' v) : k = k' := by
 obtain ⟨a, rfl, h1⟩ := x
 obtain ⟨b, e, h2⟩ := y
 cases e
 exact h1.inj h2
open Classical in
noncomputable def keyAt (prog : Program) (w : World) (h : Heap) (v : Value) : List Int := if q : ∃ k, IsK prog w h k v then Classical.choose q else []
theorem keyAt_eq {h : Heap} {k : List Int} {v : Value} (x : IsK prog w h k v) : keyAt prog w h v = k := by
 unfold keyAt
 rw [dif_pos ⟨k, x⟩]
 exact (Classical.choose_spec (⟨k, x⟩ : ∃ k, IsK prog w h k v)).inj x
theorem IsK.up {h h' : Heap} {k : List Int} {v : Value} (x : IsK prog w h k v) (hs : ∀ b o, h.get? b = some o -> h'.get? b = some o) : IsK prog w h' k v := by
 obtain ⟨a, e, o, items, n, h2, h3⟩ := x
 exact ⟨a, e, o, items, n, hs a o h2, h3⟩
variable {A : Around} {E : Value -> Shared -> Prop} {s : Shared}
theorem lex_items {b : Bool} {Q : Bool -> Shared -> Prop} (hb : b = true) : ∀ (x y : List Int) (vs us : List Value) (i : Nat) (fin : Bool), ItemsAre (intKind prog w) x vs -> ItemsAre (intKind prog w) y us -> (x.length < y.length ↔ fin = true) -> Q (lexB x y) s -> KatLex prog w A b fin Q (vs.zip us) i s
 | [], [], _, _, i, fin, .nil, .nil, hf, h => by
  have : fin = false := by cases fin with | false => rfl | true => exact absurd (hf.mpr rfl) (by simp)
  subst this
  exact kat_nil h
 | [], _ :: _, _, _, i, fin, .nil, .cons _ _, hf, h => by
  have : fin = true := hf.mp (by simp)
  subst this
  exact kat_nil h
 | _ :: _, [], _, _, i, fin, .cons _ _, .nil, hf, h => by
  have : fin = false := by cases fin with | false => rfl | true => exact absurd (hf.mpr rfl) (by simp)
  subst this
  exact kat_nil h
 | a :: x, c :: y, _, _, i, fin, .cons h1 t1, .cons h2 t2, hf, h => by
  obtain ⟨t, rfl⟩ := Value.isInt_shape h1
  obtain ⟨u, rfl⟩ := Value.isInt_shape h2
  rw [List.zip_cons_cons]
  refine kat_cons (wpAny_eqBool_int ?_)
  unfold lexB at h
  by_cases e : a = c
  ·subst e
   rw [if_pos rfl] at h
   rw [show (a == a) = true by simp]
   exact kat_yes (lex_items hb x y _ _ (i + 1) fin t1 t2 (by rw [<- hf]; simp) h)
  ·rw [if_neg e] at h
   rw [show (a == c) = false by simpa using e]
   refine kat_no ?_
   cases hi : (b && i == 0) with
   | true => exact oneLt_int h
   | false => exact kat_one _ _ (lt_int h)
theorem lt_pairs {x y : Value} {k k' : List Int} {Q : Bool -> Shared -> Prop} (hx : IsK prog w s.heap k x) (hy : IsK prog w s.heap k' y) (h : Q (lexB k k') s) : wpAny (model prog w) A (keyLt' (tuples' true) x y) Q E s := by
 obtain ⟨a, rfl, o, xs, n, ho, hc, hd, hi⟩ := hx
 obtain ⟨b, rfl, o', ys, n', ho', hc', hd', hi'⟩ := hy
 refine kat_lt ho hd ho' hd' (lex_items rfl k k' _ _ 0 _ hi hi' ?_ h)
 have e1 : k.length = xs.size := by have := hi.length; simpa using this
 have e2 : k'.length = ys.size := by have := hi'.length; simpa using this
 rw [e1, e2]
 simp
theorem kind_pairs {vs : List Value} {Q : SortKind -> Shared -> Prop} (hne : 0 < vs.length) (hv : ∀ v ∈ vs, ∃ i k, IsK prog w s.heap (i :: k) v) (h : Q (tuples' true) s) : wpAny (model prog w) A (keyKind' vs.toArray) Q E s := by
 have ex : ∀ l : List Value, (∀ v ∈ l, ∃ i k, IsK prog w s.heap (i :: k) v) -> ∃ fs : List Value, KatTups s.heap l fs /\ fs.length = l.length /\ ∀ v ∈ fs, ∃ i t, v = .int i t := fun l => by
  induction l with
  | nil => intro _; exact ⟨[], KatTups.nil, rfl, (fun _ h => nomatch h)⟩
  | cons v l ih =>
   intro hl
   obtain ⟨i, k, a, rfl, o, xs, n, ho, hc, hd, hi⟩ := hl v List.mem_cons_self
   obtain ⟨fs, f1, f2, f3⟩ := ih fun v hv => hl v (List.mem_cons_of_mem _ hv)
   obtain ⟨f, hf, t, rfl⟩ : ∃ f, xs[0]? = some f /\ ∃ t, f = .int i t := by
    cases e : xs.toList with
    | nil => rw [e] at hi; cases hi
    | cons f r =>
     rw [e] at hi
     cases hi with
     | cons h1 _ =>
      obtain ⟨t, et⟩ := Value.isInt_shape h1
      exact ⟨f, by rw [<- Array.getElem?_toList, e]; rfl, t, et⟩
   refine ⟨.int i t :: fs, KatTups.cons ho hc hd hf f1, by rw [List.length_cons, f2, List.length_cons], fun v hv => ?_⟩
   rcases List.mem_cons.mp hv with rfl | hv
   ·exact ⟨i, t, rfl⟩
   ·exact f3 v hv
 obtain ⟨fs, f1, f2, f3⟩ := ex vs hv
 refine kat_kind (T := .type "int") f1 (by omega) (fun v hv => ?_) (by decide) ?_
 ·obtain ⟨i, t, rfl⟩ := f3 v hv
  exact .now
 ·exact h
end
end Tim
namespace Sett
open PySem PySem.SetTable
theorem ex_min {P : Nat -> Prop} (h : ∃ n, P n) : ∃ n, P n /\ ∀ m, m < n -> ¬ P m := by
 obtain ⟨n, hn⟩ := h
 induction n using Nat.strongRecOn with
 | ind n ih =>
  by_cases q : ∃ m, m < n /\ P m
  ·obtain ⟨m, hm, pm⟩ := q
   exact ih m hm pm
  ·exact ⟨n, hn, fun m hm pm => q ⟨m, hm, pm⟩⟩
def st (m i pt : Nat) : Probe := { j := i, more := runEnd m i - i, i := i, perturb := pt, dummy := none }
def it (t : SetTable) : Nat -> Probe -> Probe
 | 0, p => p
 | n + 1, p => it t n (t.advance p)
theorem it_add (t : SetTable) : ∀ (a b : Nat) (p : Probe), it t (a + b) p = it t b (it t a p)
 | 0, b, p => by rw [Nat.zero_add]; rfl
 | a + 1, b, p => by
  rw [show a + 1 + b = (a + b) + 1 by omega]
  exact it_add t a b (t.advance p)
theorem it_succ (t : SetTable) (n : Nat) (p : Probe) : it t (n + 1) p = t.advance (it t n p) := it_add t n 1 p
theorem runEnd_le (m i : Nat) : i <= runEnd m i /\ runEnd m i <= i + 9 := by unfold runEnd; split <;> omega
theorem runEnd_m {m i : Nat} (h : i <= m) : runEnd m i <= m := by unfold runEnd; split <;> omega
theorem it_run (t : SetTable) (i pt : Nat) : ∀ k, k <= runEnd t.mask i - i -> it t k (st t.mask i pt) = { j := i + k, more := runEnd t.mask i - i - k, i := i, perturb := pt, dummy := none }
 | 0, _ => rfl
 | k + 1, h => by
  rw [it_succ, it_run t i pt k (by omega)]
  unfold advance
  dsimp only
  rw [if_pos (by omega)]
  simp only [Probe.mk.injEq, and_true, true_and]
  omega
theorem it_leap (t : SetTable) (i pt : Nat) : it t (runEnd t.mask i - i + 1) (st t.mask i pt) = st t.mask (leap t.mask i pt).1 (leap t.mask i pt).2 := by
 rw [it_succ, it_run t i pt _ (Nat.le_refl _)]
 unfold advance
 dsimp only
 rw [if_neg (by omega)]
 rfl
def rn (m i pt : Nat) : Nat -> Nat × Nat
 | 0 => (i, pt)
 | r + 1 => leap m (rn m i pt r).1 (rn m i pt r).2
theorem rn_pt (m i pt : Nat) : ∀ r, (rn m i pt r).2 = pt / 32 ^ r
 | 0 => by simp [rn]
 | r + 1 => by
  show (rn m i pt r).2 / 32 = _
  rw [rn_pt m i pt r, Nat.div_div_eq_div_mul, Nat.pow_succ]
theorem rn_le (m i pt : Nat) (h : i <= m) : ∀ r, (rn m i pt r).1 <= m
 | 0 => h
 | r + 1 => Nat.le_of_lt_succ (Nat.mod_lt _ (Nat.succ_pos m))
theorem it_rn (t : SetTable) (i pt : Nat) : ∀ r, ∃ n, n <= 10 * r /\ it t n (st t.mask i pt) = st t.mask (rn t.mask i pt r).1 (rn t.mask i pt r).2
 | 0 => ⟨0, Nat.le_refl _, rfl⟩
 | r + 1 => by
  obtain ⟨n, hn, e⟩ := it_rn t i pt r
  have h9 := runEnd_le t.mask (rn t.mask i pt r).1
  refine ⟨n + (runEnd t.mask (rn t.mask i pt r).1 - (rn t.mask i pt r).1 + 1), by omega, ?_⟩
  rw [it_add, e, it_leap]
  rfl
def f5 (m i : Nat) : Nat := (i * 5 + 1) % (m + 1)
def orb (m : Nat) : Nat -> Nat -> List Nat
 | 0, _ => []
 | k + 1, i => i :: orb m k (f5 m i)
def Full (m : Nat) : Prop := ∀ b, b <= m -> ∀ a, a <= m -> ∃ n, n <= m /\ Nat.repeat (f5 m) n a = b
def chk (m : Nat) : Bool := (orb m (m + 1) 0).foldl (fun acc i => acc ||| 2 ^ i) 0 == 2 ^ (m + 1) - 1
theorem bits_mem : ∀ (l : List Nat) (acc b : Nat), (l.foldl (fun acc i => acc ||| 2 ^ i) acc).testBit b = true -> acc.testBit b = true \/ b ∈ l
 | [], acc, b, h => .inl h
 | i :: l, acc, b, h => by
  rcases bits_mem l _ b h with q | q
  ·rw [Nat.testBit_or, Bool.or_eq_true] at q
   rcases q with q | q
   ·exact .inl q
   ·rw [Nat.testBit_two_pow] at q
    exact .inr (by rw [of_decide_eq_true q]; exact List.mem_cons_self)
  ·exact .inr (List.mem_cons_of_mem _ q)
theorem rep_add (f : Nat -> Nat) (a : Nat) : ∀ n k, Nat.repeat f (n + k) a = Nat.repeat f k (Nat.repeat f n a)
 | n, 0 => rfl
 | n, k + 1 => by
  show f (Nat.repeat f (n + k) a) = f (Nat.repeat f k (Nat.repeat f n a))
  rw [rep_add f a n k]
theorem orb_get (m : Nat) : ∀ k i x, x ∈ orb m k i -> ∃ n, n < k /\ Nat.repeat (f5 m) n i = x
 | 0, i, x, h => by cases h
 | k + 1, i, x, h => by
  rcases List.mem_cons.mp h with rfl | h
  ·exact ⟨0, Nat.succ_pos _, rfl⟩
  ·obtain ⟨n, hn, e⟩ := orb_get m k (f5 m i) x h
   refine ⟨n + 1, by omega, ?_⟩
   rw [Nat.add_comm n 1, rep_add]
   exact e
theorem full_of {m : Nat} (hc : chk m = true) (hz : Nat.repeat (f5 m) (m + 1) 0 = 0) : Full m := by
 intro b hb a ha
 unfold chk at hc
 have hc := eq_of_beq hc
 have get : ∀ x, x <= m -> ∃ n, n < m + 1 /\ Nat.repeat (f5 m) n 0 = x := fun x hx => by
  have hb : (2 ^ (m + 1) - 1).testBit x = true := by rw [Nat.testBit_two_pow_sub_one]; exact decide_eq_true (by omega)
  rw [<- hc] at hb
  rcases bits_mem _ _ _ hb with q | q
  ·simp at q
  ·exact orb_get m (m + 1) 0 x q
 obtain ⟨p, hp, ep⟩ := get a ha
 obtain ⟨q, hq, eq⟩ := get b hb
 by_cases h : p <= q
 ·refine ⟨q - p, by omega, ?_⟩
  rw [<- ep, <- rep_add, show p + (q - p) = q by omega, eq]
 ·refine ⟨m + 1 - p + q, by omega, ?_⟩
  rw [<- ep, <- rep_add, show p + (m + 1 - p + q) = (m + 1) + q by omega, rep_add, hz, eq]
def Good (m : Nat) : Prop := m = 7 \/ m = 31 \/ m = 127 \/ m = 511
set_option maxRecDepth 100000 in
theorem Good.full {m : Nat} (h : Good m) : Full m := by
 rcases h with rfl | rfl | rfl | rfl
 ·exact full_of (by decide +kernel) (by decide +kernel)
 ·exact full_of (by decide +kernel) (by decide +kernel)
 ·exact full_of (by decide +kernel) (by decide +kernel)
 ·exact full_of (by decide +kernel) (by decide +kernel)
theorem rn_late (m i pt : Nat) (hp : pt < 2 ^ 64) : ∀ k, (rn m i pt (13 + k)).1 = Nat.repeat (f5 m) k (rn m i pt 13).1
 | 0 => rfl
 | k + 1 => by
  show (leap m (rn m i pt (13 + k)).1 (rn m i pt (13 + k)).2).1 = f5 m (Nat.repeat (f5 m) k (rn m i pt 13).1)
  rw [<- rn_late m i pt hp k]
  unfold leap f5
  have : (rn m i pt (13 + k)).2 / 32 = 0 := by
   rw [rn_pt, Nat.pow_add, <- Nat.div_div_eq_div_mul]
   have : pt / 32 ^ 13 = 0 := Nat.div_eq_of_lt (Nat.lt_trans hp (by decide))
   rw [this]
   simp
  dsimp only
  rw [this, Nat.add_zero]
theorem rn_hits {m i pt b : Nat} (g : Good m) (hi : i <= m) (hp : pt < 2 ^ 64) (hb : b <= m) : ∃ r, r < turns m /\ (rn m i pt r).1 = b := by
 obtain ⟨n, hn, e⟩ := g.full b hb (rn m i pt 13).1 (rn_le m i pt hi 13)
 exact ⟨13 + n, by unfold turns; omega, by rw [rn_late m i pt hp]; exact e⟩
theorem it_hits (t : SetTable) {i pt b : Nat} (g : Good t.mask) (hi : i <= t.mask) (hp : pt < 2 ^ 64) (hb : b <= t.mask) : ∃ n, n < 10 * turns t.mask /\ (it t n (st t.mask i pt)).j = b := by
 obtain ⟨r, hr, e⟩ := rn_hits g hi hp hb
 obtain ⟨n, hn, e'⟩ := it_rn t i pt r
 refine ⟨n, by omega, ?_⟩
 rw [e']
 exact e
theorem it_dummy (t : SetTable) : ∀ (n : Nat) (p : Probe), (it t n p).dummy = p.dummy
 | 0, p => rfl
 | n + 1, p => by
  show (it t n (t.advance p)).dummy = _
  rw [it_dummy t n]
  unfold advance
  split <;> rfl
theorem bits_lt (h : Int) : bits h < 2 ^ 64 := by
 unfold bits
 have h1 := Int.emod_nonneg h (show (2 ^ 64 : Int) ≠ 0 by decide)
 have h2 := Int.emod_lt_of_pos h (show (0 : Int) < 2 ^ 64 by decide)
 omega
theorem start_eq (t : SetTable) (h : Int) : t.probeStart h = st t.mask (bits h % (t.mask + 1)) (bits h) := rfl
theorem it_mask {t t' : SetTable} (h : t'.mask = t.mask) : ∀ (n : Nat) (p : Probe), it t' n p = it t n p
 | 0, p => rfl
 | n + 1, p => by
  show it t' n (t'.advance p) = it t n (t.advance p)
  have : t'.advance p = t.advance p := by unfold advance; rw [h]
  rw [this, it_mask h n]
def Asc (xs : Array Nat) : Prop := ∀ (i j a b : Nat), i < j -> xs[i]? = some a -> xs[j]? = some b -> a < b
theorem below_go {xs : Array Nat} (asc : Asc xs) (j : Nat) : ∀ (fuel lo hi : Nat), hi - lo <= fuel -> lo <= hi -> hi <= xs.size -> (∀ i a, i < lo -> xs[i]? = some a -> a < j) -> (∀ i a, hi <= i -> xs[i]? = some a -> j <= a) ->
  (below.go xs j fuel lo hi) <= xs.size /\ (∀ i a, i < below.go xs j fuel lo hi -> xs[i]? = some a -> a < j) /\ (∀ i a, below.go xs j fuel lo hi <= i -> xs[i]? = some a -> j <= a)
 | 0, lo, hi, h0, h1, h2, h3, h4 => by
  have : lo = hi := by omega
  subst this
  exact ⟨h2, h3, h4⟩
 | fuel + 1, lo, hi, h0, h1, h2, h3, h4 => by
  unfold below.go
  by_cases hlt : lo < hi
  ·rw [if_pos hlt]
   dsimp only
   have hm : (lo + hi) / 2 < xs.size := by omega
   have hg : xs.getD ((lo + hi) / 2) j = xs[(lo + hi) / 2] := by simp [Array.getD, hm]
   have hq : xs[(lo + hi) / 2]? = some xs[(lo + hi) / 2] := getElem?_pos xs _ hm
   by_cases hc : xs.getD ((lo + hi) / 2) j < j
   ·rw [if_pos hc]
    refine below_go asc j fuel _ hi (by omega) (by omega) h2 (fun i a hi' e => ?_) h4
    rw [hg] at hc
    by_cases he : i = (lo + hi) / 2
    ·subst he; rw [hq] at e; cases e; exact hc
    ·have := asc i _ a _ (by omega) e hq
     omega
   ·rw [if_neg hc]
    refine below_go asc j fuel lo _ (by omega) (by omega) (by omega) h3 (fun i a hi' e => ?_)
    rw [hg] at hc
    by_cases he : i = (lo + hi) / 2
    ·subst he; rw [hq] at e; cases e; omega
    ·have := asc _ i _ a (by omega) hq e
     omega
  ·rw [if_neg hlt]
   have : lo = hi := by omega
   subst this
   exact ⟨h2, h3, h4⟩
theorem below_spec {xs : Array Nat} (asc : Asc xs) (j : Nat) : below xs j <= xs.size /\ (∀ i a, i < below xs j -> xs[i]? = some a -> a < j) /\ (∀ i a, below xs j <= i -> xs[i]? = some a -> j <= a) :=
 below_go asc j xs.size 0 xs.size (by omega) (by omega) (Nat.le_refl _) (fun i a h => by omega) fun i a h e => by
  have := (getElem?_eq_some_iff.mp e).1
  omega
theorem below_at {xs : Array Nat} (asc : Asc xs) {i j : Nat} (h : xs[i]? = some j) : below xs j = i := by
 obtain ⟨h1, h2, h3⟩ := below_spec asc j
 rcases Nat.lt_trichotomy (below xs j) i with q | q | q
 ·exfalso
  have hlt : below xs j < xs.size := Nat.lt_trans q (getElem?_eq_some_iff.mp h).1
  have e := getElem?_pos xs (below xs j) hlt
  have a1 := h3 (below xs j) _ (Nat.le_refl _) e
  have a2 := asc _ _ _ _ q e h
  omega
 ·exact q
 ·have := h2 i j q h
  omega
theorem slot_live {t : SetTable} (asc : Asc t.place) {i j : Nat} (h : t.place[i]? = some j) : t.slot j = .live i := by
 unfold slot
 dsimp only
 rw [below_at asc h, h]
 simp
theorem slot_empty {t : SetTable} (hd : t.dummies = #[]) {j : Nat} (h : ∀ i : Nat, t.place[i]? ≠ some j) : t.slot j = .empty := by
 unfold slot
 dsimp only
 rw [if_neg (by simpa using h _), if_neg (by rw [hd]; simp [has])]
theorem go_empty {t : SetTable} {hashAt : Nat -> Int} {h : Int} : ∀ (n fuel : Nat) (p : Probe), n < fuel -> (∀ k, k < n -> ∃ i, t.slot (it t k p).j = .live i /\ hashAt i ≠ h) -> t.slot (it t n p).j = .empty ->
  probe.go t hashAt h fuel p = some (.empty (it t n p).j (it t n p).dummy)
 | 0, fuel + 1, p, _, _, he => by
  unfold probe.go
  have he' : t.slot p.j = .empty := he
  rw [he']
  rfl
 | n + 1, fuel + 1, p, hl, hk, he => by
  obtain ⟨i, e, hne⟩ := hk 0 (Nat.succ_pos _)
  have e' : t.slot p.j = .live i := e
  unfold probe.go
  rw [e']
  dsimp only
  rw [if_neg (by simpa using hne)]
  exact go_empty n fuel (t.advance p) (by omega) (fun k hk' => hk (k + 1) (by omega)) he
theorem go_cand {t : SetTable} {hashAt : Nat -> Int} {h : Int} {i : Nat} : ∀ (n fuel : Nat) (p : Probe), n < fuel -> (∀ k, k < n -> ∃ i, t.slot (it t k p).j = .live i /\ hashAt i ≠ h) -> t.slot (it t n p).j = .live i -> hashAt i = h ->
  ∃ q, probe.go t hashAt h fuel p = some (.candidate (it t n p).j i q)
 | 0, fuel + 1, p, _, _, he, hh => by
  unfold probe.go
  have he' : t.slot p.j = .live i := he
  rw [he']
  dsimp only
  rw [if_pos (by simpa using hh)]
  exact ⟨_, rfl⟩
 | n + 1, fuel + 1, p, hl, hk, he, hh => by
  obtain ⟨i', e, hne⟩ := hk 0 (Nat.succ_pos _)
  have e' : t.slot p.j = .live i' := e
  unfold probe.go
  rw [e']
  dsimp only
  rw [if_neg (by simpa using hne)]
  exact go_cand n fuel (t.advance p) (by omega) (fun k hk' => hk (k + 1) (by omega)) he hh
abbrev En := Int × Value
structure Tb (t : SetTable) (es : Array En) : Prop where
 dum : t.dummies = #[]
 len : t.place.size = es.size
 asc : Asc t.place
 bnd : ∀ (i j : Nat), t.place[i]? = some j -> j <= t.mask
 good : Good t.mask
 nf : es.size * 5 < t.mask * 3
 path : ∀ (i : Nat) (e : En), es[i]? = some e -> ∃ n, n < 10 * turns t.mask /\ t.place[i]? = some (it t n (t.probeStart e.1)).j /\ ∀ k, k < n -> ∃ i' : Nat, t.place[i']? = some (it t k (t.probeStart e.1)).j
theorem asc_ge {xs : Array Nat} (asc : Asc xs) : ∀ (i a : Nat), xs[i]? = some a -> i <= a
 | 0, a, _ => Nat.zero_le _
 | i + 1, a, h => by
  have hi : i + 1 < xs.size := (getElem?_eq_some_iff.mp h).1
  have e := getElem?_pos xs i (by omega)
  have h1 := asc_ge asc i _ e
  have h2 := asc i (i + 1) _ a (by omega) e h
  omega
theorem free_slot {xs : Array Nat} (asc : Asc xs) {m : Nat} (h : xs.size <= m) : ∃ b, b <= m /\ ∀ i : Nat, xs[i]? ≠ some b := by
 by_cases q : ∃ i, i < xs.size /\ xs[i]? ≠ some i
 ·obtain ⟨i, ⟨hi, hne⟩, hmin⟩ := ex_min q
  refine ⟨i, by omega, fun k e => ?_⟩
  have hk := asc_ge asc k i e
  rcases Nat.lt_or_eq_of_le hk with hlt | rfl
  ·have ek : xs[k]? = some k := Classical.byContradiction fun z => hmin k hlt ⟨by omega, z⟩
   rw [ek] at e
   cases e
   omega
  ·exact hne e
 ·refine ⟨xs.size, h, fun k e => ?_⟩
  have hk : k < xs.size := (getElem?_eq_some_iff.mp e).1
  have ek : xs[k]? = some k := Classical.byContradiction fun z => q ⟨k, hk, z⟩
  rw [ek] at e
  cases e
  omega
theorem Tb.small {t : SetTable} {es : Array En} (T : Tb t es) : es.size <= t.mask := by
 have := T.nf
 omega
theorem Tb.fits {t : SetTable} {es : Array En} (T : Tb t es) : t.fits es.size = true := by
 unfold SetTable.fits fill
 rw [T.dum, T.len]
 have := T.small
 simp
 exact this
theorem Tb.odd {t : SetTable} {es : Array En} (T : Tb t es) : t.gaveWay = false := by
 unfold gaveWay
 rcases T.good with e | e | e | e <;> rw [e] <;> rfl
def hashOf (es : Array En) (i : Nat) : Int := (es[i]?.map (·.1)).getD 0
theorem hashOf_some {es : Array En} {i : Nat} {e : En} (h : es[i]? = some e) : hashOf es i = e.1 := by unfold hashOf; rw [h]; rfl
theorem start_le (t : SetTable) (h : Int) : bits h % (t.mask + 1) <= t.mask := Nat.le_of_lt_succ (Nat.mod_lt _ (Nat.succ_pos _))
theorem Tb.absent {t : SetTable} {es : Array En} (T : Tb t es) {h : Int} (hh : ∀ e ∈ es.toList, e.1 ≠ h) : ∃ n, n < 10 * turns t.mask /\ (∀ i : Nat, t.place[i]? ≠ some (it t n (t.probeStart h)).j) /\ (it t n (t.probeStart h)).j <= t.mask /\
  (∀ k, k < n -> ∃ i' : Nat, t.place[i']? = some (it t k (t.probeStart h)).j) /\ t.probe (hashOf es) h (t.probeStart h) = some (.empty (it t n (t.probeStart h)).j none) := by
 obtain ⟨b, hb, hfree⟩ := free_slot T.asc (m := t.mask) (by rw [T.len]; exact T.small)
 obtain ⟨n0, hn0, e0⟩ := it_hits t T.good (start_le t h) (bits_lt h) hb
 rw [<- start_eq] at e0
 obtain ⟨n, ⟨hfr, hn, hle⟩, hmin⟩ := ex_min (P := fun n => (∀ i : Nat, t.place[i]? ≠ some (it t n (t.probeStart h)).j) /\ n <= n0 /\ (it t n (t.probeStart h)).j <= t.mask) ⟨n0, by rw [e0]; exact hfree, Nat.le_refl _, by rw [e0]; exact hb⟩
 have hocc : ∀ k, k < n -> ∃ i' : Nat, t.place[i']? = some (it t k (t.probeStart h)).j := fun k hk => Classical.byContradiction fun z => by
  have hk' : ∀ i : Nat, t.place[i]? ≠ some (it t k (t.probeStart h)).j := fun i e => z ⟨i, e⟩
  by_cases hkm : (it t k (t.probeStart h)).j <= t.mask
  ·exact hmin k hk ⟨hk', by omega, hkm⟩
  ·-- every place on the way is a slot
   exact hkm (by
    clear z hk' hkm hmin hfr hle hn hk
    rw [start_eq]
    induction k with
    | zero => exact start_le t h
    | succ k ih =>
     have key : ∀ k, ∃ r c, c <= runEnd t.mask (rn t.mask (bits h % (t.mask + 1)) (bits h) r).1 - (rn t.mask (bits h % (t.mask + 1)) (bits h) r).1 /\
       it t k (st t.mask (bits h % (t.mask + 1)) (bits h)) = it t c (st t.mask (rn t.mask (bits h % (t.mask + 1)) (bits h) r).1 (rn t.mask (bits h % (t.mask + 1)) (bits h) r).2) := fun k => by
      induction k with
      | zero => exact ⟨0, 0, Nat.zero_le _, rfl⟩
      | succ k ih =>
       obtain ⟨r, c, hc, e⟩ := ih
       rcases Nat.lt_or_eq_of_le hc with hlt | heq
       ·exact ⟨r, c + 1, hlt, by rw [it_succ, e, <- it_succ]⟩
       ·refine ⟨r + 1, 0, Nat.zero_le _, ?_⟩
        rw [it_succ, e, <- it_succ, heq, it_leap]
        rfl
     obtain ⟨r, c, hc, e⟩ := key (k + 1)
     rw [e, it_run t _ _ c hc]
     have h1 := rn_le t.mask (bits h % (t.mask + 1)) (bits h) (start_le t h) r
     have h2 := runEnd_m h1
     have h3 := runEnd_le t.mask (rn t.mask (bits h % (t.mask + 1)) (bits h) r).1
     show (rn t.mask (bits h % (t.mask + 1)) (bits h) r).1 + c <= t.mask
     omega)
 refine ⟨n, by omega, hfr, hle, hocc, ?_⟩
 unfold probe
 have := go_empty (hashAt := hashOf es) (h := h) n (10 * turns t.mask) (t.probeStart h) (by omega) (fun k hk => ?_) (slot_empty T.dum hfr)
 ·rw [this, it_dummy]
  rfl
 ·obtain ⟨i', e⟩ := hocc k hk
  refine ⟨i', slot_live T.asc e, ?_⟩
  have hi : i' < es.size := by rw [<- T.len]; exact (getElem?_eq_some_iff.mp e).1
  have e2 := getElem?_pos es i' hi
  rw [hashOf_some e2]
  exact hh _ (by simp)
theorem Tb.present {t : SetTable} {es : Array En} (T : Tb t es) {i : Nat} {e : En} (he : es[i]? = some e) (hu : ∀ (k : Nat) (e' : En), es[k]? = some e' -> e'.1 = e.1 -> k = i) : ∃ j q, t.probe (hashOf es) e.1 (t.probeStart e.1) = some (.candidate j i q) := by
 obtain ⟨n, hn, hp, hocc⟩ := T.path i e he
 unfold probe
 obtain ⟨m, ⟨hm, i1, hi1, hs1⟩, hmin⟩ := ex_min (P := fun m => m <= n /\ ∃ i1 : Nat, t.place[i1]? = some (it t m (t.probeStart e.1)).j /\ hashOf es i1 = e.1) ⟨n, Nat.le_refl _, i, hp, hashOf_some he⟩
 have hi2 : i1 < es.size := by rw [<- T.len]; exact (getElem?_eq_some_iff.mp hi1).1
 have e2 := getElem?_pos es i1 hi2
 rw [hashOf_some e2] at hs1
 have hii : i1 = i := hu i1 _ e2 hs1
 subst hii
 obtain ⟨q, hq⟩ := go_cand (hashAt := hashOf es) (h := e.1) (i := i1) m (10 * turns t.mask) (t.probeStart e.1) (by omega) (fun k hk => by
  obtain ⟨i', e3⟩ := hocc k (by omega)
  exact ⟨i', slot_live T.asc e3, fun z => hmin k hk ⟨by omega, i', e3, z⟩⟩) (slot_live T.asc hi1) (hashOf_some he)
 exact ⟨_, q, hq⟩
theorem get_ins {α : Type} {xs : Array α} {p : Nat} {x : α} (hp : p <= xs.size) (i : Nat) : (insertAt xs p x)[i]? = if i < p then xs[i]? else if i = p then some x else xs[i - 1]? := by
 unfold insertAt
 have e0 : ((xs.extract 0 p).push x).size = p + 1 := by rw [Array.size_push, Array.size_extract]; omega
 by_cases h1 : i < p
 ·rw [if_pos h1, Array.getElem?_append_left (by omega), Array.getElem?_push_lt (by rw [Array.size_extract]; omega)]
  rw [Array.getElem_extract]
  simp only [Nat.zero_add]
  exact (getElem?_pos xs i (by omega)).symm
 ·rw [if_neg h1]
  by_cases h2 : i = p
  ·subst h2
   rw [if_pos rfl, Array.getElem?_append_left (by omega)]
   have e1 : (xs.extract 0 i).size = i := by rw [Array.size_extract]; omega
   rw [Array.getElem?_push, e1, if_pos rfl]
  ·rw [if_neg h2, Array.getElem?_append_right (by omega), e0, Array.getElem?_extract]
   split
   ·congr 1; omega
   ·rw [getElem?_neg]
    omega
theorem size_ins {α : Type} {xs : Array α} {p : Nat} {x : α} (hp : p <= xs.size) : (insertAt xs p x).size = xs.size + 1 := by
 unfold insertAt
 rw [Array.size_append, Array.size_push, Array.size_extract, Array.size_extract]
 omega
theorem mem_ins {α : Type} {xs : Array α} {p : Nat} {x : α} (hp : p <= xs.size) (y : α) : y ∈ (insertAt xs p x).toList ↔ y = x \/ y ∈ xs.toList := by
 constructor
 ·intro h
  obtain ⟨i, hi⟩ := List.mem_iff_getElem?.mp h
  rw [Array.getElem?_toList, get_ins hp] at hi
  split at hi
  ·exact .inr (List.mem_of_getElem? (by rw [Array.getElem?_toList]; exact hi))
  ·split at hi
   ·cases hi; exact .inl rfl
   ·exact .inr (List.mem_of_getElem? (by rw [Array.getElem?_toList]; exact hi))
 ·rintro (rfl | h)
  ·exact List.mem_of_getElem? (i := p) (by rw [Array.getElem?_toList, get_ins hp, if_neg (Nat.lt_irrefl _), if_pos rfl])
  ·obtain ⟨i, hi⟩ := List.mem_iff_getElem?.mp h
   rw [Array.getElem?_toList] at hi
   have hi' : i < xs.size := (getElem?_eq_some_iff.mp hi).1
   by_cases q : i < p
   ·exact List.mem_of_getElem? (i := i) (by rw [Array.getElem?_toList, get_ins hp, if_pos q]; exact hi)
   ·exact List.mem_of_getElem? (i := i + 1) (by rw [Array.getElem?_toList, get_ins hp, if_neg (by omega), if_neg (by omega)]; simpa using hi)
structure Tb' (t : SetTable) (es : Array En) : Prop where
 dum : t.dummies = #[]
 len : t.place.size = es.size
 asc : Asc t.place
 bnd : ∀ (i j : Nat), t.place[i]? = some j -> j <= t.mask
 good : Good t.mask
 fil : es.size <= t.mask
 path : ∀ (i : Nat) (e : En), es[i]? = some e -> ∃ n, n < 10 * turns t.mask /\ t.place[i]? = some (it t n (t.probeStart e.1)).j /\ ∀ k, k < n -> ∃ i' : Nat, t.place[i']? = some (it t k (t.probeStart e.1)).j
theorem Tb'.full {t : SetTable} {es : Array En} (T : Tb' t es) (h : es.size * 5 < t.mask * 3) : Tb t es := ⟨T.dum, T.len, T.asc, T.bnd, T.good, h, T.path⟩
theorem Tb'.fits {t : SetTable} {es : Array En} (T : Tb' t es) : t.fits es.size = true := by
 unfold SetTable.fits fill
 rw [T.dum, T.len]
 have := T.fil
 simp
 exact this
theorem Tb'.plain {t : SetTable} {es : Array En} (T : Tb' t es) (b : Bool) : Tb' { t with plain := b } es := by
 have e : ∀ n (p : Probe), it { t with plain := b } n p = it t n p := fun n p => it_mask (t := t) (t' := { t with plain := b }) rfl n p
 refine ⟨T.dum, T.len, T.asc, T.bnd, T.good, T.fil, fun i x hx => ?_⟩
 obtain ⟨n, h1, h2, h3⟩ := T.path i x hx
 exact ⟨n, h1, by rw [e]; exact h2, fun k hk => by rw [e]; exact h3 k hk⟩
theorem Tb.put {t : SetTable} {es : Array En} (T : Tb t es) {h : Int} {x : Value} {n : Nat} (hn : n < 10 * turns t.mask) (hfr : ∀ i : Nat, t.place[i]? ≠ some (it t n (t.probeStart h)).j) (hle : (it t n (t.probeStart h)).j <= t.mask)
  (hocc : ∀ k, k < n -> ∃ i' : Nat, t.place[i']? = some (it t k (t.probeStart h)).j) :
  (t.put (it t n (t.probeStart h)).j).2 <= es.size /\ Tb' (t.put (it t n (t.probeStart h)).j).1 (insertAt es (t.put (it t n (t.probeStart h)).j).2 (h, x)) := by
 generalize hj : (it t n (t.probeStart h)).j = j at *
 obtain ⟨b1, b2, b3⟩ := below_spec T.asc j
 have hp : (t.put j).2 = below t.place j := rfl
 have hd : has t.dummies j = false := by rw [T.dum]; simp [has]
 have ht : (t.put j).1 = { t with place := insertAt t.place (below t.place j) j } := by
  unfold SetTable.put
  dsimp only
  rw [if_neg (by rw [hd]; exact Bool.false_ne_true)]
 have hm : (t.put j).1.mask = t.mask := by rw [ht]
 have hpl : (t.put j).1.place = insertAt t.place (below t.place j) j := by rw [ht]
 have hsz := T.nf
 have old : ∀ (i a : Nat), t.place[i]? = some a -> ∃ i' : Nat, (insertAt t.place (below t.place j) j)[i']? = some a := fun i a e => by
  by_cases q : i < below t.place j
  ·exact ⟨i, by rw [get_ins b1, if_pos q]; exact e⟩
  ·exact ⟨i + 1, by rw [get_ins b1, if_neg (by omega), if_neg (by omega)]; simpa using e⟩
 have hit : ∀ k (p : Probe), it (t.put j).1 k p = it t k p := fun k p => it_mask hm k p
 have hst : ∀ z : Int, (t.put j).1.probeStart z = t.probeStart z := fun z => by rw [start_eq, start_eq, hm]
 refine ⟨by rw [hp, <- T.len]; exact b1, ?_⟩
 rw [hp]
 refine ⟨by rw [ht]; exact T.dum, by rw [hpl, size_ins b1, size_ins (by rw [<- T.len]; exact b1), T.len], ?_, ?_, by rw [hm]; exact T.good, ?_, ?_⟩
 ·rw [hpl]
  intro i k a c hik ea ec
  rw [get_ins b1] at ea ec
  split at ea
  ·rename_i hi
   split at ec
   ·exact T.asc i k a c hik ea ec
   ·split at ec
    ·cases ec; exact b2 i a hi ea
    ·exact T.asc i (k - 1) a c (by omega) ea ec
  ·split at ea
   ·rename_i hi1 hi2
    cases ea
    rw [if_neg (by omega), if_neg (by omega)] at ec
    have h1 := b3 (k - 1) c (by omega) ec
    rcases Nat.lt_or_eq_of_le h1 with h2 | h2
    ·exact h2
    ·subst h2; exact absurd ec (hfr (k - 1))
   ·rw [if_neg (by omega), if_neg (by omega)] at ec
    exact T.asc (i - 1) (k - 1) a c (by omega) ea ec
 ·rw [hpl, hm]
  intro i a ea
  rw [get_ins b1] at ea
  split at ea
  ·exact T.bnd i a ea
  ·split at ea
   ·cases ea; exact hle
   ·exact T.bnd _ a ea
 ·rw [hm, size_ins (by rw [<- T.len]; exact b1)]
  have := T.good
  unfold Good at this
  omega
 ·intro i e he
  rw [hpl, hm]
  have b1' : below t.place j <= es.size := by rw [<- T.len]; exact b1
  rw [get_ins b1'] at he
  have lift : ∀ (i0 : Nat) (i' : Nat), es[i0]? = some e -> (∀ a, t.place[i0]? = some a -> (insertAt t.place (below t.place j) j)[i']? = some a) ->
    ∃ n, n < 10 * turns t.mask /\ (insertAt t.place (below t.place j) j)[i']? = some (it (t.put j).1 n ((t.put j).1.probeStart e.1)).j /\ ∀ k, k < n -> ∃ i' : Nat, (insertAt t.place (below t.place j) j)[i']? = some (it (t.put j).1 k ((t.put j).1.probeStart e.1)).j := fun i0 i' h0 h1 => by
   obtain ⟨n', q1, q2, q3⟩ := T.path i0 e h0
   refine ⟨n', q1, ?_, fun k hk => ?_⟩
   ·rw [hit, hst]; exact h1 _ q2
   ·obtain ⟨i2, e2⟩ := q3 k hk
    rw [hit, hst]
    exact old i2 _ e2
  split at he
  ·rename_i hi
   exact lift i i he fun a ea => by rw [get_ins b1, if_pos hi]; exact ea
  ·split at he
   ·rename_i hi1 hi2
    cases he
    refine ⟨n, hn, ?_, fun k hk => ?_⟩
    ·rw [hit, hst, hj, get_ins b1, if_neg hi1, if_pos hi2]
    ·obtain ⟨i2, e2⟩ := hocc k hk
     rw [hit, hst]
     exact old i2 _ e2
   ·rename_i hi1 hi2
    exact lift (i - 1) i he fun a ea => by rw [get_ins b1, if_neg hi1, if_neg hi2]; exact ea
theorem pigeon : ∀ (k n : Nat) (g : Nat -> Nat), (∀ i, i < n -> g i < k) -> (∀ i j, i < n -> j < n -> g i = g j -> i = j) -> n <= k
 | 0, n, g, h, _ => by
  rcases Nat.eq_zero_or_pos n with e | e
  ·omega
  ·exact absurd (h 0 e) (Nat.not_lt_zero _)
 | k + 1, 0, g, _, _ => Nat.zero_le _
 | k + 1, n + 1, g, h, inj => by
  by_cases q : ∃ i0, i0 < n + 1 /\ g i0 = k
  ·obtain ⟨i0, h0, e0⟩ := q
   have := pigeon k n (fun i => if i = i0 then g n else g i) (fun i hi => ?_) (fun i j hi hj e => ?_)
   ·omega
   ·try dsimp only
    split
    ·rename_i hii
     have h1 := h n (by omega)
     have h2 : g n ≠ k := fun z => by have := inj n i0 (by omega) h0 (by rw [z, e0]); omega
     omega
    ·have h1 := h i (by omega)
     have h2 : g i ≠ k := fun z => by have := inj i i0 (by omega) h0 (by rw [z, e0]); omega
     omega
   ·try dsimp only at e
    split at e
    ·split at e
     ·omega
     ·have := inj n j (by omega) (by omega) e; omega
    ·split at e
     ·have := inj i n (by omega) (by omega) e; omega
     ·exact inj i j (by omega) (by omega) e
  ·have := pigeon k (n + 1) g (fun i hi => ?_) inj
   ·omega
   ·have h1 := h i hi
    have h2 : g i ≠ k := fun z => q ⟨i, hi, z⟩
    omega
structure LI (t : SetTable) (hs : Array Int) (owner : Array (Option Nat)) (k : Nat) : Prop where
 size : owner.size = t.mask + 1
 lt : ∀ (j i : Nat), owner[j]? = some (some i) -> i < k
 inj : ∀ (j j' i : Nat), owner[j]? = some (some i) -> owner[j']? = some (some i) -> j = j'
 has : ∀ (i : Nat) (h : Int), i < k -> hs[i]? = some h -> ∃ n, n < 10 * turns t.mask /\ owner[(it t n (t.probeStart h)).j]? = some (some i) /\ ∀ c, c < n -> ∃ i' : Nat, owner[(it t c (t.probeStart h)).j]? = some (some i')
theorem LI.free {t : SetTable} {hs : Array Int} {owner : Array (Option Nat)} {k : Nat} (L : LI t hs owner k) (hk : k <= t.mask) : ∃ b, b <= t.mask /\ owner[b]? = some none := by
 apply Classical.byContradiction
 intro z
 have all : ∀ b, b <= t.mask -> ∃ i, owner[b]? = some (some i) := fun b hb => by
  have e := getElem?_pos owner b (by rw [L.size]; omega)
  cases q : owner[b]'(by rw [L.size]; omega) with
  | none => rw [q] at e; exact absurd ⟨b, hb, e⟩ z
  | some i => rw [q] at e; exact ⟨i, e⟩
 have := pigeon k (t.mask + 1) (fun b => match owner[b]? with | some (some i) => i | _ => 0) (fun b hb => ?_) (fun b b' hb hb' e => ?_)
 ·omega
 ·obtain ⟨i, e⟩ := all b (by omega)
  try dsimp only
  rw [e]
  exact L.lt b i e
 ·obtain ⟨i, e1⟩ := all b (by omega)
  obtain ⟨i', e2⟩ := all b' (by omega)
  try dsimp only at e
  rw [e1, e2] at e
  dsimp only at e
  subst e
  exact L.inj b b' i e1 e2
theorem free_spec (t : SetTable) (owner : Array (Option Nat)) (hz : owner.size = t.mask + 1) : ∀ (fuel i pt : Nat), i <= t.mask -> (∃ r, r < fuel /\ ∃ b, b = (rn t.mask i pt r).1 /\ owner[b]? = some none) ->
  ∃ n, n < 10 * fuel /\ layClean.free t.mask owner fuel i pt = some (it t n (st t.mask i pt)).j /\ owner[(it t n (st t.mask i pt)).j]? = some none /\ ∀ c, c < n -> ∃ i' : Nat, owner[(it t c (st t.mask i pt)).j]? = some (some i')
 | 0, i, pt, _, ⟨r, hr, _⟩ => absurd hr (Nat.not_lt_zero _)
 | fuel + 1, i, pt, hi, ⟨r, hr, b, hb, hbo⟩ => by
  have h9 := runEnd_le t.mask i
  have hm := runEnd_m hi
  unfold layClean.free
  have slotOf : ∀ k, k <= runEnd t.mask i - i -> (it t k (st t.mask i pt)).j = i + k := fun k hk => by rw [it_run t i pt k hk]
  have getS : ∀ k, k <= runEnd t.mask i - i -> (owner.getD (i + k) (some 0)).isNone = false -> ∃ i' : Nat, owner[i + k]? = some (some i') := fun k hk e => by
   have hlt : i + k < owner.size := by omega
   have e1 := getElem?_pos owner (i + k) hlt
   have e2 : owner.getD (i + k) (some 0) = owner[i + k] := by simp [Array.getD, hlt]
   rw [e2] at e
   cases q : owner[i + k] with
   | none => rw [q] at e; cases e
   | some i' => rw [q] at e1; exact ⟨i', e1⟩
  cases hf : (List.range (runEnd t.mask i + 1 - i)).find? (fun k => (owner.getD (i + k) (some 0)).isNone) with
  | some k =>
   dsimp only
   rw [List.find?_eq_some_iff_getElem] at hf
   obtain ⟨hp, k', hk', ek, hbef⟩ := hf
   rw [List.length_range] at hk'
   rw [List.getElem_range] at ek
   subst ek
   refine ⟨k', by omega, by rw [slotOf k' (by omega)], ?_, fun c hc => ?_⟩
   ·rw [slotOf k' (by omega)]
    have hlt : i + k' < owner.size := by omega
    have e2 : owner.getD (i + k') (some 0) = owner[i + k'] := by simp [Array.getD, hlt]
    rw [e2] at hp
    rw [getElem?_pos owner _ hlt]
    cases q : owner[i + k'] with
    | none => rfl
    | some z => rw [q] at hp; cases hp
   ·rw [slotOf c (by omega)]
    have := hbef c hc
    rw [List.getElem_range] at this
    exact getS c (by omega) (by simpa using this)
  | none =>
   dsimp only
   rw [List.find?_eq_none] at hf
   have all : ∀ c, c <= runEnd t.mask i - i -> ∃ i' : Nat, owner[i + c]? = some (some i') := fun c hc => getS c hc (by simpa only [Bool.not_eq_true] using hf c (List.mem_range.mpr (by omega)))
   have hr0 : r ≠ 0 := fun z => by
    subst z
    obtain ⟨i', e⟩ := all 0 (Nat.zero_le _)
    have hb' : b = i := hb
    rw [hb'] at hbo
    rw [Nat.add_zero, hbo] at e
    cases e
   obtain ⟨r', rfl⟩ : ∃ r', r = r' + 1 := ⟨r - 1, by omega⟩
   have shift : ∀ r, rn t.mask (leap t.mask i pt).1 (leap t.mask i pt).2 r = rn t.mask i pt (r + 1) := fun r => by
    induction r with
    | zero => rfl
    | succ r ih =>
     show leap t.mask _ _ = leap t.mask _ _
     rw [ih]
   obtain ⟨n, hn, e1, e2, e3⟩ := free_spec t owner hz fuel (leap t.mask i pt).1 (leap t.mask i pt).2 (Nat.le_of_lt_succ (Nat.mod_lt _ (Nat.succ_pos _))) ⟨r', by omega, b, by rw [hb, shift], hbo⟩
   have sh : ∀ c, it t (runEnd t.mask i - i + 1 + c) (st t.mask i pt) = it t c (st t.mask (leap t.mask i pt).1 (leap t.mask i pt).2) := fun c => by rw [it_add, it_leap]
   refine ⟨runEnd t.mask i - i + 1 + n, by omega, by rw [sh]; exact e1, by rw [sh]; exact e2, fun c hc => ?_⟩
   by_cases q : c <= runEnd t.mask i - i
   ·rw [slotOf c q]
    exact all c q
   ·have := e3 (c - (runEnd t.mask i - i + 1)) (by omega)
    rw [<- sh, show runEnd t.mask i - i + 1 + (c - (runEnd t.mask i - i + 1)) = c by omega] at this
    exact this
theorem lay_fold (t : SetTable) (g : Good t.mask) (hs : Array Int) (hsz : hs.size <= t.mask) : ∀ (l : List Int) (k : Nat) (owner : Array (Option Nat)), LI t hs owner k -> hs.toList.drop k = l ->
  ∃ owner', (l.foldl (fun acc h => do
   let (owner, k) <- acc
   let j <- layClean.free t.mask owner (turns t.mask) (bits h % (t.mask + 1)) (bits h)
   pure (owner.setIfInBounds j (some k), k + 1)) (some (owner, k))) = some (owner', k + l.length) /\ LI t hs owner' (k + l.length)
 | [], k, owner, L, _ => ⟨owner, rfl, L⟩
 | h :: l, k, owner, L, hd => by
  have hk : k < hs.size := by
   apply Classical.byContradiction
   intro z
   rw [List.drop_of_length_le (by rw [Array.length_toList]; omega)] at hd
   cases hd
  have hget : hs[k]? = some h := by
   rw [<- Array.getElem?_toList]
   have := congrArg (fun l => l[0]?) hd
   simpa using this
  obtain ⟨b, hb, hbo⟩ := L.free (by omega)
  obtain ⟨r, hr, er⟩ := rn_hits g (start_le t h) (bits_lt h) hb
  obtain ⟨n, hn, e1, e2, e3⟩ := free_spec t owner L.size (turns t.mask) (bits h % (t.mask + 1)) (bits h) (start_le t h) ⟨r, hr, b, er.symm, hbo⟩
  rw [<- start_eq] at e1 e2 e3
  have hjs : (it t n (t.probeStart h)).j < owner.size := (getElem?_eq_some_iff.mp e2).1
  have gs : ∀ x, (owner.setIfInBounds (it t n (t.probeStart h)).j (some k))[x]? = if (it t n (t.probeStart h)).j = x then some (some k) else owner[x]? := fun x => by
   rw [Array.getElem?_setIfInBounds]
   split
   ·rename_i hx; subst hx; simp [hjs]
   ·rfl
  have occ : ∀ (x i : Nat), owner[x]? = some (some i) -> ∃ i' : Nat, (owner.setIfInBounds (it t n (t.probeStart h)).j (some k))[x]? = some (some i') := fun x i e => by
   rw [gs]; split
   ·exact ⟨k, rfl⟩
   ·exact ⟨i, e⟩
  have L' : LI t hs (owner.setIfInBounds (it t n (t.probeStart h)).j (some k)) (k + 1) := by
   refine ⟨by rw [Array.size_setIfInBounds]; exact L.size, fun j i e => ?_, fun j j' i ea ec => ?_, fun i h' hi hh => ?_⟩
   ·rw [gs] at e
    split at e
    ·cases e; omega
    ·have := L.lt j i e; omega
   ·rw [gs] at ea ec
    split at ea
    ·rename_i q1
     cases ea
     split at ec
     ·rename_i q2; rw [<- q1, <- q2]
     ·have := L.lt j' k ec; omega
    ·split at ec
     ·cases ec
      have := L.lt j k ea; omega
     ·exact L.inj j j' i ea ec
   ·by_cases q : i = k
    ·subst q
     rw [hget] at hh
     cases hh
     refine ⟨n, hn, by rw [gs, if_pos rfl], fun c hc => ?_⟩
     obtain ⟨i', e⟩ := e3 c hc
     exact occ _ i' e
    ·obtain ⟨n', q1, q2, q3⟩ := L.has i h' (by omega) hh
     refine ⟨n', q1, ?_, fun c hc => ?_⟩
     ·rw [gs]
      split
      ·rename_i q4
       rw [q4] at e2
       rw [e2] at q2
       cases q2
      ·exact q2
     ·obtain ⟨i', e⟩ := q3 c hc
      exact occ _ i' e
  obtain ⟨owner', f1, f2⟩ := lay_fold t g hs hsz l (k + 1) _ L' (by
   have e5 : hs.toList.drop (k + 1) = (hs.toList.drop k).drop 1 := by rw [List.drop_drop]
   rw [e5, hd]
   rfl)
  refine ⟨owner', ?_, ?_⟩
  ·rw [List.foldl_cons]
   have : (do
     let (owner, k) <- some (owner, k)
     let j <- layClean.free t.mask owner (turns t.mask) (bits h % (t.mask + 1)) (bits h)
     pure (owner.setIfInBounds j (some k), k + 1)) = some (owner.setIfInBounds (it t n (t.probeStart h)).j (some k), k + 1) := by
    show (layClean.free t.mask owner (turns t.mask) (bits h % (t.mask + 1)) (bits h) >>= fun j => pure (owner.setIfInBounds j (some k), k + 1)) = _
    rw [e1]
    rfl
   rw [this, f1, List.length_cons]
   congr 2
   omega
  ·rw [List.length_cons, show k + (l.length + 1) = k + 1 + l.length by omega]
   exact f2
theorem laid_ok {M finger moves : Nat} {led plain : Bool} {es : Array En} (g : Good M) (hsz : es.size * 5 < M * 3) :
  ∃ t2 order, laid M finger moves led plain (es.map (·.1)) = some (t2, order) /\ Tb t2 (order.filterMap (es[·]?)) /\ (order.filterMap (es[·]?)).toList.Perm es.toList := by
 -- a table with that mask, for the path
 let t : SetTable := { mask := M, place := #[], dummies := #[], finger := finger, led := led, moves := moves, plain := plain }
 have ht : t.mask = M := rfl
 have h0 : LI t (es.map (·.1)) (Array.replicate (M + 1) none) 0 := by
  refine ⟨by simp [ht], fun j i e => ?_, fun j j' i e => ?_, fun i h hi => by omega⟩
  ·rw [Array.getElem?_replicate] at e; split at e <;> cases e
  ·rw [Array.getElem?_replicate] at e; split at e <;> cases e
 obtain ⟨owner, f1, L⟩ := lay_fold t g (es.map (·.1)) (by rw [Array.size_map, ht]; omega) (es.map (·.1)).toList 0 _ h0 rfl
 rw [Nat.zero_add, Array.length_toList, Array.size_map] at f1 L
 have hlay : layClean M (es.map (·.1)) = some owner := by
  unfold layClean
  rw [<- Array.foldl_toList]
  have : (List.foldl _ _ (es.map (·.1)).toList) = some (owner, es.size) := f1
  rw [this]
  rfl
 let live : List (Nat × Nat) := (List.range (M + 1)).filterMap fun j => (owner.getD j none).map (j, ·)
 have hlive : ∀ p : Nat × Nat, p ∈ live ↔ owner[p.1]? = some (some p.2) := fun p => by
  obtain ⟨j, i⟩ := p
  have hg : ∀ j, owner.getD j none = (owner[j]?).getD none := fun j => by simp
  show (j, i) ∈ List.filterMap _ _ ↔ _
  rw [List.mem_filterMap]
  constructor
  ·rintro ⟨j', hj', e⟩
   rw [hg] at e
   cases q : owner[j']? with
   | none => rw [q] at e; cases e
   | some z =>
    rw [q] at e
    cases z with
    | none => cases e
    | some i' =>
     have e' : (j', i') = (j, i) := Option.some.inj e
     cases e'
     exact q
  ·intro e
   have hj : j < owner.size := (getElem?_eq_some_iff.mp e).1
   refine ⟨j, List.mem_range.mpr (by rw [L.size, ht] at hj; exact hj), ?_⟩
   rw [hg, e]
   rfl
 have hpw : live.Pairwise (fun a b => a.1 < b.1) := by
  show (List.filterMap _ _).Pairwise _
  rw [List.pairwise_filterMap]
  refine List.Pairwise.imp ?_ List.pairwise_lt_range
  intro a b hab p hp q hq
  cases h1 : owner.getD a none with
  | none => rw [h1] at hp; cases hp
  | some i =>
   cases h2 : owner.getD b none with
   | none => rw [h2] at hq; cases hq
   | some i' =>
    rw [h1] at hp
    rw [h2] at hq
    have e1 : (a, i) = p := Option.some.inj hp
    have e2 : (b, i') = q := Option.some.inj hq
    subst e1 e2
    exact hab
 have hnd : (live.map (·.2)).Nodup := by
  unfold List.Nodup
  rw [List.pairwise_map]
  refine List.Pairwise.imp_of_mem ?_ hpw
  intro a b ha hb hab e
  have h1 := (hlive a).mp ha
  have h2 := (hlive b).mp hb
  rw [<- e] at h2
  have := L.inj _ _ _ h1 h2
  omega
 have hord : (live.map (·.2)).Perm (List.range es.size) := by
  refine (List.perm_ext_iff_of_nodup hnd List.nodup_range).mpr fun i => ?_
  rw [List.mem_range, List.mem_map]
  constructor
  ·rintro ⟨p, hp, rfl⟩
   exact L.lt _ _ ((hlive p).mp hp)
  ·intro hi
   obtain ⟨n, _, q, _⟩ := L.has i ((es.map (·.1))[i]'(by rw [Array.size_map]; exact hi)) hi (getElem?_pos _ _ _)
   exact ⟨(_, i), (hlive _).mpr q, rfl⟩
 have hlen : live.length = es.size := by have := hord.length_eq; simpa using this
 -- the elements in their new order
 have hes : ∀ i, i ∈ live.map (·.2) -> ∃ e, es[i]? = some e := fun i hi => by
  have := hord.mem_iff.mp hi
  rw [List.mem_range] at this
  exact ⟨es[i], getElem?_pos es i this⟩
 have fm : ∀ (l : List Nat), (∀ i ∈ l, ∃ e, es[i]? = some e) -> (l.filterMap (es[·]?)).length = l.length /\ ∀ (p : Nat), (l.filterMap (es[·]?))[p]? = (l[p]?).bind (es[·]?) := fun l => by
  induction l with
  | nil => intro _; exact ⟨rfl, fun p => rfl⟩
  | cons a l ih =>
   intro h
   obtain ⟨e, he⟩ := h a List.mem_cons_self
   obtain ⟨i1, i2⟩ := ih fun i hi => h i (List.mem_cons_of_mem _ hi)
   rw [List.filterMap_cons_some he]
   refine ⟨by rw [List.length_cons, i1, List.length_cons], fun p => ?_⟩
   cases p with
   | zero => simp [he]
   | succ p => simpa using i2 p
 obtain ⟨fl, fg⟩ := fm _ hes
 have hperm : ((live.map (·.2)).filterMap (es[·]?)).Perm es.toList := by
  refine (hord.filterMap _).trans (List.Perm.of_eq ?_)
  apply List.ext_getElem?
  intro p
  obtain ⟨_, g2⟩ := fm (List.range es.size) fun i hi => ⟨es[i]'(List.mem_range.mp hi), getElem?_pos es i (List.mem_range.mp hi)⟩
  rw [g2, show es.toList[p]? = es[p]? from Array.getElem?_toList ..]
  by_cases hp : p < es.size
  ·rw [List.getElem?_range hp]; rfl
  ·rw [List.getElem?_eq_none (by simp; omega), getElem?_neg es p hp]; rfl
 let t2 : SetTable := { mask := M, place := (live.map (·.1)).toArray, dummies := #[], finger := finger, led := led, moves := moves, plain := plain }
 have hes' : ((live.map (·.2)).toArray.filterMap (es[·]?)).toList = (live.map (·.2)).filterMap (es[·]?) := by simp
 have getE : ∀ (p : Nat) (e : En), ((live.map (·.2)).toArray.filterMap (es[·]?))[p]? = some e -> ∃ j i : Nat, live[p]? = some (j, i) /\ es[i]? = some e := fun p e h => by
  rw [<- Array.getElem?_toList, hes', fg, List.getElem?_map] at h
  cases q : live[p]? with
  | none => rw [q] at h; cases h
  | some ji => rw [q] at h; exact ⟨ji.1, ji.2, rfl, h⟩
 have getP : ∀ (p : Nat) (j : Nat), t2.place[p]? = some j ↔ ∃ i, live[p]? = some (j, i) := fun p j => by
  show (live.map (·.1)).toArray[p]? = some j ↔ _
  rw [List.getElem?_toArray, List.getElem?_map]
  cases q : live[p]? with
  | none => simp
  | some ji =>
   obtain ⟨a, b⟩ := ji
   simp
 have itE : ∀ n (p : Probe), it t2 n p = it t n p := fun n p => it_mask (t := t) (t' := t2) rfl n p
 refine ⟨t2, (live.map (·.2)).toArray, ?_, ?_, by rw [hes']; exact hperm⟩
 ·unfold laid
  rw [hlay]
  rfl
 ·refine ⟨rfl, ?_, ?_, ?_, g, ?_, ?_⟩
  ·show (live.map (·.1)).toArray.size = _
   rw [List.size_toArray, List.length_map, <- Array.length_toList, hes', fl, List.length_map]
  ·intro i j a b hij ea eb
   obtain ⟨_, ea⟩ := (getP i a).mp ea
   obtain ⟨_, eb⟩ := (getP j b).mp eb
   obtain ⟨h1, e1⟩ := List.getElem?_eq_some_iff.mp ea
   obtain ⟨h2, e2⟩ := List.getElem?_eq_some_iff.mp eb
   have := List.pairwise_iff_getElem.mp hpw i j h1 h2 hij
   rw [e1, e2] at this
   exact this
  ·intro i j e
   obtain ⟨i', e⟩ := (getP i j).mp e
   have := (hlive _).mp (List.mem_of_getElem? e)
   have hj : j < owner.size := (getElem?_eq_some_iff.mp this).1
   rw [L.size] at hj
   show j <= M
   exact Nat.le_of_lt_succ hj
  ·rw [<- Array.length_toList, hes', fl, List.length_map, hlen]
   exact hsz
  ·intro p e he
   obtain ⟨j, i, hl, hi⟩ := getE p e he
   have ho := (hlive _).mp (List.mem_of_getElem? hl)
   have hi' : i < es.size := (getElem?_eq_some_iff.mp hi).1
   obtain ⟨n, q1, q2, q3⟩ := L.has i e.1 hi' (by rw [Array.getElem?_map, hi]; rfl)
   have ej := L.inj _ _ _ ho q2
   refine ⟨n, q1, ?_, fun c hc => ?_⟩
   ·rw [itE]
    exact (getP p _).mpr ⟨i, by rw [hl]; congr 2⟩
   ·obtain ⟨i', e'⟩ := q3 c hc
    obtain ⟨p', hp'⟩ := List.mem_iff_getElem?.mp ((hlive (_, i')).mpr e')
    exact ⟨p', by rw [itE]; exact (getP p' _).mpr ⟨i', hp'⟩⟩
end Sett
namespace Sett
open PySem PySem.SetTable PyProof.Rows
def nodupBits : List Nat -> Nat -> Bool
 | [], _ => true
 | x :: l, acc => !acc.testBit x && nodupBits l (acc ||| 2 ^ x)
theorem nodupBits_ok : ∀ (l : List Nat) (acc : Nat), nodupBits l acc = true -> l.Nodup /\ ∀ x ∈ l, acc.testBit x = false
 | [], _, _ => ⟨List.nodup_nil, (fun _ h => nomatch h)⟩
 | x :: l, acc, h => by
  unfold nodupBits at h
  rw [Bool.and_eq_true] at h
  obtain ⟨h1, h2⟩ := h
  obtain ⟨n, m⟩ := nodupBits_ok l _ h2
  have m' : ∀ y ∈ l, acc.testBit y = false /\ x ≠ y := fun y hy => by
   have := m y hy
   rw [Nat.testBit_or, Bool.or_eq_false_iff, Nat.testBit_two_pow] at this
   exact ⟨this.1, of_decide_eq_false this.2⟩
  refine ⟨List.nodup_cons.mpr ⟨fun hx => (m' x hx).2 rfl, n⟩, fun y hy => ?_⟩
  rcases List.mem_cons.mp hy with rfl | hy
  ·simpa using h1
  ·exact (m' y hy).1
def hp (n : Nat) : Nat := bits (reduceHash (Builtin.Tuple.tupleHashOf [hashInt ((n / 24 : Nat) : Int), hashInt ((n % 24 : Nat) : Int)])) % 3708
set_option maxRecDepth 100000 in
theorem hp_all : nodupBits ((List.range 576).map hp) 0 = true := by decide +kernel
theorem hp_inj {a b : Nat} (ha : a < 576) (hb : b < 576) (h : hp a = hp b) : a = b := by
 have := (nodupBits_ok _ _ hp_all).1
 unfold List.Nodup at this
 rw [List.pairwise_map] at this
 rw [List.pairwise_iff_getElem] at this
 rcases Nat.lt_trichotomy a b with q | q | q
 ·have := this a b (by simpa using ha) (by simpa using hb) q
  simp only [List.getElem_range] at this
  exact absurd h this
 ·exact q
 ·have := this b a (by simpa using hb) (by simpa using ha) q
  simp only [List.getElem_range] at this
  exact absurd h.symm this
def KeyOk (ks : List Int) : Prop := ∃ i j : Nat, i < 24 /\ j < 24 /\ ks = [(i : Int), (j : Int)]
theorem hash_inj {prog : Program} {w : World} {k k' : List Int} (h1 : KeyOk k) (h2 : KeyOk k') (e : tupleKeyHash (intKind prog w) k = tupleKeyHash (intKind prog w) k') : k = k' := by
 obtain ⟨i, j, hi, hj, rfl⟩ := h1
 obtain ⟨i', j', hi', hj', rfl⟩ := h2
 have e2 : hp (24 * i + j) = hp (24 * i' + j') := by
  unfold hp
  rw [show (24 * i + j) / 24 = i by omega, show (24 * i + j) % 24 = j by omega, show (24 * i' + j') / 24 = i' by omega, show (24 * i' + j') % 24 = j' by omega]
  exact congrArg (fun z => bits z % 3708) e
 have := hp_inj (by omega) (by omega) e2
 have h3 : i = i' := by omega
 have h4 : j = j' := by omega
 rw [h3, h4]
section
variable {prog : Program} {w : World}
def IsEn (prog : Program) (w : World) (h : Heap) (k : List Int) (e : En) : Prop := ∃ a, e.2 = .ref a /\ IsTupleKey (intKind prog w) h k a /\ e.1 = tupleKeyHash (intKind prog w) k
def SetT (prog : Program) (w : World) (hk h : Heap) (S : Addr) (ks : List (List Int)) : Prop :=
 ∃ o es ep t, h.get? S = some o /\ o.ExactSet /\ o.data = .set es ep t /\ Tb t es /\ es.size = ks.length /\ ks.Nodup /\ (∀ k ∈ ks, KeyOk k) /\ (∀ k ∈ ks, ∃ e ∈ es.toList, IsEn prog w hk k e) /\ ∀ e ∈ es.toList, ∃ k ∈ ks, IsEn prog w hk k e
theorem key_up {h h' : Heap} {k : List Int} {a : Addr} (x : IsTupleKey (intKind prog w) h k a) (hs : ∀ b o, h.get? b = some o -> h'.get? b = some o) : IsTupleKey (intKind prog w) h' k a := by
 obtain ⟨o, items, n, h2, h3⟩ := x
 exact ⟨o, items, n, hs a o h2, h3⟩
theorem IsEn.up {h h' : Heap} {k : List Int} {e : En} (x : IsEn prog w h k e) (hs : ∀ b o, h.get? b = some o -> h'.get? b = some o) : IsEn prog w h' k e := by
 obtain ⟨a, h1, h2, h6⟩ := x
 exact ⟨a, h1, key_up h2 hs, h6⟩
theorem IsEn.inj {h : Heap} {k k' : List Int} {e : En} (x : IsEn prog w h k e) (y : IsEn prog w h k' e) : k = k' := by
 obtain ⟨a, h1, h2, _⟩ := x
 obtain ⟨b, h3, h4, _⟩ := y
 rw [h1] at h3
 cases h3
 exact h2.inj h4
variable {A : Around} {E : Value -> Shared -> Prop} {s : Shared}
theorem byScan_ref (x : Addr) (es : Array En) : byScan (.ref x) es = false := by
 unfold byScan Value.scannable
 rfl
theorem hashByValue_pair {k : List Int} {x : Addr} {Q : Bool -> Shared -> Prop} (hx : IsTupleKey (intKind prog w) s.heap k x) (h : Q true s) : wpAny (model prog w) A (hashByValue 8 (.ref x)) Q E s := by
 have hT := hx.typeIs
 obtain ⟨o, items, n, ho, hc, hd, hi⟩ := hx
 unfold hashByValue
 refine wpAny_bind (wpAny_specialOf hT F.slot_tuple_hash.lookup ?_)
 dsimp only
 refine wpAny_bind (wpAny_seqItems ho hd ?_)
 show wpAny _ _ (forIn items _ _ >>= _) _ _ s
 rw [<- Array.forIn_toList]
 have hv : ∀ v ∈ items.toList, ∃ i t, v = .int i t := fun v hv => by
  clear ho hd
  generalize items.toList = l at hi hv
  induction hi with
  | nil => cases hv
  | cons h1 _ ih =>
   rcases List.mem_cons.mp hv with rfl | hv
   ·obtain ⟨t, e⟩ := Value.isInt_shape h1
    exact ⟨_, t, e⟩
   ·exact ih hv
 refine wpAny_bind (wpAny_forIn_list _ (fun rest r s' => r.1 = none /\ s' = s /\ ∀ v ∈ rest, ∃ i t, v = .int i t) _ ?_ ?_ _ _ ⟨rfl, rfl, hv⟩)
 ·rintro v rest r s' ⟨hr, rfl, hall⟩
  obtain ⟨i, t, rfl⟩ := hall v List.mem_cons_self
  have e : hashByValue 7 (.int i t) = pure true := by unfold hashByValue; rfl
  rw [e]
  refine wpAny_bind (wpAny_pure ?_)
  simp only [Bool.not_true, Bool.false_eq_true, if_false]
  exact wpAny_pure ⟨rfl, rfl, fun u hu' => hall u (List.mem_cons_of_mem _ hu')⟩
 ·rintro ⟨r1, r2⟩ s' ⟨hr, rfl, _⟩
  simp only at hr
  subst hr
  exact wpAny_pure h
end
section
variable {prog : Program} {w : World} {A : Around} {E : Value -> Shared -> Prop} {s : Shared}
theorem search_absent {S x : Addr} {o : Obj} {es : Array En} {ep : Nat} {t : SetTable} {h : Int} {Q : SetFound -> Shared -> Prop} (ho : s.heap.get? S = some o) (hd : o.data = .set es ep t) (T : Tb t es) (hh : ∀ e ∈ es.toList, e.1 ≠ h)
  (hq : ∀ n, n < 10 * turns t.mask -> (∀ i : Nat, t.place[i]? ≠ some (it t n (t.probeStart h)).j) -> (it t n (t.probeStart h)).j <= t.mask -> (∀ k, k < n -> ∃ i' : Nat, t.place[i']? = some (it t k (t.probeStart h)).j) -> Q (.free (it t n (t.probeStart h)).j false) s) :
  wpAny (model prog w) A (setSearch S (.ref x) h true) Q E s := by
 obtain ⟨n, h1, h2, h3, h4, h5⟩ := T.absent hh
 unfold setSearch setSearchFrom
 refine wpAny_bind (wpAny_setState_of ho hd T.fits ?_)
 dsimp only
 rw [T.odd]
 simp only [Bool.false_eq_true, if_false]
 split
 ·rename_i met hm
  have e := hm.symm.trans h5
  cases e
  exact wpAny_pure (hq n h1 h2 h3 h4)
 ·rename_i hm
  exact absurd h5 (fun z => hm _ z)
theorem cls_pair {k : List Int} {x : Addr} {Q : Bool -> Shared -> Prop} (hx : IsTupleKey (intKind prog w) s.heap k x) (h : Q false s) : wpAny (model prog w) A (ofAClassStatement 8 (.ref x)) Q E s := by
 have hT := hx.typeIs
 obtain ⟨o, items, n, ho, hc, hd, hi⟩ := hx
 unfold ofAClassStatement
 refine wpAny_bind (wpAny_typeOf hT ?_)
 dsimp only
 rw [if_pos (by decide)]
 refine wpAny_bind (wpAny_pure ?_)
 simp only [Bool.not_true, Bool.false_eq_true, if_false]
 refine wpAny_bind (wpAny_seqItems ho hd ?_)
 dsimp only
 rw [<- Array.forIn_toList]
 have hv : ∀ v ∈ items.toList, ∃ i t, v = .int i t := fun v hv => by
  clear ho hd
  generalize items.toList = l at hi hv
  induction hi with
  | nil => cases hv
  | cons h1 _ ih =>
   rcases List.mem_cons.mp hv with rfl | hv
   ·obtain ⟨t, e⟩ := Value.isInt_shape h1
    exact ⟨_, t, e⟩
   ·exact ih hv
 refine wpAny_bind (wpAny_forIn_list _ (fun rest r s' => r.1 = none /\ s' = s /\ ∀ v ∈ rest, ∃ i t, v = .int i t) _ ?_ ?_ _ _ ⟨rfl, rfl, hv⟩)
 ·rintro v rest r s' ⟨hr, rfl, hall⟩
  obtain ⟨i, t, rfl⟩ := hall v List.mem_cons_self
  have e : ofAClassStatement 7 (.int i t) = pure false := by unfold ofAClassStatement; rfl
  rw [e]
  refine wpAny_bind (wpAny_pure ?_)
  simp only [Bool.false_eq_true, if_false]
  exact wpAny_pure ⟨rfl, rfl, fun u hu' => hall u (List.mem_cons_of_mem _ hu')⟩
 ·rintro ⟨r1, r2⟩ s' ⟨hr, rfl, _⟩
  simp only at hr
  subst hr
  exact wpAny_pure h
theorem unseen {k : List Int} {x : Addr} {l : List Value} {Q : Bool -> Shared -> Prop} (hx : IsTupleKey (intKind prog w) s.heap k x) (hl : ∀ v ∈ l, ∃ a k', v = .ref a /\ IsTupleKey (intKind prog w) s.heap k' a) (h : Q false s) :
  wpAny (model prog w) A (searchCouldBeSeen (.ref x) l) Q E s := by
 unfold searchCouldBeSeen
 refine wpAny_bind (wpAny_forIn_list _ (fun rest r s' => r.1 = none /\ s' = s /\ ∀ v ∈ rest, ∃ a k', v = .ref a /\ IsTupleKey (intKind prog w) s.heap k' a) _ ?_ ?_ _ _ ⟨rfl, rfl, hl⟩)
 ·rintro v rest r s' ⟨hr, rfl, hall⟩
  obtain ⟨a, k', rfl, ha⟩ := hall v List.mem_cons_self
  have hrest : ∀ v ∈ rest, ∃ a k', v = .ref a /\ IsTupleKey (intKind prog w) s'.heap k' a := fun u hu' => hall u (List.mem_cons_of_mem _ hu')
  dsimp only
  split
  ·exact wpAny_pure ⟨rfl, rfl, hrest⟩
  ·refine wpAny_bind (wpAny_eqIsQuiet_tuple hx ?_)
   simp only [Bool.not_true, Bool.false_eq_true, if_false]
   refine wpAny_bind (wpAny_eqIsQuiet_tuple ha ?_)
   simp only [Bool.not_true, Bool.false_eq_true, if_false]
   refine wpAny_bind (cls_pair hx ?_)
   simp only [Bool.false_eq_true, if_false]
   refine wpAny_bind (cls_pair ha ?_)
   simp only [Bool.false_eq_true, if_false]
   exact wpAny_pure ⟨rfl, rfl, hrest⟩
 ·rintro ⟨r1, r2⟩ s' ⟨hr, rfl, _⟩
  simp only at hr
  subst hr
  exact wpAny_pure h
theorem search_present {S x : Addr} {o : Obj} {es : Array En} {ep : Nat} {t : SetTable} {k : List Int} {i : Nat} {e : En} {Q : SetFound -> Shared -> Prop} (hu : A.units < cLine) (ho : s.heap.get? S = some o) (hd : o.data = .set es ep t) (T : Tb t es)
  (hx : IsTupleKey (intKind prog w) s.heap k x) (he : es[i]? = some e) (hk : IsEn prog w s.heap k e) (hall : ∀ e ∈ es.toList, ∃ k, IsEn prog w s.heap k e) (huq : ∀ (c : Nat) (e' : En), es[c]? = some e' -> e'.1 = e.1 -> c = i)
  (hq : Q (.there none) s) : wpAny (model prog w) A (setSearch S (.ref x) (tupleKeyHash (intKind prog w) k) true) Q E s := by
 obtain ⟨y, hy1, hy2, hy3⟩ := hk
 obtain ⟨j, q, hp⟩ := T.present he huq
 rw [hy3] at hp
 unfold setSearch setSearchFrom
 refine wpAny_bind (wpAny_setState_of ho hd T.fits ?_)
 dsimp only
 rw [T.odd]
 simp only [Bool.false_eq_true, if_false]
 have fin : wpAny (model prog w) A (do
   let some (_, y) := es[i]? | unsupported "internal:set-entry"
   let equal <- holding [y] (eqBool y (.ref x))
   let (es', _, t') <- setState S
   if true && equal then return .there none
   let some same := t'.sameMemory t.moves t.mask | unsupported "set.changed-during-lookup:is-the-new-block-at-the-old-address"
   let still <- match (if same then t'.slot j else .empty) with
    | .live i' => match es'[i']? with
     | some (_, y') => do pure (if <- isSame y' y then some i' else none)
     | none => pure none
    | _ => pure none
   match still with
   | none => rule "set.search.anew"; setSearchFrom S (.ref x) (tupleKeyHash (intKind prog w) k) true 99999 none
   | some i' => if equal then return .there (some i') else setSearchFrom S (.ref x) (tupleKeyHash (intKind prog w) k) true 99999 (some q)) Q E s := by
  rw [he]
  obtain ⟨e1, e2⟩ := e
  have hy1 : e2 = .ref y := hy1
  subst hy1
  dsimp only
  refine wpAny_bind (wpAny_holding (wpAny_eqBool_tuple hu hy2 hx ?_))
  refine wpAny_bind (wpAny_setState_of ho hd T.fits ?_)
  dsimp only
  rw [decide_eq_true rfl]
  simp only [Bool.and_self, if_true]
  exact wpAny_pure hq
 split
 ·rename_i met hm
  have e9 := hm.symm.trans hp
  cases e9
  dsimp only
  cases hled : t.led with
  | true =>
   simp only [Bool.not_true, Bool.false_eq_true, if_false]
   exact fin
  | false =>
   simp only [Bool.not_false, if_true]
   refine wpAny_bind (unseen hx (fun v hv => ?_) ?_)
   ·rw [List.mem_map] at hv
    obtain ⟨e', he', rfl⟩ := hv
    have he'' : e' ∈ es.toList := by
     have := Array.mem_filter.mp (Array.mem_toList_iff.mp he')
     exact Array.mem_toList_iff.mpr this.1
    obtain ⟨k', a, h1, h2, _⟩ := hall e' he''
    exact ⟨a, k', h1, h2⟩
   ·simp only [Bool.false_eq_true, if_false]
    exact fin
 ·rename_i hm
  exact absurd hp (fun z => hm _ z)
end
theorem thr {n m : Nat} (g : Good m) (h1 : n * 5 < m * 3) (h2 : m * 3 <= (n + 1) * 5) (h3 : n < 300) : (m = 7 /\ n + 1 = 5) \/ (m = 31 /\ n + 1 = 19) \/ (m = 127 /\ n + 1 = 77) := by
 rcases g with rfl | rfl | rfl | rfl <;> omega
theorem grown_good {n m : Nat} (g : Good m) (h1 : n * 5 < m * 3) (h2 : m * 3 <= (n + 1) * 5) (h3 : n < 300) : Good (sizeAbove (grown (n + 1)) - 1) /\ (n + 1) * 5 < (sizeAbove (grown (n + 1)) - 1) * 3 /\ sizeAbove (grown (n + 1)) <= 4096 := by
 rcases thr g h1 h2 h3 with ⟨_, e⟩ | ⟨_, e⟩ | ⟨_, e⟩ <;> rw [e] <;> refine ⟨?_, by decide +kernel, by decide +kernel⟩
 ·exact .inr (.inl (by decide +kernel))
 ·exact .inr (.inr (.inl (by decide +kernel)))
 ·exact .inr (.inr (.inr (by decide +kernel)))
theorem toofull {t : SetTable} {es : Array En} (T : Tb' t es) : t.tooFull = decide (t.mask * 3 <= es.size * 5) := by
 unfold tooFull PySem.SetTable.fill
 rw [T.dum, T.len]
 rfl
section
variable {prog : Program} {w : World} {A : Around} {E : Value -> Shared -> Prop} {s : Shared}
theorem stored {S : Addr} {o : Obj} {es es' : Array En} {ep : Nat} {t t' : SetTable} {h : Heap} (ho : h.get? S = some o) (hd : o.data = .set es ep t) :
  (h.update S (Obj.putSet es' t')).get? S = some { o with data := .set es' (ep + 1) t' } := by
 have := Heap.get?_update_self (Obj.putSet es' t') ho (by rw [putSet_of es' t' hd]; rfl)
 rw [putSet_of es' t' hd] at this
 exact this
theorem setAdd_pair {S x : Addr} {ks : List (List Int)} {k : List Int} {Q : Bool -> Shared -> Prop} {hp : Heap} (hup : ∀ b o, hp.get? b = some o -> s.heap.get? b = some o) (hu : A.units < cLine) (hS : SetT prog w hp s.heap S ks) (hx0 : IsTupleKey (intKind prog w) hp k x) (hk : KeyOk k) (hn : ks.length < 300)
  (hq : ∀ (b : Bool) (h' : Heap) (tk : Nat), s.toks <= tk -> Heap.SameBut S s.heap h' -> SetT prog w hp h' S (if k ∈ ks then ks else k :: ks) -> Q b { s with heap := h', toks := tk }) :
  wpAny (model prog w) A (setAdd S (.ref x)) Q E s := by
 have hx := key_up hx0 hup
 unfold setAdd
 refine wpAny_holding (wpAny_bind (wpAny_pyHash_tuple hu hx ?_))
 obtain ⟨o, es, ep, t, ho, hex, hd, T, hsz, hnd, hok, hto, hfrom⟩ := hS
 unfold setAddHashed
 refine wpAny_holding ?_
 unfold setAddHashedIn
 refine wpAny_bind (wpAny_setState_of (s := { s with toks := s.toks + (k.length + 1) }) ho hd T.fits ?_)
 dsimp only
 rw [byScan_ref]
 simp only [Bool.false_eq_true, if_false]
 by_cases hmem : k ∈ ks
 ·-- it is there
  obtain ⟨e, he, hek⟩ := hto k hmem
  obtain ⟨i, hi⟩ := List.mem_iff_getElem?.mp he
  rw [Array.getElem?_toList] at hi
  have huq : ∀ (c : Nat) (e' : En), es[c]? = some e' -> e'.1 = e.1 -> c = i := fun c e' hc hh => by
   -- as many entries as keys: the keys tell them apart
   apply Classical.byContradiction
   intro hci
   have hkey : ∀ (c : Nat), c < es.size -> ∃ kk, kk ∈ ks /\ ∃ e, es[c]? = some e /\ IsEn prog w hp kk e := fun c hc => by
    have e := getElem?_pos es c hc
    obtain ⟨kk, h1, h2⟩ := hfrom es[c] (by simp)
    exact ⟨kk, h1, _, e, h2⟩
   have e'k : IsEn prog w hp k e' := by
    obtain ⟨kk, h1, h2⟩ := hfrom e' (List.mem_of_getElem? (by rw [Array.getElem?_toList]; exact hc))
    have h3 := h2
    obtain ⟨_, _, _, h4⟩ := h2
    have h5 := hek
    obtain ⟨_, _, _, h6⟩ := h5
    have : kk = k := hash_inj (prog := prog) (w := w) (hok kk h1) hk (by rw [<- h4, hh, h6])
    rw [<- this]
    exact h3
   -- a choice of an entry for each key
   have hch : ∀ n, n < ks.length -> ∃ c, c < es.size /\ ∃ e, es[c]? = some e /\ ∃ kk, ks[n]? = some kk /\ IsEn prog w hp kk e := fun n hn' => by
    obtain ⟨e, he, hek⟩ := hto ks[n] (List.getElem_mem hn')
    obtain ⟨c, hc⟩ := List.mem_iff_getElem?.mp he
    rw [Array.getElem?_toList] at hc
    exact ⟨c, (getElem?_eq_some_iff.mp hc).1, e, hc, ks[n], List.getElem?_eq_getElem hn', hek⟩
   -- drop c: the others serve all keys
   have := pigeon (es.size - 1) ks.length (fun n => if hn' : n < ks.length then (let c0 := Classical.choose (hch n hn'); let c1 := if c0 = c then i else c0; if c1 < c then c1 else c1 - 1) else 0) ?_ ?_
   ·have hc' := (getElem?_eq_some_iff.mp hc).1
    omega
   ·intro n hn'
    dsimp only
    rw [dif_pos hn']
    have hp := Classical.choose_spec (hch n hn')
    generalize Classical.choose (hch n hn') = c0 at hp
    obtain ⟨p1, _⟩ := hp
    have hc' := (getElem?_eq_some_iff.mp hc).1
    have hi' := (getElem?_eq_some_iff.mp hi).1
    split <;> split <;> omega
   ·intro n n' hn1 hn2 eqn
    dsimp only at eqn
    rw [dif_pos hn1, dif_pos hn2] at eqn
    have hp := Classical.choose_spec (hch n hn1)
    have hp' := Classical.choose_spec (hch n' hn2)
    generalize Classical.choose (hch n hn1) = c0 at hp eqn
    generalize Classical.choose (hch n' hn2) = c0' at hp' eqn
    obtain ⟨p1, e1, p2, kk, p3, p4⟩ := hp
    obtain ⟨p1', e1', p2', kk', p3', p4'⟩ := hp'
    -- both serve the same entry, or one of the two equal ones
    have same : kk = kk' := by
     have r1 : IsEn prog w hp kk (if c0 = c then e else e1) := by
      split
      ·rename_i hcc
       subst hcc
       rw [hc] at p2
       cases p2
       have := p4.inj e'k
       rw [this]
       exact hek
      ·exact p4
     have r2 : IsEn prog w hp kk' (if c0' = c then e else e1') := by
      split
      ·rename_i hcc
       subst hcc
       rw [hc] at p2'
       cases p2'
       have := p4'.inj e'k
       rw [this]
       exact hek
      ·exact p4'
     have g1 : es[if c0 = c then i else c0]? = some (if c0 = c then e else e1) := by split <;> assumption
     have g2 : es[if c0' = c then i else c0']? = some (if c0' = c then e else e1') := by split <;> assumption
     have ne1 : (if c0 = c then i else c0) ≠ c := by split <;> omega
     have ne2 : (if c0' = c then i else c0') ≠ c := by split <;> omega
     have eqc : (if c0 = c then i else c0) = (if c0' = c then i else c0') := by
      generalize (if c0 = c then i else c0) = u at eqn ne1
      generalize (if c0' = c then i else c0') = v at eqn ne2
      split at eqn <;> split at eqn <;> omega
     rw [eqc, g2] at g1
     rw [<- Option.some.inj g1] at r1
     exact r1.inj r2
    subst same
    obtain ⟨q1, q2⟩ := List.getElem?_eq_some_iff.mp p3
    obtain ⟨q3, q4⟩ := List.getElem?_eq_some_iff.mp p3'
    rcases Nat.lt_trichotomy n n' with z | z | z
    ·exact absurd (q2.trans q4.symm) (List.pairwise_iff_getElem.mp hnd n n' q1 q3 z)
    ·exact z
    ·exact absurd (q4.trans q2.symm) (List.pairwise_iff_getElem.mp hnd n' n q3 q1 z)
  refine wpAny_bind (search_present (s := { s with toks := s.toks + (k.length + 1) }) hu ho hd T hx hi (hek.up hup) (fun e he => ?_) huq ?_)
  ·obtain ⟨kk, _, h2⟩ := hfrom e he
   exact ⟨kk, h2.up hup⟩
  ·refine wpAny_pure ?_
   have := hq false s.heap (s.toks + (k.length + 1)) (Nat.le_add_right _ _) (Heap.SameBut.refl S s.heap)
   rw [if_pos hmem] at this
   exact this ⟨o, es, ep, t, ho, hex, hd, T, hsz, hnd, hok, hto, hfrom⟩
 ·-- it is new
  have hh : ∀ e ∈ es.toList, e.1 ≠ tupleKeyHash (intKind prog w) k := fun e he z => by
   obtain ⟨kk, h1, h2⟩ := hfrom e he
   obtain ⟨_, _, _, h4⟩ := h2
   have : kk = k := hash_inj (prog := prog) (w := w) (hok kk h1) hk (by rw [<- h4, z])
   exact hmem (this ▸ h1)
  refine wpAny_bind (search_absent (s := { s with toks := s.toks + (k.length + 1) }) ho hd T hh fun n hn1 hfr hle hocc => ?_)
  dsimp only
  refine wpAny_bind (wpAny_setState_of (s := { s with toks := s.toks + (k.length + 1) }) ho hd T.fits ?_)
  dsimp only
  obtain ⟨hp1, T1⟩ := T.put (h := tupleKeyHash (intKind prog w) k) (x := Value.ref x) hn1 hfr hle hocc
  generalize hpt : t.put (it t n (t.probeStart (tupleKeyHash (intKind prog w) k))).j = tp at hp1 T1 ⊢
  have hled : tp.1.mask = t.mask := by
   rw [<- hpt]
   unfold SetTable.put
   rfl
  obtain ⟨t1, p⟩ := tp
  dsimp only at hp1 T1 hled ⊢
  have hsz1 : (insertAt es p (tupleKeyHash (intKind prog w) k, Value.ref x)).size = es.size + 1 := size_ins hp1
  have fits1 : (insertAt es p (tupleKeyHash (intKind prog w) k, Value.ref x)).size <= sizeLine := by rw [hsz1, hsz, sizeLine_eq]; omega
  -- what stands there with the new entry, whatever its order
  have made : ∀ (h' : Heap) (o' : Obj) (es' : Array En) (ep' : Nat) (t' : SetTable), Heap.SameBut S s.heap h' -> h'.get? S = some o' -> o'.ExactSet -> o'.data = .set es' ep' t' -> Tb t' es' ->
    es'.toList.Perm (insertAt es p (tupleKeyHash (intKind prog w) k, Value.ref x)).toList -> SetT prog w hp h' S (k :: ks) := fun h' o' es' ep' t' hsb ho' hex' hd' T' hpm => by
   have hmemE : ∀ e, e ∈ es'.toList ↔ e = (tupleKeyHash (intKind prog w) k, Value.ref x) \/ e ∈ es.toList := fun e => by rw [hpm.mem_iff]; exact mem_ins hp1 e
   have hnew : IsEn prog w hp k (tupleKeyHash (intKind prog w) k, Value.ref x) := ⟨x, rfl, hx0, rfl⟩
   refine ⟨o', es', ep', t', ho', hex', hd', T', ?_, List.nodup_cons.mpr ⟨hmem, hnd⟩, fun kk hkk => ?_, fun kk hkk => ?_, fun e he => ?_⟩
   ·have := hpm.length_eq
    rw [Array.length_toList, Array.length_toList, hsz1, hsz] at this
    rw [this, List.length_cons]
   ·rcases List.mem_cons.mp hkk with rfl | hkk
    ·exact hk
    ·exact hok kk hkk
   ·rcases List.mem_cons.mp hkk with rfl | hkk
    ·exact ⟨_, (hmemE _).mpr (.inl rfl), hnew⟩
    ·obtain ⟨e, he, hek⟩ := hto kk hkk
     exact ⟨e, (hmemE e).mpr (.inr he), hek⟩
   ·rcases (hmemE e).mp he with rfl | he
    ·exact ⟨k, List.mem_cons_self, hnew⟩
    ·obtain ⟨kk, h1, h2⟩ := hfrom e he
     exact ⟨kk, List.mem_cons_of_mem _ h1, h2⟩
  -- the store and, where it has become too full, the new laying
  have rest : ∀ b : Bool, wpAny (model prog w) A (do
    storeSet S (insertAt es p (tupleKeyHash (intKind prog w) k, Value.ref x)) (if b = true then t1 else { t1 with plain := false })
    if (!false && (if b = true then t1 else { t1 with plain := false }).tooFull) = true then do
     setRelay S (grown (es.size + 1))
     pure true
    else pure true) Q E { s with toks := s.toks + (k.length + 1) } := fun b => by
   have T2 : Tb' (if b = true then t1 else { t1 with plain := false }) (insertAt es p (tupleKeyHash (intKind prog w) k, Value.ref x)) := by
    split
    ·exact T1
    ·exact T1.plain false
   have hm2 : (if b = true then t1 else { t1 with plain := false }).mask = t.mask := by split <;> exact hled
   generalize (if b = true then t1 else { t1 with plain := false }) = t2 at T2 hm2
   refine wpAny_bind (wpAny_storeSet_of (s := { s with toks := s.toks + (k.length + 1) }) ho hd ?_ fits1)
   have ho1 := stored (es' := insertAt es p (tupleKeyHash (intKind prog w) k, Value.ref x)) (t' := t2) ho hd
   have hsb1 := Heap.SameBut.update s.heap S (Obj.putSet (insertAt es p (tupleKeyHash (intKind prog w) k, Value.ref x)) t2)
   rw [toofull T2]
   simp only [Bool.not_false, Bool.true_and, decide_eq_true_eq]
   by_cases hful : t2.mask * 3 <= (insertAt es p (tupleKeyHash (intKind prog w) k, Value.ref x)).size * 5
   ·rw [if_pos hful]
    rw [hsz1, hm2] at hful
    obtain ⟨g1, g2, g3⟩ := grown_good T.good T.nf hful (by rw [hsz]; exact hn)
    unfold setRelay
    refine wpAny_bind (wpAny_bind (wpAny_setState_of (s := { s with heap := s.heap.update S (Obj.putSet (insertAt es p (tupleKeyHash (intKind prog w) k, Value.ref x)) t2), toks := s.toks + (k.length + 1) }) ho1 rfl T2.fits ?_))
    dsimp only
    rw [if_neg (by rw [sizeLine_eq]; omega)]
    obtain ⟨t3, order, hl3, T3, hpm3⟩ := laid_ok (M := sizeAbove (grown (es.size + 1)) - 1) (finger := t2.finger) (moves := t2.movedTo (sizeAbove (grown (es.size + 1)) - 1)) (led := t2.led) (plain := t2.plain) (es := insertAt es p (tupleKeyHash (intKind prog w) k, Value.ref x)) g1 (by rw [hsz1]; exact g2)
    have hrel : t2.relaid ((insertAt es p (tupleKeyHash (intKind prog w) k, Value.ref x)).map (·.1)) (grown (es.size + 1)) = some (t3, order) := by
     unfold relaid
     exact hl3
    rw [hrel]
    have hsz3 : (order.filterMap ((insertAt es p (tupleKeyHash (intKind prog w) k, Value.ref x))[·]?)).size = (insertAt es p (tupleKeyHash (intKind prog w) k, Value.ref x)).size := by
     rw [<- Array.length_toList, hpm3.length_eq, Array.length_toList]
    refine wpAny_bind ?_
    show wpAny _ _ (if ((order.filterMap ((insertAt es p (tupleKeyHash (intKind prog w) k, Value.ref x))[·]?)).size != (insertAt es p (tupleKeyHash (intKind prog w) k, Value.ref x)).size) = true then _ else _) _ _ _
    rw [if_neg (by rw [hsz3]; simp)]
    first | refine wpAny_pure ?_ | refine wpAny_bind (wpAny_pure (wpAny_pure ?_))
    dsimp only
    refine wpAny_storeSet_of (s := { s with heap := s.heap.update S (Obj.putSet (insertAt es p (tupleKeyHash (intKind prog w) k, Value.ref x)) t2), toks := s.toks + (k.length + 1) }) ho1 rfl ?_ (by rw [hsz3]; exact fits1)
    refine wpAny_pure ?_
    have ho2 := stored (es' := order.filterMap ((insertAt es p (tupleKeyHash (intKind prog w) k, Value.ref x))[·]?)) (t' := t3) ho1 rfl
    have hsb2 := hsb1.trans (Heap.SameBut.update _ S (Obj.putSet (order.filterMap ((insertAt es p (tupleKeyHash (intKind prog w) k, Value.ref x))[·]?)) t3))
    have := hq true _ (s.toks + (k.length + 1)) (Nat.le_add_right _ _) hsb2
    rw [if_neg hmem] at this
    exact this (made _ _ _ _ _ hsb2 ho2 hex rfl T3 hpm3)
   ·rw [if_neg hful]
    refine wpAny_pure ?_
    have := hq true _ (s.toks + (k.length + 1)) (Nat.le_add_right _ _) hsb1
    rw [if_neg hmem] at this
    exact this (made _ _ _ _ _ hsb1 ho1 hex rfl (T2.full (by omega)) (List.Perm.refl _))
  cases hpl : t1.plain with
  | true =>
   rw [if_pos rfl]
   refine wpAny_bind (hashByValue_pair (s := { s with toks := s.toks + (k.length + 1) }) hx ?_)
   exact rest true
  | false =>
   rw [if_neg Bool.false_ne_true]
   refine wpAny_bind (wpAny_pure ?_)
   exact rest true
end
def insT (ks : List (List Int)) (k : List Int) : List (List Int) := if k ∈ ks then ks else k :: ks
theorem insT_len (ks : List (List Int)) (k : List Int) : (insT ks k).length <= ks.length + 1 := by unfold insT; split <;> simp
theorem fold_le : ∀ (l ks : List (List Int)), (l.foldl insT ks).length <= ks.length + l.length
 | [], ks => by simp
 | k :: l, ks => by
  rw [List.foldl_cons]
  have h1 := fold_le l (insT ks k)
  have h2 := insT_len ks k
  rw [List.length_cons]
  omega
theorem fold_full : ∀ (l ks : List (List Int)), (l.foldl insT ks).length = ks.length + l.length ↔ l.Nodup /\ ∀ x ∈ l, x ∉ ks
 | [], ks => by simp
 | k :: l, ks => by
  rw [List.foldl_cons, List.length_cons, List.nodup_cons]
  by_cases h : k ∈ ks
  ·have e : insT ks k = ks := by unfold insT; rw [if_pos h]
   rw [e]
   have := fold_le l ks
   constructor
   ·intro q; omega
   ·rintro ⟨_, q⟩
    exact absurd h (q k List.mem_cons_self)
  ·have e : insT ks k = k :: ks := by unfold insT; rw [if_neg h]
   rw [e]
   have := fold_full l (k :: ks)
   rw [List.length_cons] at this
   constructor
   ·intro q
    obtain ⟨q1, q2⟩ := this.mp (by omega)
    refine ⟨⟨fun hk => q2 k hk List.mem_cons_self, q1⟩, fun x hx => ?_⟩
    rcases List.mem_cons.mp hx with rfl | hx
    ·exact h
    ·exact fun z => q2 x hx (List.mem_cons_of_mem _ z)
   ·rintro ⟨⟨q1, q2⟩, q3⟩
    have := this.mpr ⟨q2, fun x hx z => by
     rcases List.mem_cons.mp z with rfl | z
     ·exact q1 hx
     ·exact q3 x (List.mem_cons_of_mem _ hx) z⟩
    omega
section
variable {prog : Program} {w : World}
theorem update_loop {A : Around} {R : Result -> Shared -> Prop} {I : Addr} {fp wr : List Addr} {G : Array GenState -> Array GenState -> Prop} {n : Nat} {P : Nat -> Value -> Prop} {St : Nat -> Shared -> Prop}
  (W : WalksS prog w A.in1 I fp wr G n P St) (hu : A.in1.units < cLine) (S : Addr) (hSf : S ∉ fp) (hp : Heap) (hS0 : hp.get? S = none) (hw0 : ∀ b ∈ wr, hp.get? b = none) (keys : List (List Int)) (hn : keys.length = n) (hb : n < 300)
  (hkey : ∀ i v, P i v -> ∃ x k, v = .ref x /\ keys[i]? = some k /\ KeyOk k /\ IsTupleKey (intKind prog w) hp k x) :
  ∀ (c i : Nat) (s : Shared), n - i = c -> i <= n -> St i s -> (∀ b o, hp.get? b = some o -> s.heap.get? b = some o) -> SetT prog w hp s.heap S ((keys.take i).foldl insT []) ->
   (∀ s', Moved (S :: wr) G s s' -> SetT prog w hp s'.heap S (keys.foldl insT []) -> R (.ok (.ret .none)) s') ->
   codeAny (model prog w) A (.builtin "set.update.loop" ⟨[.ref S, .ref I], []⟩) R s := by
 have hSw : S ∉ wr := fun h => hSf (W.sub _ h)
 have hsub : ∀ b ∈ wr, b ∈ S :: wr := fun b hb => List.mem_cons_of_mem _ hb
 have nw : ∀ b o, hp.get? b = some o -> b ∉ wr := fun b o e hm => by rw [hw0 b hm] at e; cases e
 have nS : ∀ b o, hp.get? b = some o -> b ≠ S := fun b o e hm => by rw [hm, hS0] at e; cases e
 have setKept : ∀ {s s' : Shared} {ks : List (List Int)}, SetT prog w hp s.heap S ks -> (∀ b o, b ∉ wr -> s.heap.get? b = some o -> s'.heap.get? b = some o) -> SetT prog w hp s'.heap S ks := fun {s s' ks} hS hk => by
  obtain ⟨o, es, ep, t, ho, rest⟩ := hS
  exact ⟨o, es, ep, t, hk S o hSw ho, rest⟩
 intro c
 induction c with
 | zero =>
  intro i s hk hi hst hup hS hR
  have hin : i = n := by omega
  subst hin
  refine codeAny_builtin PyProof.Rows.F.entry_set_update_loop ?_
  rw [Around.under_plainId PyProof.Rows.F.plain_set_update_loop _]
  show wpAny _ A.in1 (pyNext (.ref I) >>= _) _ _ s
  refine wpAny_bind (W.done s _ _ hst fun s' hm => ?_)
  show wpAny _ A.in1 (ret Value.none) _ _ s'
  refine wpAny_pure (hR s' (hm.mono hsub) ?_)
  have := setKept hS hm.heap
  rw [List.take_of_length_le (by omega)] at this
  exact this
 | succ c ih =>
  intro i s hk hi hst hup hS hR
  have hlt : i < n := by omega
  refine codeAny_builtin PyProof.Rows.F.entry_set_update_loop ?_
  rw [Around.under_plainId PyProof.Rows.F.plain_set_update_loop _]
  show wpAny _ A.in1 (pyNext (.ref I) >>= _) _ _ s
  refine wpAny_bind (W.item i s _ _ hlt hst fun v s' hP hst' hm => ?_)
  obtain ⟨x, k, rfl, hki, hok, hx⟩ := hkey i v hP
  have hup' : ∀ b o, hp.get? b = some o -> s'.heap.get? b = some o := fun b o e => hm.heap b o (nw b o e) (hup b o e)
  have hS' := setKept (s' := s') hS hm.heap
  show wpAny _ A.in1 (holding [Value.ref x] (setAdd S (.ref x)) >>= _) _ _ s'
  refine wpAny_bind (wpAny_holding ?_)
  have hlen : ((keys.take i).foldl insT []).length < 300 := by
   have := fold_le (keys.take i) []
   rw [List.length_take] at this
   simp only [List.length_nil] at this
   omega
  refine setAdd_pair hup' hu hS' hx hok hlen fun b h' tk htk hsb hS2 => ?_
  have hS3 : SetT prog w hp h' S ((keys.take (i + 1)).foldl insT []) := by
   rw [List.take_add_one, hki, List.foldl_append]
   exact hS2
  refine wpAny_pure ⟨plainId_quiet PyProof.Rows.F.plain_set_update_loop _, ih (i + 1) _ (by omega) hlt (W.frame _ s' _ _ hst' htk fun b hb o e => ?_) (fun b o e => ?_) hS3 fun s'' hm'' hS'' => ?_⟩
  ·rw [hsb.2 b (fun h : b = S => hSf (h ▸ hb))]; exact e
  ·show h'.get? b = some o
   rw [hsb.2 b (nS b o e)]
   exact hup' b o e
  ·refine hR s'' (Moved.trans W.gtrans ((hm.mono hsub).then_heap htk fun b o hb e => ?_) hm'') hS''
   rw [hsb.2 b (fun h : b = S => hb (h ▸ List.mem_cons_self))]; exact e
variable {A : Around} {E : Value -> Shared -> Prop} {s : Shared}
set_option maxRecDepth 100000 in
set_option maxHeartbeats 3200000 in
theorem set_of_list {l : Addr} {items : Array Value} {keys : List (List Int)} {Q : Value -> Shared -> Prop} (hh : A.handled = none) (hu : A.units + 8 < cLine) (hl : s.heap.IsList l items) (hn : keys.length = items.size) (hb : items.size < 300)
  (hkey : ∀ (i : Nat) (v : Value), items[i]? = some v -> ∃ x k, v = .ref x /\ keys[i]? = some k /\ KeyOk k /\ IsTupleKey (intKind prog w) s.heap k x)
  (h : ∀ (h' : Heap) (tk : Nat), SetT prog w s.heap h' s.heap.objs.size (keys.foldl insT []) -> (∀ b o, s.heap.get? b = some o -> h'.get? b = some o) -> Q (.ref s.heap.objs.size) { s with heap := h', toks := tk }) :
  wpAny (model prog w) A (call (.type "set") [.ref l]) Q E s := by
 obtain ⟨c, tl, hmro⟩ := F.called_set.mro
 have hmade := F.called_set.made
 have hsub := F.called_set.sub
 refine wpAny_call (codeAny_of_tree ?_)
 show wpAny _ _ (callAny (.type "set") _) _ _ _
 refine wpAny_pure ⟨Code.quiet_builtin _ (by decide +kernel), codeAny_builtin F.entry_type_call ?_⟩
 rw [Around.under_plain (weight_type_call_type "set" [.ref l] []) rfl]
 have h1 := F.called_set.notType
 have h2 := F.called_set.canCreate
 have hct := F.typeCall_set_1 (.ref l)
 repeat (any_goals (first | assumption | wp_step))
 refine codeAny_mono (code_set_new_1 (.ref l) (E := E) (Q₁ := fun obj s₁ => ∃ led : Bool, obj = .ref s.heap.objs.size /\ s₁ = { s with heap := s.heap.push { cls := .type "set", dict := none, data := .set #[] 0 (.fresh 0 0 led) } }) fun led => ⟨led, rfl, rfl⟩) fun r s₁ hr => ?_
 cases r with
 | error e => exact hr
 | ok fl =>
  cases fl with
  | ret obj =>
   obtain ⟨led, rfl, rfl⟩ := hr
   have hS : (s.heap.push { cls := .type "set", dict := none, data := .set #[] 0 (.fresh 0 0 led) }).get? s.heap.objs.size = some { cls := .type "set", dict := none, data := .set #[] 0 (.fresh 0 0 led) } := Heap.get?_push_size _ rfl
   have hT : Shared.TypeIs { s with heap := s.heap.push { cls := .type "set", dict := none, data := .set #[] 0 (.fresh 0 0 led) } } (.ref s.heap.objs.size) "set" := ⟨_, hS, rfl⟩
   have hli := F.called_set.init.lookup
   have hbi := F.called_set.init.bind (.ref s.heap.objs.size)
   repeat (any_goals (first | assumption | wp_step))
   refine codeAny_mono (codeAny_call_builtin (R := wants (fun r s₂ => r = .none /\ ∃ h' tk, s₂ = { s with heap := h', toks := tk } /\ SetT prog w s.heap h' s.heap.objs.size (keys.foldl insT []) /\ (∀ b o, s.heap.get? b = some o -> h'.get? b = some o)) E) F.called_set.init.plain F.entry_set_init (check_set_init_1 hT ?_)) fun r₂ s₂ hr₂ => ?_
   ·obtain ⟨ol, hol, hcl, nl, hdl⟩ := hl
    obtain ⟨ocls, odict, odata, oslots⟩ := ol
    simp only at hcl hdl
    subst hcl; subst hdl
    have hol' : (s.heap.push { cls := .type "set", dict := none, data := .set #[] 0 (.fresh 0 0 led) }).get? l = some { cls := .type "list", dict := odict, data := .seq items nl, slots := oslots } := Heap.get?_push_of_some _ hol
    have hsls := F.sub_list_set
    have hslf := F.sub_list_frozenset
    have hne : (Value.type "list" == Value.type "dict") = false := by decide
    have hl1 : (s.heap.push { cls := .type "set", dict := none, data := .set #[] 0 (.fresh 0 0 led) }).IsList l items := ⟨_, hol', rfl, nl, rfl⟩
    unfold Builtin.«set.__init__» noKeywords Builtin.Frozenset.updateFrom
    generalize hPI : pyIter = PI
    wp_walk
    subst hPI
    refine wpAny_pyIter_list hl1 ?_
    refine wpAny_bind (wpAny_runValue ?_)
    have hlS : l < s.heap.objs.size := Heap.lt_size hol
    have hh3 : A.in1.in1.in1.handled = none := by simp [hh]
    have hneI : l ≠ (s.heap.push { cls := .type "set", dict := none, data := .set #[] 0 (.fresh 0 0 led) }).objs.size := by
     rw [Heap.size_push]; exact Nat.ne_of_lt (Nat.lt_succ_of_lt hlS)
    have hSf : s.heap.objs.size ∉ [(s.heap.push { cls := .type "set", dict := none, data := .set #[] 0 (.fresh 0 0 led) }).objs.size, l] := by
     rw [Heap.size_push]; simp only [List.mem_cons, List.mem_singleton, List.not_mem_nil, or_false, not_or]
     exact ⟨Nat.ne_of_lt (Nat.lt_succ_self _), Nat.ne_of_gt hlS⟩
    refine update_loop ((Walks.list hh3 _ l hneI items).toS) ?hu s.heap.objs.size hSf s.heap ?hn ?hw keys hn hb hkey (items.size - 0) 0 _ (by omega) (Nat.zero_le _)
     ⟨⟨_, Heap.get?_push_size _ rfl, rfl, rfl⟩, (hl1.push _)⟩ (fun b o e => Heap.get?_push_of_some _ (Heap.get?_push_of_some _ e)) ?hS0 ?hR
    case hu => show A.units + 1 + 1 + 1 < cLine; omega
    case hn => exact Heap.get?_none_of_le (Nat.le_refl _)
    case hw =>
     intro b hb
     have e : b = (s.heap.push { cls := .type "set", dict := none, data := .set #[] 0 (.fresh 0 0 led) }).objs.size := by simpa using hb
     rw [e]
     exact Heap.get?_none_of_le (by rw [Heap.size_push]; exact Nat.le_succ _)
    case hS0 =>
     have hget : ((s.heap.push { cls := .type "set", dict := none, data := .set #[] 0 (.fresh 0 0 led) }).push { cls := .type "list_iterator", data := .fields #[.ref l, .int 0 0] }).get? s.heap.objs.size
       = some { cls := .type "set", dict := none, data := .set #[] 0 (.fresh 0 0 led) } := Heap.get?_push_of_some _ hS
     refine ⟨_, _, _, _, hget, ⟨rfl, rfl, rfl⟩, rfl, ⟨rfl, rfl, ?_, ?_, .inl rfl, by show 0 * 5 < 7 * 3; decide, ?_⟩, rfl, List.nodup_nil, (fun _ h => nomatch h), (fun _ h => nomatch h), (fun _ h => nomatch h)⟩
     ·intro i j a b hij ea
      simp [SetTable.fresh] at ea
     ·intro i j ea
      simp [SetTable.fresh] at ea
     ·intro i e ea
      simp at ea
    case hR =>
     intro s' hm hS'
     obtain ⟨h', g', d', tk', os'⟩ := s'
     have eg : g' = s.gens := hm.gens
     have ed : d' = s.drawn := hm.drawn
     have eo : os' = s.os := hm.os
     subst eg; subst ed; subst eo
     show wpAny _ _ _ _ _ _
     refine wpAny_pure ?_
     show wpAny _ _ (ret Value.none) _ _ _
     refine wpAny_pure ⟨rfl, h', tk', rfl, hS', fun b o e => ?_⟩
     have hlt := Heap.lt_size e
     have hb1 : b ≠ s.heap.objs.size := Nat.ne_of_lt hlt
     have hb2 : b ≠ (s.heap.push { cls := .type "set", dict := none, data := .set #[] 0 (.fresh 0 0 led) }).objs.size := by
      rw [Heap.size_push]; exact Nat.ne_of_lt (Nat.lt_succ_of_lt hlt)
     exact hm.heap b o (by simp only [List.mem_cons, List.mem_singleton, List.not_mem_nil, or_false, not_or]; exact ⟨hb1, hb2⟩) (Heap.get?_push_of_some _ (Heap.get?_push_of_some _ e))
   ·cases r₂ with
    | error e => exact hr₂
    | ok fl₂ =>
     cases fl₂ with
     | ret r =>
      obtain ⟨rfl, h', tk, rfl, hS', hk'⟩ := hr₂
      repeat (any_goals (first | assumption | wp_step))
      exact h _ _ hS' hk'
     | _ => exact hr₂.elim
  | _ => exact hr.elim
theorem len_of_set {S : Addr} {hp : Heap} {ks : List (List Int)} {Q : Value -> Shared -> Prop} (hS : SetT prog w hp s.heap S ks) (hn : ks.length < 300) (h : ∀ t tk, Q (.int ks.length t) { s with toks := tk }) :
  wpAny (model prog w) A (call (.builtin "len") [.ref S]) Q E s := by
 obtain ⟨o, es, ep, t, ho, hex, hd, T, hsz, _⟩ := hS
 refine call_len_set ho hex hd T.fits (by omega) ?_
 rw [hsz]
 exact h _ _
end
end Sett
namespace L2
open PySem PySem.Spec PyProof.Rows
def Tups (K : W.Frag) (H : Hp) (ys : List V) (ks : List (List Int)) : Prop := Paired (fun y k => ∃ a, y = V.ref a /\ SqT K H a (k.map V.int)) ys ks
theorem Tups.len {K : W.Frag} {H : Hp} {ys : List V} {ks : List (List Int)} (t : Tups K H ys ks) : ys.length = ks.length := Paired.length t
theorem Tups.get {K : W.Frag} {H : Hp} : ∀ {ys : List V} {ks : List (List Int)} {i : Nat} {y : V}, Tups K H ys ks -> ys[i]? = some y -> ∃ a k, y = V.ref a /\ ks[i]? = some k /\ SqT K H a (k.map V.int)
 | _, _, _, _, .nil, e => by simp at e
 | _, _, 0, _, .cons r _, e => by
  simp at e
  subst e
  obtain ⟨a, h1, h2⟩ := r
  exact ⟨a, _, h1, rfl, h2⟩
 | _, _, i + 1, y, .cons _ t, e => by
  obtain ⟨a, k, h1, h2, h3⟩ := Tups.get (i := i) (y := y) t (by simpa using e)
  exact ⟨a, k, h1, by simpa using h2, h3⟩
theorem Tups.same {K : W.Frag} {H H' : Hp} (hs : ∀ b o, H b = some o -> H' b = some o) : ∀ {ys : List V} {ks : List (List Int)}, Tups K H ys ks -> Tups K H' ys ks
 | _, _, .nil => .nil
 | _, _, .cons r t => by
  obtain ⟨a, h1, h2⟩ := r
  refine .cons ⟨a, h1, ?_⟩ (Tups.same hs t)
  rcases h2 with (h | ⟨o, h⟩) | h
  ·exact .inl (.inl (hs _ _ h))
  ·exact .inl (.inr ⟨o, hs _ _ h⟩)
  ·exact .inr h
theorem Tups.append {K : W.Frag} {H : Hp} : ∀ {ys zs : List V} {ks ls : List (List Int)}, Tups K H ys ks -> Tups K H zs ls -> Tups K H (ys ++ zs) (ks ++ ls)
 | _, _, _, _, .nil, s => s
 | _, _, _, _, .cons r t, s => .cons r (Tups.append t s)
section
variable {X : Cx} {pins : List (Addr × Obj)} {σ : St} {H : Hp} {s : Shared}
theorem items_of {prog : Program} {w : World} : ∀ {k : List Int} {its : List Value}, Vals (k.map V.int) its -> ItemsAre (intKind prog w) k its
 | [], _, .nil => .nil
 | i :: k, _, .cons r t => by
  obtain ⟨tk, rfl⟩ := r
  exact .cons (by simp [intKind, Value.isInt]) (items_of t)
theorem tup_key (I : Inv X pins σ H s) {a : Addr} {k : List Int} (h : SqT X.K H a (k.map V.int)) : IsTupleKey (intKind X.prog X.w) s.heap k a := by
 obtain ⟨its, r, ⟨o, ho, hc, n, hd⟩, _⟩ := I.tuple h
 exact ⟨o, its.toArray, n, ho, hc, hd, by simpa using items_of r⟩
theorem tups_vals (I : Inv X pins σ H s) : ∀ {ys : List V} {ks : List (List Int)} {us : List Value}, Tups X.K H ys ks -> Vals ys us -> Paired (fun u k => ∃ a, u = Value.ref a /\ IsTupleKey (intKind X.prog X.w) s.heap k a) us ks
 | _, _, _, .nil, .nil => .nil
 | _, _, _, .cons r t, .cons q v => by
  obtain ⟨a, rfl, h⟩ := r
  cases q
  exact .cons ⟨a, rfl, tup_key I h⟩ (tups_vals I t v)
theorem paired_get {α β : Type} {R : α -> β -> Prop} : ∀ {l : List α} {m : List β} {i : Nat} {x : α}, Paired R l m -> l[i]? = some x -> ∃ y, m[i]? = some y /\ R x y
 | _, _, _, _, .nil, e => by simp at e
 | _, _, 0, _, .cons r _, e => by simp at e; subst e; exact ⟨_, rfl, r⟩
 | _, _, i + 1, x, .cons _ t, e => by
  obtain ⟨y, h1, h2⟩ := paired_get (i := i) (x := x) t (by simpa using e)
  exact ⟨y, by simpa using h1, h2⟩
end
section
variable {X : Cx}
def SetO (P : Program) (w : World) (S : Addr) (n : Nat) : HO := .ext fun h => ∃ hk ks, ks.length = n /\ n < 300 /\ Sett.SetT P w hk h S ks
theorem call_set (hc : X.calm = true) (hu : X.A.units + 8 < cLine) : CallR X (.type "set") (fun xs H Q => ∃ p ys ks, xs = [.ref p] /\ SqL X.K H p ys /\ Tups X.K H ys ks /\ (∀ k ∈ ks, Sett.KeyOk k) /\ ks.length < 300 /\
  ∀ S, H S = none -> Q (.ref S) (upd H S (SetO X.prog X.w S (ks.foldl Sett.insT []).length))) := by
 intro pins s σ H xs us Q I r h
 obtain ⟨p, ys, ks, rfl, hq, ht, hok, hb, q⟩ := h
 obtain ⟨u, rfl, rx⟩ := vals1 r
 cases rx
 obtain ⟨its, r', pl, hz⟩ := I.list hq
 have hlen := r'.length
 have hk := tups_vals I ht r'
 have hkl := ht.len
 refine Sett.set_of_list (keys := ks) (I.ok.hd hc) hu pl.isList (by simp; omega) (by simp; omega) (fun i v hv => ?_) fun h' tk hS kp => ?_
 ·obtain ⟨k, h1, a, rfl, h2⟩ := paired_get hk (by simpa using hv)
  exact ⟨a, k, rfl, h1, hok k (List.mem_of_getElem? h1), h2⟩
 ·have hle := Sett.fold_le ks []
  simp only [List.length_nil] at hle
  refine ⟨.ref s.heap.objs.size, _, I.laid (o := SetO X.prog X.w s.heap.objs.size (ks.foldl Sett.insT []).length) (t' := tk) kp (Nat.le_refl _) ?_, rfl, q _ (I.hok.fresh (Nat.le_refl _))⟩
  refine ⟨⟨s.heap, ks.foldl Sett.insT [], rfl, by omega, hS⟩, ?_, fun h1 h2 ⟨hk1, ks1, e1, e2, hS1⟩ hkeep => ⟨hk1, ks1, e1, e2, ?_⟩⟩
  ·obtain ⟨o, _, _, _, ho, _⟩ := hS
   exact ⟨o, ho⟩
  ·obtain ⟨o, es, ep, t, ho, rest⟩ := hS1
   exact ⟨o, es, ep, t, hkeep o ho, rest⟩
theorem call_len_set : CallR X (.builtin "len") (fun xs H Q => ∃ S n, xs = [.ref S] /\ H S = some (SetO X.prog X.w S n) /\ Q (.int n) H) := by
 intro pins s σ H xs us Q I r h
 obtain ⟨S, n, rfl, hS, q⟩ := h
 obtain ⟨u, rfl, rx⟩ := vals1 r
 cases rx
 obtain ⟨⟨hk, ks, e1, e2, hS1⟩, _⟩ := I.hok S _ hS
 refine Sett.len_of_set hS1 (by omega) fun t tk => ?_
 exact ⟨.int n, H, I.tok _, ⟨t, by rw [e1]⟩, q⟩
end
def compCx (X : Cx) (scope : Scope) (cl : List (Str × Addr)) (N' : List Str) (s₃ : Shared) (H₃ : Hp) (fp : List Addr) (xe' : Value -> Shared -> Prop) : Cx :=
 { X with N := N', s₀ := s₃, H₀ := H₃, env := compEnvC scope cl s₃.heap.objs.size X.env, outer := X.stack, ex := fp, fn := fun _ => false, pn := [], xe := xe' }
def ClOk (env : Env) : List (Str × Addr) -> Prop
 | [] => True
 | (x, c) :: r => env.cells.lookup x = some c /\ ClOk env r
theorem ClOk.get {env : Env} : ∀ {cl : List (Str × Addr)} {x : Str} {c : Addr}, ClOk env cl -> cl.lookup x = some c -> env.cells.lookup x = some c
 | [], _, _, _, h => by cases h
 | (y, d) :: r, x, c, ⟨h1, h2⟩, h => by
  rw [List.lookup_cons] at h
  cases e : x == y with
  | true =>
   rw [e] at h
   cases h
   rw [eq_of_beq e]
   exact h1
  | false =>
   rw [e] at h
   exact ClOk.get h2 h
def FrOk (names : List (Str × NameKind)) (cl : List (Str × Addr)) : Bool := names.all fun y => y.2 != .cell && (y.2 != .free || (cl.lookup y.1).isSome)
theorem lookup_relabel {env : Env} : ∀ {names : List (Str × NameKind)} {x : Str} {k : NameKind}, (names.map fun (n, k) => if (k == NameKind.free && env.scope.kind == .function && env.kindOf n == some .cell) then (n, NameKind.cell) else (n, k)).lookup x = some k ->
  ∃ k', (x, k') ∈ names /\ (k' = k \/ (k' = .free /\ k = .cell))
 | [], _, _, h => by cases h
 | (n, k0) :: r, x, k, h => by
  rw [List.map_cons] at h
  have hn : ∀ k1, (List.lookup x ((n, k1) :: r.map fun (n, k) => if (k == NameKind.free && env.scope.kind == .function && env.kindOf n == some .cell) then (n, NameKind.cell) else (n, k))) = some k -> (x = n /\ k1 = k) \/ ∃ k', (x, k') ∈ r /\ (k' = k \/ (k' = .free /\ k = .cell)) := fun k1 h => by
   rw [List.lookup_cons] at h
   cases e : x == n with
   | true => rw [e] at h; cases h; exact .inl ⟨eq_of_beq e, rfl⟩
   | false => rw [e] at h; exact .inr (lookup_relabel h)
  dsimp only at h
  by_cases hc : (k0 == NameKind.free && env.scope.kind == .function && env.kindOf n == some .cell) = true
  ·rw [if_pos hc] at h
   rcases hn _ h with ⟨rfl, rfl⟩ | ⟨k', h1, h2⟩
   ·simp only [Bool.and_eq_true] at hc
    have e0 : k0 = .free := eq_of_beq hc.1.1
    exact ⟨k0, List.mem_cons_self, .inr ⟨e0, rfl⟩⟩
   ·exact ⟨k', List.mem_cons_of_mem _ h1, h2⟩
  ·rw [if_neg hc] at h
   rcases hn _ h with ⟨rfl, rfl⟩ | ⟨k', h1, h2⟩
   ·exact ⟨k0, List.mem_cons_self, .inl rfl⟩
   ·exact ⟨k', List.mem_cons_of_mem _ h1, h2⟩
def capt (lk : List (Option Nat)) (σ : St) : St := lk.map fun o => o.bind fun j => (σ[j]?).join
def LkOk (X : Cx) (N' : List Str) (lk : List (Option Nat)) (scope : Scope) (cl : List (Str × Addr)) : Prop :=
 lk.length = N'.length /\ ∀ (i j : Nat) (x : Str), N'[i]? = some x -> lk[i]? = some (some j) -> X.N[j]? = some x /\ (X.env.scope.names.lookup x = some .cell \/ X.env.scope.names.lookup x = some .free) /\ (cl.lookup x).isSome = true /\
  ((compEnvC scope cl 0 X.env).kindOf x = some .cell \/ (compEnvC scope cl 0 X.env).kindOf x = some .free)
section
variable {X : Cx}
theorem comp_start {pins : List (Addr × Obj)} {σ : St} {H3 : Hp} {s3 : Shared} {h1 : Heap} {tk : Nat} {scope : Scope} {cl : List (Str × Addr)} {N' : List Str} {lk : List (Option Nat)} {fp : List Addr} {xe' : Value -> Shared -> Prop} {m0 : Str -> Option Value}
  (I : Inv X pins σ H3 s3) (hf : ∀ b ∈ fp, FpOk X pins H3 b) (hkind : scope.kind = .function) (hcl : ClOk X.env cl) (hfr : FrOk scope.names cl = true) (hlk : LkOk X N' lk scope cl)
  (hn : h1.Ns s3.heap.objs.size m0) (hk : ∀ b u, s3.heap.get? b = some u -> h1.get? b = some u) (hfs : ∀ b ∈ fp, b < s3.heap.objs.size) : Inv (compCx X scope cl N' s3 H3 fp xe') [] (capt lk σ) H3 { s3 with heap := h1, toks := tk } := by
 have hC : H3 s3.heap.objs.size = none := I.hok.fresh (Nat.le_refl _)
 have hmem : ∀ y ∈ scope.names, y.2 ≠ .cell /\ (y.2 = .free -> (cl.lookup y.1).isSome = true) := fun y hy => by
  unfold FrOk at hfr
  rw [List.all_eq_true] at hfr
  have := hfr y hy
  rw [Bool.and_eq_true] at this
  refine ⟨by simpa using this.1, fun e => ?_⟩
  have h2 := this.2
  rw [e] at h2
  simpa using h2
 have hcell : ∀ x c, cl.lookup x = some c -> X.env.cells.lookup x = some c := fun x c e => hcl.get e
 have clt : ∀ x c, cl.lookup x = some c -> c < s3.heap.objs.size := fun x c e => by
  obtain ⟨v, q⟩ := I.cell x c (hcell x c e)
  exact q.lt
 refine ⟨⟨I.ok.mod, hkind, I.ok.glob, I.ok.blt, Nat.le_refl _, fun x y c e1 e2 => I.ok.inj x y c (hcell x c e1) (hcell y c e2), fun x hx => ?_, (fun x c e => by cases e), I.ok.hd, I.ok.frames, .inl rfl, fun b hb => ?_, fun b o e => I.bs b o e, Nat.le_trans I.ok.bsz I.sz, fun b o e hb => ?_, fun b hb z => ?_, I.stack, I.stkFree⟩,
  rfl, I.bare, Un.kept hk, ⟨m0, hn, fun i x v e1 e2 e3 => ?_⟩, fun x c e => ?_, hC, fun x c e => ?_, (fun p hp => nomatch hp), I.hok.kept hk, ?_⟩
 ·have hx' : (relabel scope X.env).names.lookup x = some .cell \/ (relabel scope X.env).names.lookup x = some .free := hx
  have : ∃ k', (x, k') ∈ scope.names /\ k' = .free := by
   rcases hx' with h | h
   ·obtain ⟨k', h1, h2⟩ := lookup_relabel h
    rcases h2 with h2 | h2
    ·exact absurd h2 (hmem _ h1).1
    ·exact ⟨k', h1, h2.1⟩
   ·obtain ⟨k', h1, h2⟩ := lookup_relabel h
    rcases h2 with h2 | h2
    ·exact ⟨k', h1, h2⟩
    ·exact ⟨k', h1, h2.1⟩
  obtain ⟨k', h1, h2⟩ := this
  exact Option.isSome_iff_exists.mp ((hmem _ h1).2 h2)
 ·obtain ⟨f0, f1, f2, f3, f4, f5⟩ := hf b hb
  exact ⟨Nat.ne_of_lt (hfs b hb), fun x c e => f4 x c (hcell x c e)⟩
 ·obtain ⟨f0, f1, f2, f3, f4, f5⟩ := hf b hb
  rcases f3 with f3 | f3
  ·exact I.ok.noex b o e f3
  ·exact absurd (Nat.lt_of_lt_of_le (Heap.lt_size e) (Nat.le_trans I.ok.bsz f3)) (Nat.lt_irrefl _)
 ·obtain ⟨f0, f1, f2, f3, f4, f5⟩ := hf b hb
  rcases List.mem_cons.mp (I.stkSub b z) with e | e
  ·exact f1 e
  ·exact f2 e
 ·-- a captured name
  have e2' : (capt lk σ)[i]? = some (some v) := e2
  unfold capt at e2'
  rw [List.getElem?_map] at e2'
  cases hq : lk[i]? with
  | none => rw [hq] at e2'; cases e2'
  | some o =>
   rw [hq] at e2'
   have e2'' : (o.bind fun j => (σ[j]?).join) = some v := Option.some.inj e2'
   cases o with
   | none => cases e2''
   | some j =>
    obtain ⟨q1, q2, q3, q4⟩ := hlk.2 i j x e1 hq
    have hσ : σ[j]? = some (some v) := by
     have z : (σ[j]?).join = some v := e2''
     cases hh : σ[j]? with
     | none => rw [hh] at z; cases z
     | some o => rw [hh] at z; rw [show o = some v from z]
    obtain ⟨m, hnX, hl⟩ := I.loc
    obtain ⟨u, r, lo⟩ := hl j x v q1 hσ (q2.elim (fun a => .inr (.inl a)) (fun a => .inr (.inr a)))
    refine ⟨u, r, .inr ?_⟩
    obtain ⟨c, hc⟩ := Option.isSome_iff_exists.mp q3
    refine ⟨q4, c, hc, ?_⟩
    have hcX := hcell x c hc
    rcases lo with ⟨k, _⟩ | ⟨_, c', hc', z⟩
    ·have k' : X.env.scope.names.lookup x = some .local := k
     rw [k'] at q2
     rcases q2 with q2 | q2 <;> cases q2
    ·rw [hcX] at hc'
     cases hc'
     obtain ⟨o, ho, hd⟩ := z
     exact ⟨o, hk c o ho, hd⟩
 ·obtain ⟨v, o, ho, hd⟩ := I.cell x c (hcell x c e)
  exact ⟨v, o, hk c o ho, hd⟩
 ·exact I.freeC x c (hcell x c e)
 ·show (capt lk σ).length = N'.length
  unfold capt
  rw [List.length_map]
  exact hlk.1
def PTs (X : Cx) (ifs : List Expr) (t : TT) : Prop :=
 ∀ (pins : List (Addr × Obj)) (s : Shared) (σ : St) (H : Hp) (Q : Bool -> Hp -> Prop), Inv X pins σ H s -> t σ H Q -> wpAny (model X.prog X.w) X.A (forIn ifs true fun c r => if r = true then do let ok <- isTrue c X.env (eval c X.env); pure (ForInStep.yield ok) else pure (ForInStep.yield r)) (TP X pins σ Q) X.xe s
def tTrue : TT := fun _ H Q => Q true H
theorem pts_nil : PTs X [] tTrue := fun pins s σ H Q I h => wpAny_tests_nil ⟨H, I, h⟩
theorem pts_one {c : Expr} {t : TT} (h : PT X c t) : PTs X [c] t := fun pins s σ H Q I q => wpAny_tests_one (h pins s σ H Q I q)
def tComp (wi : TI) (lk : List (Option Nat)) (g : TG) (tt : TT) (te : TE) : TE := fun σ H Q => wi σ H fun J H1 => ∀ D, H1 D = none -> ∃ W : Nat -> Nat -> List V -> St -> Hp -> Prop, (∃ m, W 0 m [] (capt lk σ) (upd H1 D (.lst []))) /\ ∀ i m xs σ' H', W i m xs σ' H' ->
 H' D = some (.lst xs) /\ ((J.stop i H' /\ Q (.ref D) H') \/ (J.go i H' /\ xs.length < sizeLine /\ ∀ x H'', J.yld i H' x H'' -> g x σ' H'' fun σ2 H2 => tt σ2 H2 fun b H3 =>
  if b = true then te σ2 H3 fun v H4 => H4 D = some (.lst xs) /\ ∃ m', m' < m /\ W (i + 1) m' (xs ++ [v]) σ2 (upd H4 D (.lst (xs ++ [v]))) else ∃ m', m' < m /\ W (i + 1) m' xs σ2 H3))
theorem pe_comp {elt iter tg : Expr} {ifs : List Expr} {scope : Scope} {pos : Pos} {cl : List (Str × Addr)} {N' : List Str} {lk : List (Option Nat)} {wi : TI} {g : TG} {tt : TT} {te : TE} (hc : X.calm = true) (hi : PI X tg iter wi) (hclos : closureFor scope X.env = pure cl) (hkind : scope.kind = .function)
  (hnames : ∀ y ∈ scope.names, y.2 = .local -> scope.names.lookup y.1 = some .local) (hcl : ClOk X.env cl) (hfr : FrOk scope.names cl = true) (hlk : LkOk X N' lk scope cl)
  (hg : ∀ s3 H3 fp, PG (compCx X scope cl N' s3 H3 fp fun _ _ => False) tg g) (ht : ∀ s3 H3 fp, PTs (compCx X scope cl N' s3 H3 fp fun _ _ => False) ifs tt) (he : ∀ s3 H3 fp, PE (compCx X scope cl N' s3 H3 fp fun _ _ => False) elt te)
  (hs : ∀ x, foldedSetIterable iter X.env x = pure x := by intro _; rfl) : PE X (.ListComp elt [⟨tg, iter, ifs, 0⟩] scope pos) (tComp wi lk g tt te) := by
 intro pins s σ H Q I h
 rw [eval_ListComp]
 have hcellN : ∀ y ∈ scope.names, y.2 ≠ .cell := fun y hy => by
  unfold FrOk at hfr
  rw [List.all_eq_true] at hfr
  have := hfr y hy
  rw [Bool.and_eq_true] at this
  simpa using this.1
 refine wpAny_comprehension_free (use := none) rfl hs hclos hkind hnames (thn (hi pins s σ H _ I h) fun v s1 h1 => thn h1 fun itv s2 h2 => ?_)
 obtain ⟨it, fp, tn, J, H2, e, I2, T, st2, f2, q⟩ := h2
 subst e
 refine wpAny_newList ?_ (Nat.zero_le _)
 have hD : H2 s2.heap.objs.size = none := I2.hok.fresh (Nat.le_refl _)
 have I3 := I2.lnew (ys := []) (its := []) (t' := s2.toks) .nil (Nat.zero_le _)
 obtain ⟨W, ⟨m0, w0⟩, turn⟩ := q s2.heap.objs.size hD
 have fpl : ∀ b ∈ fp, b < s2.heap.objs.size := fun b hb => by
  obtain ⟨o, ho, _⟩ := T.obj 0 s2.heap st2 b hb
  exact Heap.lt_size ho
 refine wpAny_newFunctionEnv hcellN (by intro y hy; cases hy) (fun h1 hns1 hsb1 => ?_) hkind
 dsimp only at hns1 hsb1 ⊢
 -- the state ahead of the frame, the block's context
 have e3 : s2.heap.push { cls := .type "list", dict := none, data := .seq ([] : List Value).toArray } = s2.heap.push { cls := .type "list", data := .seq ([] : List Value).toArray } := rfl
 generalize hh3 : s2.heap.push { cls := .type "list", dict := none, data := .seq ([] : List Value).toArray } = h3 at *
 have I3' : Inv X pins σ (upd H2 s2.heap.objs.size (.lst [])) { s2 with heap := h3, toks := s2.toks } := I3
 have size3 : h3.objs.size = s2.heap.objs.size + 1 := by rw [<- hh3, Heap.size_push]
 have f3 : ∀ b ∈ fp, FpOk X pins (upd H2 s2.heap.objs.size (.lst [])) b := fun b hb => by
  obtain ⟨f0, fr⟩ := f2 b hb
  exact ⟨by rw [upd_ne (Nat.ne_of_lt (fpl b hb))]; exact f0, fr⟩
 have up : ∀ b u, h3.get? b = some u -> h1.get? b = some u := fun b u eb => by
  rw [hsb1.2 b (Nat.ne_of_lt (Heap.lt_size eb))]
  exact Heap.get?_push_of_some _ eb
 have I4 : Inv (compCx X scope cl N' { s2 with heap := h3, toks := s2.toks } (upd H2 s2.heap.objs.size (.lst [])) fp fun _ _ => False) [] (capt lk σ) (upd H2 s2.heap.objs.size (.lst [])) { s2 with heap := h1, toks := s2.toks + ([] : List (Str × Value)).length } :=
  comp_start (s3 := { s2 with heap := h3, toks := s2.toks }) I3' f3 hkind hcl hfr hlk hns1 up fun b hb => by show b < h3.objs.size; rw [size3]; exact Nat.lt_succ_of_lt (fpl b hb)
 have st4 : tn 0 h1 := T.keep 0 s2.heap h1 st2 fun b hb o eb => up b o (by rw [<- hh3]; exact Heap.get?_push_of_some _ eb)
 have hCs : h3.objs.size = (compEnvC scope cl h3.objs.size X.env).locals := rfl
 -- what stays true of the iterator's objects
 have stat : ∀ {H' : Hp}, (∀ b ∈ fp, H' b = none) -> ∀ b ∈ fp, FpOk (compCx X scope cl N' { s2 with heap := h3, toks := s2.toks } (upd H2 s2.heap.objs.size (.lst [])) fp fun _ _ => False) [] H' b := fun {H'} hn b hb => by
  obtain ⟨f0, f1, f2', f3', f4, f5⟩ := f3 b hb
  refine ⟨hn b hb, ?_, fun z => ?_, .inl hb, fun x c ex => f4 x c (hcl.get ex), fun p hp => nomatch hp⟩
  ·show b ≠ h3.objs.size
   rw [size3]
   exact Nat.ne_of_lt (Nat.lt_succ_of_lt (fpl b hb))
  ·rcases List.mem_cons.mp (I3'.stkSub b z) with q | q
   ·exact f1 q
   ·exact f2' q
 -- the block's end
 have fin : ∀ (s' : Shared) (σ' : St) (H' : Hp), Inv (compCx X scope cl N' { s2 with heap := h3, toks := s2.toks } (upd H2 s2.heap.objs.size (.lst [])) fp fun _ _ => False) [] σ' H' s' -> Q (.ref s2.heap.objs.size) H' ->
   compPost (model X.prog X.w) X.A X.xe none (EP X pins σ Q) (.ref s2.heap.objs.size) h3.objs.size (.ok .next) s' := fun s' σ' H' I' q' => by
  obtain ⟨m, hm, _⟩ := id I'.loc
  have I5 : Inv X pins σ H' s' := I3'.call' (ch := fp) I'.os I'.base I'.hok I'.bare fun b hb => by
   obtain ⟨f0, f1, f2', f3', f4, f5⟩ := f3 b hb
   exact ⟨f3', f1, f4, f5⟩
  refine ⟨m, hm, fun h' hsb => ?_⟩
  refine ⟨.ref s2.heap.objs.size, H', ?_, rfl, q'⟩
  have hfc : H' h3.objs.size = none := I'.free
  have hcl1 : ∀ b o, h3.get? b = some o -> b ≠ h3.objs.size := fun b o eb => Nat.ne_of_lt (Heap.lt_size eb)
  obtain ⟨h0', g0, d0, t0, o0⟩ := s'
  refine I5.turned (t' := t0) (it := h3.objs.size) (fun b o hb eb => (hsb.2 b hb).trans eb) hfc ?_ (.inr I3'.sz) (fun x c ex z => ?_) (fun p hp z => ?_)
  ·exact Nat.ne_of_gt I3'.lt
  ·obtain ⟨v', q2⟩ := I3'.cell x c ex
   exact absurd q2.lt (by rw [z]; exact Nat.lt_irrefl _)
  ·exact absurd (Heap.lt_size (I3'.pin p hp).1) (by rw [z]; exact Nat.lt_irrefl _)
 have loop : ∀ s5 : Shared, s5 = { s2 with heap := h1, toks := s2.toks + ([] : List (Str × Value)).length } ->
   codeAny (model X.prog X.w) X.A (.compLoop (.ListComp elt [⟨tg, iter, ifs, 0⟩] scope pos) 0 (.ref it) (.ref s2.heap.objs.size) (compEnvC scope cl h3.objs.size X.env)) (compPost (model X.prog X.w) X.A X.xe none (EP X pins σ Q) (.ref s2.heap.objs.size) h3.objs.size) s5 := by
  rintro s5 rfl
  refine codeAny_loop rfl (fun n s' => ∃ i xs σ' H', Inv (compCx X scope cl N' { s2 with heap := h3, toks := s2.toks } (upd H2 s2.heap.objs.size (.lst [])) fp fun _ _ => False) [] σ' H' s' /\ tn i s'.heap /\ (∀ b ∈ fp, H' b = none) /\ W i n xs σ' H')
   (fun n s6 hI => ?_) m0 ⟨0, [], capt lk σ, _, I4, st4, fun b hb => (f3 b hb).1, w0⟩
  obtain ⟨i, xs, σ6, H6, I6, st6, fr6, w6⟩ := hI
  show wpAny _ X.A ((compTurn (.ListComp elt [⟨tg, iter, ifs, 0⟩] scope pos) 0 (.ref it) (.ref s2.heap.objs.size) (compEnvC scope cl h3.objs.size X.env)).onRaise (fun x => do noteFrame x (compEnvC scope cl h3.objs.size X.env); theTreesLotGoes x)) _ _ s6
  refine wpAny_noted ?_
  rw [compTurn_list]
  refine wpAny_bind (wpAny_standAt (wpAny_bind ?_))
  obtain ⟨hD6, hw⟩ := turn i n xs σ6 H6 w6
  rcases hw with ⟨stop, qn⟩ | ⟨go, hlen, step⟩
  ·refine thn (T.done (compCx X scope cl N' { s2 with heap := h3, toks := s2.toks } (upd H2 s2.heap.objs.size (.lst [])) fp fun _ _ => False) rfl rfl rfl hc i [] s6 σ6 H6 _ I6 (stat fr6) st6 stop) fun r s7 ⟨hr, I7⟩ => ?_
   subst hr
   exact wpAny_pure (fin s7 σ6 H6 I7 qn)
  ·refine thn (T.item (compCx X scope cl N' { s2 with heap := h3, toks := s2.toks } (upd H2 s2.heap.objs.size (.lst [])) fp fun _ _ => False) rfl rfl rfl hc i [] s6 σ6 H6 _ I6 (stat fr6) st6 go) fun r s7 ⟨u, hr, h7⟩ => ?_
   subst hr
   refine wpAny_bind (thn h7 fun _ s8 ⟨x, H8, I8, r8, y8, st8, fr8⟩ => ?_)
   have I8' := I8.pinned (stat fr8) (T.obj _ _ st8)
   refine wpAny_bind (wpAny_mono (hg _ _ _ _ s8 σ6 H8 x u _ I8' r8 (step x H8 y8)) (fun _ s9 ⟨σ9, H9, I9, q9⟩ => ?_) (fun _ _ z => False.elim z))
   refine wpAny_bind (wpAny_mono (ht _ _ _ _ s9 σ9 H9 _ I9 q9) (fun ok s10 ⟨H10, I10, q10⟩ => ?_) (fun _ _ z => False.elim z))
   have again : ∀ {σ' : St} {H' : Hp} {ys : List V} {s' : Shared}, Inv (compCx X scope cl N' { s2 with heap := h3, toks := s2.toks } (upd H2 s2.heap.objs.size (.lst [])) fp fun _ _ => False) ([] ++ pinsAt fp s8.heap) σ' H' s' -> (∃ m', m' < n /\ W (i + 1) m' ys σ' H') ->
     ∃ m', m' < n /\ ∃ i xs σ' H', Inv (compCx X scope cl N' { s2 with heap := h3, toks := s2.toks } (upd H2 s2.heap.objs.size (.lst [])) fp fun _ _ => False) [] σ' H' s' /\ tn i s'.heap /\ (∀ b ∈ fp, H' b = none) /\ W i m' xs σ' H' := fun {σ' H' ys s'} I' ⟨m', hm, w'⟩ => by
    refine ⟨m', hm, i + 1, ys, σ', H', I'.unpinned, T.keep _ _ _ st8 fun b hb o eb => (I'.pin (b, o) (List.mem_append_right _ (List.mem_append_right _ (mem_pinsAt hb eb)))).1, fun b hb => ?_, w'⟩
    obtain ⟨o, eb, _⟩ := T.obj _ _ st8 b hb
    exact (I'.pin (b, o) (List.mem_append_right _ (List.mem_append_right _ (mem_pinsAt hb eb)))).2.1
   cases ok with
   | false =>
    have q10' : ∃ m', m' < n /\ W (i + 1) m' xs σ9 H10 := by simpa using q10
    exact wpAny_pure ⟨rfl, again I10 q10'⟩
   | true =>
    rw [if_pos rfl] at q10
    refine wpAny_bind (wpAny_bind (wpAny_mono (he _ _ _ _ s10 σ9 H10 _ I10 q10) (fun y s11 ⟨v11, H11, I11, r11, hD11, q11⟩ => ?_) (fun _ _ z => False.elim z)))
    refine wpAny_bind (wpAny_mono (mt_append (X := compCx X scope cl N' { s2 with heap := h3, toks := s2.toks } (upd H2 s2.heap.objs.size (.lst [])) fp fun _ _ => False) _ s11 σ9 H11 (.ref s2.heap.objs.size) [v11] (.ref s2.heap.objs.size) [y] (fun _ H' => ∃ m', m' < n /\ W (i + 1) m' (xs ++ [v11]) σ9 H') I11 rfl (.cons r11 .nil) ⟨s2.heap.objs.size, xs, v11, rfl, rfl, hD11, hlen, q11⟩) (fun _ s12 ⟨_, H12, I12, _, q12⟩ => ?_) (fun _ _ z => False.elim z))
    exact wpAny_pure (wpAny_pure ⟨rfl, again I12 q12⟩)
 exact codeAny_compStart_list (loop _ rfl) (T.self X.A 0 _ _ _ st4 (loop _ rfl))
end
def Itn (K : W.Frag) (a : Addr) : It :=
 ⟨fun i H => ∃ xs x, SqL K H a xs /\ xs[i]? = some x, fun i H x H' => ∃ t v, H t = none /\ x = .ref t /\ (∀ xs, SqL K H a xs -> xs[i]? = some v) /\ H' = upd H t (.tup [.int i, v]), fun i H => ∃ xs, SqL K H a xs /\ xs.length <= i⟩
def iEnum (K : W.Frag) (ta : TA) : TI := fun σ H R => ta σ H fun vs H1 => ∃ a, vs = [.ref a] /\ (∃ xs, SqL K H1 a xs) /\ R (Itn K a) H1
theorem turn_enum {P : Program} {w : World} {K : W.Frag} {elts : List Expr} {x1 : Nat} {pos : Pos} (a it e : Addr) (hne : e ≠ it) : Turn P w K (.Tuple elts x1 pos) (Itn K a) [e, it] e (fun i h => (∃ old, IsEnum h e it (i : Int) old) /\ h.IsListIter it a i) where
 mem := by simp
 obj := fun i h st b hb => by
  obtain ⟨⟨old, he⟩, o, ho, hc, hd⟩ := st
  rcases List.mem_cons.mp hb with rfl | hb
  ·exact ⟨_, he, fun v z => by cases z⟩
  ·have eb : b = it := by simpa using hb
   subst eb
   exact ⟨o, ho, fun v z => by rw [hd] at z; cases z⟩
 keep := fun i h h' st k => by
  obtain ⟨⟨old, he⟩, hit⟩ := st
  exact ⟨⟨old, k e (by simp) _ he⟩, hit.at fun o q => k it (by simp) o q⟩
 item := by
  intro X hP hw hK hc i pins s σ H E I hf st hg
  subst hP hw hK
  obtain ⟨xs, x, hq, hx⟩ := hg
  obtain ⟨⟨old, he⟩, hit⟩ := st
  obtain ⟨its, rv, p, hz⟩ := I.list hq
  obtain ⟨u, hu, ru⟩ := rv.get hx
  obtain ⟨f0, f1, f2, f3, f4, f5⟩ := hf e (by simp)
  obtain ⟨g0, g1, g2, g3, g4, g5⟩ := hf it (by simp)
  refine wpAny_pyNext_enum_item he hit p.isList (x := u) (by simpa using hu) hne fun h1 heo hit1 ht1 hz1 hk1 => ?_
  refine ⟨_, rfl, ?_⟩
  refine wpAny_letOwnedTupleGo_enum heo fun h2 he2 hs2 => ?_
  have hlt : e < s.heap.objs.size := Heap.lt_size he
  have hs2' : Heap.SameBut e h1 h2 := hs2
  have ht2 : h2.get? s.heap.objs.size = some { cls := .type "tuple", data := .seq #[.int i s.toks, u] } := (hs2'.2 _ (Nat.ne_of_gt hlt)).trans ht1
  have kp : ∀ b o, b ≠ e -> b ≠ it -> s.heap.get? b = some o -> h2.get? b = some o := fun b o h1' h2' q => (hs2'.2 b h1').trans (hk1 b o h1' h2' q)
  -- the two records turn, then the tuple is laid
  have hT : H s.heap.objs.size = none := I.hok.fresh (Nat.le_refl _)
  have nH : ∀ b, H b ≠ none -> b ≠ e /\ b ≠ it := fun b hb => ⟨fun z => hb (z ▸ f0), fun z => hb (z ▸ g0)⟩
  have keepH : ∀ b o, H b = some o -> upd H s.heap.objs.size (.tup [.int i, x]) b = some o := fun b o q => by rw [upd_ne (ne_of_none q hT)]; exact q
  have hok2 : HOk X.prog X.w (upd H s.heap.objs.size (.tup [.int i, x])) h2 := fun b o eb => by
   by_cases hb : b = s.heap.objs.size
   ·subst hb
    rw [upd_same] at eb
    cases eb
    exact ⟨by show 2 <= sizeLine; decide, [.int i s.toks, u], .cons ⟨_, rfl⟩ (.cons ru .nil), ⟨_, ht2, rfl, _, rfl⟩⟩
   ·rw [upd_ne hb] at eb
    refine (I.hok b o eb).stay (fun c v hcc q => kp c v ?_ ?_ q) (fun c q => keepH c _ q) fun c ys q => keepH c _ q
    ·rcases hcc with z | z
     ·exact (nH c (by rw [z, eb]; simp)).1
     ·exact (nH c (by rw [z]; simp)).1
    ·rcases hcc with z | z
     ·exact (nH c (by rw [z, eb]; simp)).2
     ·exact (nH c (by rw [z]; simp)).2
  have I2 : Inv X pins σ (upd H s.heap.objs.size (.tup [.int i, x])) { s with heap := h2, toks := s.toks + 1 } := by
   refine I.step (g' := s.gens) (d' := s.drawn) (t' := s.toks + 1) (ch := [e, it]) (fun b hb => ?_) (fun b o _ _ hcc q _ => kp b o (fun z => hcc (by simp [z])) (fun z => hcc (by simp [z])) q) (fun b o _ _ hcc q _ => ⟨o.slots, kp b o (fun z => hcc (by simp [z])) (fun z => hcc (by simp [z])) q⟩) (fun b o _ q n => ?_)
    (fun b o hcc q => ⟨o, kp b o (fun z => hcc (by simp [z])) (fun z => hcc (by simp [z])) q⟩) (fun b ys q => keepH b _ q) (fun b o v q => keepH b _ q) (fun b ps q => ⟨#[], by rw [keepH b _ q]; simp⟩) (fun m hm => ?_) hok2 I.bare
   ·rcases List.mem_cons.mp hb with rfl | hb
    ·exact ⟨f3, f1, f4, f5⟩
    ·have eb : b = it := by simpa using hb
     subst eb
     exact ⟨g3, g1, g4, g5⟩
   ·rw [upd_ne (Nat.ne_of_lt (Heap.lt_size q))]
    exact n
   ·obtain ⟨o, es, ep, ho, r⟩ := hm
    exact ⟨o, es, ep, kp _ o (Ne.symm f1) (Ne.symm g1) ho, r⟩
  have hilt : it < s.heap.objs.size := by
   obtain ⟨o, ho, _⟩ := id hit
   exact Heap.lt_size ho
  refine ⟨.ref s.heap.objs.size, _, I2, rfl, ⟨s.heap.objs.size, x, hT, rfl, fun ys hy => by rw [I.list_inj hy hq]; exact hx, rfl⟩, ⟨⟨u, ?_⟩, ?_⟩, fun b hb => ?_⟩
  ·have := he2
   rw [show ((i : Int) + 1) = (((i + 1 : Nat) : Int)) by simp] at this
   exact this
  ·exact hit1.at fun o q => (hs2'.2 it (Ne.symm hne)).trans q
  ·rcases List.mem_cons.mp hb with rfl | hb
   ·rw [upd_ne (Nat.ne_of_lt hlt)]; exact f0
   ·have eb : b = it := by simpa using hb
    subst eb
    rw [upd_ne (Nat.ne_of_lt hilt)]
    exact g0
 done := by
  intro X hP hw hK hc i pins s σ H E I hf st hg
  subst hP hw hK
  obtain ⟨xs, hq, hx⟩ := hg
  obtain ⟨⟨old, he⟩, hit⟩ := st
  obtain ⟨its, rv, p, hz⟩ := I.list hq
  obtain ⟨g0, g1, g2, g3, g4, g5⟩ := hf it (by simp)
  have hl := rv.length
  exact wpAny_pyNext_enum_end (I.ok.hd hc) he hit p.isList (by simp; omega) fun h' eb => ⟨rfl, I.turned (t' := s.toks) (fun b o hb q => eb b o hb q) g0 g1 g3 g4 g5⟩
 self := fun _ _ _ _ _ st h => by
  obtain ⟨⟨old, he⟩, _⟩ := st
  exact wpAny_pyIter_enum he h
section
variable {X : Cx}
theorem pi_enum {a : Expr} {ta : TA} {elts : List Expr} {x1 : Nat} {tpos p pos : Pos} (hg : Gl X "enumerate") (hm : X.mg "enumerate" = none) (ha : PA X [a] ta) (hv : bootBuiltins "enumerate" = some (.type "enumerate") := by rfl) (hs : starEach [a] X.env = [(false, eval a X.env)] := by rfl) :
  PI X (.Tuple elts x1 tpos) (.Call (.Name "enumerate" p) [a] [] pos) (iEnum X.K ta) := by
 intro pins s σ H R I h
 refine Call_ (ld_blt I hg hm hv (PyProof.Rows.callWith_type1 (thn (ha pos pins s σ H _ I h) fun us s1 ⟨vs, H1, I1, r1, q1⟩ => ?_) hs rfl))
 obtain ⟨b, e, ⟨xs, hq⟩, q⟩ := q1
 subst e
 obtain ⟨u, rfl, rx⟩ := vals1 r1
 cases rx
 obtain ⟨its, rv, pl, hz⟩ := I1.list hq
 refine call_enumerate_list pl.isList fun h' he hit hsz kp => ?_
 refine wpAny_pyIter_enum he ?_
 have hne : s1.heap.objs.size + 1 ≠ s1.heap.objs.size := Nat.succ_ne_self _
 refine ⟨s1.heap.objs.size + 1, [s1.heap.objs.size + 1, s1.heap.objs.size], _, _, H1, rfl, I1.kept (t' := s1.toks) kp, turn_enum b s1.heap.objs.size (s1.heap.objs.size + 1) hne, ⟨⟨_, he⟩, hit⟩, fun c hc => ?_, q⟩
 rcases List.mem_cons.mp hc with rfl | hc
 ·exact I1.fpOk (Nat.le_succ _) (I1.hok.fresh (Nat.le_succ _))
 ·have e : c = s1.heap.objs.size := by simpa using hc
  subst e
  exact I1.fpOk (Nat.le_refl _) (I1.hok.fresh (Nat.le_refl _))
end
theorem comp_list {K : W.Frag} {a D : Addr} {ys : List V} {g : TG} {tt : TT} {te : TE} {Qd : Hp -> Prop} {σ0 : St} {H0 : Hp} (Pv : Nat -> List V -> St -> Hp -> Prop) (h0 : Pv 0 [] σ0 H0) (hz : ys.length <= sizeLine) (hl : ∀ i xs σ H, i <= ys.length -> Pv i xs σ H -> SqL K H a ys /\ H D = some (.lst xs) /\ xs.length <= i)
  (hs : ∀ i xs x σ H (N : List V -> St -> Hp -> Prop), (∀ xs' σ' H', Pv (i + 1) xs' σ' H' -> N xs' σ' H') -> ys[i]? = some x -> Pv i xs σ H -> g x σ H fun σ2 H2 => tt σ2 H2 fun b H3 => if b = true then te σ2 H3 fun v H4 => H4 D = some (.lst xs) /\ N (xs ++ [v]) σ2 (upd H4 D (.lst (xs ++ [v]))) else N xs σ2 H3)
  (hd : ∀ xs σ H, Pv ys.length xs σ H -> Qd H) :
  ∃ W : Nat -> Nat -> List V -> St -> Hp -> Prop, (∃ m, W 0 m [] σ0 H0) /\ ∀ i m xs σ' H', W i m xs σ' H' -> H' D = some (.lst xs) /\ (((Itl K a).stop i H' /\ Qd H') \/ ((Itl K a).go i H' /\ xs.length < sizeLine /\ ∀ x H'', (Itl K a).yld i H' x H'' -> g x σ' H'' fun σ2 H2 => tt σ2 H2 fun b H3 =>
   if b = true then te σ2 H3 fun v H4 => H4 D = some (.lst xs) /\ ∃ m', m' < m /\ W (i + 1) m' (xs ++ [v]) σ2 (upd H4 D (.lst (xs ++ [v]))) else ∃ m', m' < m /\ W (i + 1) m' xs σ2 H3)) := by
 refine ⟨fun i m xs σ H => m = ys.length - i /\ i <= ys.length /\ Pv i xs σ H, ⟨ys.length, by simp, Nat.zero_le _, h0⟩, ?_⟩
 rintro i m xs σ H ⟨rfl, hi, p⟩
 obtain ⟨q, hD, hx⟩ := hl i xs σ H hi p
 refine ⟨hD, ?_⟩
 by_cases hlt : i < ys.length
 ·refine .inr ⟨⟨ys, ys[i], q, by simp [hlt]⟩, by omega, fun x H'' y => ?_⟩
  obtain ⟨e, y⟩ := y
  subst e
  exact hs i xs x σ _ (fun zs σ' H' => ∃ m', m' < ys.length - i /\ m' = ys.length - (i + 1) /\ i + 1 <= ys.length /\ Pv (i + 1) zs σ' H') (fun zs σ' H' r => ⟨_, by omega, rfl, hlt, r⟩) (y ys q) p
 ·have e : i = ys.length := by omega
  subst e
  exact .inl ⟨⟨ys, q, Nat.le_refl _⟩, hd xs σ H p⟩
theorem comp_tup {K : W.Frag} {a D : Addr} {ys : List V} {g : TG} {tt : TT} {te : TE} {Qd : Hp -> Prop} {σ0 : St} {H0 : Hp} (Pv : Nat -> List V -> St -> Hp -> Prop) (h0 : Pv 0 [] σ0 H0) (hz : ys.length <= sizeLine) (hl : ∀ i xs σ H, i <= ys.length -> Pv i xs σ H -> SqT K H a ys /\ H D = some (.lst xs) /\ xs.length <= i)
  (hs : ∀ i xs x σ H (N : List V -> St -> Hp -> Prop), (∀ xs' σ' H', Pv (i + 1) xs' σ' H' -> N xs' σ' H') -> ys[i]? = some x -> Pv i xs σ H -> g x σ H fun σ2 H2 => tt σ2 H2 fun b H3 => if b = true then te σ2 H3 fun v H4 => H4 D = some (.lst xs) /\ N (xs ++ [v]) σ2 (upd H4 D (.lst (xs ++ [v]))) else N xs σ2 H3)
  (hd : ∀ xs σ H, Pv ys.length xs σ H -> Qd H) :
  ∃ W : Nat -> Nat -> List V -> St -> Hp -> Prop, (∃ m, W 0 m [] σ0 H0) /\ ∀ i m xs σ' H', W i m xs σ' H' -> H' D = some (.lst xs) /\ (((Itt K a).stop i H' /\ Qd H') \/ ((Itt K a).go i H' /\ xs.length < sizeLine /\ ∀ x H'', (Itt K a).yld i H' x H'' -> g x σ' H'' fun σ2 H2 => tt σ2 H2 fun b H3 =>
   if b = true then te σ2 H3 fun v H4 => H4 D = some (.lst xs) /\ ∃ m', m' < m /\ W (i + 1) m' (xs ++ [v]) σ2 (upd H4 D (.lst (xs ++ [v]))) else ∃ m', m' < m /\ W (i + 1) m' xs σ2 H3)) := by
 refine ⟨fun i m xs σ H => m = ys.length - i /\ i <= ys.length /\ Pv i xs σ H, ⟨ys.length, by simp, Nat.zero_le _, h0⟩, ?_⟩
 rintro i m xs σ H ⟨rfl, hi, p⟩
 obtain ⟨q, hD, hx⟩ := hl i xs σ H hi p
 refine ⟨hD, ?_⟩
 by_cases hlt : i < ys.length
 ·refine .inr ⟨⟨ys, ys[i], q, by simp [hlt]⟩, by omega, fun x H'' y => ?_⟩
  obtain ⟨e, y⟩ := y
  subst e
  exact hs i xs x σ _ (fun zs σ' H' => ∃ m', m' < ys.length - i /\ m' = ys.length - (i + 1) /\ i + 1 <= ys.length /\ Pv (i + 1) zs σ' H') (fun zs σ' H' r => ⟨_, by omega, rfl, hlt, r⟩) (y ys q) p
 ·have e : i = ys.length := by omega
  subst e
  exact .inl ⟨⟨ys, q, Nat.le_refl _⟩, hd xs σ H p⟩
mutual
def Dt (K : W.Frag) (H : Hp) : PyData -> V -> Prop
 | .none, v => v = .non
 | .bool b, v => v = .bl b
 | .int i, v => v = .int i
 | .str x, v => v = .str x
 | .list ds, v => ∃ a xs, v = .ref a /\ SqL K H a xs /\ DtAll K H ds xs
 | .tuple ds, v => ∃ a xs, v = .ref a /\ SqT K H a xs /\ DtAll K H ds xs
 | .dict _, _ => False
def DtAll (K : W.Frag) (H : Hp) : List PyData -> List V -> Prop
 | [], xs => xs = []
 | d :: ds, xs => ∃ y ys, xs = y :: ys /\ Dt K H d y /\ DtAll K H ds ys
end
section
variable {X : Cx} {pins : List (Addr × Obj)} {σ : St} {H : Hp} {s : Shared}
mutual
theorem Dt.reads (I : Inv X pins σ H s) : ∀ (d : PyData) (v : V) (u : Value), Dt X.K H d v -> RelV v u -> ∃ as, Reads s.heap u d as
 | .none, v, u, h, r => by unfold Dt at h; subst h; cases r; exact ⟨_, .none⟩
 | .bool b, v, u, h, r => by unfold Dt at h; subst h; cases r; exact ⟨_, .bool b⟩
 | .int i, v, u, h, r => by unfold Dt at h; subst h; obtain ⟨t, rfl⟩ := r; exact ⟨_, .int i t⟩
 | .str x, v, u, h, r => by unfold Dt at h; subst h; obtain ⟨t, rfl⟩ := r; exact ⟨_, .str x t⟩
 | .list ds, v, u, h, r => by
  unfold Dt at h
  obtain ⟨a, xs, rfl, hq, hd⟩ := h
  cases r
  obtain ⟨its, rv, ⟨o, n, ho, hc, _, hdd⟩, _⟩ := I.list hq
  obtain ⟨as, ra⟩ := DtAll.reads I ds xs its hd rv
  exact ⟨_, .list ho hc hdd (by simpa using ra)⟩
 | .tuple ds, v, u, h, r => by
  unfold Dt at h
  obtain ⟨a, xs, rfl, hq, hd⟩ := h
  cases r
  obtain ⟨its, rv, ⟨o, ho, hc, n, hdd⟩, _⟩ := I.tuple hq
  obtain ⟨as, ra⟩ := DtAll.reads I ds xs its hd rv
  exact ⟨_, .tuple ho hc hdd (by simpa using ra)⟩
 | .dict _, v, u, h, r => by unfold Dt at h; exact h.elim
theorem DtAll.reads (I : Inv X pins σ H s) : ∀ (ds : List PyData) (xs : List V) (us : List Value), DtAll X.K H ds xs -> Vals xs us -> ∃ as, ReadsAll s.heap us ds as
 | [], xs, us, h, r => by unfold DtAll at h; subst h; cases r; exact ⟨_, .nil⟩
 | d :: ds, xs, us, h, r => by
  unfold DtAll at h
  obtain ⟨y, ys, rfl, h1, h2⟩ := h
  cases r with
  | cons q t =>
   obtain ⟨as, ra⟩ := Dt.reads I d y _ h1 q
   obtain ⟨bs, rb⟩ := DtAll.reads I ds ys _ h2 t
   exact ⟨_, .cons ra rb⟩
end
end
mutual
theorem Dt.same {K : W.Frag} {H H' : Hp} (hs : ∀ b o, H b = some o -> H' b = some o) : ∀ (d : PyData) (v : V), Dt K H d v -> Dt K H' d v
 | .none, v, h => by unfold Dt at h ⊢; exact h
 | .bool b, v, h => by unfold Dt at h ⊢; exact h
 | .int i, v, h => by unfold Dt at h ⊢; exact h
 | .str x, v, h => by unfold Dt at h ⊢; exact h
 | .list ds, v, h => by
  unfold Dt at h ⊢
  obtain ⟨a, xs, rfl, hq, hd⟩ := h
  refine ⟨a, xs, rfl, ?_, DtAll.same hs ds xs hd⟩
  rcases hq with (h | ⟨o, h⟩) | h
  ·exact .inl (.inl (hs _ _ h))
  ·exact .inl (.inr ⟨o, hs _ _ h⟩)
  ·exact .inr h
 | .tuple ds, v, h => by
  unfold Dt at h ⊢
  obtain ⟨a, xs, rfl, hq, hd⟩ := h
  refine ⟨a, xs, rfl, ?_, DtAll.same hs ds xs hd⟩
  rcases hq with (h | ⟨o, h⟩) | h
  ·exact .inl (.inl (hs _ _ h))
  ·exact .inl (.inr ⟨o, hs _ _ h⟩)
  ·exact .inr h
 | .dict _, v, h => by unfold Dt at h; exact h.elim
theorem DtAll.same {K : W.Frag} {H H' : Hp} (hs : ∀ b o, H b = some o -> H' b = some o) : ∀ (ds : List PyData) (xs : List V), DtAll K H ds xs -> DtAll K H' ds xs
 | [], xs, h => by unfold DtAll at h ⊢; exact h
 | d :: ds, xs, h => by
  unfold DtAll at h ⊢
  obtain ⟨y, ys, rfl, h1, h2⟩ := h
  exact ⟨y, ys, rfl, Dt.same hs d y h1, DtAll.same hs ds ys h2⟩
end
def dP (k : List Int) : PyData := .tuple (k.map .int)
theorem DtAll.ints {K : W.Frag} {H : Hp} : ∀ (k : List Int), DtAll K H (k.map PyData.int) (k.map V.int)
 | [] => by unfold DtAll; rfl
 | i :: k => by
  rw [List.map_cons, List.map_cons]
  unfold DtAll
  exact ⟨_, _, rfl, by unfold Dt; rfl, DtAll.ints k⟩
theorem DtAll.tups {K : W.Frag} {H : Hp} : ∀ {ys : List V} {ks : List (List Int)}, Tups K H ys ks -> DtAll K H (ks.map dP) ys
 | _, _, .nil => by unfold DtAll; rfl
 | _, _, .cons r t => by
  obtain ⟨a, rfl, h⟩ := r
  rw [List.map_cons]
  unfold DtAll
  refine ⟨_, _, rfl, ?_, DtAll.tups t⟩
  unfold dP Dt
  exact ⟨a, _, rfl, h, DtAll.ints _⟩
theorem lay_ints : ∀ k : List Int, PyData.canLayAll0 (k.map .int) = true
 | [] => by simp [PyData.canLayAll0]
 | i :: k => by rw [List.map_cons]; simp [PyData.canLayAll0, PyData.canLay0, lay_ints k]
theorem lay_pairs : ∀ ks : List (List Int), PyData.canLayAll0 (ks.map dP) = true
 | [] => by simp [PyData.canLayAll0]
 | k :: ks => by rw [List.map_cons]; simp [PyData.canLayAll0, PyData.canLay0, dP, lay_ints k, lay_pairs ks]
theorem eqv_ints : ∀ k k' : List Int, PyData.eqvAll (k.map .int) (k'.map .int) = decide (k = k')
 | [], [] => by simp [PyData.eqvAll]
 | [], _ :: _ => by simp [PyData.eqvAll]
 | _ :: _, [] => by simp [PyData.eqvAll]
 | i :: k, j :: k' => by
  rw [List.map_cons, List.map_cons]
  simp only [PyData.eqvAll, PyData.eqv, eqv_ints k k']
  by_cases h : i = j
  ·subst h; simp
  ·simp [h]
theorem eqv_pairs : ∀ ks ks' : List (List Int), PyData.eqvAll (ks.map dP) (ks'.map dP) = decide (ks = ks')
 | [], [] => by simp [PyData.eqvAll]
 | [], _ :: _ => by simp [PyData.eqvAll]
 | _ :: _, [] => by simp [PyData.eqvAll]
 | k :: ks, k' :: ks' => by
  rw [List.map_cons, List.map_cons]
  simp only [PyData.eqvAll, PyData.eqv, dP, eqv_ints k k']
  rw [eqv_pairs ks ks']
  by_cases h : k = k'
  ·subst h; simp
  ·simp [h]
theorem dep_ints : ∀ k : List Int, PyData.depthAll (k.map .int) <= 1
 | [] => by simp [PyData.depthAll]
 | i :: k => by
  have := dep_ints k
  rw [List.map_cons]
  simp only [PyData.depthAll, PyData.depth]
  omega
theorem dep_pairs : ∀ ks : List (List Int), PyData.depthAll (ks.map dP) <= 2
 | [] => by simp [PyData.depthAll]
 | k :: ks => by
  have h1 := dep_ints k
  have h2 := dep_pairs ks
  rw [List.map_cons]
  simp only [PyData.depthAll, PyData.depth, dP] at h2 ⊢
  omega
section
variable {X : Cx}
def rEqD (K : W.Frag) (A : Around) (neg : Bool) : R2 := fun x y H Q => ∃ dx dy, Dt K H dx x /\ Dt K H dy y /\ dx.canLay0 = true /\ dy.canLay0 = true /\ A.units + min dx.depth dy.depth < cLine /\ Q (.bl (if neg then !PyData.eqv dx dy else PyData.eqv dx dy)) H
theorem op_eqD : OpR X (compareOp .Eq) (rEqD X.K X.A false) := by
 intro pins s σ H x y v u Q I rx ry h
 obtain ⟨dx, dy, h1, h2, h3, h4, h5, q⟩ := h
 obtain ⟨as, ra⟩ := h1.reads I dx x v rx
 obtain ⟨bs, rb⟩ := h2.reads I dy y u ry
 exact SeqAt.compareEq_reads ra rb h3 h4 h5 ⟨.bl _, H, I, rfl, q⟩
def rInD (K : W.Frag) (A : Around) (neg : Bool) : R2 := fun x y H Q => ∃ p xs dx ds, y = .ref p /\ (SqL K H p xs \/ SqT K H p xs) /\ Dt K H dx x /\ DtAll K H ds xs /\ dx.canLay0 = true /\ PyData.canLayAll0 ds = true /\ A.units + 1 + dx.depth < cLine /\
 Q (.bl (if neg then !ds.any (fun d => PyData.eqv d dx) else ds.any (fun d => PyData.eqv d dx))) H
open Classical in
noncomputable def eqTo (h : Heap) (dx : PyData) (v : Value) : Bool := if q : ∃ d as, d.canLay0 = true /\ Reads h v d as then PyData.eqv (Classical.choose q) dx else false
theorem eqTo_eq {h : Heap} {dx d : PyData} {v : Value} {as : List Addr} (hl : d.canLay0 = true) (r : Reads h v d as) : eqTo h dx v = PyData.eqv d dx := by
 unfold eqTo
 have q : ∃ d as, d.canLay0 = true /\ Reads h v d as := ⟨d, as, hl, r⟩
 rw [dif_pos q]
 obtain ⟨as', h1, h2⟩ := Classical.choose_spec q
 rw [SeqAt.Reads.unique _ _ _ _ _ h1 h2 r]
theorem any_of {h : Heap} {dx : PyData} : ∀ {ds : List PyData} {us : List Value} {as : List Addr}, PyData.canLayAll0 ds = true -> ReadsAll h us ds as -> us.any (eqTo h dx) = ds.any (fun d => PyData.eqv d dx)
 | _, _, _, _, .nil => rfl
 | d :: ds, u :: us, _, hl, .cons r t => by
  have hl' : d.canLay0 = true /\ PyData.canLayAll0 ds = true := by simpa [PyData.canLayAll0] using hl
  rw [List.any_cons, List.any_cons, eqTo_eq hl'.1 r, any_of hl'.2 t]
theorem mem_reads {h : Heap} : ∀ {ds : List PyData} {us : List Value} {as : List Addr} {u : Value}, PyData.canLayAll0 ds = true -> ReadsAll h us ds as -> u ∈ us -> ∃ d as, d.canLay0 = true /\ Reads h u d as
 | _, _, _, _, _, .nil, hu => by cases hu
 | d :: ds, _ :: us, _, u, hl, .cons r t, hu => by
  have hl' : d.canLay0 = true /\ PyData.canLayAll0 ds = true := by simpa [PyData.canLayAll0] using hl
  rcases List.mem_cons.mp hu with rfl | hu
  ·exact ⟨d, _, hl'.1, r⟩
  ·exact mem_reads hl'.2 t hu
theorem op_inD : OpR X (compareOp .In) (rInD X.K X.A false) := by
 intro pins s σ H x y v u Q I rx ry h
 obtain ⟨p, xs, dx, ds, rfl, hq, h1, h2, h3, h4, h5, q⟩ := h
 cases ry
 obtain ⟨bs, rb⟩ := h1.reads I dx x v rx
 have he : ∀ (its : List Value) (as : List Addr), ReadsAll s.heap its ds as -> ∀ y, y ∈ its.toArray -> SeqAt.EqAt X.A.in1 s y v (eqTo s.heap dx y) := fun its as ra y hy => by
  obtain ⟨d, cs, hl, rd⟩ := mem_reads h4 ra (by simpa using hy)
  rw [eqTo_eq hl rd]
  refine SeqAt.eqAt_reads d dx X.A.in1 s y v cs bs rd rb hl h3 ?_
  show X.A.units + 1 + min d.depth dx.depth < cLine
  omega
 rcases hq with hq | hq
 ·obtain ⟨its, rv, pl, hz⟩ := I.list hq
  obtain ⟨as, ra⟩ := h2.reads I ds xs its rv
  refine SeqAt.in_listAt (eqTo s.heap dx) pl.isList (he its as ra) ⟨.bl _, H, I, rfl, ?_⟩
  rw [List.any_toArray, any_of h4 ra]
  exact q
 ·obtain ⟨its, rv, pl, hz⟩ := I.tuple hq
  obtain ⟨as, ra⟩ := h2.reads I ds xs its rv
  refine SeqAt.in_tupleAt (eqTo s.heap dx) pl (he its as ra) ⟨.bl _, H, I, rfl, ?_⟩
  rw [List.any_toArray, any_of h4 ra]
  exact q
end
end L2
namespace L2
open PySem PySem.Spec PyProof.Rows
section
variable {X : Cx}
theorem call_sum (hc : X.calm = true) : CallR X (.builtin "sum") (fun xs H Q => ∃ (p : Addr) (ns : List Int), xs = [.ref p] /\ SqL X.K H p (ns.map V.int) /\ Q (.int ns.sum) H) := by
 intro pins s σ H xs us Q I r h
 obtain ⟨p, ns, rfl, hq, q⟩ := h
 obtain ⟨u, rfl, rx⟩ := vals1 r
 cases rx
 obtain ⟨its, r', pl, hz⟩ := I.list hq
 have hi : IntsAre its ns := intsAre_of r'
 obtain ⟨ys, e⟩ := hi.allInts.items
 refine sum_intListG (xs := ys) (I.ok.hd hc) (by rw [<- e]; exact pl.isList) fun h' tk t' hk => ⟨.int ns.sum, H, I.kept (t' := tk) hk, ⟨t', ?_⟩, q⟩
 have e2 : numsOf (intItems ys).toList = ns := by rw [<- e]; exact hi.numsOf
 rw [nums_intItems] at e2
 rw [preSum_eq, List.take_of_length_le (by simp), e2]
theorem get_list : PGet X (rIxL X.K) := by
 intro pins s σ H o i ov iv Q I ro ri h
 obtain ⟨p, xs, k, z, rfl, rfl, hq, he, q⟩ := h
 cases ro
 obtain ⟨t, rfl⟩ := ri
 obtain ⟨its, r, pl, hz⟩ := I.list hq
 obtain ⟨j, h1, h2, h3, h4, h5⟩ := atI_get he
 obtain ⟨w, ew, rw'⟩ := r.get h2
 have hl := r.length
 have hn := line63
 have fin : EP X pins σ Q w s := ⟨z, H, I, rw', q⟩
 by_cases h0 : 0 <= k
 ·have hj : k.toNat = j := by
   rw [seqIndex_of h0 h5] at h1
   exact Option.some.inj h1
  exact wpAny_getItem_list pl.isList h0 (by omega) (by rw [hj]; simpa using ew) fin
 ·have hj : (k + (its.toArray.size : Int)).toNat = j := by
   rw [seqIndex_neg (by omega) h4] at h1
   rw [List.size_toArray, <- hl]
   exact Option.some.inj h1
  exact wpAny_getItem_list_neg pl.isList (by omega) (by rw [List.size_toArray]; omega) (by omega) (by rw [hj]; simpa using ew) fin
end
section
variable {X : Cx}
end
def LkL (X : Cx) (scope : Scope) (cl : List (Str × Addr)) : List Str -> List (Option Nat) -> Prop
 | [], [] => True
 | _ :: N, none :: lk => LkL X scope cl N lk
 | x :: N, some j :: lk => (X.N[j]? = some x /\ (X.env.scope.names.lookup x = some .cell \/ X.env.scope.names.lookup x = some .free) /\ (cl.lookup x).isSome = true /\
  ((compEnvC scope cl 0 X.env).kindOf x = some .cell \/ (compEnvC scope cl 0 X.env).kindOf x = some .free)) /\ LkL X scope cl N lk
 | _, _ => False
theorem LkL.len {X : Cx} {scope : Scope} {cl : List (Str × Addr)} : ∀ {N : List Str} {lk : List (Option Nat)}, LkL X scope cl N lk -> lk.length = N.length
 | [], [], _ => rfl
 | _ :: N, none :: lk, h => congrArg (· + 1) (LkL.len (N := N) (lk := lk) h)
 | _ :: N, some _ :: lk, h => congrArg (· + 1) (LkL.len (N := N) (lk := lk) h.2)
 | [], _ :: _, h => h.elim
 | _ :: _, [], h => h.elim
theorem LkL.get {X : Cx} {scope : Scope} {cl : List (Str × Addr)} : ∀ {N : List Str} {lk : List (Option Nat)}, LkL X scope cl N lk -> ∀ (i j : Nat) (x : Str), N[i]? = some x -> lk[i]? = some (some j) ->
  X.N[j]? = some x /\ (X.env.scope.names.lookup x = some .cell \/ X.env.scope.names.lookup x = some .free) /\ (cl.lookup x).isSome = true /\ ((compEnvC scope cl 0 X.env).kindOf x = some .cell \/ (compEnvC scope cl 0 X.env).kindOf x = some .free)
 | [], [], _, i, j, x, h1, _ => by simp at h1
 | _ :: N, none :: lk, h, 0, j, x, h1, h2 => by simp at h2
 | _ :: N, none :: lk, h, i + 1, j, x, h1, h2 => LkL.get (N := N) (lk := lk) h i j x (by simpa using h1) (by simpa using h2)
 | y :: N, some k :: lk, h, 0, j, x, h1, h2 => by
  simp at h1 h2
  subst h1 h2
  exact h.1
 | _ :: N, some _ :: lk, h, i + 1, j, x, h1, h2 => LkL.get (N := N) (lk := lk) h.2 i j x (by simpa using h1) (by simpa using h2)
 | [], _ :: _, h, _, _, _, _, _ => h.elim
 | _ :: _, [], h, _, _, _, _, _ => h.elim
theorem LkL.ok {X : Cx} {scope : Scope} {cl : List (Str × Addr)} {N : List Str} {lk : List (Option Nat)} (h : LkL X scope cl N lk) : LkOk X N lk scope cl := ⟨h.len, h.get⟩
theorem tTrue_if {σ : St} {H : Hp} {A B : Hp -> Prop} (h : A H) : tTrue σ H (fun b H3 => if b = true then A H3 else B H3) := by
 show if true = true then A H else B H
 exact iteT h
theorem gName_to {i : Nat} {v : V} {σ : St} {H : Hp} {Q : St -> Hp -> Prop} (h : Q (σ.set i (some v)) H) : gName i v σ H Q := h
theorem SqT.updL {K : W.Frag} {H : Hp} {a l : Addr} {xs : List V} {ys zs : List V} (h : SqT K H a ys) (hl : H l = some (.lst xs)) : SqT K (upd H l (.lst zs)) a ys := by
 rcases h with (h | ⟨o, h⟩) | h
 ·exact .inl (.inl (by rw [upd_ne (ne_of h hl (by intro z; cases z))]; exact h))
 ·exact .inl (.inr ⟨o, by rw [upd_ne (ne_of h hl (by intro z; cases z))]; exact h⟩)
 ·exact .inr h
theorem Tups.updL {K : W.Frag} {H : Hp} {l : Addr} {xs zs : List V} (hl : H l = some (.lst xs)) : ∀ {ys : List V} {ks : List (List Int)}, Tups K H ys ks -> Tups K (upd H l (.lst zs)) ys ks
 | _, _, .nil => .nil
 | _, _, .cons r t => by
  obtain ⟨a, h1, h2⟩ := r
  exact .cons ⟨a, h1, h2.updL hl⟩ (Tups.updL hl t)
theorem Tups.one {K : W.Frag} {H : Hp} {a : Addr} {k : List Int} (h : SqT K H a (k.map V.int)) : Tups K H [.ref a] [k] := .cons ⟨a, rfl, h⟩ .nil
theorem Same.seqT {K : W.Frag} {H H' : Hp} {a : Addr} {xs : List V} (e : Same H H') (h : SqT K H a xs) : SqT K H' a xs := by
 rcases h with (h | ⟨o, h⟩) | h
 ·exact .inl (.inl (e _ _ h))
 ·exact .inl (.inr ⟨o, e _ _ h⟩)
 ·exact .inr h
theorem Same.tups {K : W.Frag} {H H' : Hp} {ys : List V} {ks : List (List Int)} (e : Same H H') (h : Tups K H ys ks) : Tups K H' ys ks := Tups.same e h
theorem Same.upd {H H' : Hp} {l : Addr} {o : HO} (e : Same H H') (h : H l = none) : Same H (upd H' l o) := fun b u q => by
 rw [upd_ne (ne_of_none q h)]
 exact e b u q
end L2
namespace L2
open PySem
theorem gName_eq {i : Nat} {v v' : V} {σ : St} {H : Hp} {Q : St -> Hp -> Prop} (e : v = v') (h : gName i v' σ H Q) : gName i v σ H Q := by
 rw [e]
 exact h
theorem cutV_from (xs : List V) (k : Nat) : cutV xs (some (k : Int)) none = xs.drop k := by
 unfold cutV
 rw [HT.sIx_nat, HT.sIx_none]
 rcases Nat.le_total k xs.length with h | h
 ·rw [Nat.min_eq_left h]
  exact List.take_of_length_le (by rw [List.length_drop]; omega)
 ·rw [Nat.min_eq_right h, List.drop_eq_nil_of_le h, List.drop_eq_nil_of_le (Nat.le_refl _)]
  simp
theorem cutV_to (xs : List V) (k : Nat) : cutV xs none (some (k : Int)) = xs.take k := by
 unfold cutV
 rw [HT.sIx_nat, HT.sIx_none, List.drop_zero, Nat.sub_zero]
 rcases Nat.le_total k xs.length with h | h
 ·rw [Nat.min_eq_left h]
 ·rw [Nat.min_eq_right h, List.take_of_length_le h, List.take_of_length_le (Nat.le_refl _)]
theorem un_lt1 {u d : Nat} (h : u + 64 < cLine) (hd : d <= 60) : u + 1 + d < cLine := by omega
theorem un_lt {u d : Nat} (h : u + 64 < cLine) (hd : d <= 64) : u + d < cLine := by omega
theorem Dt.mkInt {K : W.Frag} {H : Hp} {i : Int} : Dt K H (.int i) (.int i) := by unfold Dt; rfl
theorem Dt.mkL {K : W.Frag} {H : Hp} {a : Addr} {xs : List V} {ds : List PyData} (h : SqL K H a xs) (d : DtAll K H ds xs) : Dt K H (.list ds) (.ref a) := by unfold Dt; exact ⟨a, xs, rfl, h, d⟩
theorem Dt.mkT {K : W.Frag} {H : Hp} {a : Addr} {xs : List V} {ds : List PyData} (h : SqT K H a xs) (d : DtAll K H ds xs) : Dt K H (.tuple ds) (.ref a) := by unfold Dt; exact ⟨a, xs, rfl, h, d⟩
theorem DtAll.mkN {K : W.Frag} {H : Hp} : DtAll K H [] [] := by unfold DtAll; rfl
theorem DtAll.mkC {K : W.Frag} {H : Hp} {d : PyData} {x : V} {ds : List PyData} {xs : List V} (h : Dt K H d x) (t : DtAll K H ds xs) : DtAll K H (d :: ds) (x :: xs) := by unfold DtAll; exact ⟨x, xs, rfl, h, t⟩
theorem gName_int {i : Nat} {z : Int} {σ : St} {H : Hp} {Q : St -> Hp -> Prop} (h : ∀ c : Int, c = z -> gName i (.int c) σ H Q) : gName i (.int z) σ H Q := h z rfl
theorem int_at {ns : List Int} {i : Nat} {x : V} (h : (ns.map V.int)[i]? = some x) : ∃ z : Int, x = V.int z := by
 rw [List.getElem?_map] at h
 cases e : ns[i]? with
 | none => rw [e] at h; cases h
 | some z => rw [e] at h; exact ⟨z, (Option.some.inj h).symm⟩
theorem cutV_ints (ns : List Int) (lo hi : Option Int) : ∃ ms : List Int, cutV (ns.map V.int) lo hi = ms.map V.int /\ ms.length <= ns.length := by
 unfold cutV
 rw [<- List.map_drop, <- List.map_take]
 exact ⟨_, rfl, by rw [List.length_take, List.length_drop]; omega⟩
theorem ixN_nat {n j : Nat} (h : j < n) : ixN n (j : Int) = some j := by
 unfold ixN
 rw [if_pos (by omega), if_pos (by omega)]
 simp
theorem lay_li (k : List Int) : (PyData.list (k.map .int)).canLay0 = true := by simp [PyData.canLay0, lay_ints]
theorem dep_li (k : List Int) : (PyData.list (k.map .int)).depth <= 2 := by
 have := dep_ints k
 simp only [PyData.depth]
 omega
theorem eqv_li (a b : List Int) : PyData.eqv (.list (a.map .int)) (.list (b.map .int)) = decide (a = b) := by
 simp only [PyData.eqv]
 exact eqv_ints a b
theorem Dt.mkLi {K : W.Frag} {H : Hp} {a : Addr} {k : List Int} (h : SqL K H a (k.map V.int)) : Dt K H (.list (k.map .int)) (.ref a) := Dt.mkL h (DtAll.ints k)
theorem Tups.dtAll {K : W.Frag} {H : Hp} {ys : List V} {ks : List (List Int)} (t : Tups K H ys ks) : DtAll K H (ks.map dP) ys := DtAll.tups t
def dW (n : Int) (ks : List (List Int)) : PyData := .tuple [.int n, .tuple (ks.map dP)]
theorem lay_W (n : Int) (ks : List (List Int)) : (dW n ks).canLay0 = true := by simp [dW, PyData.canLay0, PyData.canLayAll0, lay_pairs]
theorem dep_W (n : Int) (ks : List (List Int)) : (dW n ks).depth <= 4 := by
 have := dep_pairs ks
 simp only [dW, PyData.depth, PyData.depthAll]
 omega
theorem eqv_W (n m : Int) (ks ls : List (List Int)) : PyData.eqv (dW n ks) (dW m ls) = (decide (n = m) && decide (ks = ls)) := by
 simp only [dW, PyData.eqv, PyData.eqvAll, eqv_pairs, Bool.and_true]
 by_cases h : n = m
 ·subst h; simp
 ·simp [h]
end L2
namespace Web
open PySem L2
def rowF (i m : Nat) : List (List Int) := (List.range m).map fun (d : Nat) => ([(i : Int), (i : Int) + 1 + (d : Int)] : List Int)
def pairsN (n : Nat) : List (List Int) := (List.range n).flatMap fun i => rowF i (n - (i + 1))
def Up (n : Nat) (k : List Int) : Prop := ∃ i j : Nat, i < j /\ j < n /\ k = [(i : Int), (j : Int)]
theorem mem_pairs {n : Nat} {k : List Int} (h : k ∈ pairsN n) : Up n k := by
 unfold pairsN at h
 obtain ⟨i, hi, hk⟩ := List.mem_flatMap.mp h
 unfold rowF at hk
 obtain ⟨d, hd, rfl⟩ := List.mem_map.mp hk
 rw [List.mem_range] at hi hd
 exact ⟨i, i + 1 + d, by omega, by omega, by simp⟩
def Asc (ks : List (List Int)) : Prop := ks.Pairwise fun a b => Tim.lexB a b = true
theorem asc_row (i m : Nat) : Asc (rowF i m) := by
 unfold Asc rowF
 rw [List.pairwise_map]
 refine List.Pairwise.imp ?_ List.pairwise_lt_range
 intro a b hab
 unfold Tim.lexB
 rw [if_pos rfl]
 unfold Tim.lexB
 rw [if_neg (by omega)]
 exact decide_eq_true (by omega)
theorem asc_pairs (n : Nat) : Asc (pairsN n) := by
 unfold Asc pairsN
 rw [List.pairwise_flatMap]
 refine ⟨fun i _ => asc_row i _, ?_⟩
 refine List.Pairwise.imp ?_ List.pairwise_lt_range
 intro a b hab x hx y hy
 unfold rowF at hx hy
 obtain ⟨d, hd, rfl⟩ := List.mem_map.mp hx
 obtain ⟨e, he, rfl⟩ := List.mem_map.mp hy
 unfold Tim.lexB
 rw [if_neg (by omega)]
 exact decide_eq_true (by omega)
theorem len_pairs : ∀ n : Nat, n <= 24 -> (pairsN n).length <= 276 := by decide +kernel
theorem pairs_succ (n i : Nat) : ((List.range (i + 1)).flatMap fun j => rowF j (n - (j + 1))) = ((List.range i).flatMap fun j => rowF j (n - (j + 1))) ++ rowF i (n - (i + 1)) := by
 rw [List.range_succ, List.flatMap_append]
 simp
theorem rowF_succ (i m : Nat) : rowF i (m + 1) = rowF i m ++ [[(i : Int), (i : Int) + 1 + (m : Int)]] := by
 unfold rowF
 rw [List.range_succ, List.map_append]
 rfl
theorem len_part (n : Nat) : ∀ i : Nat, i <= n -> ((List.range i).flatMap fun j => rowF j (n - (j + 1))).length <= (pairsN n).length := by
 intro i hi
 unfold pairsN
 obtain ⟨d, rfl⟩ := Nat.exists_eq_add_of_le hi
 rw [List.range_add, List.flatMap_append, List.length_append]
 omega
theorem asc_sub {ks ls : List (List Int)} (h : ks.Sublist ls) (a : Asc ls) : Asc ks := List.Pairwise.sublist h a
def up : List Int -> List Int
 | [a, b] => [if b < a then b else a, if b > a then b else a]
 | k => k
theorem up_up {n : Nat} {k : List Int} (h : Up n k) : up k = k := by
 obtain ⟨i, j, h1, h2, rfl⟩ := h
 show [if (j : Int) < i then (j : Int) else i, if (j : Int) > i then (j : Int) else i] = _
 rw [if_neg (by omega), if_pos (by omega)]
theorem Up.key {n : Nat} {k : List Int} (h : Up n k) (hn : n <= 24) : Sett.KeyOk k := by
 obtain ⟨i, j, h1, h2, rfl⟩ := h
 exact ⟨i, j, by omega, by omega, rfl⟩
theorem Up.len {n : Nat} {k : List Int} (h : Up n k) : k.length = 2 := by
 obtain ⟨i, j, h1, h2, rfl⟩ := h
 rfl
def Ends2 (n : Nat) (k : List Int) : Prop := ∃ i j : Nat, i < n /\ j < n /\ i ≠ j /\ k = [(i : Int), (j : Int)]
theorem Up.ends {n : Nat} {k : List Int} (h : Up n k) : Ends2 n k := by
 obtain ⟨i, j, h1, h2, rfl⟩ := h
 exact ⟨i, j, by omega, h2, by omega, rfl⟩
end Web
namespace L2
open PySem
def Room.around {k : Nat} {A : Around} (_ : Room k A) : Around := A
theorem op_eqDK {X : Cx} (K : W.Frag) (A : Around) (hK : X.K = K) (hA : X.A = A) : OpR X (compareOp .Eq) (rEqD K A false) := by subst hK hA; exact op_eqD
theorem op_inDK {X : Cx} (K : W.Frag) (A : Around) (hK : X.K = K) (hA : X.A = A) : OpR X (compareOp .In) (rInD K A false) := by subst hK hA; exact op_inD
end L2
namespace L2
open PySem PySem.Spec PyProof.Rows
section
variable {X : Cx} {o e : Expr} {es : List Expr} {to : TE} {t : TA} {name : Str} {apos cpos : Pos} {T id : String} {r : V -> List V -> Hp -> VK -> Prop}
theorem eqv_intP (p : Int) : ∀ k : List Int, (k.map PyData.int).any (fun d => PyData.eqv d (.int p)) = decide (p ∈ k)
 | [] => by simp
 | i :: k => by
  rw [List.map_cons, List.any_cons, eqv_intP p k]
  by_cases h : i = p
  ·subst h; simp [PyData.eqv]
  ·have h' : p ≠ i := fun e => h e.symm
   simp [PyData.eqv, h, h']
end
section
variable {prog : Program} {w : World} {A : Around} {E : Value -> Shared -> Prop} {s : Shared}
end
section
variable {X : Cx} {pins : List (Addr × Obj)} {σ : St} {H : Hp} {s : Shared} {A : Around} {E : Value -> Shared -> Prop}
end
section
variable {X : Cx} {pins : List (Addr × Obj)} {σ : St} {H : Hp} {s : Shared} {A : Around} {E : Value -> Shared -> Prop}
end
section
variable {X : Cx} {pins : List (Addr × Obj)} {σ : St} {H : Hp} {s : Shared} {A : Around} {E : Value -> Shared -> Prop}
end
abbrev lamEnv (qual : Str) (scope : Scope) (cl : List (Str × Addr)) (f : Addr) (cv : Value) (s : Shared) : Env := PySem.W.envX qual scope s.heap.objs.size f cv cl
section
variable {X : Cx} {pins : List (Addr × Obj)} {σ : St} {H : Hp} {s : Shared} {A : Around}
end
def CodeO (c : Addr) (qual : Str) : HO := .ext fun h => h.CodeRec (.ref c) qual
def LamO (f : Addr) (o : Obj) : HO := .ext fun h => h.get? f = some o
def TabOk (P : Addr) (pos : Pos) (qual : Str) (H : Hp) : Prop := ∃ ps, H P = some (.tbl ps) /\ TriplesOk ps.toList /\ (codeAmong pos ps.toList = none \/ ∃ c', codeAmong pos ps.toList = some (.ref c') /\ H c' = some (CodeO c' qual))
def Grow (P : Addr) (H H' : Hp) : Prop := ∀ b o, b ≠ P -> H b = some o -> H' b = some o
theorem Grow.trans {P : Addr} {H H1 H2 : Hp} (a : Grow P H H1) (b : Grow P H1 H2) : Grow P H H2 := fun c o n h => b c o n (a c o n h)
theorem Same.grow {H H' : Hp} (P : Addr) (h : Same H H') : Grow P H H' := fun b o _ q => h b o q
theorem TabOk.same {P : Addr} {pos : Pos} {qual : Str} {H H' : Hp} (t : TabOk P pos qual H) (h : Same H H') : TabOk P pos qual H' := by
 obtain ⟨ps, h1, h2, h3⟩ := t
 refine ⟨ps, h _ _ h1, h2, ?_⟩
 rcases h3 with h3 | ⟨c', h3, h4⟩
 ·exact .inl h3
 ·exact .inr ⟨c', h3, h _ _ h4⟩
structure LamB (base : Heap) (mg : Str -> Option Value) (c P : Addr) : Prop where
 hd : PySem.W.CodeHd base c P
 blt : base.BuiltinsAt mg P
 ne : mainGlobals ≠ P
theorem among_hit {pos : Pos} {c : Value} {l : List Value} (h : TriplesOk l) (hn : codeAmong pos l = none) : codeAmong pos (l ++ [rawInt pos.line, rawInt pos.col, c]) = some c := codeAmong_snoc l h hn
def tLam (P : Addr) (pos : Pos) (qual : Str) (params : Arguments) (body : Expr) (scope : Scope) (cl : List (Str × Addr)) (pm : Value) : TE := fun σ H Q => TabOk P pos qual H /\ ∀ f c' ctv H', Grow P H H' -> TabOk P pos qual H' -> H f = none ->
 H' f = some (LamO f (PySem.W.kla_obj "<lambda>" qual params body scope cl pm c' ctv)) -> H' c' = some (CodeO c' qual) -> Q (.ref f) H'
section
variable {X : Cx}
theorem pe_lam {params : Arguments} {body : Expr} {scope : Scope} {pos : Pos} {c P : Addr} {cl : List (Str × Addr)} (B : LamB X.base X.mg c P) (hcode : X.env.code = .ref c) (hcl : closureFor scope X.env = pure cl) (hdef : defaultsOf params X.env = ([], [])) :
  PE X (.Lambda params body scope pos) (tLam P pos (X.env.qual ++ "<lambda>") params body scope cl ((X.mg "__name__").getD .none)) := by
 intro pins s σ H Q I h
 obtain ⟨⟨ps, hP, ht, hin⟩, q⟩ := h
 have hPh : s.heap.get? P = some (PySem.W.tabObj ps) := I.hok P _ hP
 have C := B.hd.keeps I.bk
 have hb : s.heap.BuiltinsAt X.mg P := by
  obtain ⟨bm, ob, b1, b2, b3, b4, b5, b6⟩ := B.blt
  exact ⟨bm, ob, b1, b2, b3, b4, I.bk _ _ b5, b6⟩
 refine PySem.W.kla_eval hdef ?_
 rcases hin with hnf | ⟨c', hf, hc'⟩
 ·refine PySem.W.kla_makeFunction hcl I.ok.glob (I.mod.glob.keeps I.bk) hcode C hPh ht hnf B.ne hb fun c' ctv h' tk hx hge hlt hrec htb => ?_
  have hPlt : P < s.heap.objs.size := Heap.lt_size hPh
  have hsz : s.heap.objs.size <= h'.objs.size := Nat.le_trans hge (Nat.le_of_lt hlt)
  have cP : P ≠ c' := Nat.ne_of_lt (Nat.lt_of_lt_of_le hPlt hge)
  have fP : P ≠ h'.objs.size := Nat.ne_of_lt (Nat.lt_of_lt_of_le hPlt hsz)
  have fc : c' ≠ h'.objs.size := Nat.ne_of_lt hlt
  have hcn : H c' = none := I.hok.fresh hge
  have hfn : H h'.objs.size = none := I.hok.fresh hsz
  have hfr : (PySem.W.kla_obj "<lambda>" (X.env.qual ++ "<lambda>") params body scope cl ((X.mg "__name__").getD .none) c' ctv).isFreed = false := rfl
  generalize hobj : PySem.W.kla_obj "<lambda>" (X.env.qual ++ "<lambda>") params body scope cl ((X.mg "__name__").getD .none) c' ctv = ob at *
  generalize hps : ps ++ #[rawInt pos.line, rawInt pos.col, .ref c'] = ps' at *
  have hps2 : ps'.toList = ps.toList ++ [rawInt pos.line, rawInt pos.col, .ref c'] := by rw [<- hps]; simp
  generalize hH1 : upd (upd (upd H P (.tbl ps')) c' (CodeO c' (X.env.qual ++ "<lambda>"))) h'.objs.size (LamO h'.objs.size ob) = H1
  have v1 : H1 h'.objs.size = some (LamO h'.objs.size ob) := by rw [<- hH1]; exact upd_same
  have v2 : H1 c' = some (CodeO c' (X.env.qual ++ "<lambda>")) := by rw [<- hH1, upd_ne fc]; exact upd_same
  have v3 : H1 P = some (.tbl ps') := by rw [<- hH1, upd_ne fP, upd_ne cP]; exact upd_same
  have v4 : ∀ b, b ≠ P -> b ≠ c' -> b ≠ h'.objs.size -> H1 b = H b := fun b n1 n2 n3 => by rw [<- hH1, upd_ne n3, upd_ne n2, upd_ne n1]
  have v5 : ∀ b u, b ≠ P -> H b = some u -> H1 b = some u := fun b u n e => by rw [v4 b n (ne_of_none e hcn) (ne_of_none e hfn)]; exact e
  have k1 : ∀ b o, b ≠ P -> s.heap.get? b = some o -> (h'.push ob).get? b = some o := fun b o n e => Heap.get?_push_of_some _ (hx b o n e)
  have neP : ∀ b, H b = none -> b ≠ P := fun b n z => by rw [z, hP] at n; cases n
  have hPn : (h'.push ob).get? P = some (PySem.W.tabObj ps') := Heap.get?_push_of_some _ htb
  have un : Un X.fs [] H H1 s.heap (h'.push ob) := by
   refine ⟨fun b o e n _ _ => k1 b o (neP b n) e, fun b o e n _ _ => ⟨o.slots, k1 b o (neP b n) e⟩, fun b o e n _ => ?_, fun b o e _ => ?_, fun b xs e => v5 b _ (fun z => by rw [z, hP] at e; cases e) e, fun b o u e => v5 b _ (fun z => by rw [z, hP] at e; cases e) e, fun b qs e => ?_⟩
   ·rw [v4 b (neP b n) (Nat.ne_of_lt (Nat.lt_of_lt_of_le (Heap.lt_size e) hge)) (Nat.ne_of_lt (Nat.lt_of_lt_of_le (Heap.lt_size e) hsz))]
    exact n
   ·by_cases hb : b = P
    ·rw [hb]; exact ⟨_, hPn⟩
    ·exact ⟨o, k1 b o hb e⟩
   ·by_cases hb : b = P
    ·rw [hb, hP] at e
     cases e
     rw [hb]
     exact ⟨#[rawInt pos.line, rawInt pos.col, .ref c'], by rw [v3, <- hps]⟩
    ·exact ⟨#[], by rw [v5 b _ hb e]; simp⟩
  have hok : HOk X.prog X.w H1 (h'.push ob) := by
   intro b u e
   by_cases hb1 : b = h'.objs.size
   ·subst hb1
    rw [v1] at e
    cases e
    exact ⟨Heap.get?_push_size _ hfr, ⟨_, Heap.get?_push_size _ hfr⟩, fun h1 h2 q z => z _ q⟩
   ·by_cases hb2 : b = c'
    ·subst hb2
     rw [v2] at e
     cases e
     obtain ⟨c2, oc, vs, tq, e1, e2, e3, e4⟩ := hrec
     cases e1
     exact ⟨⟨_, oc, vs, tq, rfl, Heap.get?_push_of_some _ e2, e3, e4⟩, ⟨oc, Heap.get?_push_of_some _ e2⟩, fun h1 h2 ⟨c3, o3, vs3, t3, q1, q2, q3, q4⟩ z => by cases q1; exact ⟨_, o3, vs3, t3, rfl, z _ q2, q3, q4⟩⟩
    ·by_cases hb3 : b = P
     ·subst hb3
      rw [v3] at e
      cases e
      exact hPn
     ·rw [v4 b hb3 hb2 hb1] at e
      refine (I.hok b u e).stay (fun d v hd z => k1 d v ?_ z) (fun d z => v5 _ _ ?_ z) fun d xs z => v5 _ _ ?_ z
      ·rcases hd with hd | hd
       ·rw [hd]; exact hb3
       ·intro zz; rw [zz, hP] at hd; cases hd
      ·intro zz; rw [zz, hP] at z; cases z
      ·intro zz; rw [zz, hP] at z; cases z
  have I1 : Inv X pins σ H1 { s with heap := h'.push ob, toks := tk } := I.un un hok
  refine ⟨.ref h'.objs.size, H1, I1, rfl, q _ c' ctv H1 (fun b o n e => v5 b o n e) ⟨ps', v3, ?_, .inr ⟨c', ?_, v2⟩⟩ hfn ?_ v2⟩
  ·rw [hps2]; exact TriplesOk_snoc _ _ _ _ ht
  ·rw [hps2]; exact among_hit ht hnf
  ·rw [hobj]; exact v1
 ·refine PySem.W.kla_makeFunctionHit hcl I.ok.glob (I.mod.glob.keeps I.bk) hcode C hPh ht hf hb fun ctv h' tk hk hsz => ?_
  have hfn : H h'.objs.size = none := I.hok.fresh hsz
  have hfr : (PySem.W.kla_obj "<lambda>" (X.env.qual ++ "<lambda>") params body scope cl ((X.mg "__name__").getD .none) c' ctv).isFreed = false := rfl
  generalize hobj : PySem.W.kla_obj "<lambda>" (X.env.qual ++ "<lambda>") params body scope cl ((X.mg "__name__").getD .none) c' ctv = ob at *
  have I1 : Inv X pins σ (upd H h'.objs.size (LamO h'.objs.size ob)) { s with heap := h'.push ob, toks := tk } := I.laid (fun b o e => Heap.get?_push_of_some _ (hk b o e)) hsz ⟨Heap.get?_push_size _ hfr, ⟨_, Heap.get?_push_size _ hfr⟩, fun h1 h2 q z => z _ q⟩
  have sm : Same H (upd H h'.objs.size (LamO h'.objs.size ob)) := fun b o e => by rw [upd_ne (ne_of_none e hfn)]; exact e
  refine ⟨.ref h'.objs.size, _, by rw [<- hobj] at I1; rw [<- hobj]; exact I1, rfl, q _ c' ctv _ (sm.grow P) (TabOk.same ⟨ps, hP, ht, .inr ⟨c', hf, hc'⟩⟩ sm) hfn (by rw [hobj]; exact upd_same) (sm _ _ hc')⟩
end
section
variable {X : Cx}
end
theorem ObjOk.there {P : Program} {w : World} {H : Hp} {h : Heap} {a : Addr} {o : HO} (x : ObjOk P w H h a o) : ∃ ob, h.get? a = some ob := by
 cases o with
 | lst xs => obtain ⟨_, _, _, _, e⟩ := x; exact ⟨_, e⟩
 | tup xs => obtain ⟨_, _, _, ob, e, _⟩ := x; exact ⟨_, e⟩
 | dK kvs => obtain ⟨_, _, _, _, o, _, _, e, _⟩ := x; exact ⟨_, e⟩
 | dT kvs => obtain ⟨_, _, _, _, o, _, _, e, _⟩ := x; exact ⟨_, e⟩
 | set S n => obtain ⟨o, _, _, _, e, _⟩ := x; exact ⟨_, e⟩
 | ins C dx fs => obtain ⟨_, _, _, e, _⟩ := x; exact ⟨_, e⟩
 | own y => obtain ⟨ob, e⟩ := x; exact ⟨ob, e⟩
 | xd fs => obtain ⟨_, ⟨_, _, _, e, _⟩, _⟩ := x; exact ⟨_, e⟩
 | rng lo hi => obtain ⟨_, _, _, e⟩ := x; exact ⟨_, e⟩
 | frz ob u => obtain ⟨e, _⟩ := x; exact ⟨_, e⟩
 | tbl ps => exact ⟨_, (show h.get? a = some _ from x)⟩
 | met f y => exact ⟨_, (show h.get? a = some _ from x)⟩
 | ext φ => obtain ⟨_, ⟨ob, e⟩, _⟩ := x; exact ⟨ob, e⟩
theorem HOk.stays {P : Program} {w : World} {H : Hp} {h h' : Heap} (ok : HOk P w H h) (k : ∀ b o, h.get? b = some o -> H b ≠ none -> h'.get? b = some o) : HOk P w H h' := fun a o e =>
 (ok a o e).stay (fun b u hb q => k b u q (by
  rcases hb with z | z
  ·rw [z, e]; simp
  ·rw [z]; simp)) (fun _ q => q) fun _ _ q => q
def Flies (outer : List Env) (x : Addr) (cls : Value) (h0 : Heap) (H' : Hp) (h' : Heap) : Prop :=
 ∃ (B : Heap) (a0 : Value), Heap.FlyingW B outer x cls a0 h' /\ ∀ b o, h'.get? b = some o -> (H' b ≠ none \/ h0.get? b ≠ none) -> b ∉ frs outer -> B.get? b = some o
def CXE (P : Program) (w : World) : CXT := fun outer H s E e s' =>
 ∃ (x : Addr) (cls : Value) (H' : Hp), e = .ref x /\ s'.os = s.os /\ AllBare s'.gens /\ Un (frs outer) [] H H' s.heap s'.heap /\ HOk P w H' s'.heap /\ s.heap.get? x = none /\ H' x = none /\ Flies outer x cls s.heap H' s'.heap /\ E cls none H'
theorem Un.onto {fs : List Addr} {H H' : Hp} {h h' h'' : Heap} (u : Un fs [] H H' h h') (stay : ∀ b o, h'.get? b = some o -> h.get? b ≠ none -> b ∉ fs -> h''.get? b = some o)
  (slots : ∀ b o, h'.get? b = some o -> h.get? b ≠ none -> b ∈ fs -> ∃ sl, h''.get? b = some { o with slots := sl }) : Un fs [] H H' h h'' where
 keep := fun b o e n hb hx => stay b o (u.keep b o e n hb hx) (by rw [e]; simp) hb
 slot := fun b o e n hb hx => by
  obtain ⟨sl, e1⟩ := u.slot b o e n hb hx
  obtain ⟨sl2, e2⟩ := slots b _ e1 (by rw [e]; simp) hb
  exact ⟨sl2, e2⟩
 free := u.free
 there := fun b o e hx => by
  obtain ⟨o', e1⟩ := u.there b o e hx
  by_cases hb : b ∈ fs
  ·obtain ⟨sl, e2⟩ := slots b o' e1 (by rw [e]; simp) hb
   exact ⟨_, e2⟩
  ·exact ⟨o', stay b o' e1 (by rw [e]; simp) hb⟩
 tups := u.tups
 frzs := u.frzs
 tbls := u.tbls
theorem some_of_ne {α : Type} {o : Option α} (h : o ≠ none) : ∃ x, o = some x := by
 cases o with
 | none => exact absurd rfl h
 | some x => exact ⟨x, rfl⟩
theorem frs_cons {env : Env} {outer : List Env} {L : Addr} (h : env.frame = some L) : frs (env :: outer) = L :: frs outer := by
 unfold frs
 rw [List.filterMap_cons, h]
section
variable {P : Program} {w : World} {K : W.Frag} {mg : Str -> Option Value} {base : Heap} {N : List Str} {qual : Str} {scope : Scope} {f : Addr} {cd : Value} {A : Around} {outer : List Env} {s : Shared} {H : Hp} {E : XK}
 {pins : List (Addr × Obj)} {σ : St} {H1 : Hp} {s1 : Shared}
theorem xe_made {e : Addr} {cls : Value} {vs : List Value} {h2 : Heap} (I : Inv (cxOf (CXE P w) P w K mg base N qual scope f cd A outer s H E) pins σ H1 s1) (hx : Heap.MadeExcOf s1.heap h2 e cls vs) (hE : E cls none H1) :
  (cxOf (CXE P w) P w K mg base N qual scope f cd A outer s H E).xe (.ref e) { s1 with heap := h2 } := by
 have hst := I.stack
 have hfr := I.ok.frames
 have hlt := I.lt
 have hL := I.free
 have hab := I.ok.above
 have hbs : Un (frs outer) [] H H1 s.heap s1.heap := I.base
 change s1.heap.FunFrames base (envOfC qual scope s.heap.objs.size f cd :: outer) at hst
 change (A.deeper (envOfC qual scope s.heap.objs.size f cd)).frames = some (envOfC qual scope s.heap.objs.size f cd :: outer) at hfr
 change H1 s.heap.objs.size = none at hL
 have hff : frs (envOfC qual scope s.heap.objs.size f cd :: outer) = s.heap.objs.size :: frs outer := frs_cons rfl
 have hin : ∀ env ∈ (envOfC qual scope s.heap.objs.size f cd :: outer), ∀ b, env.frame = some b -> b ∈ frs (envOfC qual scope s.heap.objs.size f cd :: outer) := fun env he b hb => List.mem_filterMap.mpr ⟨env, he, hb⟩
 have old : ∀ b, (H1 b ≠ none \/ s.heap.get? b ≠ none) -> b ∉ frs outer -> ∃ o, s1.heap.get? b = some o /\ b ∉ frs (envOfC qual scope s.heap.objs.size f cd :: outer) := fun b hb hno => by
  have hne : b ≠ s.heap.objs.size := by
   rcases hb with z | z
   ·intro q; rw [q] at z; exact z hL
   ·obtain ⟨o, z⟩ := some_of_ne z
    exact Nat.ne_of_lt (Heap.lt_size z)
  have hex : ∃ o, s1.heap.get? b = some o := by
   rcases hb with z | z
   ·obtain ⟨o, z⟩ := some_of_ne z
    exact (I.hok b o z).there
   ·obtain ⟨o, z⟩ := some_of_ne z
    exact hbs.there b o z (by simp)
  obtain ⟨o, ho⟩ := hex
  refine ⟨o, ho, ?_⟩
  rw [hff]
  intro hm
  rcases List.mem_cons.mp hm with q | q
  ·exact hne q
  ·exact hno q
 have eNew : s.heap.get? e = none := by
  cases q : s.heap.get? e with
  | none => rfl
  | some o =>
   obtain ⟨o', z⟩ := hbs.there e o q (by simp)
   rw [hx.new] at z
   cases z
 have eFree : H1 e = none := by
  cases q : H1 e with
  | none => rfl
  | some o =>
   obtain ⟨o', z⟩ := (I.hok e o q).there
   rw [hx.new] at z
   cases z
 refine wpAny_leaves_madeW (base := PySem.W.hideAll s1.heap (frs (envOfC qual scope s.heap.objs.size f cd :: outer))) hfr rfl (fun b o q => PySem.W.of_hideAll _ q) (PySem.W.funFrames_hide hst hin) hx fun h' t x1 x2 x3 x4 => ?_
 have stay : ∀ b o, s1.heap.get? b = some o -> (H1 b ≠ none \/ s.heap.get? b ≠ none) -> b ∉ frs outer -> h'.get? b = some o := fun b o ho hb hno => by
  obtain ⟨o', ho', hm⟩ := old b hb hno
  rw [ho] at ho'
  cases ho'
  exact x1.1 b o (PySem.W.hideAll_get _ ho hm)
 have frNone : ∀ b ∈ frs outer, H1 b = none := fun b hb => I.stkFree b (by
  show b ∈ frs (envOfC qual scope s.heap.objs.size f cd :: outer)
  rw [hff]
  exact List.mem_cons_of_mem _ hb)
 refine ⟨e, cls, H1, rfl, I.os, I.bare, hbs.onto (fun b o ho hh hno => stay b o ho (.inr hh) hno) (fun b o ho hh hm => ?_), I.hok.stays fun b o ho hh => stay b o ho (.inl hh) fun hm => hh (frNone b hm), eNew, eFree, ⟨_, _, x1, fun b o ho hb hno => ?_⟩, hE⟩
 ·obtain ⟨_, o', ho', hd⟩ := hst.mem (b := b) (by
   show b ∈ frs (envOfC qual scope s.heap.objs.size f cd :: outer)
   rw [hff]
   exact List.mem_cons_of_mem _ hm)
  rw [ho] at ho'
  cases ho'
  exact x4 b o (hx.keeps b o ho) hd
 ·obtain ⟨o', ho', hm⟩ := old b hb hno
  have := stay b o' ho' hb hno
  rw [ho] at this
  cases this
  exact PySem.W.hideAll_get _ ho' hm
theorem passE : Passes (CXE P w) (cxOf (CXE P w) P w K mg base N qual scope f cd A outer s H E) E := by
 intro pins σ H1 s1 e s2 I hc
 obtain ⟨x, cls, H2, rfl, hos, hb2, u, hok, new, hxn, ⟨B, a0, fl, st⟩, hE⟩ := hc
 have hst := I.stack
 have hfr := I.ok.frames
 have hL := I.free
 have hbs : Un (frs outer) [] H H1 s.heap s1.heap := I.base
 change s1.heap.FunFrames base (envOfC qual scope s.heap.objs.size f cd :: outer) at hst
 change (A.deeper (envOfC qual scope s.heap.objs.size f cd)).frames = some (envOfC qual scope s.heap.objs.size f cd :: outer) at hfr
 change H1 s.heap.objs.size = none at hL
 change Un (frs (envOfC qual scope s.heap.objs.size f cd :: outer)) [] H1 H2 s1.heap s2.heap at u
 change Heap.FlyingW B (envOfC qual scope s.heap.objs.size f cd :: outer) x cls a0 s2.heap at fl
 have hff : frs (envOfC qual scope s.heap.objs.size f cd :: outer) = s.heap.objs.size :: frs outer := frs_cons rfl
 have st' : ∀ b o, s2.heap.get? b = some o -> (H2 b ≠ none \/ s1.heap.get? b ≠ none) -> b ∉ frs (envOfC qual scope s.heap.objs.size f cd :: outer) -> B.get? b = some o := st
 rw [hff] at u st'
 have hLo : ∃ o, s1.heap.get? s.heap.objs.size = some o := by
  obtain ⟨m, ⟨o, _, _, ho, _⟩, _⟩ := I.loc
  exact ⟨o, ho⟩
 have hL2 : H2 s.heap.objs.size = none := by
  obtain ⟨o, ho⟩ := hLo
  exact u.free _ o ho hL (by simp)
 -- what was there or is tracked
 have old : ∀ b, (H2 b ≠ none \/ s.heap.get? b ≠ none) -> b ∉ frs outer -> ∃ o, s2.heap.get? b = some o /\ B.get? b = some o := fun b hb hno => by
  have hne : b ≠ s.heap.objs.size := by
   rcases hb with z | z
   ·intro q; rw [q] at z; exact z hL2
   ·obtain ⟨o, z⟩ := some_of_ne z
    exact Nat.ne_of_lt (Heap.lt_size z)
  have hm : b ∉ s.heap.objs.size :: frs outer := fun hm => by
   rcases List.mem_cons.mp hm with q | q
   ·exact hne q
   ·exact hno q
  rcases hb with z | z
  ·obtain ⟨o, z'⟩ := some_of_ne z
   obtain ⟨o', ho⟩ := (hok b o z').there
   exact ⟨o', ho, st' b o' ho (.inl z) hm⟩
  ·obtain ⟨o, z⟩ := some_of_ne z
   obtain ⟨o1, h1⟩ := hbs.there b o z (by simp)
   obtain ⟨o2, h2⟩ := u.there b o1 h1 (by simp)
   exact ⟨o2, h2, st' b o2 h2 (.inr (by rw [h1]; simp)) hm⟩
 have u2 : Un (frs outer) [] H H2 s.heap s2.heap := by
  refine ⟨fun b o e n hb hx => ?_, fun b o e n hb hx => ?_, fun b o e n hx => ?_, fun b o e hx => ?_, fun b xs e => u.tups b xs (hbs.tups b xs e), fun b o v e => u.frzs b o v (hbs.frzs b o v e), fun b ps e => ?_⟩
  ·refine u.keep b o (hbs.keep b o e n hb hx) (hbs.free b o e n hx) (fun hm => ?_) hx
   rcases List.mem_cons.mp hm with q | q
   ·exact Nat.ne_of_lt (Heap.lt_size e) q
   ·exact hb q
  ·obtain ⟨sl, e1⟩ := hbs.slot b o e n hb hx
   obtain ⟨sl2, e2⟩ := u.slot b _ e1 (hbs.free b o e n hx) (List.mem_cons_of_mem _ hb) hx
   exact ⟨sl2, e2⟩
  ·obtain ⟨o', e1⟩ := hbs.there b o e hx
   exact u.free b o' e1 (hbs.free b o e n hx) hx
  ·obtain ⟨o', e1⟩ := hbs.there b o e hx
   exact u.there b o' e1 hx
  ·obtain ⟨m1, e1⟩ := hbs.tbls b ps e
   obtain ⟨m2, e2⟩ := u.tbls b _ e1
   exact ⟨m1 ++ m2, by rw [e2, Array.append_assoc]⟩
 have frNone : ∀ b ∈ frs outer, H2 b = none := fun b hb => by
  have h1 := I.stkFree b (by
   show b ∈ frs (envOfC qual scope s.heap.objs.size f cd :: outer)
   rw [hff]
   exact List.mem_cons_of_mem _ hb)
  obtain ⟨_, o, ho, _⟩ := hst.mem (b := b) (by
   show b ∈ frs (envOfC qual scope s.heap.objs.size f cd :: outer)
   rw [hff]
   exact List.mem_cons_of_mem _ hb)
  exact u.free b o ho h1 (by simp)
 refine wpAny_leaves_onW hfr rfl fl fun h' x1 x2 => ?_
 have stay : ∀ b o, s2.heap.get? b = some o -> (H2 b ≠ none \/ s.heap.get? b ≠ none) -> b ∉ frs outer -> h'.get? b = some o := fun b o ho hb hno => by
  obtain ⟨o', ho', hB⟩ := old b hb hno
  rw [ho] at ho'
  cases ho'
  exact x1.1 b o hB
 refine ⟨x, cls, H2, rfl, hos.trans I.os, hb2, u2.onto (fun b o ho hh hno => stay b o ho (.inr hh) hno) (fun b o ho hh hm => ?_), hok.stays fun b o ho hh => stay b o ho (.inl hh) fun hm => hh (frNone b hm), ?_, hxn, ⟨B, a0, x1, fun b o ho hb hno => ?_⟩, hE⟩
 ·obtain ⟨_, o', ho', hd⟩ := fl.2.2.1.mem (b := b) (by
   show b ∈ frs (envOfC qual scope s.heap.objs.size f cd :: outer)
   rw [hff]
   exact List.mem_cons_of_mem _ hm)
  rw [ho] at ho'
  cases ho'
  exact x2 b o ho hd
 ·cases q : s.heap.get? x with
  | none => rfl
  | some o =>
   obtain ⟨o', z⟩ := hbs.there x o q (by simp)
   rw [new] at z
   cases z
 ·obtain ⟨o', ho', hB⟩ := old b hb hno
  have := stay b o' ho' hb hno
  rw [ho] at this
  cases this
  exact hB
end
theorem Fun.okX {P : Program} {w : World} {K : W.Frag} {mg : Str -> Option Value} {base : Heap} {x qual : Str} {st : Stmt} {f : Addr} {fd : FuncData} {N ps : List Str} {k : Nat} {sp : Sp} (F : Fun K x qual st f fd) (S : FnScope N ps (defScope st)) (len : ∀ vs H Q E, sp vs H Q E -> vs.length = ps.length)
  (hbody : ∀ (cdv : Value) (A : Around) (outer : List Env) (s : Shared) (H : Hp) (vs : List V) (Q : VK) (E : XK), Room k (A.deeper (envOfC qual (defScope st) s.heap.objs.size f cdv)) -> sp vs H Q E ->
   ∃ t, PSs (cxOf (CXE P w) P w K mg base N qual (defScope st) f cdv A outer s H E) (defBody st) t /\ t { nx := fun _ H' => Q .non H', rt := Q } (start N vs) H) : FnOk P w K mg base (CXE P w) (k + 1) f fd ps sp := by
 obtain ⟨oc, od, kV, doc, pm, an, cdv, ct, osl, rfl, lk, hcd⟩ := F.ex
 exact fn_of lk hcd S len fun A outer s H vs Q E hr hsp => hbody cdv A outer s H vs Q E hr hsp
theorem po_leave {P : Program} {w : World} {K : W.Frag} {mg : Str -> Option Value} {base : Heap} {N : List Str} {qual : Str} {scope : Scope} {f : Addr} {cd : Value} {A : Around} {outer : List Env} {s : Shared} {H : Hp} {E : XK} :
  PassesOwn (model P w) (cxOf (CXE P w) P w K mg base N qual scope f cd A outer s H E).A (cxOf (CXE P w) P w K mg base N qual scope f cd A outer s H E).env (cxOf (CXE P w) P w K mg base N qual scope f cd A outer s H E).xe := PassesOwn.leaving
structure ExcC (K : W.Frag) (C : Addr) : Prop where
 q : PySem.W.excIn K C [.type "ValueError", .type "Exception", .type "BaseException", .type "object"] "ValueError.__new__" = true
abbrev bmV : List Value := [.type "ValueError", .type "Exception", .type "BaseException", .type "object"]
theorem exc_at {K : W.Frag} {h : Heap} {C : Addr} (KI : K.In h) (c : ExcC K C) : ∃ bm N nm q bs hd sn sub ab col dd k0 k1 k2 k3 k5 mN, h.get? C = some (excClassObj nm q C N bs bm hd sn sub ab col dd k0 k1 k2 k3 k5 "ValueError.__new__") /\
  h.Ns N mN /\ mN "__init__" = none /\ OwnTail h bmV bm := by
 have z := c.q
 revert z
 unfold PySem.W.excIn
 split
 ·rename_i d1 c1 s1 hl
  split
  ·rename_i D bm y0 y1 y2 y3 nn y5 e1 e2
   intro z
   rw [Bool.and_eq_true, Bool.and_eq_true, Bool.and_eq_true, Bool.and_eq_true, Bool.and_eq_true] at z
   obtain ⟨⟨⟨⟨⟨z1, z2⟩, z3⟩, z4⟩, z5⟩, z6⟩ := z
   have z1' : D = C := beq_iff_eq.mp z1
   have z2' : nn = "ValueError.__new__" := beq_iff_eq.mp z2
   have z6' := beq_iff_eq.mp z6
   subst z1' z2'
   obtain ⟨w1, w2, w3, w4, w5, w6, w7, w8, w9, w10, w11⟩ := c1
   dsimp only at e1 z3 z5 z6'
   subst e1
   have z3' : w11 = false := by simpa using z3
   subst z3'
   have e3 : s1 = #[y0, y1, y2, y3, some (.builtin "ValueError.__new__"), y5] := by
    obtain ⟨l1⟩ := s1
    exact congrArg Array.mk e2
   subst e3
   exact ⟨bm, w4, w1, w5, w2, w6, w7, w8, w9, w10, d1, y0, y1, y2, y3, y5, _, KI _ _ hl, .of_isNs (PySem.W.isNs_of_in KI z5), PySem.W.nsMap_none_of_in KI z5 z6', PySem.W.tail_of_in KI z4⟩
  ·intro z; cases z
 ·intro z; cases z
section
variable {P : Program} {w : World} {K : W.Frag} {mg : Str -> Option Value} {base : Heap} {N : List Str} {qual : Str} {scope : Scope} {f : Addr} {cd : Value} {A : Around} {outer : List Env} {s : Shared} {H : Hp} {E : XK}
def tRaise (E : XK) (C : Addr) : TS := fun _ _ H => E (.ref C) none H
theorem ps_raise {x txt : Str} {C : Addr} {j : Nat} {np cp ep pos : Pos} (hg : Gl (cxOf (CXE P w) P w K mg base N qual scope f cd A outer s H E) x) (hm : mg x = some (.ref C)) (c : ExcC K C) (hd : (x == ("__debug__" : Str)) = false := by decide) :
  PS (cxOf (CXE P w) P w K mg base N qual scope f cd A outer s H E) (.Raise (some (.Call (.Name x np) [.Constant (.str txt) j cp] [] ep)) none pos) (tRaise E C) := by
 intro pins s1 σ H1 D I hE
 have hh : (cxOf (CXE P w) P w K mg base N qual scope f cd A outer s H E).A.handled = none := I.ok.hd rfl
 obtain ⟨bm, N', nm, q, bs, hdc, sn, sub, ab, col, dd, k0, k1, k2, k3, k5, mN, hC, hN, hni, T⟩ := exc_at I.kIn c
 refine wpAny_Raise_call_subT (C := C) (nm := nm) (q := q) (N := N') (bs := bs) (bm := bm) (hdct := hdc) (sn := sn) (sub := sub) (ab := ab) (col := col) (dd := dd) (k0 := k0) (k1 := k1) (k2 := k2) (k3 := k3) (k5 := k5)
  PySem.F.excBase_ValueError (mN := mN) (T.hasType (by decide +kernel)) hh rfl hni (ld_glob I hg hm ⟨rfl, ?_⟩ hd)
 refine Calls.evalArgs_plain ?_
 refine PyProof.Rows.spliced_more (Calls.Constant_str ?_)
 refine PyProof.Rows.spliced_none ⟨rfl, by show 1 <= sizeLine; decide, hC, hN, T, fun h' e hx => ?_⟩
 exact xe_made (I.tok _) hx hE
end
def tryCx (X : Cx) (pins : List (Addr × Obj)) (E : St -> XK) : Cx := { X with pn := X.pn ++ pins, xe := fun e s' => ∃ σ H s, Inv X pins σ H s /\ CXE X.prog X.w X.stack H s (E σ) e s' }
def hdCx (X : Cx) (v : Value) : Cx := { X with A := X.A.mark (some v), calm := false, xe := fun _ _ => False }
section
variable {X : Cx} {pins pins' : List (Addr × Obj)} {σ : St} {H : Hp} {s : Shared} {E : St -> XK}
theorem Inv.toTry (I : Inv X pins σ H s) : Inv (tryCx X pins E) [] σ H s :=
  ⟨⟨I.ok.mod, I.ok.kind, I.ok.glob, I.ok.blt, I.ok.above, I.ok.inj, I.ok.has, I.ok.cab, I.ok.hd, I.ok.frames, I.ok.stk, I.ok.exf, I.ok.bs, I.ok.bsz, I.ok.noex, I.ok.exfs, I.ok.funs, I.ok.frf⟩,
    I.os, I.bare, I.base, I.loc, I.cell, I.free, I.freeC, fun p hp => I.pin p (by
      rcases List.mem_append.mp hp with z | z
      · exact z
      · cases z), I.hok, I.len⟩
theorem Inv.ofTry (I : Inv (tryCx X pins E) pins' σ H s) : Inv X pins σ H s :=
  ⟨⟨I.ok.mod, I.ok.kind, I.ok.glob, I.ok.blt, I.ok.above, I.ok.inj, I.ok.has, I.ok.cab, I.ok.hd, I.ok.frames, I.ok.stk, I.ok.exf, I.ok.bs, I.ok.bsz, I.ok.noex, I.ok.exfs, I.ok.funs, I.ok.frf⟩,
    I.os, I.bare, I.base, I.loc, I.cell, I.free, I.freeC, fun p hp => I.pin p (List.mem_append_left _ hp), I.hok, I.len⟩
theorem Inv.toHd (I : Inv X pins σ H s) (v : Value) : Inv (hdCx X v) pins σ H s :=
  ⟨⟨I.ok.mod, I.ok.kind, I.ok.glob, I.ok.blt, I.ok.above, I.ok.inj, I.ok.has, I.ok.cab, (fun z => by cases z), I.ok.frames, I.ok.stk, I.ok.exf, I.ok.bs, I.ok.bsz, I.ok.noex, I.ok.exfs, I.ok.funs, I.ok.frf⟩,
    I.os, I.bare, I.base, I.loc, I.cell, I.free, I.freeC, I.pin, I.hok, I.len⟩
theorem Inv.ofHd {v : Value} (I : Inv (hdCx X v) pins σ H s) (hd : X.calm = true -> X.A.handled = none) : Inv X pins σ H s :=
  ⟨⟨I.ok.mod, I.ok.kind, I.ok.glob, I.ok.blt, I.ok.above, I.ok.inj, I.ok.has, I.ok.cab, hd, I.ok.frames, I.ok.stk, I.ok.exf, I.ok.bs, I.ok.bsz, I.ok.noex, I.ok.exfs, I.ok.funs, I.ok.frf⟩,
    I.os, I.bare, I.base, I.loc, I.cell, I.free, I.freeC, I.pin, I.hok, I.len⟩
end
section
variable {X : Cx} {CX : CXT} {k : Nat} {f : Addr} {fd : FuncData} {ps : List Str} {sp : Sp} {E : St -> XK} {x : Str} {p pos : Pos} {e : Expr} {es : List Expr} {t : TA}
end
section
variable {X : Cx} {pins : List (Addr × Obj)} {σ : St} {H : Hp} {s : Shared}
end
end L2
set_option maxRecDepth 100000
namespace L2
open PySem PySem.Spec PyProof.Rows PySem.W
structure ExcK (K : W.Frag) (C : Addr) : Prop where
 ga : findIn K (.ref C) "__getattribute__" = some (some (.builtin "BaseException.__getattribute__"))
 na : findIn K (.ref C) "__getattr__" = some none
 cl : findIn K (.ref C) "__class__" = some (some (.builtin "object.__class__"))
 sb : subIn K (.ref C) (.type "BaseException") = some true
 so : subIn K (.ref C) (.type "object") = some true
 cs : (clsIn K C).isSome = true
section
variable {prog : Program} {w : World} {A : Around} {E : Value -> Shared -> Prop} {h : Heap} {g : Array GenState} {d : Drawn} {t : Nat} {os : OsState} {a C : Addr} {o : Obj} {K : W.Frag}
end
section
variable {X : Cx}
end
end L2
namespace L2
open PySem PySem.Spec PyProof.Rows
theorem Fun.okXC {P : Program} {w : World} {K : W.Frag} {mg : Str -> Option Value} {base : Heap} {x qual : Str} {st : Stmt} {f c : Addr} {fd : FuncData} {N ps : List Str} {k : Nat} {sp : Sp} (F : Fun K x qual st f fd) (hc : fd.code = .ref c) (S : FnScope N ps (defScope st)) (len : ∀ vs H Q E, sp vs H Q E -> vs.length = ps.length)
  (hbody : ∀ (A : Around) (outer : List Env) (s : Shared) (H : Hp) (vs : List V) (Q : VK) (E : XK), Room k (A.deeper (envOfC qual (defScope st) s.heap.objs.size f (.ref c))) -> sp vs H Q E ->
   ∃ t, PSs (cxOf (CXE P w) P w K mg base N qual (defScope st) f (.ref c) A outer s H E) (defBody st) t /\ t { nx := fun _ H' => Q .non H', rt := Q } (start N vs) H) : FnOk P w K mg base (CXE P w) (k + 1) f fd ps sp := by
 obtain ⟨oc, od, kV, doc, pm, an, cdv, ct, osl, rfl, lk, hcd⟩ := F.ex
 have hc' : cdv = .ref c := hc
 subst hc'
 exact fn_of lk hcd S len fun A outer s H vs Q E hr hsp => hbody A outer s H vs Q E hr hsp
theorem tab_code {K : W.Frag} {x : Str} {c P f : Addr} {oc : Value} {od : Option Addr} {fd : FuncData} {sl : Array (Option Value)} (ht : PySem.W.tabIn K x = some (c, P)) (hn : PySem.W.nsIn K mainGlobals x = some (some (.ref f))) (hl : K.lookup f = some ⟨oc, od, .func fd, sl⟩) : fd.code = .ref c := by
 unfold PySem.W.tabIn at ht
 rw [hn] at ht
 dsimp only at ht
 rw [hl] at ht
 dsimp only at ht
 split at ht
 ·rename_i c₂ hc
  split at ht
  ·split at ht
   ·cases ht; exact hc
   ·cases ht
  ·cases ht
 ·cases ht
theorem law_callT {P : Program} {w : World} {K : W.Frag} {mg mb : Str -> Option Value} {CX : CXT} {k : Nat} {fa a : Addr} {fd : FuncData} {x : Str} {sp : Sp} {s₁ : Shared} {vs : List Value} {ns : List Int} {ts : List (Addr × Addr)} (hT : PySem.W.TabsAt ts s₁.heap) (hK0 : PySem.W.noTabs K = true)
  (hbm : ∃ bm ob, mg "__builtins__" = some (.ref bm) /\ bm ≠ builtinsNs /\ s₁.heap.get? bm = some ob /\ ob.cls = .type "module" /\ ob.dict = some builtinsNs /\ ob.data = .plain)
  (KX : K.In s₁.heap) (hns : s₁.heap.Ns mainGlobals mg) (hb : s₁.heap.Ns builtinsNs mb) (hbb : ∀ x : Str, x ≠ "__name__" -> mb x = bootBuiltins x) (hlim : s₁.heap.NoLimit) (hg : s₁.gens = #[])
  (ha : s₁.heap.get? a = some { cls := .type "list", data := .seq vs.toArray }) (hi : IntsAre vs ns) (hl : ns.length <= sizeLine) (hr : Room k callerA)
  (F : ∀ base : Heap, K.In base -> base.Ns mainGlobals mg -> (∀ q ∈ ts, LamB base mg q.1 q.2) -> FnOk P w K mg base CX k fa fd [x] sp) (hbind : ∀ (s : Shared) (u : Value), BindsTo s fd ⟨[u], []⟩ [(x, u)])
  (hsp : ∀ H : Hp, (∀ q ∈ ts, H q.2 = some (.tbl #[])) -> SqL K H a (ns.map V.int) -> sp [.ref a] H (fun v _ => v = .bl true) fun _ _ _ => False)
  (hCX : ∀ H e s', CX [] H s₁ (fun _ _ _ => False) e s' -> False) :
  codeAny (model P w) callerA (.call (.ref fa) ⟨[.ref a], []⟩) (fun r s' => r = .ok (.ret (.bool true)) /\ OldK s₁.heap s'.heap /\ s'.os = s₁.os /\ AllBare s'.gens) s₁ := by
 have rv := vals_ints hi
 have lenV := hi.length
 have tabO : ∀ b, b ∈ ts.map (·.2) -> s₁.heap.get? b = some (PySem.W.tabObj #[]) := fun b hb => by
  obtain ⟨q, hq, rfl⟩ := List.mem_map.mp hb
  exact (hT q hq).2
 have aT : a ∉ ts.map (·.2) := fun z => by
  have e := tabO a z
  rw [ha] at e
  cases e
 have core : ∀ H : Hp, (∀ b, b ∈ ts.map (·.2) -> H b = some (.tbl #[])) -> (∀ b, b ∉ ts.map (·.2) -> H b = none \/ ∃ o xs, H b = some (.frz o (.lst xs))) -> SqL K H a (ns.map V.int) -> HOk P w H s₁.heap -> (∀ b, H b ≠ none -> b = a \/ b ∈ ts.map (·.2)) -> (H a ≠ none -> K.lookup a = none) ->
   codeAny (model P w) callerA (.call (.ref fa) ⟨[.ref a], []⟩) (fun r s' => r = .ok (.ret (.bool true)) /\ OldK s₁.heap s'.heap /\ s'.os = s₁.os /\ AllBare s'.gens) s₁ := by
  intro H hHt hO hS hok hA hK
  have base_of : ∀ {b : Addr} {o : Obj}, s₁.heap.get? b = some o -> H b = none -> (hidT s₁.heap H).get? b = some o := fun e n => hidT_get e n
  have free_of : ∀ {b : Addr} {o : Obj}, s₁.heap.get? b = some o -> (∀ xs n, o ≠ { cls := .type "list", data := .seq xs n }) -> o ≠ PySem.W.tabObj #[] -> H b = none := fun {b o} e n1 n2 => by
   cases q : H b with
   | none => rfl
   | some u =>
    rcases hA b (by rw [q]; simp) with e' | e'
    ·subst e'
     rw [ha] at e; cases e
     exact absurd rfl (n1 _ _)
    ·rw [tabO b e'] at e; cases e
     exact absurd rfl n2
  have noA : ∀ {b : Addr} {o : Obj} {es : Array DictEntry} {ep : Nat}, s₁.heap.get? b = some o -> o.data = .dict es ep -> H b = none := fun {b o es ep} e d => free_of e (fun xs n z => by subst z; cases d) (fun z => by subst z; cases d)
  have nsK : ∀ {b : Addr} {m : Str -> Option Value}, s₁.heap.Ns b m -> (hidT s₁.heap H).Ns b m := fun {b m} ⟨o, es, ep, e, d, r⟩ => ⟨o, es, ep, base_of e (noA e d), d, r⟩
  have hKb : K.In (hidT s₁.heap H) := fun b o e => base_of (KX b o e) (by
   cases q : H b with
   | none => rfl
   | some u =>
    rcases hA b (by rw [q]; simp) with e' | e'
    ·subst e'
     rw [hK (by rw [q]; simp)] at e; cases e
    ·have e1 := KX b o e
     rw [tabO b e'] at e1
     cases e1
     have h2 := List.all_eq_true.mp hK0 _ (PySem.W.mem_of_lookupK e)
     exact absurd (show false = true from h2) Bool.false_ne_true)
  have hM : Mod K mg (hidT s₁.heap H) := ⟨hKb, nsK hns, ⟨mb, nsK hb, hbb⟩, let ⟨mc, h1, h2⟩ := hlim; ⟨mc, nsK h1, h2⟩⟩
  have hLB : ∀ q ∈ ts, LamB (hidT s₁.heap H) mg q.1 q.2 := fun q hq => by
   obtain ⟨C, eP⟩ := hT q hq
   refine ⟨?_, ?_, ?_⟩
   ·obtain ⟨o, vs, file, tf, flags, tg, inF, text, tt, e1, r1, r2⟩ := C
    exact ⟨o, vs, file, tf, flags, tg, inF, text, tt, base_of e1 (free_of e1 (fun xs n z => by subst z; exact absurd (show Value.type "list" = Value.type "code" from r1) (by decide)) (fun z => by subst z; cases r1)), r1, r2⟩
   ·obtain ⟨bm, ob, b1, b2, b3, b4, b5, b6⟩ := hbm
    refine ⟨bm, ob, b1, b2, fun z => ?_, fun z => ?_, base_of b3 (free_of b3 (fun xs n z => by subst z; exact absurd (show Value.type "list" = Value.type "module" from b4) (by decide)) (fun z => by subst z; cases b4)), b4, b5, b6⟩
    ·obtain ⟨o, es, ep, e, d, _⟩ := hns
     rw [z, e] at b3; cases b3; rw [d] at b6; cases b6
    ·rw [z, eP] at b3; cases b3; cases b4
   ·intro z
    obtain ⟨o, es, ep, e, d, _⟩ := hns
    rw [z, eP] at e; cases e; cases d
  have e0 : Env0 P w K mg (hidT s₁.heap H) callerA [] s₁ H := ⟨rfl, hM, fun b o e => of_hidT e, Nat.le_of_eq (hidT_size _ _), trivial, fun b hb => absurd (show b ∈ ([] : List Addr) from hb) (by simp), hok, .of_eq hg⟩
  refine codeAny_mono ((F _ hKb (nsK hns) hLB).run callerA [] s₁ H ⟨[.ref a], []⟩ [.ref a] [.ref a] _ _ hr e0 (hbind s₁ (.ref a)) (.cons rfl .nil) (hsp H (fun q hq => hHt _ (List.mem_map_of_mem hq)) hS)) fun r s' h => ?_
  cases r with
  | error e => exact (hCX H e s' h).elim
  | ok fl =>
   cases fl with
   | next => exact False.elim h
   | brk => exact False.elim h
   | cont => exact False.elim h
   | ret u =>
    obtain ⟨v, H', os, bare, un, hok', r', q⟩ := h
    have q' : v = .bl true := q
    subst q'
    obtain rfl : u = Value.bool true := r'
    have keep : ∀ b o, b ∉ ts.map (·.2) -> s₁.heap.get? b = some o -> s'.heap.get? b = some o := fun b o hb e => by
     rcases hO b hb with z | ⟨ob, xs, z⟩
     ·exact un.keep b o e z (by intro z; exact absurd (show b ∈ ([] : List Addr) from z) (by simp)) (by simp)
     ·have z2 := un.frzs b ob _ z
      obtain ⟨e1, _⟩ := hok b _ z
      obtain ⟨e2, _⟩ := hok' b _ z2
      rw [e] at e1; cases e1
      exact e2
    have grown : ∀ b o, b ∈ ts.map (·.2) -> s₁.heap.get? b = some o -> isCodeTable s₁.heap b /\ o = PySem.W.tabObj #[] /\ ∃ ps, s'.heap.get? b = some (PySem.W.tabObj ps) := fun b o hb e => by
     obtain ⟨ps, hp⟩ := un.tbls b #[] (hHt b hb)
     have e2 := tabO b hb
     rw [e] at e2
     obtain ⟨q, hq, eq⟩ := List.mem_map.mp hb
     have e3 : s'.heap.get? b = some (PySem.W.tabObj (#[] ++ ps)) := hok' b _ hp
     refine ⟨?_, Option.some.inj e2, _, e3⟩
     rw [<- eq]
     exact ((hT q hq).1.tab (hT q hq).2).isCodeTable
    refine ⟨rfl, ⟨fun b o e => ?_, fun b o e => ?_⟩, os, bare⟩
    ·by_cases hb : b ∈ ts.map (·.2)
     ·obtain ⟨ht, rfl, ps, hP⟩ := grown b o hb e
      exact .inr (.inl ⟨ht, rfl, #[], ps, rfl, by rw [Array.empty_append]; exact hP⟩)
     ·exact .inl (keep b o hb e)
    ·by_cases hb : b ∈ ts.map (·.2)
     ·obtain ⟨_, _, ps, hP⟩ := grown b o hb e
      exact ⟨_, hP⟩
     ·exact ⟨o, keep b o hb e⟩
 cases hk : K.lookup a with
 | some o =>
  have e := KX a o hk
  rw [ha] at e
  cases e
  refine core (fun b => if b ∈ ts.map (·.2) then some (.tbl #[]) else none) (fun b hb => if_pos hb) (fun b hb => .inl (if_neg hb)) (.inr ⟨_, vs.toArray, _, hk, rfl, rfl, rfl, by rw [List.size_toArray, lenV]; exact hl, by simpa using rv⟩) (fun b u z => ?_) (fun b z => ?_) fun z => absurd (if_neg aT) z
  ·by_cases hb : b ∈ ts.map (·.2)
   ·have z' := (if_pos hb).symm.trans z
    cases z'
    exact tabO b hb
   ·have z' := (if_neg hb).symm.trans z
    cases z'
  ·by_cases hb : b ∈ ts.map (·.2)
   ·exact .inr hb
   ·exact absurd (if_neg hb) z
 | none =>
  have e1 : ∀ b, b ∈ ts.map (·.2) -> (if b ∈ ts.map (·.2) then some (HO.tbl #[]) else if b = a then some (.frz { cls := .type "list", data := .seq vs.toArray } (.lst (ns.map V.int))) else none) = some (HO.tbl #[]) := fun b hb => if_pos hb
  have e2 : ∀ b, b ∉ ts.map (·.2) -> (if b ∈ ts.map (·.2) then some (HO.tbl #[]) else if b = a then some (.frz { cls := .type "list", data := .seq vs.toArray } (.lst (ns.map V.int))) else none) = (if b = a then some (.frz { cls := .type "list", data := .seq vs.toArray } (.lst (ns.map V.int))) else none) := fun b hb => if_neg hb
  refine core (fun b => if b ∈ ts.map (·.2) then some (HO.tbl #[]) else if b = a then some (.frz { cls := .type "list", data := .seq vs.toArray } (.lst (ns.map V.int))) else none) e1 (fun b hb => ?_) (.inl (.inr ⟨{ cls := .type "list", data := .seq vs.toArray }, (e2 a aT).trans (if_pos rfl)⟩)) (fun b u z => ?_) (fun b z => ?_) fun _ => hk
  ·rw [e2 b hb]
   by_cases hba : b = a
   ·exact .inr ⟨_, _, if_pos hba⟩
   ·exact .inl (if_neg hba)
  ·by_cases hb : b ∈ ts.map (·.2)
   ·have z' := (e1 b hb).symm.trans z
    cases z'
    exact tabO b hb
   ·have z1 := (e2 b hb).symm.trans z
    by_cases hba : b = a
    ·have z' := (if_pos hba).symm.trans z1
     cases z'
     subst hba
     exact ⟨ha, by rw [List.length_map]; exact hl, vs, _, rv, ha⟩
    ·have z' := (if_neg hba).symm.trans z1
     cases z'
  ·by_cases hb : b ∈ ts.map (·.2)
   ·exact .inr hb
   ·by_cases hba : b = a
    ·exact .inl hba
    ·exact absurd ((e2 b hb).trans (if_neg hba)) z
theorem walk_ofT {l : PySem.W.OpenLaw} {n k : Nat} {q : Program} {loose : List Str} {XP : (Str -> Option Value) -> Heap -> Prop} {YP : World -> Heap -> Prop} {d : DefRec} {K : Params -> PySem.W.Frag} {CX : World -> CXT} {sp : World -> List (Addr × Addr) -> Sp} {x : Str} {ts : World -> List (Addr × Addr)}
  (hn : l.most = some n) (hn2 : n <= sizeLine) (hdf : d.params.defaults = []) (hr : Room k callerA)
  (hY : ∀ (w : World) (h : Heap), YP w h -> (K w.params).In h) (hK0 : ∀ w : World, PySem.W.noTabs (K w.params) = true)
  (hts : ∀ (w : World) (loose : List Str) (mean : ExcName -> Option Value) (mg mb : Str -> Option Value) (h : Heap), Top q loose mean mg mb h -> (K w.params).In h -> PySem.W.TabsAt (ts w) h)
  (F : ∀ (w : World) (mg : Str -> Option Value) (fa : Addr) (h : Heap), (K w.params).In h -> h.Ns mainGlobals mg -> mg d.name = some (.ref fa) ->
   ∃ fd : FuncData, (∀ (s : Shared) (u : Value), BindsTo s fd ⟨[u], []⟩ [(x, u)]) /\
    ∀ base : Heap, (K w.params).In base -> base.Ns mainGlobals mg -> (∀ q ∈ ts w, LamB base mg q.1 q.2) -> FnOk l.prog w (K w.params) mg base (CX w) k fa fd [x] (sp w (ts w)))
  (hsp : ∀ (w : World) (H : Hp) (a : Addr) (ns : List Int), ns.length <= n -> (∀ q ∈ ts w, H q.2 = some (.tbl #[])) -> SqL (K w.params) H a (ns.map V.int) -> sp w (ts w) [.ref a] H (fun v _ => v = .bl true) fun _ _ _ => False)
  (hCX : ∀ (w : World) (H : Hp) (s : Shared) (e : Value) (s' : Shared), CX w [] H s (fun _ _ _ => False) e s' -> False) :
  PySem.W.WalkO q loose XP YP l.row.toRowW d [] (fun f vs => PySem.call f vs) := by
 refine Att.attach_call hn hdf fun w s₀ s₁ mg mb fa o pm cd doc a vs ns G Y ho hd hcd hmg hobj hints hlen hg => ?_
 have KX := hY w _ Y
 obtain ⟨fd, hb, hF⟩ := F w mg fa _ KX G.T.g hmg
 exact law_callT (hts w _ _ _ _ _ G.T KX) (hK0 w) G.T.bmain KX G.T.g G.T.b G.T.builtins G.T.nolimit hg hobj hints (Nat.le_trans hlen hn2) hr hF hb (fun H hO hS => hsp w H a ns hlen hO hS) fun H e s' => hCX w H s₁ e s'
section
variable {X : Cx}
end
def okey (ns : List Int) (z : Int) : List Int := [-(ns.getD z.toNat 0), z]
def ole (ns : List Int) (x y : Int) : Prop := Tim.lexB (okey ns y) (okey ns x) = false
theorem ole_iff {ns : List Int} {x y : Int} : ole ns x y ↔ (ns.getD y.toNat 0 < ns.getD x.toNat 0 \/ (ns.getD x.toNat 0 = ns.getD y.toNat 0 /\ x <= y)) := by
 unfold ole okey Tim.lexB
 by_cases h : -(ns.getD y.toNat 0) = -(ns.getD x.toNat 0)
 ·rw [if_pos h]
  unfold Tim.lexB
  by_cases h2 : y = x
  ·rw [if_pos h2]
   simp only [Tim.lexB, true_iff]
   exact .inr ⟨by omega, by omega⟩
  ·rw [if_neg h2, decide_eq_false_iff_not]
   constructor
   ·intro h3; exact .inr ⟨by omega, by omega⟩
   ·intro h3 h4; omega
 ·rw [if_neg h, decide_eq_false_iff_not]
  constructor
  ·intro h3; exact .inl (by omega)
  ·intro h3 h4; omega
end L2
namespace HT
open PySem PyProof.Rows
section
variable {prog : Program} {w : World} {A : Around} {E : Value -> Shared -> Prop} {s : Shared}
end
end HT
namespace L2
open PySem PySem.Spec PyProof.Rows
section
variable {X : Cx} {e st : Expr} {te ts : TE} {pos p2 : Pos}
def tCut (t u : TS) : TS := fun D σ H => ∃ Mid : St -> Hp -> Prop, t { D with nx := Mid } σ H /\ ∀ σ' H', Mid σ' H' -> u D σ' H'
theorem pss_cut {stm : Stmt} {rest : List Stmt} {t u : TS} (h1 : PS X stm t) (h2 : PSs X rest u) : PSs X (stm :: rest) (tCut t u) := by
 intro pins s σ H D I ⟨Mid, h, k⟩
 refine wpAny_execs_cons (thn (h1 pins s σ H { D with nx := Mid } I h) fun f s1 q => ?_)
 cases f with
 | next =>
  obtain ⟨σ', H', I', q⟩ := q
  exact h2 pins s1 σ' H' D I' (k _ _ q)
 | ret v => exact q
 | brk => exact q
 | cont => exact q
end
section
variable {X : Cx} {pins : List (Addr × Obj)} {σ : St} {H : Hp} {s : Shared} {A : Around} {E : Value -> Shared -> Prop}
theorem seq_obj (I : Inv X pins σ H s) {p : Addr} {ns : List Int} (hq : SqL X.K H p (ns.map V.int) \/ SqT X.K H p (ns.map V.int)) : ∃ (vs : List Value) (T : String) (o : Obj) (c : Nat), (T = "list" \/ T = "tuple") /\ s.heap.get? p = some o /\ o.cls = .type T /\ o.data = .seq vs.toArray c /\ IntsAre vs ns := by
 rcases hq with hq | hq
 ·obtain ⟨its, r', pl, hz⟩ := I.list hq
  obtain ⟨o, ho, hc, n, hd⟩ := pl.isList
  exact ⟨its, "list", o, n, .inl rfl, ho, hc, hd, intsAre_of r'⟩
 ·obtain ⟨its, r', pl, hz⟩ := I.tuple hq
  obtain ⟨o, ho, hc, n, hd⟩ := pl
  exact ⟨its, "tuple", o, n, .inr rfl, ho, hc, hd, intsAre_of r'⟩
theorem sorted_end (I : Inv X pins σ H s) {h1 : Heap} {vs : List Value} {out : Array Value} {zs : List Int} (kp : ∀ b o', s.heap.get? b = some o' -> h1.get? b = some o') (hi : IntsAre out.toList zs) (hz : zs.length <= 1000) :
  H h1.objs.size = none /\ Inv X pins σ (upd H h1.objs.size (.lst (zs.map V.int))) { s with heap := sortedHeap (h1.push (seqObj "list" vs.toArray 0)) h1.objs.size vs out } := by
 have I1 : Inv X pins σ H { s with heap := h1, toks := s.toks } := I.kept kp
 refine ⟨I1.hok.fresh (Nat.le_refl _), ?_⟩
 have hoL : (h1.push (seqObj "list" vs.toArray 0)).get? h1.objs.size = some (seqObj "list" vs.toArray 0) := Heap.get?_push_size _ rfl
 obtain ⟨e, he⟩ := sortedHeap_at (out := out) hoL
 refine I1.laid (t' := s.toks) (fun b o q => ?_) (Nat.le_refl _) ⟨by rw [List.length_map, sizeLine_eq]; omega, out.toList, e, vals_ints hi, by rw [Array.toArray_toList]; exact he⟩
 have hb : b < h1.objs.size := Heap.lt_size q
 rw [sortedHeap_old (Nat.ne_of_lt hb) (by rw [size_push']; exact Nat.lt_succ_of_lt hb)]
 exact Heap.get?_push_of_some _ q
theorem sorted_seq_rev {p : Addr} {ns : List Int} {b : Bool} {Q : Value -> Shared -> Prop} (I : Inv X pins σ H s) (hq : SqL X.K H p (ns.map V.int) \/ SqT X.K H p (ns.map V.int)) (h64 : ns.length < 64)
  (h : ∀ (s' : Shared) (D : Addr) (zs : List Int), H D = none -> zs.Perm ns -> Ordered b zs -> Inv X pins σ (upd H D (.lst (zs.map V.int))) s' -> Q (.ref D) s') :
  wpAny (model X.prog X.w) A (call (.builtin "sorted") [.ref p] [(Str.ofString "reverse", .bool b)]) Q E s := by
 obtain ⟨vs, T, o, c, hT, ho, hc, hd, hI⟩ := seq_obj I hq
 have hlen := hI.length
 refine call_function_entry_kw kind_sorted plain_sorted entry_sorted (args_sorted_rev _ _) ?_
 unfold Builtin.«sorted»
 refine wpAny_bind (m := checkCount "sorted" 1 1 _) (wpAny_pure ?_)
 refine wpAny_bind (wpAny_collect_seq p hT ho hc hd (fun h1 kp => ?_) (by rw [List.size_toArray, sizeLine_eq]; omega))
 rw [List.toList_toArray]
 refine wpAny_bind (wpAny_newList ?_ (by rw [sizeLine_eq]; omega))
 have hoL : (h1.push (seqObj "list" vs.toArray 0)).get? h1.objs.size = some (seqObj "list" vs.toArray 0) := Heap.get?_push_size _ rfl
 refine wpAny_bind (wpAny_holding (wpAny_call_entry_kw slot_list_sort (s := { s with heap := h1.push (seqObj "list" vs.toArray 0) }) ⟨_, hoL, rfl⟩ entry_list_sort (list_sort_tree_rev (s := { s with heap := h1.push (seqObj "list" vs.toArray 0) }) hoL hI (by omega) fun out ns' a1 a2 a3 => ⟨_, rfl, ?_⟩) (args_list_sort_rev _ _)))
 obtain ⟨e1, e2⟩ := sorted_end (vs := vs) I kp a1 (by rw [a2.length_eq]; omega)
 exact wpAny_pure ⟨_, rfl, h _ _ ns' e1 a2 a3 e2⟩
end
section
variable {X : Cx}
def tSortR (K : W.Frag) (tr : TA) : TE := fun σ H Q => tr σ H fun vs H1 => ∃ (p : Addr) (ns : List Int), vs = [.ref p] /\ (SqL K H1 p (ns.map V.int) \/ SqT K H1 p (ns.map V.int)) /\ ns.length < 64 /\
 ∀ (l : Addr) (zs : List Int), H1 l = none -> zs.Perm ns -> zs.Pairwise (· ≥ ·) -> Q (.ref l) (upd H1 l (.lst (zs.map V.int)))
theorem pe_sortR {e : Expr} {np pos bpos kpos : Pos} {j : Nat} {tr : TA} (K : W.Frag) (hK : X.K = K) (hg : Gl X "sorted") (hm : X.mg "sorted" = none) (ha : PA X [e] tr)
  (hs : backTo pos (starEach [e] X.env) = (false, eval e X.env) :: backTo pos (starEach [] X.env) := by rfl)
  (hpl : (backTo pos (starEach [e] X.env)).any (·.1) = false := by rfl) :
  PE X (.Call (.Name "sorted" np) [e] [⟨some "reverse", .Constant (.bool true) j bpos, kpos⟩] pos) (tSortR K tr) := by
 subst hK
 intro pins s σ H Q I h
 refine wpAny_Call_Name_kw (ld_blt I hg hm (show bootBuiltins "sorted" = some (.builtin "sorted") from rfl) ?_ (by decide) (by decide))
 refine callWith_kw (thn (ha pos pins s σ H _ I h) fun us s1 ⟨vs, H1, I1, r1, q1⟩ => ?_) hs hpl rfl rfl
 obtain ⟨p, ns, rfl, hq, h64, q⟩ := q1
 have hk : PK X [⟨some "reverse", .Constant (.bool true) j bpos, kpos⟩] (tCons (tC (.bl true)) tNil) := pk_cons pe_bl pk_nil
 refine thn (hk pos pins s1 σ H1 (fun zs H2 => zs = [.bl true] /\ H2 = H1) I1 ⟨rfl, rfl⟩) fun ws s2 ⟨zs, H2, I2, r2, ez, eH⟩ => ?_
 subst ez eH
 obtain ⟨w, rfl, rw⟩ := vals1 r2
 obtain ⟨u, rfl, ru⟩ := vals1 r1
 cases rw
 cases ru
 exact sorted_seq_rev (b := true) I2 hq h64 fun s' D zs a1 a2 a3 I' => ⟨.ref D, _, I', rfl, q D zs a1 a2 a3⟩
end
end L2
namespace Web
def mn (r x : Int) : Int := if r < x then r else x
theorem sum_app : ∀ a b : List Int, (a ++ b).sum = a.sum + b.sum
 | [], b => by simp
 | x :: a, b => by rw [List.cons_append, List.sum_cons, List.sum_cons, sum_app a b, Int.add_assoc]
theorem sum_rev : ∀ a : List Int, a.reverse.sum = a.sum
 | [] => rfl
 | x :: a => by rw [List.reverse_cons, sum_app, sum_rev a, List.sum_cons, List.sum_cons, List.sum_nil]; omega
def up2 (ns : List Int) : List Int := PySem.W.sortI ns
theorem up2_len (ns : List Int) : (up2 ns).length = ns.length := (PySem.W.sortI_perm ns).length_eq
theorem fall_eq {zs ns : List Int} (hp : zs.Perm ns) (hs : zs.Pairwise (· ≥ ·)) : zs = (up2 ns).reverse := by
 have h : zs.reverse = up2 ns := PySem.W.eq_sortI ((List.reverse_perm zs).trans hp) (by rw [List.pairwise_reverse]; exact hs)
 rw [<- h, List.reverse_reverse]
def part (m : Nat) (r : Int) (g : List Int) : Int := ((g.take m).map (mn r)).sum - (g.drop m).sum
def roomN (ns : List Int) (r : Nat) : Int := (r : Int) * ((r : Int) - 1) + part (ns.length - r) r (up2 ns)
theorem room_among {ns zs : List Int} {r : Nat} (e : zs = (up2 ns).reverse) : (r : Int) * ((r : Int) - 1) + ((zs.drop r).map (mn r)).sum - (zs.take r).sum = roomN ns r := by
 unfold roomN part
 rw [e, List.drop_reverse, List.take_reverse, List.map_reverse, sum_rev, sum_rev, up2_len]
 omega
end Web
namespace Web
inductive Wl where
 | below (p : Nat) | odd | wall (r : Nat) | free
 deriving DecidableEq
def AllP (ns : List Int) : Prop := ∀ (j : Nat) (x : Int), ns[j]? = some x -> 0 <= x
end Web
namespace Web
def roomM (ns : List Int) (M r : Nat) : Int := (M : Int) * (r : Int) * ((r : Int) - 1) + part (ns.length - r) ((M : Int) * (r : Int)) (up2 ns)
theorem room_amongM {ns zs : List Int} {M r : Nat} (e : zs = (up2 ns).reverse) : (M : Int) * (r : Int) * ((r : Int) - 1) + ((zs.drop r).map (mn ((M : Int) * (r : Int)))).sum - (zs.take r).sum = roomM ns M r := by
 unfold roomM part
 rw [e, List.drop_reverse, List.take_reverse, List.map_reverse, sum_rev, sum_rev, up2_len]
 omega
end Web
namespace Web
def belN (ns : List Int) (i : Nat) : List Nat := (List.range i).filter fun j => decide (ns.getD j 0 < 0)
def belL (ns : List Int) : List Int := (belN ns ns.length).map Int.ofNat
theorem belN_succ (ns : List Int) (i : Nat) : belN ns (i + 1) = belN ns i ++ (if ns.getD i 0 < 0 then [i] else []) := by
 unfold belN
 rw [List.range_succ, List.filter_append]
 congr 1
 by_cases h : ns.getD i 0 < 0
 ·rw [if_pos h, List.filter_cons_of_pos (by simpa using h), List.filter_nil]
 ·rw [if_neg h, List.filter_cons_of_neg (by simpa using h), List.filter_nil]
theorem belN_len (ns : List Int) (i : Nat) : (belN ns i).length <= i := by
 unfold belN
 exact Nat.le_trans (List.length_filter_le ..) (by rw [List.length_range]; exact Nat.le_refl _)
theorem bel_getD {ns : List Int} {j : Nat} {x : Int} (h : ns[j]? = some x) : ns.getD j 0 = x := by rw [List.getD_eq_getElem?_getD, h]; rfl
theorem bel_nil {ns : List Int} (h : belN ns ns.length = []) : ∀ (j : Nat) (x : Int), ns[j]? = some x -> 0 <= x := fun j x e => by
 have hj : j < ns.length := by
  rcases Nat.lt_or_ge j ns.length with l | l
  ·exact l
  ·rw [List.getElem?_eq_none l] at e; cases e
 have := List.filter_eq_nil_iff.mp h j (List.mem_range.mpr hj)
 rw [bel_getD e] at this
 have h2 : ¬ x < 0 := fun q => this (decide_eq_true q)
 omega
theorem bel_cons {ns : List Int} {p : Nat} {t : List Nat} (h : belN ns ns.length = p :: t) : (∃ x, ns[p]? = some x /\ x < 0) /\ ∀ (j : Nat) (x : Int), j < p -> ns[j]? = some x -> 0 <= x := by
 have hm : p ∈ belN ns ns.length := by rw [h]; exact List.mem_cons_self
 have hp := List.mem_filter.mp hm
 have hl := List.mem_range.mp hp.1
 have h0 := of_decide_eq_true hp.2
 refine ⟨⟨_, List.getElem?_eq_getElem hl, by rw [bel_getD (List.getElem?_eq_getElem hl)] at h0; exact h0⟩, fun j x hj e => ?_⟩
 rcases Int.lt_or_le x 0 with q | q
 ·have hjm : j ∈ belN ns ns.length := List.mem_filter.mpr ⟨List.mem_range.mpr (by omega), by rw [bel_getD e]; exact decide_eq_true q⟩
  have hs : (belN ns ns.length).Pairwise (· < ·) := List.Pairwise.filter _ List.pairwise_lt_range
  rw [h] at hs hjm
  rcases List.mem_cons.mp hjm with r | r
  ·omega
  ·have := (List.pairwise_cons.mp hs).1 j r
   omega
 ·exact q
theorem bel_mem (ns : List Int) (z : Int) : z ∈ belL ns ↔ 0 <= z /\ z < ns.length /\ ns.getD z.toNat 0 < 0 := by
 unfold belL
 constructor
 ·intro h
  obtain ⟨j, hj, rfl⟩ := List.mem_map.mp h
  have hp := List.mem_filter.mp hj
  have hl := List.mem_range.mp hp.1
  have h0 := of_decide_eq_true hp.2
  exact ⟨Int.natCast_nonneg j, by show (j : Int) < _; omega, h0⟩
 ·rintro ⟨h1, h2, h3⟩
  refine List.mem_map.mpr ⟨z.toNat, List.mem_filter.mpr ⟨List.mem_range.mpr (by omega), decide_eq_true h3⟩, ?_⟩
  show ((z.toNat : Nat) : Int) = z
  omega
def IsWlM (ns : List Int) (M : Nat) : Wl -> Prop
 | .below p => (∃ x, ns[p]? = some x /\ x < 0) /\ ∀ (j : Nat) (x : Int), j < p -> ns[j]? = some x -> 0 <= x
 | .odd => AllP ns /\ ns.sum % 2 = 1
 | .wall r => AllP ns /\ ¬ ns.sum % 2 = 1 /\ 1 <= r /\ r <= ns.length /\ roomM ns M r < 0 /\ ∀ k, 1 <= k -> k < r -> 0 <= roomM ns M k
 | .free => AllP ns /\ ¬ ns.sum % 2 = 1 /\ ∀ k, 1 <= k -> k <= ns.length -> 0 <= roomM ns M k
end Web
namespace L2
open PySem PySem.Spec PyProof.Rows
section
variable {prog : Program} {w : World} {A : Around} {E : Value -> Shared -> Prop} {s : Shared}
theorem nextOf_tup_item {ip tp : Addr} {i : Nat} {ys : Array Value} {x : Value} {Q : Value -> Shared -> Prop} (hi : s.heap.IsTupleIter ip tp i) (ht : s.heap.IsTuple tp ys) (hx : ys[i]? = some x)
  (q : ∀ h', h'.IsTupleIter ip tp (i + 1) -> Heap.SameBut ip s.heap h' -> Q x { s with heap := h' }) : wpAny (model prog w) A (Builtin.SmallTypes.nextOf (.ref ip)) Q E s := by
 obtain ⟨u, hu, cu, du⟩ := id hi
 obtain ⟨v, hv, _, nv, dv⟩ := ht
 unfold Builtin.SmallTypes.nextOf
 refine wpAny_bind (wpAny_callSpecial?_slot (name := Str.ofString "__next__") hi.typeIs F.slot_tuple_iterator_next (wpAny_call_entry F.slot_tuple_iterator_next hi.typeIs F.entry_tuple_iterator_next ?_ (F.args_tuple_iterator_next_1 _)))
 show wpAny _ _ (field (.ref ip) 0 >>= _) _ _ s; refine wpAny_bind (wpAny_field hu du (x := .ref tp) rfl ?_)
 show wpAny _ _ (if (Value.ref tp == Value.none) = true then _ else _) _ _ s; rw [if_neg (show ¬ ((Value.ref tp == Value.none) = true) from Bool.false_ne_true)]
 show wpAny _ _ (field (.ref ip) 1 >>= _) _ _ s; refine wpAny_bind (wpAny_field hu du (x := .int i 0) rfl ?_)
 show wpAny _ _ (seqItems? (.ref tp) >>= _) _ _ s; refine wpAny_bind (wpAny_seqItems hv dv ?_)
 simp only [Int.toNat_natCast, hx]
 refine wpAny_bind (wpAny_setField hu du (by simp) (wpAny_pure ⟨x, rfl, wpAny_pure (q _ ?_ (Heap.SameBut.update ..))⟩))
 exact ⟨_, Heap.get?_update_self _ hu (Obj.isFreed_of_fields (Obj.data_mapFields du _)), (Obj.cls_mapFields ..).trans cu, by rw [Obj.data_mapFields du]; simp [rawInt]⟩
theorem nextOf_tup_end {ip tp : Addr} {i : Nat} {ys : Array Value} {Q : Value -> Shared -> Prop} (hh : A.handled = none) (hi : s.heap.IsTupleIter ip tp i) (ht : s.heap.IsTuple tp ys) (hx : ys[i]? = none)
  (q : ∀ h' e, Heap.ExtBut ip s.heap h' -> (∃ o, h'.get? e = some o /\ o.cls = .type "StopIteration") -> E (.ref e) { s with heap := h' }) : wpAny (model prog w) A (Builtin.SmallTypes.nextOf (.ref ip)) Q E s := by
 obtain ⟨u, hu, cu, du⟩ := id hi
 obtain ⟨v, hv, _, nv, dv⟩ := ht
 unfold Builtin.SmallTypes.nextOf
 refine wpAny_bind (wpAny_callSpecial?_slot (name := Str.ofString "__next__") hi.typeIs F.slot_tuple_iterator_next (wpAny_call_entry F.slot_tuple_iterator_next hi.typeIs F.entry_tuple_iterator_next ?_ (F.args_tuple_iterator_next_1 _)))
 show wpAny _ _ (field (.ref ip) 0 >>= _) _ _ s; refine wpAny_bind (wpAny_field hu du (x := .ref tp) rfl ?_)
 show wpAny _ _ (if (Value.ref tp == Value.none) = true then _ else _) _ _ s; rw [if_neg (show ¬ ((Value.ref tp == Value.none) = true) from Bool.false_ne_true)]
 show wpAny _ _ (field (.ref ip) 1 >>= _) _ _ s; refine wpAny_bind (wpAny_field hu du (x := .int i 0) rfl ?_)
 show wpAny _ _ (seqItems? (.ref tp) >>= _) _ _ s; refine wpAny_bind (wpAny_seqItems hv dv ?_)
 simp only [Int.toNat_natCast, hx]
 refine wpAny_bind (wpAny_rule (wpAny_bind (wpAny_setField hu du (by simp) ?_)))
 show wpAny _ _ (newExc (.type "StopIteration") [] >>= _) _ _ _; refine wpAny_bind ?_; simp only [newExc, newTuple]
 refine wpAny_bind (wpAny_newObj_type ?_ (by size_fits)); refine wpAny_bind (m := firstArgMember _ _) (wpAny_of_eq (a := Value.none) (by first | rfl | (simp only [firstArgMember]; rfl)) ?_)
 refine wpAny_newObj_type ?_ (by size_fits); simp only [raiseNew]
 refine wpAny_bind (wpAny_handled ?_); first | rw [show A.in1.handled = none from hh] | rw [hh]
 refine wpAny_bind (wpAny_pure (wpAny_throw ?_)); exact q _ _ (((Heap.SameBut.update ..).extBut.push _).push _) ⟨_, Heap.get?_push_size _ rfl, rfl⟩
end
theorem draws_tup {prog : Program} {w : World} {A : Around} (hh : A.handled = none) (ip tp : Addr) (hne : tp ≠ ip) (ys : Array Value) : Draws prog w A ip [ip, tp] ys.size (fun i v => ys[i]? = some v) (fun i h => h.IsTupleIter ip tp i /\ h.IsTuple tp ys) where
 live := fun _ _ z => let ⟨o, ho, _⟩ := z.1; ⟨o, ho⟩
 frame := fun _ _ _ z k => ⟨z.1.at fun o e => k ip (by simp) o e, z.2.at fun o e => k tp (by simp) o e⟩
 item := fun i s Q E hi z q => nextOf_tup_item z.1 z.2 (x := ys[i]) (by simp [hi]) fun h' a b => q _ h' s.toks (by simp [hi]) ⟨a, z.2.extBut b.extBut hne⟩ b
 done := fun s Q E z q => nextOf_tup_end hh z.1 z.2 (by simp) q
open AutoSeq1 (wpAny_loadPart') in
set_option maxRecDepth 100000 in
theorem meets_enum_tup (tp : Addr) (ys : Array Value) (n : Nat) (dd : Option Addr) (ss : Array (Option Value)) :
  Meets (Builtin.«enumerate.__new__» ⟨[.type "enumerate", .ref tp], []⟩) (fun _ R s => s.heap.get? tp = some { cls := .type "tuple", dict := dd, data := .seq ys n, slots := ss } /\
   R (.ok (.ret (.ref (s.heap.push { cls := .type "tuple_iterator", data := .fields #[.ref tp, .int 0 0] }).objs.size)))
    { s with heap := (s.heap.push { cls := .type "tuple_iterator", data := .fields #[.ref tp, .int 0 0] }).push { cls := .type "enumerate", data := .fields #[.none, .bool false, .ref s.heap.objs.size, rawInt 0, .none, .none] } }) :=
 .of_wp fun prog w A R s h => by
  obtain ⟨hp, g, d, tk, os⟩ := s; obtain ⟨hl, h⟩ := h
  have hsub := sub_enumerate
  have hT : Heap.IsTuple (Shared.heap ⟨hp, g, d, tk, os⟩) tp ys := ⟨_, hl, rfl, n, rfl⟩
  wp_walk using wpAny_loadPart' hl
  refine wpAny_stack_any fun st => wpAny_pure ?_
  split
  ·rename_i c _ _ _ _ _
   cases (c == Value.type "enumerate")
   ·wp_walk using wpAny_loadPart' hl, wpAny_pyIter_tuple hT; exact ⟨_, rfl, h⟩
   ·wp_walk using wpAny_loadPart' hl, wpAny_pyIter_tuple hT; exact ⟨_, rfl, h⟩
  ·wp_walk using wpAny_loadPart' hl, wpAny_pyIter_tuple hT; exact ⟨_, rfl, h⟩
section
variable {prog : Program} {w : World} {A : Around} {E : Value -> Shared -> Prop} {s : Shared}
theorem call_enum_tup {tp : Addr} {ys : Array Value} {Q : Value -> Shared -> Prop} (hT : s.heap.IsTuple tp ys)
  (q : ∀ h', IsEnum h' (s.heap.objs.size + 1) s.heap.objs.size 0 .none -> h'.IsTupleIter s.heap.objs.size tp 0 -> h'.objs.size = s.heap.objs.size + 2 -> (∀ b o, s.heap.get? b = some o -> h'.get? b = some o) -> Q (.ref (s.heap.objs.size + 1)) { s with heap := h' }) :
  wpAny (model prog w) A (call (.type "enumerate") [.ref tp]) Q E s := by
 obtain ⟨⟨c, dd, dt, ss⟩, hl, hc, n, hd⟩ := hT
 replace hc : c = .type "tuple" := hc
 replace hd : dt = .seq ys n := hd
 subst hc hd
 refine callType_new F.called_enumerate (by decide) (F.typeCall_enumerate_1 _) (F.newCall_enumerate_1 _) (fun obj => F.args_object_init_2 obj _) F.entry_enumerate_new (meets_enum_tup tp ys n dd ss) ⟨hl, ?_⟩
 have hz : (s.heap.push { cls := .type "tuple_iterator", data := .fields #[.ref tp, .int 0 0] }).objs.size = s.heap.objs.size + 1 := Heap.size_push ..
 show _ /\ _
 rw [hz]
 have he : IsEnum ((s.heap.push { cls := .type "tuple_iterator", data := .fields #[.ref tp, .int 0 0] }).push { cls := .type "enumerate", data := .fields #[.none, .bool false, .ref s.heap.objs.size, rawInt 0, .none, .none] }) (s.heap.objs.size + 1) s.heap.objs.size 0 .none := by
  have := Heap.get?_push_size (s.heap.push { cls := .type "tuple_iterator", data := .fields #[.ref tp, .int 0 0] }) (o := { cls := .type "enumerate", data := .fields #[.none, .bool false, .ref s.heap.objs.size, rawInt 0, .none, .none] }) rfl
  rw [hz] at this; exact this
 exact ⟨⟨_, he, rfl⟩, q _ he ⟨_, Heap.get?_push_of_some _ (Heap.get?_push_size _ rfl), rfl, rfl⟩ (by rw [Heap.size_push, hz]) fun b o x => Heap.get?_push_of_some _ (Heap.get?_push_of_some _ x)⟩
end
def Itm (K : W.Frag) (a : Addr) : It :=
 ⟨fun i H => ∃ xs x, SqT K H a xs /\ xs[i]? = some x, fun i H x H' => ∃ t v, H t = none /\ x = .ref t /\ (∀ xs, SqT K H a xs -> xs[i]? = some v) /\ H' = upd H t (.tup [.int i, v]), fun i H => ∃ xs, SqT K H a xs /\ xs.length = i⟩
def iEnumT (K : W.Frag) (ta : TA) : TI := fun σ H R => ta σ H fun vs H1 => ∃ a, vs = [.ref a] /\ (∃ xs, SqT K H1 a xs) /\ R (Itm K a) H1
theorem turn_enumT {P : Program} {w : World} {K : W.Frag} {elts : List Expr} {x1 : Nat} {pos : Pos} (a ip e : Addr) (hne : e ≠ ip) : Turn P w K (.Tuple elts x1 pos) (Itm K a) [e, ip] e (fun i h => (∃ old, IsEnum h e ip (i : Int) old) /\ h.IsTupleIter ip a i) where
 mem := by simp
 obj := fun i h st b hb => by
  obtain ⟨⟨old, he⟩, o, ho, hc, hd⟩ := st
  rcases List.mem_cons.mp hb with rfl | hb
  ·exact ⟨_, he, fun v z => by cases z⟩
  ·obtain rfl : b = ip := by simpa using hb
   exact ⟨o, ho, fun v z => by rw [hd] at z; cases z⟩
 keep := fun i h h' st k => ⟨let ⟨old, he⟩ := st.1; ⟨old, k e (by simp) _ he⟩, st.2.at fun o q => k ip (by simp) o q⟩
 item := by
  intro X hP hw hK hc i pins s σ H E I hf st hg
  subst hP hw hK
  obtain ⟨xs, x, hq, hx⟩ := hg
  obtain ⟨⟨old, he⟩, hit⟩ := st
  obtain ⟨its, rv, p, hz⟩ := I.tuple hq
  obtain ⟨u, hu, ru⟩ := rv.get hx
  obtain ⟨f0, f1, f2, f3, f4, f5⟩ := hf e (by simp)
  obtain ⟨g0, g1, g2, g3, g4, g5⟩ := hf ip (by simp)
  have pT : s.heap.IsTuple a its.toArray := p
  have nai : a ≠ ip := fun z => by
   obtain ⟨o1, h1, c1, _⟩ := id pT
   obtain ⟨o2, h2, c2, _⟩ := id hit
   rw [z, h2] at h1; cases h1; rw [c2] at c1; injection c1 with c1; exact absurd c1 (by decide)
  have nae : a ≠ e := fun z => by
   obtain ⟨o1, h1, c1, _⟩ := id pT
   rw [z, show s.heap.get? e = _ from he] at h1; cases h1; injection c1 with c1; exact absurd c1 (by decide)
  have ui : its.toArray[i]? = some u := by simpa using hu
  have hlt' : i < its.toArray.size := by
   rcases Nat.lt_or_ge i its.toArray.size with h | h
   ·exact h
   ·rw [Array.getElem?_eq_none h] at ui; cases ui
  refine wpAny_pyNext_enum_itemD (draws_tup (A := X.A.in1) (I.ok.hd hc) ip a nai its.toArray) he ⟨hit, pT⟩ hlt' hne (by simp [hne, Ne.symm nae]) fun v h1 tk hv heo st1 ht1 hz1 hk1 => ?_
  have ev : v = u := by have := hv.symm.trans ui; cases this; rfl
  subst ev
  have hit1 := st1.1
  refine ⟨_, rfl, ?_⟩
  refine wpAny_letOwnedTupleGo_enum heo fun h2 he2 hs2 => ?_
  have hlt : e < s.heap.objs.size := Heap.lt_size he
  have hs2' : Heap.SameBut e h1 h2 := hs2
  have ht2 : h2.get? s.heap.objs.size = some { cls := .type "tuple", data := .seq #[.int i tk, v] } := (hs2'.2 _ (Nat.ne_of_gt hlt)).trans ht1
  have kp : ∀ b o, b ≠ e -> b ≠ ip -> s.heap.get? b = some o -> h2.get? b = some o := fun b o h1' h2' q => (hs2'.2 b h1').trans (hk1 b o h1' h2' q)
  have hT : H s.heap.objs.size = none := I.hok.fresh (Nat.le_refl _)
  have nH : ∀ b, H b ≠ none -> b ≠ e /\ b ≠ ip := fun b hb => ⟨fun z => hb (z ▸ f0), fun z => hb (z ▸ g0)⟩
  have keepH : ∀ b o, H b = some o -> upd H s.heap.objs.size (.tup [.int i, x]) b = some o := fun b o q => by rw [upd_ne (ne_of_none q hT)]; exact q
  have hok2 : HOk X.prog X.w (upd H s.heap.objs.size (.tup [.int i, x])) h2 := fun b o eb => by
   by_cases hb : b = s.heap.objs.size
   ·subst hb
    rw [upd_same] at eb
    cases eb
    exact ⟨by show 2 <= sizeLine; decide, [.int i tk, v], .cons ⟨_, rfl⟩ (.cons ru .nil), ⟨_, ht2, rfl, _, rfl⟩⟩
   ·rw [upd_ne hb] at eb
    refine (I.hok b o eb).stay (fun c v hcc q => kp c v ?_ ?_ q) (fun c q => keepH c _ q) fun c ys q => keepH c _ q
    ·rcases hcc with z | z
     ·exact (nH c (by rw [z, eb]; simp)).1
     ·exact (nH c (by rw [z]; simp)).1
    ·rcases hcc with z | z
     ·exact (nH c (by rw [z, eb]; simp)).2
     ·exact (nH c (by rw [z]; simp)).2
  have I2 : Inv X pins σ (upd H s.heap.objs.size (.tup [.int i, x])) { s with heap := h2, toks := tk + 1 } := by
   refine I.step (g' := s.gens) (d' := s.drawn) (t' := tk + 1) (ch := [e, ip]) (fun b hb => ?_) (fun b o _ _ hcc q _ => kp b o (fun z => hcc (by simp [z])) (fun z => hcc (by simp [z])) q) (fun b o _ _ hcc q _ => ⟨o.slots, kp b o (fun z => hcc (by simp [z])) (fun z => hcc (by simp [z])) q⟩) (fun b o _ q n => ?_)
    (fun b o hcc q => ⟨o, kp b o (fun z => hcc (by simp [z])) (fun z => hcc (by simp [z])) q⟩) (fun b ys q => keepH b _ q) (fun b o v q => keepH b _ q) (fun b ps q => ⟨#[], by rw [keepH b _ q]; simp⟩) (fun m hm => ?_) hok2 I.bare
   ·rcases List.mem_cons.mp hb with rfl | hb
    ·exact ⟨f3, f1, f4, f5⟩
    ·obtain rfl : b = ip := by simpa using hb
     exact ⟨g3, g1, g4, g5⟩
   ·rw [upd_ne (Nat.ne_of_lt (Heap.lt_size q))]
    exact n
   ·obtain ⟨o, es, ep, ho, r⟩ := hm
    exact ⟨o, es, ep, kp _ o (Ne.symm f1) (Ne.symm g1) ho, r⟩
  have hilt : ip < s.heap.objs.size := by
   obtain ⟨o, ho, _⟩ := id hit
   exact Heap.lt_size ho
  refine ⟨.ref s.heap.objs.size, _, I2, rfl, ⟨s.heap.objs.size, x, hT, rfl, fun ys hy => by rw [I.tuple_inj hy hq]; exact hx, rfl⟩, ⟨⟨v, ?_⟩, ?_⟩, fun b hb => ?_⟩
  ·have := he2
   rw [show ((i : Int) + 1) = (((i + 1 : Nat) : Int)) by simp] at this
   exact this
  ·exact hit1.at fun o q => (hs2'.2 ip (Ne.symm hne)).trans q
  ·rcases List.mem_cons.mp hb with rfl | hb
   ·rw [upd_ne (Nat.ne_of_lt hlt)]; exact f0
   ·obtain rfl : b = ip := by simpa using hb
    rw [upd_ne (Nat.ne_of_lt hilt)]
    exact g0
 done := by
  intro X hP hw hK hc i pins s σ H E I hf st hg
  subst hP hw hK
  obtain ⟨xs, hq, hx⟩ := hg
  obtain ⟨⟨old, he⟩, hit⟩ := st
  obtain ⟨its, rv, p, hz⟩ := I.tuple hq
  obtain ⟨g0, g1, g2, g3, g4, g5⟩ := hf ip (by simp)
  have hl := rv.length
  have pT : s.heap.IsTuple a its.toArray := p
  have nai : a ≠ ip := fun z => by
   obtain ⟨o1, h1, c1, _⟩ := id pT
   obtain ⟨o2, h2, c2, _⟩ := id hit
   rw [z, h2] at h1; cases h1; rw [c2] at c1; injection c1 with c1; exact absurd c1 (by decide)
  have ei : i = its.toArray.size := by rw [List.size_toArray]; omega
  refine wpAny_pyNext_enum_endD (draws_tup (A := X.A.in1) (I.ok.hd hc) ip a nai its.toArray) he ⟨by rw [<- ei]; exact hit, pT⟩ fun h' eb => ⟨rfl, I.turned (t' := s.toks) (fun b o hb q => eb b o hb q) g0 g1 g3 g4 g5⟩
 self := fun _ _ _ _ _ st h => let ⟨⟨old, he⟩, _⟩ := st; wpAny_pyIter_enum he h
section
variable {X : Cx}
theorem pi_enumT {a : Expr} {ta : TA} {elts : List Expr} {x1 : Nat} {tpos p pos : Pos} (hg : Gl X "enumerate") (hm : X.mg "enumerate" = none) (ha : PA X [a] ta) (hv : bootBuiltins "enumerate" = some (.type "enumerate") := by rfl) (hs : starEach [a] X.env = [(false, eval a X.env)] := by rfl) :
  PI X (.Tuple elts x1 tpos) (.Call (.Name "enumerate" p) [a] [] pos) (iEnumT X.K ta) := by
 intro pins s σ H R I h
 refine Call_ (ld_blt I hg hm hv (PyProof.Rows.callWith_type1 (thn (ha pos pins s σ H _ I h) fun us s1 ⟨vs, H1, I1, r1, q1⟩ => ?_) hs rfl))
 obtain ⟨b, e, ⟨xs, hq⟩, q⟩ := q1
 subst e
 obtain ⟨u, rfl, rx⟩ := vals1 r1
 cases rx
 obtain ⟨its, rv, pl, hz⟩ := I1.tuple hq
 refine call_enum_tup (show s1.heap.IsTuple b its.toArray from pl) fun h' he hit hsz kp => ?_
 refine wpAny_pyIter_enum he ?_
 have hne : s1.heap.objs.size + 1 ≠ s1.heap.objs.size := Nat.succ_ne_self _
 refine ⟨s1.heap.objs.size + 1, [s1.heap.objs.size + 1, s1.heap.objs.size], _, _, H1, rfl, I1.kept (t' := s1.toks) kp, turn_enumT b s1.heap.objs.size (s1.heap.objs.size + 1) hne, ⟨⟨_, he⟩, hit⟩, fun c hc => ?_, q⟩
 rcases List.mem_cons.mp hc with rfl | hc
 ·exact I1.fpOk (Nat.le_succ _) (I1.hok.fresh (Nat.le_succ _))
 ·obtain rfl : c = s1.heap.objs.size := by simpa using hc
  exact I1.fpOk (Nat.le_refl _) (I1.hok.fresh (Nat.le_refl _))
theorem call_sumT (hc : X.calm = true) : CallR X (.builtin "sum") (fun xs H Q => ∃ (p : Addr) (ns : List Int), xs = [.ref p] /\ SqT X.K H p (ns.map V.int) /\ Q (.int ns.sum) H) := by
 intro pins s σ H xs us Q I r h
 obtain ⟨p, ns, rfl, hq, q⟩ := h
 obtain ⟨u, rfl, rx⟩ := vals1 r
 cases rx
 obtain ⟨its, r', pl, hz⟩ := I.tuple hq
 have hi : IntsAre its ns := intsAre_of r'
 obtain ⟨ys, e⟩ := hi.allInts.items
 refine PySem.W.ktm_sumG (xs := ys) (I.ok.hd hc) (by rw [<- e]; exact pl) fun h' tk t' hk => ⟨.int ns.sum, H, I.kept (t' := tk) hk, ⟨t', ?_⟩, q⟩
 have e2 : numsOf (intItems ys).toList = ns := by rw [<- e]; exact hi.numsOf
 rw [nums_intItems] at e2
 rw [preSum_eq, List.take_of_length_le (by simp), e2]
end
end L2
namespace L2
open PySem PySem.Spec PyProof.Rows
section
variable {X : Cx}
theorem pi_or {tg it : Expr} {w1 w2 : TI} (h1 : PI X tg it w1) (h2 : PI X tg it w2) : PI X tg it (fun σ H R => w1 σ H R \/ w2 σ H R) :=
 fun pins s σ H R I h => h.elim (h1 pins s σ H R I) (h2 pins s σ H R I)
theorem call_sumS (hc : X.calm = true) : CallR X (.builtin "sum") (fun xs H Q => ∃ (p : Addr) (ns : List Int), xs = [.ref p] /\ (SqL X.K H p (ns.map V.int) \/ SqT X.K H p (ns.map V.int)) /\ Q (.int ns.sum) H) :=
 fun pins s σ H xs us Q I r ⟨p, ns, e, hq, q⟩ => hq.elim (fun h => call_sum hc pins s σ H xs us Q I r ⟨p, ns, e, h, q⟩) fun h => call_sumT hc pins s σ H xs us Q I r ⟨p, ns, e, h, q⟩
end
theorem comp_enumG {D : Addr} {J : It} {S : Hp -> Prop} {ys : List V} {g : TG} {tt : TT} {te : TE} {Qd : Hp -> Prop} {σ0 : St} {H0 : Hp}
  (hst : ∀ i H, S H -> ys.length = i -> J.stop i H) (hgo : ∀ i H, S H -> i < ys.length -> J.go i H) (hy : ∀ i H x H'', S H -> J.yld i H x H'' -> ∃ (t : Addr) (v : V), H t = none /\ x = .ref t /\ ys[i]? = some v /\ H'' = upd H t (.tup [.int i, v]))
  (Pv : Nat -> List V -> St -> Hp -> Prop) (h0 : Pv 0 [] σ0 H0) (hz : ys.length <= sizeLine) (hl : ∀ i xs σ H, i <= ys.length -> Pv i xs σ H -> S H /\ H D = some (.lst xs) /\ xs.length <= i)
  (hs : ∀ i xs x t σ H (N : List V -> St -> Hp -> Prop), (∀ xs' σ' H', Pv (i + 1) xs' σ' H' -> N xs' σ' H') -> ys[i]? = some x -> Pv i xs σ H -> H t = none -> g (.ref t) σ (upd H t (.tup [.int i, x])) fun σ2 H2 => tt σ2 H2 fun b H3 => if b = true then te σ2 H3 fun v H4 => H4 D = some (.lst xs) /\ N (xs ++ [v]) σ2 (upd H4 D (.lst (xs ++ [v]))) else N xs σ2 H3)
  (hd : ∀ xs σ H, Pv ys.length xs σ H -> Qd H) :
  ∃ W : Nat -> Nat -> List V -> St -> Hp -> Prop, (∃ m, W 0 m [] σ0 H0) /\ ∀ i m xs σ' H', W i m xs σ' H' -> H' D = some (.lst xs) /\ ((J.stop i H' /\ Qd H') \/ (J.go i H' /\ xs.length < sizeLine /\ ∀ x H'', J.yld i H' x H'' -> g x σ' H'' fun σ2 H2 => tt σ2 H2 fun b H3 =>
   if b = true then te σ2 H3 fun v H4 => H4 D = some (.lst xs) /\ ∃ m', m' < m /\ W (i + 1) m' (xs ++ [v]) σ2 (upd H4 D (.lst (xs ++ [v]))) else ∃ m', m' < m /\ W (i + 1) m' xs σ2 H3)) := by
 refine ⟨fun i m xs σ H => m = ys.length - i /\ i <= ys.length /\ Pv i xs σ H, ⟨ys.length, by simp, Nat.zero_le _, h0⟩, ?_⟩
 rintro i m xs σ H ⟨rfl, hi, p⟩
 obtain ⟨q, hD, hx⟩ := hl i xs σ H hi p
 refine ⟨hD, ?_⟩
 by_cases hlt : i < ys.length
 ·refine .inr ⟨hgo i H q hlt, by omega, fun x H'' y => ?_⟩
  obtain ⟨t, v, ht, e, hv, e'⟩ := hy i H x H'' q y
  subst e e'
  exact hs i xs v t σ _ (fun zs σ' H' => ∃ m', m' < ys.length - i /\ m' = ys.length - (i + 1) /\ i + 1 <= ys.length /\ Pv (i + 1) zs σ' H') (fun zs σ' H' r => ⟨_, by omega, rfl, hlt, r⟩) hv p ht
 ·have e : i = ys.length := by omega
  subst e
  exact .inl ⟨hst _ H q rfl, hd xs σ H p⟩
theorem itn_st {K : W.Frag} {a : Addr} {ys : List V} (i : Nat) (H : Hp) (q : SqL K H a ys) (h : ys.length = i) : (Itn K a).stop i H := ⟨ys, q, Nat.le_of_eq h⟩
theorem itn_go {K : W.Frag} {a : Addr} {ys : List V} (i : Nat) (H : Hp) (q : SqL K H a ys) (h : i < ys.length) : (Itn K a).go i H := ⟨ys, ys[i], q, by simp [h]⟩
theorem itn_y {K : W.Frag} {a : Addr} {ys : List V} (i : Nat) (H : Hp) (x : V) (H'' : Hp) (q : SqL K H a ys) (y : (Itn K a).yld i H x H'') : ∃ (t : Addr) (v : V), H t = none /\ x = .ref t /\ ys[i]? = some v /\ H'' = upd H t (.tup [.int i, v]) := by
 obtain ⟨t, v, ht, e, hv, e'⟩ := y
 exact ⟨t, v, ht, e, hv ys q, e'⟩
theorem itm_st {K : W.Frag} {a : Addr} {ys : List V} (i : Nat) (H : Hp) (q : SqT K H a ys) (h : ys.length = i) : (Itm K a).stop i H := ⟨ys, q, h⟩
theorem itm_go {K : W.Frag} {a : Addr} {ys : List V} (i : Nat) (H : Hp) (q : SqT K H a ys) (h : i < ys.length) : (Itm K a).go i H := ⟨ys, ys[i], q, by simp [h]⟩
theorem itm_y {K : W.Frag} {a : Addr} {ys : List V} (i : Nat) (H : Hp) (x : V) (H'' : Hp) (q : SqT K H a ys) (y : (Itm K a).yld i H x H'') : ∃ (t : Addr) (v : V), H t = none /\ x = .ref t /\ ys[i]? = some v /\ H'' = upd H t (.tup [.int i, v]) := by
 obtain ⟨t, v, ht, e, hv, e'⟩ := y
 exact ⟨t, v, ht, e, hv ys q, e'⟩
theorem comp_enumS {K : W.Frag} {a : Addr} {ys : List V} {g : TG} {tt : TT} {te : TE} {Qd : Addr -> Hp -> Prop} {σ0 : St} {H : Hp} (hS : SqL K H a ys \/ SqT K H a ys) (hz : ys.length <= sizeLine)
  (Pv : Addr -> Nat -> List V -> St -> Hp -> Prop) (h0 : ∀ D, H D = none -> Pv D 0 [] σ0 (upd H D (.lst []))) (hl : ∀ D i xs σ H', H D = none -> i <= ys.length -> Pv D i xs σ H' -> Same H H' /\ H' D = some (.lst xs) /\ xs.length <= i)
  (hs : ∀ D i xs x t σ H' (N : List V -> St -> Hp -> Prop), H D = none -> (∀ xs' σ' H'', Pv D (i + 1) xs' σ' H'' -> N xs' σ' H'') -> ys[i]? = some x -> Pv D i xs σ H' -> H' t = none -> g (.ref t) σ (upd H' t (.tup [.int i, x])) fun σ2 H2 => tt σ2 H2 fun b H3 => if b = true then te σ2 H3 fun v H4 => H4 D = some (.lst xs) /\ N (xs ++ [v]) σ2 (upd H4 D (.lst (xs ++ [v]))) else N xs σ2 H3)
  (hd : ∀ D xs σ H', H D = none -> Pv D ys.length xs σ H' -> Qd D H') :
  (∃ b, [V.ref a] = [V.ref b] /\ (∃ xs, SqL K H b xs) /\ ∀ D, H D = none -> ∃ W : Nat -> Nat -> List V -> St -> Hp -> Prop, (∃ m, W 0 m [] σ0 (upd H D (.lst []))) /\ ∀ i m xs σ' H', W i m xs σ' H' -> H' D = some (.lst xs) /\ (((Itn K b).stop i H' /\ Qd D H') \/ ((Itn K b).go i H' /\ xs.length < sizeLine /\ ∀ x H'', (Itn K b).yld i H' x H'' -> g x σ' H'' fun σ2 H2 => tt σ2 H2 fun b H3 =>
   if b = true then te σ2 H3 fun v H4 => H4 D = some (.lst xs) /\ ∃ m', m' < m /\ W (i + 1) m' (xs ++ [v]) σ2 (upd H4 D (.lst (xs ++ [v]))) else ∃ m', m' < m /\ W (i + 1) m' xs σ2 H3))) \/
  (∃ b, [V.ref a] = [V.ref b] /\ (∃ xs, SqT K H b xs) /\ ∀ D, H D = none -> ∃ W : Nat -> Nat -> List V -> St -> Hp -> Prop, (∃ m, W 0 m [] σ0 (upd H D (.lst []))) /\ ∀ i m xs σ' H', W i m xs σ' H' -> H' D = some (.lst xs) /\ (((Itm K b).stop i H' /\ Qd D H') \/ ((Itm K b).go i H' /\ xs.length < sizeLine /\ ∀ x H'', (Itm K b).yld i H' x H'' -> g x σ' H'' fun σ2 H2 => tt σ2 H2 fun b H3 =>
   if b = true then te σ2 H3 fun v H4 => H4 D = some (.lst xs) /\ ∃ m', m' < m /\ W (i + 1) m' (xs ++ [v]) σ2 (upd H4 D (.lst (xs ++ [v]))) else ∃ m', m' < m /\ W (i + 1) m' xs σ2 H3))) := by
 rcases hS with hS | hS
 ·exact .inl ⟨a, rfl, ⟨_, hS⟩, fun D hD => comp_enumG (S := fun H' => SqL K H' a ys) itn_st itn_go itn_y (Pv D) (h0 D hD) hz (fun i xs σ H' hi p => let ⟨s, g, l⟩ := hl D i xs σ H' hD hi p; ⟨s.seq hS, g, l⟩) (fun i xs x t σ H' N kN hx p ht => hs D i xs x t σ H' N hD kN hx p ht) (fun xs σ H' p => hd D xs σ H' hD p)⟩
 ·exact .inr ⟨a, rfl, ⟨_, hS⟩, fun D hD => comp_enumG (S := fun H' => SqT K H' a ys) itm_st itm_go itm_y (Pv D) (h0 D hD) hz (fun i xs σ H' hi p => let ⟨s, g, l⟩ := hl D i xs σ H' hD hi p; ⟨s.seqT hS, g, l⟩) (fun i xs x t σ H' N kN hx p ht => hs D i xs x t σ H' N hD kN hx p ht) (fun xs σ H' p => hd D xs σ H' hD p)⟩
theorem pg_tupK {X : Cx} (K : W.Frag) (hK : X.K = K) {es : List Expr} {k : Nat} {pos : Pos} {t : TGs} {n : Nat} (hc : X.calm = true) (h : PGs X es t)
  (hn : (assignEach es X.env).length = n := by rfl) (hst : (assignEach es X.env).findIdx? (·.1) = none := by rfl) : PG X (.Tuple es k pos) (gTup K n t) := by
 subst hK
 exact pg_tup hc h hn hst
section
variable {X : Cx}
end
theorem comp_range {lo : Int} {n : Nat} {D : Addr} {g : TG} {tt : TT} {te : TE} {Qd : Hp -> Prop} {σ0 : St} {H0 : Hp} (Pv : Nat -> List V -> St -> Hp -> Prop) (h0 : Pv 0 [] σ0 H0) (hz : n <= sizeLine) (hl : ∀ i xs σ H, i <= n -> Pv i xs σ H -> H D = some (.lst xs) /\ xs.length <= i)
  (hs : ∀ i xs σ H (N : List V -> St -> Hp -> Prop), (∀ xs' σ' H', Pv (i + 1) xs' σ' H' -> N xs' σ' H') -> i < n -> Pv i xs σ H -> g (.int (lo + i)) σ H fun σ2 H2 => tt σ2 H2 fun b H3 => if b = true then te σ2 H3 fun v H4 => H4 D = some (.lst xs) /\ N (xs ++ [v]) σ2 (upd H4 D (.lst (xs ++ [v]))) else N xs σ2 H3)
  (hd : ∀ xs σ H, Pv n xs σ H -> Qd H) :
  ∃ W : Nat -> Nat -> List V -> St -> Hp -> Prop, (∃ m, W 0 m [] σ0 H0) /\ ∀ i m xs σ' H', W i m xs σ' H' -> H' D = some (.lst xs) /\ (((Itr lo n).stop i H' /\ Qd H') \/ ((Itr lo n).go i H' /\ xs.length < sizeLine /\ ∀ x H'', (Itr lo n).yld i H' x H'' -> g x σ' H'' fun σ2 H2 => tt σ2 H2 fun b H3 =>
   if b = true then te σ2 H3 fun v H4 => H4 D = some (.lst xs) /\ ∃ m', m' < m /\ W (i + 1) m' (xs ++ [v]) σ2 (upd H4 D (.lst (xs ++ [v]))) else ∃ m', m' < m /\ W (i + 1) m' xs σ2 H3)) := by
 refine ⟨fun i m xs σ H => m = n - i /\ i <= n /\ Pv i xs σ H, ⟨n, by simp, Nat.zero_le _, h0⟩, ?_⟩
 rintro i m xs σ H ⟨rfl, hi, p⟩
 obtain ⟨hD, hx⟩ := hl i xs σ H hi p
 refine ⟨hD, ?_⟩
 by_cases hlt : i < n
 ·refine .inr ⟨hlt, by omega, fun x H'' y => ?_⟩
  obtain ⟨e, y⟩ := y
  subst e y
  exact hs i xs σ _ (fun zs σ' H' => ∃ m', m' < n - i /\ m' = n - (i + 1) /\ i + 1 <= n /\ Pv (i + 1) zs σ' H') (fun zs σ' H' r => ⟨_, by omega, rfl, hlt, r⟩) hlt p
 ·obtain rfl : i = n := by omega
  exact .inl ⟨Nat.le_refl _, hd xs σ H p⟩
end L2
namespace Web
open PySem L2
def cntP (ks : List (List Int)) (p : Nat) : Nat := ks.countP fun k => decide ((p : Int) ∈ k)
end Web
namespace L2
open PySem PySem.Spec PyProof.Rows
section
variable {M : Model} {A : Around} {Er : Value -> Shared -> Prop} {s : Shared}
end
section
variable {P : Program} {w : World} {K : W.Frag} {mg : Str -> Option Value} {base : Heap} {N : List Str} {qual : Str} {scope : Scope} {f : Addr} {cd : Value} {A : Around} {outer : List Env} {s : Shared} {H : Hp} {E : XK}
 {pins : List (Addr × Obj)} {σ : St} {H1 : Hp} {s1 : Shared}
end
section
variable {P : Program} {w : World} {K : W.Frag} {mg : Str -> Option Value} {base : Heap} {N : List Str} {qual : Str} {scope : Scope} {f : Addr} {cd : Value} {A : Around} {outer : List Env} {s : Shared} {H : Hp} {E : XK}
 {pins : List (Addr × Obj)} {σ : St}
end
section
variable {P : Program} {w : World} {K : W.Frag} {mg : Str -> Option Value} {base : Heap} {N : List Str} {qual : Str} {scope0 : Scope} {f : Addr} {cd : Value} {A : Around} {outer : List Env} {s0 : Shared} {H0 : Hp} {E : XK} {X : Cx}
end
section
variable {X : Cx}
theorem comp_core {elt iter tg : Expr} {ifs : List Expr} {scope : Scope} {pos ipos : Pos} {cl : List (Str × Addr)} {N' : List Str} {lk : List (Option Nat)} {wi : TI} {g : TG} {tt : TT} {te : TE} {use : Option (Value -> Sem Unit)} {R : Value -> Shared -> Prop} {Q : VK} {pins : List (Addr × Obj)} {s : Shared} {σ : St} {H : Hp}
  (hc : X.calm = true) (hi : PI X tg iter wi) (hclos : closureFor scope X.env = pure cl) (hkind : scope.kind = .function)
  (hnames : ∀ y ∈ scope.names, y.2 = .local -> scope.names.lookup y.1 = some .local) (hcl : ClOk X.env cl) (hfr : FrOk scope.names cl = true) (hlk : LkOk X N' lk scope cl)
  (hg : ∀ s3 H3 fp, PG (compCx X scope cl N' s3 H3 fp fun _ _ => False) tg g) (ht : ∀ s3 H3 fp, PTs (compCx X scope cl N' s3 H3 fp fun _ _ => False) ifs tt) (he : ∀ s3 H3 fp, PE (compCx X scope cl N' s3 H3 fp fun _ _ => False) elt te)
  (hs : ∀ x, foldedSetIterable iter X.env x = pure x) (I : Inv X pins σ H s) (h : tComp wi lk g tt te σ H Q)
  (hend : ∀ (C D : Addr) (s' : Shared) (H' : Hp), Inv X pins σ H' s' -> Q (.ref D) H' -> H' C = none -> C ≠ X.env.locals -> X.s₀.heap.objs.size <= C -> (∀ x c, X.env.cells.lookup x = some c -> c ≠ C) -> (∀ p ∈ X.pn ++ pins, p.1 ≠ C) -> (∃ m, s'.heap.Ns C m) ->
   compPost (model X.prog X.w) X.A X.xe use R (.ref D) C (.ok .next) s') :
  wpAny (model X.prog X.w) X.A (comprehension (.ListComp elt [⟨tg, iter, ifs, 0⟩] scope pos) scope X.env ipos (newList []) false (eval iter X.env) use) R X.xe s := by
 have hcellN : ∀ y ∈ scope.names, y.2 ≠ .cell := fun y hy => by
  unfold FrOk at hfr
  rw [List.all_eq_true] at hfr
  have := hfr y hy
  rw [Bool.and_eq_true] at this
  simpa using this.1
 refine wpAny_comprehension_free (use := use) rfl hs hclos hkind hnames (thn (hi pins s σ H _ I h) fun v s1 h1 => thn h1 fun itv s2 h2 => ?_)
 obtain ⟨it, fp, tn, J, H2, e, I2, T, st2, f2, q⟩ := h2
 subst e
 refine wpAny_newList ?_ (Nat.zero_le _)
 have hD : H2 s2.heap.objs.size = none := I2.hok.fresh (Nat.le_refl _)
 have I3 := I2.lnew (ys := []) (its := []) (t' := s2.toks) .nil (Nat.zero_le _)
 obtain ⟨W, ⟨m0, w0⟩, turn⟩ := q s2.heap.objs.size hD
 have fpl : ∀ b ∈ fp, b < s2.heap.objs.size := fun b hb => by
  obtain ⟨o, ho, _⟩ := T.obj 0 s2.heap st2 b hb
  exact Heap.lt_size ho
 refine wpAny_newFunctionEnv hcellN (by intro y hy; cases hy) (fun h1 hns1 hsb1 => ?_) hkind
 dsimp only at hns1 hsb1 ⊢
 -- the state ahead of the frame, the block's context
 have e3 : s2.heap.push { cls := .type "list", dict := none, data := .seq ([] : List Value).toArray } = s2.heap.push { cls := .type "list", data := .seq ([] : List Value).toArray } := rfl
 generalize hh3 : s2.heap.push { cls := .type "list", dict := none, data := .seq ([] : List Value).toArray } = h3 at *
 have I3' : Inv X pins σ (upd H2 s2.heap.objs.size (.lst [])) { s2 with heap := h3, toks := s2.toks } := I3
 have size3 : h3.objs.size = s2.heap.objs.size + 1 := by rw [<- hh3, Heap.size_push]
 have f3 : ∀ b ∈ fp, FpOk X pins (upd H2 s2.heap.objs.size (.lst [])) b := fun b hb => by
  obtain ⟨f0, fr⟩ := f2 b hb
  exact ⟨by rw [upd_ne (Nat.ne_of_lt (fpl b hb))]; exact f0, fr⟩
 have up : ∀ b u, h3.get? b = some u -> h1.get? b = some u := fun b u eb => by
  rw [hsb1.2 b (Nat.ne_of_lt (Heap.lt_size eb))]
  exact Heap.get?_push_of_some _ eb
 have I4 : Inv (compCx X scope cl N' { s2 with heap := h3, toks := s2.toks } (upd H2 s2.heap.objs.size (.lst [])) fp fun _ _ => False) [] (capt lk σ) (upd H2 s2.heap.objs.size (.lst [])) { s2 with heap := h1, toks := s2.toks + ([] : List (Str × Value)).length } :=
  comp_start (s3 := { s2 with heap := h3, toks := s2.toks }) I3' f3 hkind hcl hfr hlk hns1 up fun b hb => by show b < h3.objs.size; rw [size3]; exact Nat.lt_succ_of_lt (fpl b hb)
 have st4 : tn 0 h1 := T.keep 0 s2.heap h1 st2 fun b hb o eb => up b o (by rw [<- hh3]; exact Heap.get?_push_of_some _ eb)
 have hCs : h3.objs.size = (compEnvC scope cl h3.objs.size X.env).locals := rfl
 -- what stays true of the iterator's objects
 have stat : ∀ {H' : Hp}, (∀ b ∈ fp, H' b = none) -> ∀ b ∈ fp, FpOk (compCx X scope cl N' { s2 with heap := h3, toks := s2.toks } (upd H2 s2.heap.objs.size (.lst [])) fp fun _ _ => False) [] H' b := fun {H'} hn b hb => by
  obtain ⟨f0, f1, f2', f3', f4, f5⟩ := f3 b hb
  refine ⟨hn b hb, ?_, fun z => ?_, .inl hb, fun x c ex => f4 x c (hcl.get ex), fun p hp => nomatch hp⟩
  ·show b ≠ h3.objs.size
   rw [size3]
   exact Nat.ne_of_lt (Nat.lt_succ_of_lt (fpl b hb))
  ·rcases List.mem_cons.mp (I3'.stkSub b z) with q | q
   ·exact f1 q
   ·exact f2' q
 -- the block's end
 have fin : ∀ (s' : Shared) (σ' : St) (H' : Hp), Inv (compCx X scope cl N' { s2 with heap := h3, toks := s2.toks } (upd H2 s2.heap.objs.size (.lst [])) fp fun _ _ => False) [] σ' H' s' -> Q (.ref s2.heap.objs.size) H' ->
   compPost (model X.prog X.w) X.A X.xe use R (.ref s2.heap.objs.size) h3.objs.size (.ok .next) s' := fun s' σ' H' I' q' => by
  obtain ⟨m, hm, _⟩ := id I'.loc
  have I5 : Inv X pins σ H' s' := I3'.call' (ch := fp) I'.os I'.base I'.hok I'.bare fun b hb => by
   obtain ⟨f0, f1, f2', f3', f4, f5⟩ := f3 b hb
   exact ⟨f3', f1, f4, f5⟩
  exact hend h3.objs.size s2.heap.objs.size s' H' I5 q' I'.free (Nat.ne_of_gt I3'.lt) I3'.sz (fun x c ex z => by
   obtain ⟨v', q2⟩ := I3'.cell x c ex
   exact absurd q2.lt (by rw [z]; exact Nat.lt_irrefl _)) (fun p hp z => absurd (Heap.lt_size (I3'.pin p hp).1) (by rw [z]; exact Nat.lt_irrefl _)) ⟨m, hm⟩
 have loop : ∀ s5 : Shared, s5 = { s2 with heap := h1, toks := s2.toks + ([] : List (Str × Value)).length } ->
   codeAny (model X.prog X.w) X.A (.compLoop (.ListComp elt [⟨tg, iter, ifs, 0⟩] scope pos) 0 (.ref it) (.ref s2.heap.objs.size) (compEnvC scope cl h3.objs.size X.env)) (compPost (model X.prog X.w) X.A X.xe use R (.ref s2.heap.objs.size) h3.objs.size) s5 := by
  rintro s5 rfl
  refine codeAny_loop rfl (fun n s' => ∃ i xs σ' H', Inv (compCx X scope cl N' { s2 with heap := h3, toks := s2.toks } (upd H2 s2.heap.objs.size (.lst [])) fp fun _ _ => False) [] σ' H' s' /\ tn i s'.heap /\ (∀ b ∈ fp, H' b = none) /\ W i n xs σ' H')
   (fun n s6 hI => ?_) m0 ⟨0, [], capt lk σ, _, I4, st4, fun b hb => (f3 b hb).1, w0⟩
  obtain ⟨i, xs, σ6, H6, I6, st6, fr6, w6⟩ := hI
  show wpAny _ X.A ((compTurn (.ListComp elt [⟨tg, iter, ifs, 0⟩] scope pos) 0 (.ref it) (.ref s2.heap.objs.size) (compEnvC scope cl h3.objs.size X.env)).onRaise (fun x => do noteFrame x (compEnvC scope cl h3.objs.size X.env); theTreesLotGoes x)) _ _ s6
  refine wpAny_noted ?_
  rw [compTurn_list]
  refine wpAny_bind (wpAny_standAt (wpAny_bind ?_))
  obtain ⟨hD6, hw⟩ := turn i n xs σ6 H6 w6
  rcases hw with ⟨stop, qn⟩ | ⟨go, hlen, step⟩
  ·refine thn (T.done (compCx X scope cl N' { s2 with heap := h3, toks := s2.toks } (upd H2 s2.heap.objs.size (.lst [])) fp fun _ _ => False) rfl rfl rfl hc i [] s6 σ6 H6 _ I6 (stat fr6) st6 stop) fun r s7 ⟨hr, I7⟩ => ?_
   subst hr
   exact wpAny_pure (fin s7 σ6 H6 I7 qn)
  ·refine thn (T.item (compCx X scope cl N' { s2 with heap := h3, toks := s2.toks } (upd H2 s2.heap.objs.size (.lst [])) fp fun _ _ => False) rfl rfl rfl hc i [] s6 σ6 H6 _ I6 (stat fr6) st6 go) fun r s7 ⟨u, hr, h7⟩ => ?_
   subst hr
   refine wpAny_bind (thn h7 fun _ s8 ⟨x, H8, I8, r8, y8, st8, fr8⟩ => ?_)
   have I8' := I8.pinned (stat fr8) (T.obj _ _ st8)
   refine wpAny_bind (wpAny_mono (hg _ _ _ _ s8 σ6 H8 x u _ I8' r8 (step x H8 y8)) (fun _ s9 ⟨σ9, H9, I9, q9⟩ => ?_) (fun _ _ z => False.elim z))
   refine wpAny_bind (wpAny_mono (ht _ _ _ _ s9 σ9 H9 _ I9 q9) (fun ok s10 ⟨H10, I10, q10⟩ => ?_) (fun _ _ z => False.elim z))
   have again : ∀ {σ' : St} {H' : Hp} {ys : List V} {s' : Shared}, Inv (compCx X scope cl N' { s2 with heap := h3, toks := s2.toks } (upd H2 s2.heap.objs.size (.lst [])) fp fun _ _ => False) ([] ++ pinsAt fp s8.heap) σ' H' s' -> (∃ m', m' < n /\ W (i + 1) m' ys σ' H') ->
     ∃ m', m' < n /\ ∃ i xs σ' H', Inv (compCx X scope cl N' { s2 with heap := h3, toks := s2.toks } (upd H2 s2.heap.objs.size (.lst [])) fp fun _ _ => False) [] σ' H' s' /\ tn i s'.heap /\ (∀ b ∈ fp, H' b = none) /\ W i m' xs σ' H' := fun {σ' H' ys s'} I' ⟨m', hm, w'⟩ => by
    refine ⟨m', hm, i + 1, ys, σ', H', I'.unpinned, T.keep _ _ _ st8 fun b hb o eb => (I'.pin (b, o) (List.mem_append_right _ (List.mem_append_right _ (mem_pinsAt hb eb)))).1, fun b hb => ?_, w'⟩
    obtain ⟨o, eb, _⟩ := T.obj _ _ st8 b hb
    exact (I'.pin (b, o) (List.mem_append_right _ (List.mem_append_right _ (mem_pinsAt hb eb)))).2.1
   cases ok with
   | false =>
    have q10' : ∃ m', m' < n /\ W (i + 1) m' xs σ9 H10 := by simpa using q10
    exact wpAny_pure ⟨rfl, again I10 q10'⟩
   | true =>
    rw [if_pos rfl] at q10
    refine wpAny_bind (wpAny_bind (wpAny_mono (he _ _ _ _ s10 σ9 H10 _ I10 q10) (fun y s11 ⟨v11, H11, I11, r11, hD11, q11⟩ => ?_) (fun _ _ z => False.elim z)))
    refine wpAny_bind (wpAny_mono (mt_append (X := compCx X scope cl N' { s2 with heap := h3, toks := s2.toks } (upd H2 s2.heap.objs.size (.lst [])) fp fun _ _ => False) _ s11 σ9 H11 (.ref s2.heap.objs.size) [v11] (.ref s2.heap.objs.size) [y] (fun _ H' => ∃ m', m' < n /\ W (i + 1) m' (xs ++ [v11]) σ9 H') I11 rfl (.cons r11 .nil) ⟨s2.heap.objs.size, xs, v11, rfl, rfl, hD11, hlen, q11⟩) (fun _ s12 ⟨_, H12, I12, _, q12⟩ => ?_) (fun _ _ z => False.elim z))
    exact wpAny_pure (wpAny_pure ⟨rfl, again I12 q12⟩)
 exact codeAny_compStart_list (loop _ rfl) (T.self X.A 0 _ _ _ st4 (loop _ rfl))
def tSetC (i : Nat) (t : TE) : TS := fun D σ H => t σ H fun v H1 => D.nx (σ.set i (some v)) H1
theorem ps_setC {i : Nat} {y : Str} {py : Pos} {elt iter tg : Expr} {ifs : List Expr} {scope : Scope} {pos spos : Pos} {cl : List (Str × Addr)} {N' : List Str} {lk : List (Option Nat)} {wi : TI} {g : TG} {tt : TT} {te : TE}
  (hN : X.N.Nodup) (hy : X.N[i]? = some y) (hyl : X.env.scope.names.lookup y = some .local)
  (hsw : swapsWith (.ListComp elt [⟨tg, iter, ifs, 0⟩] scope pos) (some (.Name y py)) spos.line X.env = pure true)
  (hc : X.calm = true) (hi : PI X tg iter wi) (hclos : closureFor scope X.env = pure cl) (hkind : scope.kind = .function)
  (hnames : ∀ y ∈ scope.names, y.2 = .local -> scope.names.lookup y.1 = some .local) (hcl : ClOk X.env cl) (hfr : FrOk scope.names cl = true) (hlk : LkOk X N' lk scope cl)
  (hg : ∀ s3 H3 fp, PG (compCx X scope cl N' s3 H3 fp fun _ _ => False) tg g) (ht : ∀ s3 H3 fp, PTs (compCx X scope cl N' s3 H3 fp fun _ _ => False) ifs tt) (he : ∀ s3 H3 fp, PE (compCx X scope cl N' s3 H3 fp fun _ _ => False) elt te)
  (hs : ∀ x, foldedSetIterable iter X.env x = pure x := by intro _; rfl) : PS X (.Assign [.Name y py] (.ListComp elt [⟨tg, iter, ifs, 0⟩] scope pos) spos) (tSetC i (tComp wi lk g tt te)) := by
 intro pins s σ H D I h
 rw [exec_Assign_Name_used _ _ _ _ hsw]
 refine wpAny_bind (wpAny_standAt (wpAny_bind ?_))
 show wpAny _ X.A (do let _ <- comprehension (.ListComp elt [⟨tg, iter, ifs, 0⟩] scope pos) scope X.env _ (newList []) false (eval iter X.env) (some (assign (.Name y py) X.env))) _ _ s
 refine wpAny_bind (thn (comp_core (use := some (assign (.Name y py) X.env)) (R := fun _ s' => SP X pins D .next s') hc hi hclos hkind hnames hcl hfr hlk hg ht he hs I h
  fun C Dd s' H' I' q' hC hCL hCs hCc hCp ⟨m, hm⟩ => ?_) fun _ s' hq => wpAny_pure (wpAny_pure hq))
 show wpAny _ X.A (assign (.Name y py) X.env (.ref Dd)) _ _ s'
 refine wpAny_assign_Name (store_ok2 (v := .ref Dd) I' hN hy (.inl hyl) rfl (fun s2 I2 ⟨a, hsb, ha⟩ => ?_) (.inr hyl))
 have hCa : C ≠ a := by
  rcases ha with z | z
  ·rw [z]; exact hCL
  ·exact (hCc y a z).symm
 refine ⟨m, hm.sameBut hsb hCa, fun h' hs' => ?_⟩
 obtain ⟨h0, g0, d0, t0, o0⟩ := s2
 exact ⟨_, H', I2.turned (t' := t0) (it := C) (fun b o hb eb => (hs'.2 b hb).trans eb) hC hCL (.inr hCs) hCc hCp, q'⟩
end
end L2
namespace Grf
def S : Nat -> (Nat -> Int) -> Int
 | 0, _ => 0
 | n + 1, f => S n f + f n
theorem S_congr {f g : Nat -> Int} : ∀ {n : Nat}, (∀ i, i < n -> f i = g i) -> S n f = S n g
 | 0, _ => rfl
 | n + 1, h => by
  show S n f + f n = S n g + g n
  rw [S_congr fun i hi => h i (by omega), h n (by omega)]
theorem S_le {f g : Nat -> Int} : ∀ {n : Nat}, (∀ i, i < n -> f i <= g i) -> S n f <= S n g
 | 0, _ => Int.le_refl _
 | n + 1, h => by
  have h1 := S_le (n := n) fun i hi => h i (by omega)
  have h2 := h n (by omega)
  show S n f + f n <= S n g + g n
  omega
theorem S_add (f g : Nat -> Int) : ∀ n : Nat, S n (fun i => f i + g i) = S n f + S n g
 | 0 => rfl
 | n + 1 => by
  show S n (fun i => f i + g i) + (f n + g n) = S n f + f n + (S n g + g n)
  rw [S_add f g n]
  omega
theorem S_sub (f g : Nat -> Int) : ∀ n : Nat, S n (fun i => f i - g i) = S n f - S n g
 | 0 => rfl
 | n + 1 => by
  show S n (fun i => f i - g i) + (f n - g n) = S n f + f n - (S n g + g n)
  rw [S_sub f g n]
  omega
theorem S_zero : ∀ n : Nat, S n (fun _ => 0) = 0
 | 0 => rfl
 | n + 1 => by
  show S n (fun _ => 0) + 0 = 0
  rw [S_zero n]; rfl
theorem S_const (c : Int) : ∀ n : Nat, S n (fun _ => c) = (n : Int) * c
 | 0 => by simp [S]
 | n + 1 => by
  show S n (fun _ => c) + c = ((n + 1 : Nat) : Int) * c
  rw [S_const c n, show ((n + 1 : Nat) : Int) = (n : Int) + 1 by omega, Int.add_mul, Int.one_mul]
theorem S_mul (c : Int) (f : Nat -> Int) : ∀ n : Nat, S n (fun i => c * f i) = c * S n f
 | 0 => by simp [S]
 | n + 1 => by
  show S n (fun i => c * f i) + c * f n = c * (S n f + f n)
  rw [S_mul c f n, Int.mul_add]
theorem S_nonneg {f : Nat -> Int} {n : Nat} (h : ∀ i, i < n -> 0 <= f i) : 0 <= S n f := by
 have := S_le (f := fun _ => 0) (g := f) (n := n) h
 rw [S_zero] at this
 exact this
theorem S_swap (f : Nat -> Nat -> Int) (m : Nat) : ∀ n : Nat, S n (fun i => S m (fun j => f i j)) = S m (fun j => S n (fun i => f i j))
 | 0 => (S_zero m).symm
 | n + 1 => by
  show S n (fun i => S m (fun j => f i j)) + S m (fun j => f n j) = S m (fun j => S n (fun i => f i j) + f n j)
  rw [S_swap f m n, <- S_add]
theorem S_one {n j : Nat} (c : Int) (h : j < n) : S n (fun i => if i = j then c else 0) = c := by
 induction n with
 | zero => omega
 | succ n ih =>
  show S n (fun i => if i = j then c else 0) + (if n = j then c else 0) = c
  by_cases e : n = j
  ·rw [if_pos e, S_congr (g := fun _ => 0) fun i hi => if_neg (by omega), S_zero]; omega
  ·rw [if_neg e, ih (by omega)]; omega
theorem S_pick {n j : Nat} {f g : Nat -> Int} (h : j < n) (hf : ∀ i, i < n -> i ≠ j -> f i = g i) : S n f = S n g + (f j - g j) := by
 have : S n f = S n (fun i => g i + (if i = j then f j - g j else 0)) := S_congr fun i hi => by
  by_cases e : i = j
  ·rw [if_pos e, e]; omega
  ·rw [if_neg e, hf i hi e]; omega
 rw [this, S_add, S_one _ h]
theorem S_ge {n j : Nat} {f : Nat -> Int} (h : j < n) (hf : ∀ i, i < n -> 0 <= f i) : f j <= S n f := by
 have h1 := S_pick (f := f) (g := fun i => if i = j then 0 else f i) h (fun i _ e => by rw [if_neg e])
 have h2 : 0 <= S n (fun i => if i = j then 0 else f i) := S_nonneg fun i hi => by
  by_cases e : i = j
  ·rw [if_pos e]; exact Int.le_refl _
  ·rw [if_neg e]; exact hf i hi
 rw [if_pos rfl] at h1
 omega
def b2 (b : Bool) : Int := if b then 1 else 0
theorem b2_t : b2 true = 1 := rfl
theorem b2_f : b2 false = 0 := rfl
theorem b2_nonneg (b : Bool) : 0 <= b2 b := by cases b <;> decide
theorem b2_le (b : Bool) : b2 b <= 1 := by cases b <;> decide
structure Gph (g : Nat -> Nat -> Bool) : Prop where
 sym : ∀ i j, g i j = g j i
 irr : ∀ i, g i i = false
def deg (n : Nat) (g : Nat -> Nat -> Bool) (i : Nat) : Int := S n fun j => b2 (g i j)
def setE (g : Nat -> Nat -> Bool) (a b : Nat) (v : Bool) : Nat -> Nat -> Bool := fun i j => if (i = a /\ j = b) \/ (i = b /\ j = a) then v else g i j
end Grf
namespace Grf
structure Ex (g : Nat -> Nat -> Bool) (a b c d : Nat) : Prop where
 ab : a ≠ b
 ac : a ≠ c
 ad : a ≠ d
 bc : b ≠ c
 bd : b ≠ d
 cd : c ≠ d
 t1 : g a b = true
 t2 : g c d = true
 n1 : g a d = false
 n2 : g c b = false
end Grf
namespace Grf
def cnt (n : Nat) (a : Nat -> Bool) : Int := S n fun i => b2 (a i)
def sm (n : Nat) (a : Nat -> Bool) (d : Nat -> Int) : Int := S n fun i => if a i = true then d i else 0
def put (a : Nat -> Bool) (j : Nat) (v : Bool) : Nat -> Bool := fun i => if i = j then v else a i
theorem cnt_nonneg (n : Nat) (a : Nat -> Bool) : 0 <= cnt n a := S_nonneg fun i _ => b2_nonneg _
theorem cnt_two {n : Nat} {a b : Nat -> Bool} (h : ∀ i, a i = true -> b i = false) : cnt n a + cnt n b <= n := by
 unfold cnt
 rw [<- S_add]
 have := S_le (f := fun i => b2 (a i) + b2 (b i)) (g := fun _ => 1) (n := n) (fun i _ => by
  show b2 (a i) + b2 (b i) <= 1
  cases ha : a i with
  | true => rw [h i ha]; decide
  | false => have := b2_le (b i); rw [b2_f]; omega)
 rw [S_const] at this
 omega
theorem cnt_zero {n : Nat} {a : Nat -> Bool} (h : ∀ i, i < n -> a i = false) : cnt n a = 0 := by
 unfold cnt
 rw [S_congr (g := fun _ => 0) fun i hi => by rw [h i hi]; rfl]
 exact S_zero n
theorem sm_zero {n : Nat} {a : Nat -> Bool} {d : Nat -> Int} (h : ∀ i, i < n -> a i = false) : sm n a d = 0 := by
 unfold sm
 rw [S_congr (g := fun _ => 0) fun i hi => by rw [h i hi]; rfl]
 exact S_zero n
theorem sm_nonneg {n : Nat} {a : Nat -> Bool} {d : Nat -> Int} (hd : ∀ i, i < n -> 0 <= d i) : 0 <= sm n a d := S_nonneg fun i hi => by
 cases a i with
 | true => exact hd i hi
 | false => exact Int.le_refl _
theorem cnt_pos {n : Nat} {a : Nat -> Bool} (h : cnt n a ≠ 0) : ∃ i, i < n /\ a i = true := by
 by_cases hc : ∃ i, i < n /\ a i = true
 ·exact hc
 ·exact absurd (cnt_zero fun i hi => by
   cases ha : a i with
   | false => rfl
   | true => exact absurd ⟨i, hi, ha⟩ hc) h
end Grf
namespace Grf
theorem argmin {p : Nat -> Prop} {f : Nat -> Int} : ∀ {n : Nat}, (∃ i, i < n /\ p i) -> ∃ u, u < n /\ p u /\ ∀ i, i < n -> p i -> f u <= f i := by
 intro n
 induction n with
 | zero => rintro ⟨i, h, _⟩; omega
 | succ n ih =>
  rintro ⟨i, hi, pi⟩
  by_cases h : ∃ i, i < n /\ p i
  ·obtain ⟨u, hu, pu, hm⟩ := ih h
   by_cases c : p n /\ f n < f u
   ·refine ⟨n, by omega, c.1, fun j hj pj => ?_⟩
    by_cases e : j = n
    ·rw [e]; exact Int.le_refl _
    ·have := hm j (by omega) pj; have := c.2; omega
   ·refine ⟨u, by omega, pu, fun j hj pj => ?_⟩
    by_cases e : j = n
    ·subst e
     have : ¬ f j < f u := fun z => c ⟨pj, z⟩
     omega
    ·exact hm j (by omega) pj
  ·have e : i = n := by
    by_cases e : i = n
    ·exact e
    ·exact absurd ⟨i, by omega, pi⟩ h
   subst e
   refine ⟨i, by omega, pi, fun j hj pj => ?_⟩
   by_cases e : j = i
   ·rw [e]; exact Int.le_refl _
   ·exact absurd ⟨j, by omega, pj⟩ h
end Grf
namespace Grf
def mnf (r x : Int) : Int := if r < x then r else x
theorem mnf_le1 (r x : Int) : mnf r x <= x := by unfold mnf; split <;> omega
theorem mnf_le2 (r x : Int) : mnf r x <= r := by unfold mnf; split <;> omega
theorem mnf_mono {r x y : Int} (h : x <= y) : mnf r x <= mnf r y := by unfold mnf; split <;> split <;> omega
def roomF (n : Nat) (d : Nat -> Int) (A : Nat -> Bool) : Int := cnt n A * (cnt n A - 1) + S n (fun i => if A i = true then 0 else mnf (cnt n A) (d i)) - sm n A d
def Top (n : Nat) (d : Nat -> Int) (A : Nat -> Bool) : Prop := ∀ i j, i < n -> j < n -> A i = true -> A j = false -> d j <= d i
theorem top_most {n : Nat} {d : Nat -> Int} {A a : Nat -> Bool} {φ : Int -> Int} (hφ : ∀ x y, x <= y -> φ x <= φ y) (ht : Top n d A) (hc : cnt n a = cnt n A) : sm n a (fun i => φ (d i)) <= sm n A (fun i => φ (d i)) := by
 by_cases h0 : cnt n A = 0
 ·have za : ∀ i, i < n -> a i = false := fun i hi => by
   cases h : a i with
   | false => rfl
   | true =>
    have := S_ge (f := fun i => b2 (a i)) hi (fun i _ => b2_nonneg _)
    have e : b2 (a i) = 1 := by rw [h]; rfl
    have t : b2 (a i) <= cnt n a := this
    omega
  have zA : ∀ i, i < n -> A i = false := fun i hi => by
   cases h : A i with
   | false => rfl
   | true =>
    have := S_ge (f := fun i => b2 (A i)) hi (fun i _ => b2_nonneg _)
    have e : b2 (A i) = 1 := by rw [h]; rfl
    have t : b2 (A i) <= cnt n A := this
    omega
  rw [sm_zero za, sm_zero zA]
  exact Int.le_refl _
 ·obtain ⟨m, hm, hAm, hmin⟩ := argmin (p := fun i => A i = true) (f := d) (cnt_pos h0)
  have key : S n (fun i => (if a i = true then φ (d i) else 0) - (if A i = true then φ (d i) else 0)) <= S n (fun i => φ (d m) * b2 (a i) - φ (d m) * b2 (A i)) := S_le fun i hi => by
   cases ha : a i with
   | true =>
    cases hA : A i with
    | true => rw [if_pos rfl]; omega
    | false =>
     rw [if_pos rfl, if_neg (by decide), b2_t, b2_f, Int.mul_one, Int.mul_zero]
     have := hφ _ _ (ht m i hm hi hAm hA)
     omega
   | false =>
    cases hA : A i with
    | true =>
     rw [if_pos rfl, if_neg (by decide), b2_t, b2_f, Int.mul_one, Int.mul_zero]
     have := hφ _ _ (hmin i hi hA)
     omega
    | false => rw [if_neg (by decide)]; omega
  rw [S_sub, S_sub, S_mul, S_mul] at key
  have e : φ (d m) * S n (fun i => b2 (a i)) = φ (d m) * S n (fun i => b2 (A i)) := by
   show φ (d m) * cnt n a = φ (d m) * cnt n A
   rw [hc]
  show S n (fun i => if a i = true then φ (d i) else 0) <= S n (fun i => if A i = true then φ (d i) else 0)
  omega
end Grf
namespace Web
open L2
def rng (n : Nat) : List Int := (List.range' 0 n).map fun k : Nat => (k : Int)
theorem rng_mem {n : Nat} {x : Int} : x ∈ rng n ↔ 0 <= x /\ x < n := by
 unfold rng
 constructor
 ·intro h
  obtain ⟨k, hk, rfl⟩ := List.mem_map.mp h
  have := List.mem_range'_1.mp hk
  omega
 ·intro h
  exact List.mem_map.mpr ⟨x.toNat, List.mem_range'_1.mpr ⟨by omega, by omega⟩, by omega⟩
theorem rng_len (n : Nat) : (rng n).length = n := by unfold rng; rw [List.length_map, List.length_range']
theorem rng_nodup (n : Nat) : (rng n).Nodup := by
 unfold rng
 refine List.Pairwise.map _ (fun a b h => ?_) (List.nodup_range' (step := 1) (by decide))
 intro e
 exact h (by omega)
def rest (zs : List Int) (p : Int) : List Int := zs.filter fun x => decide (x ≠ p)
open Grf (S b2 Gph deg cnt sm Top roomF)
theorem S_range (f : Nat -> Int) : ∀ n : Nat, S n f = ((List.range n).map f).sum
 | 0 => rfl
 | n + 1 => by
  rw [List.range_succ, List.map_append, sum_app, <- S_range f n]
  show S n f + f n = _ + (f n + 0)
  omega
theorem map_getD (φ : Int -> Int) (xs : List Int) : (List.range xs.length).map (fun i => φ (xs.getD i 0)) = xs.map φ := by
 refine List.ext_getElem? fun i => ?_
 rw [List.getElem?_map, List.getElem?_map]
 rcases Nat.lt_or_ge i xs.length with h | h
 ·rw [List.getElem?_range h, List.getElem?_eq_getElem h]
  show some (φ (xs.getD i 0)) = some (φ xs[i])
  rw [List.getD_eq_getElem?_getD, List.getElem?_eq_getElem h]
  rfl
 ·rw [List.getElem?_eq_none h, List.getElem?_eq_none (by rw [List.length_range]; exact h)]
  rfl
theorem S_list (φ : Int -> Int) (xs : List Int) : S xs.length (fun i => φ (xs.getD i 0)) = (xs.map φ).sum := by rw [S_range, map_getD]
theorem S_sum (xs : List Int) : S xs.length (fun i => xs.getD i 0) = xs.sum := by
 have := S_list (fun x => x) xs
 rw [List.map_id'] at this
 exact this
theorem S_in {n : Nat} {f : Nat -> Int} : ∀ {L : List Int}, L.Nodup -> (∀ z ∈ L, 0 <= z /\ z < n) -> S n (fun i => if (i : Int) ∈ L then f i else 0) = (L.map fun z => f z.toNat).sum
 | [], _, _ => by
  rw [Grf.S_congr (g := fun _ => 0) fun i _ => by simp]
  exact Grf.S_zero n
 | z :: L, nd, h => by
  obtain ⟨h1, h2⟩ := List.nodup_cons.mp nd
  obtain ⟨z0, z1⟩ := h z List.mem_cons_self
  rw [List.map_cons, List.sum_cons, <- S_in h2 fun y hy => h y (List.mem_cons_of_mem _ hy)]
  rw [Grf.S_pick (j := z.toNat) (f := fun i => if (i : Int) ∈ z :: L then f i else 0) (g := fun i => if (i : Int) ∈ L then f i else 0) (by omega) (fun i _ hi => by
   show (if (i : Int) ∈ z :: L then f i else 0) = if (i : Int) ∈ L then f i else 0
   by_cases e : (i : Int) ∈ L
   ·rw [if_pos e, if_pos (List.mem_cons_of_mem _ e)]
   ·rw [if_neg e, if_neg (fun c => by
     rcases List.mem_cons.mp c with c | c
     ·exact hi (by omega)
     ·exact e c)])]
  show _ + ((if ((z.toNat : Nat) : Int) ∈ z :: L then f z.toNat else 0) - (if ((z.toNat : Nat) : Int) ∈ L then f z.toNat else 0)) = _
  have ez : ((z.toNat : Nat) : Int) = z := by omega
  rw [ez, if_pos List.mem_cons_self, if_neg h1]
  omega
theorem rng_map (ns : List Int) : (rng ns.length).map (fun z => ns.getD z.toNat 0) = ns := by
 unfold rng
 rw [List.map_map, <- List.range_eq_range']
 have := map_getD (fun x => x) ns
 rw [List.map_id'] at this
 exact this
theorem order_fall {ns zs : List Int} (hp : zs.Perm (rng ns.length)) (hs : zs.Pairwise (ole ns)) : zs.map (fun z => ns.getD z.toNat 0) = (up2 ns).reverse := by
 refine fall_eq ?_ ?_
 ·have := hp.map (fun z : Int => ns.getD z.toNat 0)
  rw [rng_map] at this
  exact this
 ·refine List.Pairwise.map _ (fun a b h => ?_) hs
  have := ole_iff.mp h
  show ns.getD b.toNat 0 <= ns.getD a.toNat 0
  omega
theorem order_top {ns zs : List Int} (hp : zs.Perm (rng ns.length)) (hs : zs.Pairwise (ole ns)) {r : Nat} (hr : r <= ns.length) :
  cnt ns.length (fun i => decide ((i : Int) ∈ zs.take r)) = r /\ Top ns.length (fun i => ns.getD i 0) (fun i => decide ((i : Int) ∈ zs.take r)) /\ roomF ns.length (fun i => ns.getD i 0) (fun i => decide ((i : Int) ∈ zs.take r)) = roomN ns r := by
 have nd : zs.Nodup := hp.nodup_iff.mpr (rng_nodup _)
 have hzl : zs.length = ns.length := by rw [hp.length_eq, rng_len]
 have hin : ∀ z ∈ zs, 0 <= z /\ z < (ns.length : Int) := fun z hz => rng_mem.mp (hp.mem_iff.mp hz)
 have ndA : (zs.take r).Nodup := nd.sublist (List.take_sublist r zs)
 have ndB : (zs.drop r).Nodup := nd.sublist (List.drop_sublist r zs)
 have inA : ∀ z ∈ zs.take r, 0 <= z /\ z < (ns.length : Int) := fun z hz => hin z (List.mem_of_mem_take hz)
 have inB : ∀ z ∈ zs.drop r, 0 <= z /\ z < (ns.length : Int) := fun z hz => hin z (List.mem_of_mem_drop hz)
 have app := nd
 rw [<- List.take_append_drop r zs] at app
 have cross := (List.nodup_append.mp app).2.2
 have mem_or : ∀ i : Nat, i < ns.length -> (i : Int) ∈ zs.take r \/ (i : Int) ∈ zs.drop r := fun i hi => by
  have : (i : Int) ∈ zs := hp.mem_iff.mpr (rng_mem.mpr ⟨by omega, by omega⟩)
  rw [<- List.take_append_drop r zs] at this
  exact List.mem_append.mp this
 have hc : cnt ns.length (fun i => decide ((i : Int) ∈ zs.take r)) = r := by
  have := S_in (n := ns.length) (f := fun _ => 1) ndA inA
  have e : cnt ns.length (fun i => decide ((i : Int) ∈ zs.take r)) = S ns.length (fun i => if (i : Int) ∈ zs.take r then 1 else 0) := Grf.S_congr fun i _ => by
   by_cases c : (i : Int) ∈ zs.take r
   ·rw [if_pos c]; simp [b2, c]
   ·rw [if_neg c]; simp [b2, c]
  rw [e, this]
  have l : (zs.take r).length = r := by rw [List.length_take]; omega
  have : ∀ L : List Int, (L.map fun _ => (1 : Int)).sum = L.length := fun L => by
   induction L with
   | nil => rfl
   | cons a L ih => rw [List.map_cons, List.sum_cons, ih, List.length_cons]; omega
  rw [this, l]
 refine ⟨hc, fun i j hi hj h1 h2 => ?_, ?_⟩
 ·have a1 : (i : Int) ∈ zs.take r := of_decide_eq_true h1
  have a2 : (j : Int) ∈ zs.drop r := (mem_or j hj).resolve_left (of_decide_eq_false h2)
  have pw := hs
  rw [<- List.take_append_drop r zs] at pw
  have := ole_iff.mp ((List.pairwise_append.mp pw).2.2 _ a1 _ a2)
  rw [Int.toNat_natCast, Int.toNat_natCast] at this
  show ns.getD j 0 <= ns.getD i 0
  omega
 ·have of := order_fall hp hs
  have rm := room_among (ns := ns) (r := r) of
  unfold roomF
  rw [hc, <- rm, <- List.map_drop, <- List.map_take, List.map_map]
  have s1 : sm ns.length (fun i => decide ((i : Int) ∈ zs.take r)) (fun i => ns.getD i 0) = ((zs.take r).map fun z => ns.getD z.toNat 0).sum := by
   rw [<- S_in (n := ns.length) (f := fun i => ns.getD i 0) ndA inA]
   refine Grf.S_congr fun i _ => ?_
   show (if decide ((i : Int) ∈ zs.take r) = true then ns.getD i 0 else 0) = _
   by_cases c : (i : Int) ∈ zs.take r
   ·rw [if_pos c, decide_eq_true c, if_pos rfl]
   ·rw [if_neg c, decide_eq_false c, if_neg (by decide)]
  have s2 : S ns.length (fun i => if decide ((i : Int) ∈ zs.take r) = true then 0 else Grf.mnf r (ns.getD i 0)) = ((zs.drop r).map (mn r ∘ fun z => ns.getD z.toNat 0)).sum := by
   have := S_in (n := ns.length) (f := fun i => mn r (ns.getD i 0)) ndB inB
   show _ = ((zs.drop r).map fun z => mn r (ns.getD z.toNat 0)).sum
   rw [<- this]
   refine Grf.S_congr fun i hi => ?_
   by_cases c : (i : Int) ∈ zs.take r
   ·rw [decide_eq_true c, if_pos rfl, if_neg (fun z => cross _ c _ z rfl)]
   ·rw [decide_eq_false c, if_neg (by decide), if_pos ((mem_or i hi).resolve_left c)]
    rfl
  rw [s1, s2]
theorem ord_is (ns : List Int) : ∃ zs : List Int, zs.Perm (rng ns.length) /\ zs.Pairwise (ole ns) := by
 let le : Int -> Int -> Bool := fun x y => decide (ns.getD y.toNat 0 < ns.getD x.toNat 0 \/ (ns.getD x.toNat 0 = ns.getD y.toNat 0 /\ x <= y))
 refine ⟨(rng ns.length).mergeSort le, List.mergeSort_perm _ _, ?_⟩
 have := List.pairwise_mergeSort (le := le) (fun a b c h1 h2 => ?_) (fun a b => ?_) (rng ns.length)
 ·exact this.imp fun h => ole_iff.mpr (of_decide_eq_true h)
 ·have g1 := of_decide_eq_true h1
  have g2 := of_decide_eq_true h2
  exact decide_eq_true (by omega)
 ·rw [Bool.or_eq_true]
  by_cases h : ns.getD b.toNat 0 < ns.getD a.toNat 0 \/ (ns.getD a.toNat 0 = ns.getD b.toNat 0 /\ a <= b)
  ·exact .inl (decide_eq_true h)
  ·exact .inr (decide_eq_true (by omega))
theorem allp_get {ns : List Int} (h : AllP ns) {i : Nat} (hi : i < ns.length) : 0 <= ns.getD i 0 := by
 rw [List.getD_eq_getElem?_getD, List.getElem?_eq_getElem hi]
 exact h i _ (List.getElem?_eq_getElem hi)
end Web
namespace Web
open L2
open Grf (S b2 Gph deg setE)
theorem pair_in {n i j : Nat} (h1 : i < j) (h2 : j < n) : [(i : Int), (j : Int)] ∈ pairsN n := by
 unfold pairsN
 refine List.mem_flatMap.mpr ⟨i, List.mem_range.mpr (by omega), ?_⟩
 unfold rowF
 exact List.mem_map.mpr ⟨j - (i + 1), List.mem_range.mpr (by omega), by
  rw [show ((j - (i + 1) : Nat) : Int) = (j : Int) - ((i : Int) + 1) by omega]
  rw [show (i : Int) + 1 + ((j : Int) - ((i : Int) + 1)) = (j : Int) by omega]⟩
end Web
namespace Web
open L2
open Grf (S b2 Gph deg cnt sm Top roomF)
end Web
namespace Web
open L2
structure LayI (ns ps left : List Int) (ks : List (List Int)) : Prop where
 len : left.length = ps.length
 nd : ps.Nodup
 inn : ∀ q ∈ ps, 0 <= q /\ q < ns.length
 ends : ∀ k ∈ ks, Ends2 ns.length k
 nodup : (ks.map up).Nodup
 out : ∀ a b : Int, [a, b] ∈ ks -> ¬ (a ∈ ps /\ b ∈ ps)
 cnt : ∀ i q : Nat, ps[i]? = some (q : Int) -> (cntP ks q : Int) + left.getD i 0 = ns.getD q 0
 done : ∀ q : Nat, q < ns.length -> (q : Int) ∉ ps -> (cntP ks q : Int) = ns.getD q 0
theorem nodup_le : ∀ {l m : List (List Int)}, l.Nodup -> (∀ x ∈ l, x ∈ m) -> l.length <= m.length
 | [], m, _, _ => Nat.zero_le _
 | x :: l, m, nd, h => by
  have h1 := List.nodup_cons.mp nd
  have hm := h x List.mem_cons_self
  have h2 : ∀ y ∈ l, y ∈ m.erase x := fun y hy => by
   have hne : y ≠ x := fun e => h1.1 (e ▸ hy)
   exact (List.mem_erase_of_ne hne).mpr (h y (List.mem_cons_of_mem _ hy))
  have h3 := nodup_le h1.2 h2
  rw [List.length_erase_of_mem hm] at h3
  have h4 : 0 < m.length := List.length_pos_of_mem hm
  simp only [List.length_cons]
  omega
theorem ups_le {n : Nat} (hn : n <= 24) {ks : List (List Int)} (nd : ks.Nodup) (h : ∀ k ∈ ks, Up n k) : ks.length <= 276 :=
 Nat.le_trans (nodup_le nd fun k hk => by
  obtain ⟨i, j, h1, h2, rfl⟩ := h k hk
  exact pair_in h1 h2) (len_pairs n hn)
end Web
namespace L2
open PySem PySem.Spec PyProof.Rows PySem.SeqAt
theorem vals_bl : ∀ {bs : List Bool} {its : List Value}, Vals (bs.map V.bl) its -> its = bs.map Value.bool
 | [], _, .nil => rfl
 | b :: bs, _, .cons r t => by rw [vals_bl t, show _ = Value.bool b from r]; rfl
section
variable {X : Cx}
end
theorem pe_ixTK {X : Cx} {a b : Expr} {pos : Pos} {ta tb : TE} (K : W.Frag) (hK : X.K = K) (ha : PE X a ta) (hb : PE X b tb) (hs : PlainIx b) : PE X (.Subscript a b pos) (tOp (rIxT K) ta tb) := by
 cases hK
 exact pe_ix ix_tup ha hb hs
theorem pe_ixSK {X : Cx} {a b : Expr} {pos : Pos} {ta tb : TE} (K : W.Frag) (hK : X.K = K) (ha : PE X a ta) (hb : PE X b tb) (hs : PlainIx b) : PE X (.Subscript a b pos) (tOp (rIx K) ta tb) := by
 cases hK
 exact pe_ix ix_seq ha hb hs
end L2
namespace L2
open PySem PySem.Spec PyProof.Rows
def rIExt : R2 := fun x y H Q => ∃ l b xs zs, x = .ref l /\ y = .ref b /\ H l = some (.lst xs) /\ H b = some (.lst zs) /\ xs.length + zs.length <= 1000 /\ Q (.ref l) (upd H l (.lst (xs ++ zs)))
theorem ifill_list : fillsInplaceSlot (.type "list") "add" true = pure false := by
 unfold fillsInplaceSlot
 show (typeLookup (.type "list") (dunderI "add") >>= fun fi => pure (fi.isSome && !isSeqSlot fi)) = pure false
 rw [F.slot_list_iadd.lookup]
 rw [pure_bind]
 congr 1
theorem iseq_list : seqSlot? (.type "list") (dunderI "add") = pure (some (.builtin "list.__iadd__")) := by
 unfold seqSlot?
 rw [F.slot_list_iadd.lookup]
 rfl
section
variable {X : Cx}
theorem ip_ext : PIp X .Add rIExt := by
 intro pins s σ H x y v u Q I rx ry h
 obtain ⟨l, b, xs, zs, rfl, rfl, hH, hB, hz, q⟩ := h
 cases rx
 cases ry
 obtain ⟨z, its, n, r, hl, e⟩ := I.lstM hH
 obtain ⟨z2, its2, n2, r2, hl2, e2⟩ := I.lstM hB
 have hln := r.length
 have hln2 := r2.length
 unfold inplaceOp
 refine wpAny_holding ?_
 refine wpAny_bind (wpAny_typeOf (T := "list") ⟨_, e, rfl⟩ (wpAny_bind (wpAny_of_eq ifill_list ?_)))
 show wpAny _ _ (if false = true then _ else _) _ _ s
 rw [if_neg Bool.false_ne_true]
 refine wpAny_bind (wpAny_binaryOp1_none (a := .ref l) (b := .ref b) (s := s) (nm := "add") (T := "list") ⟨_, e, rfl⟩ ⟨_, e2, rfl⟩ noFill_list_add ?_)
 refine wpAny_bind (wpAny_of_eq iseq_list ?_)
 refine wpAny_bind (wpAny_rule ?_)
 have hd : ¬(!its.toArray.isEmpty && Builtin.List.listTooLong (its.toArray.size + its2.toArray.size)) = true := extend_door (by rw [List.size_toArray, List.size_toArray, sizeLine_eq]; omega)
 refine call_meets F.slot_list_iadd ⟨_, e, rfl⟩ F.entry_list_iadd (F.args_list_iadd_2 _ _) (PySem.AutoSeq1.list___iadd___list_list_0 l its.toArray n b its2.toArray n2 hd (by rw [List.size_toArray, sizeLine_eq]; omega) (by rw [List.size_toArray, List.size_toArray, sizeLine_eq]; omega)) ⟨e, e2, ?_⟩
 refine ⟨.ref l, _, I.lset (its' := its ++ its2) hH e ?_ (r.append r2) ?_, rfl, q⟩
 ·show its.toArray ++ its2.toArray = _
  simp
 ·rw [List.length_append, sizeLine_eq]; omega
end
end L2
set_option Elab.async false
set_option maxRecDepth 100000
namespace L2
open PySem PySem.Spec PyProof.Rows
section
variable (P : Program) (w : World)
end
section
variable {P : Program} {w : World} {H H' : Hp} {h h' : Heap} {a : Addr} {o : HO}
end
section
variable {P : Program} {w : World} {H : Hp} {h h' : Heap} {x e : Addr} {o' : HO}
end
section
variable {fs fs' ex ex' : List Addr} {H H1 H2 : Hp} {h h1 h2 h' : Heap} {a x e : Addr} {o : HO}
end
section
variable {X : Cx} {pins : List (Addr × Obj)} {σ : List (Option V)} {H H' : Hp} {s : Shared} {h' : Heap}
end
section
variable {X : Cx}
variable {a b : Expr} {ta tb : TE} {pos : Pos}
variable {tA tB' : TT} {rest : List Expr}
end
section
variable {X : Cx} {pins : List (Addr × Obj)} {σ : St} {H : Hp} {s : Shared} {a : Addr} {xs ys : List V}
end
section
variable {X : Cx} {pins : List (Addr × Obj)} {σ : St} {H : Hp} {s : Shared} {E : Value -> Shared -> Prop}
end
section
variable {X : Cx} {st : Stmt} {rest : List Stmt} {t u : TS} {e : Expr} {te : TE} {pos : Pos}
end
section
variable {X : Cx} {pos : Pos}
end
section
variable {X : Cx} {pos : Pos}
end
section
variable {X : Cx} {tg : Expr}
end
section
variable {X : Cx} {a b c : Expr} {ta tb tc : TE} {pos : Pos}
end
section
variable {X : Cx} {a b c : Expr} {ta tb tc : TE} {pos : Pos}
end
section
variable {prog : Program} {w : World} {A : Around} {E : Value -> Shared -> Prop} {s : Shared} {K : W.Frag} {x dx C f : Addr} {mA : Str -> Option Value} {name : Str} {v : Value}
end
section
variable {P : Program} {w : World} {H H' : Hp} {h h' : Heap} {a C dx : Addr} {fs fs' : List (Str × V)}
end
section
variable {X : Cx} {pins : List (Addr × Obj)} {σ : St} {H : Hp} {s : Shared} {a C dx : Addr} {fs : List (Str × V)} {f : Str} {v : V} {A : Around} {E : Value -> Shared -> Prop}
end
section
variable {X : Cx} {o e value : Expr} {f : Str} {pos pos' tpos : Pos} {ta tv : TE}
end
section
variable {X : Cx} {pins : List (Addr × Obj)} {σ : St} {H : Hp} {s : Shared} {A : Around} {E : Value -> Shared -> Prop} {Q : Value -> Shared -> Prop} {c : Value} {b : Bool}
end
section
variable {X : Cx} {e : Expr} {es : List Expr} {te : TE} {t : TA} {pos : Pos}
end
section
variable {X : Cx} {pins : List (Addr × Obj)} {σ : St} {H : Hp} {s s' : Shared}
end
section
variable {X : Cx} {CX : CXT} {k : Nat} {f C : Addr} {fd : FuncData} {ps : List Str} {sp : Sp} {dvs : List V} {ds : List Value} {E : XK} {x m : Str} {p pos apos : Pos} {e o : Expr} {es : List Expr} {ta : TE} {t : TA}
end
section
variable {X : Cx} {CX : CXT} {k : Nat} {f C : Addr} {fd : FuncData} {ps ks : List Str} {sp : Sp} {E : XK} {x m : Str} {p pos apos kpos : Pos} {e o : Expr} {es : List Expr} {kws : List Keyword} {te ta : TE} {t tk : TA} {nm : Option Str}
variable {g : List Value -> List Value -> List Value} {gV : List V -> List V -> List V}
end
section
variable {X : Cx} {x : Str} {p pos : Pos} {e : Expr} {es : List Expr} {t : TA} {id T : String} {r : List V -> Hp -> VK -> Prop}
end
section
variable {κ : Type} [DecidableEq κ]
end
section
variable {P : Program} {w : World} {H : Hp} {h : Heap} {a : Addr}
end
section
variable {X : Cx} {pins : List (Addr × Obj)} {σ : St} {H : Hp} {s : Shared} {a : Addr} {y v : V} {u r : Value} {o : Option V} {A : Around} {E : Value -> Shared -> Prop}
end
section
variable {X : Cx} {pins : List (Addr × Obj)} {σ : St} {H : Hp} {s : Shared} {a : Addr} {kvs : List (Key × V)} {k : Key} {u : Value} {A : Around} {E : Value -> Shared -> Prop}
end
section
variable {X : Cx} {o i e value : Expr} {pos pos' tpos : Pos} {td ty tv : TE}
end
section
variable {X : Cx} {pos : Pos}
end
structure M1 (X : Cx) (o : Expr) (m : Str) (apos : Pos) (e : Expr) (cpos : Pos) : Prop where
 base : attributeBase o m X.env (eval o X.env) = eval o X.env
 few : ((backTo cpos (starEach [e] X.env)).all (fun x => !x.1) && (backToKw cpos (keywordEach [] X.env)).all (fun x => x.1.isSome)
  && decide (([e] : List Expr).length + ([] : List Keyword).length + (if ([] : List Keyword).isEmpty then 0 else 1) < 30)) = true
 line : (apos.endLine == cpos.line) = true
 trees : backTo cpos (starEach [e] X.env) = [(false, eval e X.env)]
structure M2 (X : Cx) (o : Expr) (m : Str) (apos : Pos) (e f : Expr) (cpos : Pos) : Prop where
 base : attributeBase o m X.env (eval o X.env) = eval o X.env
 few : ((backTo cpos (starEach [e, f] X.env)).all (fun x => !x.1) && (backToKw cpos (keywordEach [] X.env)).all (fun x => x.1.isSome)
  && decide (([e, f] : List Expr).length + ([] : List Keyword).length + (if ([] : List Keyword).isEmpty then 0 else 1) < 30)) = true
 line : (apos.endLine == cpos.line) = true
 trees : backTo cpos (starEach [e, f] X.env) = [(false, eval e X.env), (false, eval f X.env)]
section
variable {X : Cx} {pins : List (Addr × Obj)} {σ : St} {H : Hp} {s : Shared} {a : Addr} {y d : V} {u r : Value} {o : Option V} {A : Around} {E : Value -> Shared -> Prop}
end
section
variable {X : Cx} {o e f : Expr} {apos cpos : Pos} {td ty tx : TE}
end
section
variable {X : Cx} {pins : List (Addr × Obj)} {σ : St} {H : Hp} {s : Shared} {a : Addr} {kvs : List (Key × V)} {A : Around} {E : Value -> Shared -> Prop}
end
section
variable {X : Cx} {pins : List (Addr × Obj)} {σ : St} {H : Hp} {s : Shared} {a : Addr} {y : V} {u : Value} {A : Around} {E : Value -> Shared -> Prop}
end
end L2
namespace Att
open PySem PySem.W PySem.Calls PyProof.Rows
section
variable {prog : Program} {w : World} {A : Around} {E : Value -> Shared -> Prop} {s : Shared} {K : Frag}
end
end Att
namespace L2
open PySem PySem.Spec PyProof.Rows
section
variable {P : Program} {w : World} {K : W.Frag} {mg : Str -> Option Value} {base : Heap}
end
section
variable {X : Cx}
end
section
variable {κ : Type} [DecidableEq κ]
end
section
variable {X : Cx}
end
section
variable {X : Cx}
end
section
variable {X : Cx}
theorem call_sumK (K : W.Frag) (hK : X.K = K) (hc : X.calm = true) : CallR X (.builtin "sum") (fun xs H Q => ∃ (p : Addr) (ns : List Int), xs = [.ref p] /\ SqL K H p (ns.map V.int) /\ Q (.int ns.sum) H) := by subst hK; exact call_sum hc
end
section
variable {X : Cx}
end
end L2
namespace L2
open PySem PySem.Spec PyProof.Rows PySem.SeqAt
section
variable {prog : Program} {w : World} {A : Around} {E : Value -> Shared -> Prop} {s : Shared}
end
section
variable {prog : Program} {w : World} {A : Around} {E : Value -> Shared -> Prop} {s : Shared}
end
section
variable {X : Cx}
end
section
variable {X : Cx}
theorem bools_get {bs : List Bool} {i : Nat} {v : Value} (h : (bs.map Value.bool)[i]? = some v) : v = .bool (bs.getD i false) := by
 rw [List.getElem?_map] at h
 cases e : bs[i]? with
 | none => rw [e] at h; cases h
 | some b => rw [e] at h; cases h; rw [List.getD_eq_getElem?_getD, e]; rfl
theorem all_range (bs : List Bool) : ((List.range bs.length).all fun i => bs.getD i false) = bs.all id := by
 rw [Bool.eq_iff_iff, List.all_eq_true, List.all_eq_true]
 constructor
 ·intro h b hb
  obtain ⟨i, hi, rfl⟩ := List.mem_iff_getElem.mp hb
  have := h i (List.mem_range.mpr hi)
  rw [List.getD_eq_getElem?_getD, List.getElem?_eq_getElem hi] at this
  exact this
 ·intro h i hi
  have hi := List.mem_range.mp hi
  rw [List.getD_eq_getElem?_getD, List.getElem?_eq_getElem hi]
  exact h _ (List.getElem_mem hi)
theorem boot_all : bootBuiltins "all" = some (.builtin "all") := by decide +kernel
theorem call_allB (hc : X.calm = true) : CallR X (.builtin "all") (fun xs H Q => ∃ (l : Addr) (bs : List Bool), xs = [.ref l] /\ H l = some (.lst (bs.map V.bl)) /\ Q (.bl (bs.all id)) H) := by
 intro pins s σ H xs us Q I r h
 obtain ⟨l, bs, rfl, hH, q⟩ := h
 obtain ⟨u, rfl, rx⟩ := vals1 r
 cases rx
 obtain ⟨z, its, n, r, hl, e⟩ := I.lstM hH
 obtain rfl := vals_bl r
 have hl1 : s.heap.IsList l (bs.map Value.bool).toArray := ⟨_, e, rfl, _, rfl⟩
 refine call_all_walkS (wpAny_pyIter_list hl1 ?_)
 have hlt : l < s.heap.objs.size := Heap.lt_size e
 have hh : X.A.in1.handled = none := by simp [I.ok.hd hc]
 refine ⟨_, _, _, _, _, _, _, fun i => bs.getD i false, rfl, (Walks.list hh _ l (Nat.ne_of_lt hlt) (bs.map Value.bool).toArray).toS, ⟨⟨_, Heap.get?_push_size _ rfl, rfl, rfl⟩, hl1.push _⟩, ?_, fun s' hm => ?_⟩
 ·intro i v s Q E hv hq
  have := bools_get (bs := bs) (i := i) (v := v) (by simpa using hv)
  subst this
  exact wpAny_pure hq
 ·refine ⟨.bl (bs.all id), H, ?_, ?_, q⟩
  ·rw [Moved.eq_with hm]
   exact I.kept (t' := s'.toks) fun b o eo => hm.heap b o (fun hb => absurd (Heap.lt_size eo) (by rw [List.mem_singleton.mp hb]; exact Nat.lt_irrefl _)) (Heap.get?_push_of_some _ eo)
  ·show _ = Value.bool (bs.all id)
   rw [<- all_range]
   simp
end
section
variable {prog : Program} {w : World} {A : Around} {E : Value -> Shared -> Prop} {s : Shared}
end
section
variable {X : Cx}
end
end L2
namespace L2
open PySem PySem.Spec PyProof.Rows
def tTryN (K : W.Frag) (CT : Addr) (tb : (St -> XK) -> TS) (th : TS) : TS := fun D σ H => ∃ E : St -> XK, tb E D σ H /\ ∀ σ' cls H', E σ' cls none H' -> PySem.W.exmOne K cls (.ref CT) = some true /\ th D σ' H'
theorem ps_tryN {X : Cx} {body suite : List Stmt} {b0 : Stmt} {tn : Str} {np pos hpos : Pos} {CT : Addr} {tb : (St -> XK) -> TS} {th : TS}
  (hg : Gl X tn) (hm : X.mg tn = some (.ref CT)) (hst : X.stack = X.env :: X.outer) (hfr : X.env.frame = some X.env.locals) (hbody : ∀ pins E, PSs (tryCx X pins E) body (tb E)) (hh : ∀ v, PSs (hdCx X v) (b0 :: suite) th)
  (hd : (tn == ("__debug__" : Str)) = false := by decide) :
  PS X (.Try body [.ExceptHandler (some (.Name tn np)) none (b0 :: suite) hpos] [] [] pos) (tTryN X.K CT tb th) := by
 intro pins s σ H D I hw
 obtain ⟨E, hb, hcatch⟩ := hw
 refine wpAny_Try_except (wpAny_mono (hbody pins E [] s σ H D I.toTry hb) (fun fl s1 q => ?_) fun e s1 hx => ?_)
 ·cases fl with
  | next =>
   obtain ⟨σ', H', I', q⟩ := q
   exact wpAny_execs_nil ⟨σ', H', I'.ofTry, q⟩
  | brk => obtain ⟨σ', H', I', q⟩ := q; exact ⟨σ', H', I'.ofTry, q⟩
  | cont => obtain ⟨σ', H', I', q⟩ := q; exact ⟨σ', H', I'.ofTry, q⟩
  | ret u => obtain ⟨v, σ', H', I', r, q⟩ := q; exact ⟨v, σ', H', I'.ofTry, r, q⟩
 ·obtain ⟨σ1, H1, s0, I1, x, cls, H2, rfl, hos, hbare, u, hok, new, hxn, ⟨B, a0, fl, st⟩, hE⟩ := hx
  obtain ⟨hmat, hth⟩ := hcatch σ1 cls H2 hE
  have hfl : Heap.FlyingW B (X.env :: X.outer) x cls a0 s1.heap := by rw [hst] at fl; exact fl
  have frNone : ∀ b ∈ frs X.stack, H2 b = none := fun b hb => by
   obtain ⟨_, o, ho, _⟩ := I1.stack.mem hb
   exact u.free b o ho (I1.stkFree b hb) (by simp)
  have step : ∀ h', B.StaysIn h' -> s1.heap.UpToSlots h' -> Un (frs X.stack) [] H1 H2 s0.heap h' /\ HOk X.prog X.w H2 h' := fun h' hB hu => by
   refine ⟨u.onto (fun b o ho hh hno => hB b o (st b o ho (.inr hh) hno)) fun b o ho hh hm' => ?_, hok.stays fun b o ho hh => hB b o (st b o ho (.inl hh) fun hm' => hh (frNone b hm'))⟩
   obtain ⟨_, o', ho', hdd⟩ := hfl.2.2.1.mem (b := b) (by rw [hst] at hm'; exact hm')
   rw [ho] at ho'
   cases ho'
   exact hu b o ho hdd
  have inv : ∀ h', B.StaysIn h' -> s1.heap.UpToSlots h' -> Inv X pins σ1 H2 { s1 with heap := h' } := fun h' hB hu => by
   obtain ⟨un, ok⟩ := step h' hB hu
   exact I1.call' (s' := { s1 with heap := h' }) (ch := []) hos un ok hbare fun b hb => by cases hb
  have hfrm : X.A.frames = some (X.env :: X.outer) := by rw [<- hst]; exact I1.ok.frames
  refine wpAny_looks_onW hfrm hfr hfl fun h4 held4 up4 => ?_
  refine wpAny_landsW held4 fun h5 fl5 up5 => ?_
  have up15 := up4.trans up5
  have I5 := inv h5 fl5.1 up15
  refine wpAny_handleBy_cons (codeAny_handlers_test ?_) (by intro q; cases q)
  refine ld_glob (I5.toHd (.ref x)) hg hm ?_ hd
  have LT : PySem.W.Looks (model X.prog X.w) h5 (typeOf (.ref x)) cls := by
   obtain ⟨ob, hob, hc⟩ := fl5.there
   subst hc
   exact (PySem.W.Looks.ld hob).andThen .now
  refine (PySem.W.exm_one (M := model X.prog X.w) I5.kIn LT hmat).here ?_
  refine codeAny_handlers_suite ?_
  refine lands_againW fl5 fun h6 fl6 up6 => ?_
  have up16 := up15.trans up6
  have I7 := inv h6 fl6.1 up16
  refine wpAny_mono (hh (.ref x) pins { s1 with heap := h6 } σ1 H2 D (I7.toHd _) hth) (fun fl' s9 q => ?_) (fun _ _ z => False.elim z)
  have hdX := I.ok.hd
  cases fl' with
  | next =>
   obtain ⟨σ', H', I', q⟩ := q
   exact ⟨σ', H', I'.ofHd hdX, q⟩
  | brk =>
   obtain ⟨σ', H', I', q⟩ := q
   exact ⟨σ', H', I'.ofHd hdX, q⟩
  | cont =>
   obtain ⟨σ', H', I', q⟩ := q
   exact ⟨σ', H', I'.ofHd hdX, q⟩
  | ret u' =>
   obtain ⟨v, σ', H', I', r, q⟩ := q
   exact ⟨v, σ', H', I'.ofHd hdX, r, q⟩
def trkL (H : Hp) (l : Addr -> Option Obj) : Hp := fun b => match l b with
 | some o => some (LamO b o)
 | none => H b
def rmvL (H : Hp) (l : Addr -> Option Obj) : Hp := fun b => match l b with
 | some _ => none
 | none => H b
section
variable {P : Program} {w : World} {H H1 H2 : Hp} {h h1 h2 : Heap} {l : Addr -> Option Obj} {fs : List Addr}
theorem trk_some {b : Addr} {o : Obj} (e : l b = some o) : trkL H l b = some (LamO b o) := by unfold trkL; rw [e]
theorem trk_none {b : Addr} (e : l b = none) : trkL H l b = H b := by unfold trkL; rw [e]
theorem rmv_some {b : Addr} {o : Obj} (e : l b = some o) : rmvL H l b = none := by unfold rmvL; rw [e]
theorem rmv_none {b : Addr} (e : l b = none) : rmvL H l b = H b := by unfold rmvL; rw [e]
theorem LamO_ok {b : Addr} {o : Obj} (e : h.get? b = some o) : ObjOk P w H h b (LamO b o) := ⟨e, ⟨o, e⟩, fun h1 h2 q z => z _ q⟩
theorem HOk.trkd (x : HOk P w H h) (hl : ∀ b o, l b = some o -> h.get? b = some o /\ H b = none) : HOk P w (trkL H l) h := fun a o e => by
 cases hb : l a with
 | some q => rw [trk_some hb] at e; cases e; exact LamO_ok (hl a q hb).1
 | none =>
  rw [trk_none hb] at e
  have aux : ∀ b u, H b = some u -> trkL H l b = some u := fun b u q => by
   cases hb' : l b with
   | some z => rw [(hl b z hb').2] at q; cases q
   | none => rw [trk_none hb']; exact q
  exact (x a o e).stay (fun _ _ _ q => q) (fun b q => aux b _ q) (fun b xs q => aux b _ q)
theorem lam_un {b : Addr} {u : HO} (hl : ∀ b o, l b = some o -> H b = some (LamO b o)) (q : H b = some u) (hu : ∀ o, u ≠ LamO b o) : l b = none := by
 cases hb : l b with
 | some z => rw [hl b z hb] at q; cases q; exact absurd rfl (hu z)
 | none => rfl
theorem HOk.rmv (x : HOk P w H h) (hl : ∀ b o, l b = some o -> H b = some (LamO b o)) : HOk P w (rmvL H l) h := fun a o e => by
 cases hb : l a with
 | some q => rw [rmv_some hb] at e; cases e
 | none =>
  rw [rmv_none hb] at e
  refine (x a o e).stay (fun _ _ _ q => q) (fun b q => ?_) (fun b xs q => ?_)
  ·rw [rmv_none (lam_un hl q (fun o z => by unfold LamO at z; cases z))]; exact q
  ·rw [rmv_none (lam_un hl q (fun o z => by unfold LamO at z; cases z))]; exact q
theorem Un.inner (un : Un fs [] (rmvL H l) H1 h h1) (hl : ∀ b o, l b = some o -> H b = some (LamO b o)) : Un fs [] H (trkL H1 l) h h1 := by
 have nn : ∀ b, H b = none -> l b = none := fun b n => by
  cases hb : l b with
  | some z => rw [hl b z hb] at n; cases n
  | none => rfl
 refine ⟨fun b o e n hf hx => un.keep b o e (by rw [rmv_none (nn b n)]; exact n) hf hx, fun b o e n hf hx => un.slot b o e (by rw [rmv_none (nn b n)]; exact n) hf hx, fun b o e n hx => ?_, un.there, fun b xs q => ?_, fun b o u q => ?_, fun b ps q => ?_⟩
 ·rw [trk_none (nn b n)]
  exact un.free b o e (by rw [rmv_none (nn b n)]; exact n) hx
 ·have z := lam_un hl q (fun o z => by unfold LamO at z; cases z)
  rw [trk_none z]
  exact un.tups b xs (by rw [rmv_none z]; exact q)
 ·have z := lam_un hl q (fun o z => by unfold LamO at z; cases z)
  rw [trk_none z]
  exact un.frzs b o u (by rw [rmv_none z]; exact q)
 ·have z := lam_un hl q (fun o z => by unfold LamO at z; cases z)
  rw [trk_none z]
  exact un.tbls b ps (by rw [rmv_none z]; exact q)
theorem Un.outer (un : Un fs [] (trkL H l) H2 h h2) (hl : ∀ b o, l b = some o -> h.get? b = some o /\ H b = none) (h2l : ∀ b o, l b = some o -> H2 b = some (LamO b o)) (ok2 : HOk P w H2 h2) : Un fs [] H (rmvL H2 l) h h2 := by
 have nn : ∀ b u, H b = some u -> l b = none := fun b u q => by
  cases hb : l b with
  | some z => rw [(hl b z hb).2] at q; cases q
  | none => rfl
 have at2 : ∀ b o, l b = some o -> h2.get? b = some o := fun b o e => (ok2 b _ (h2l b o e)).1
 refine ⟨fun b o e n hf hx => ?_, fun b o e n hf hx => ?_, fun b o e n hx => ?_, un.there, fun b xs q => ?_, fun b o u q => ?_, fun b ps q => ?_⟩
 ·cases hb : l b with
  | some z =>
   rw [(hl b z hb).1] at e
   cases e
   exact at2 b _ hb
  | none => exact un.keep b o e (by rw [trk_none hb]; exact n) hf hx
 ·cases hb : l b with
  | some z =>
   rw [(hl b z hb).1] at e
   cases e
   exact ⟨_, at2 b _ hb⟩
  | none => exact un.slot b o e (by rw [trk_none hb]; exact n) hf hx
 ·cases hb : l b with
  | some z => exact rmv_some hb
  | none =>
   rw [rmv_none hb]
   exact un.free b o e (by rw [trk_none hb]; exact n) hx
 ·rw [rmv_none (nn b _ q)]
  exact un.tups b xs (by rw [trk_none (nn b _ q)]; exact q)
 ·rw [rmv_none (nn b _ q)]
  exact un.frzs b o u (by rw [trk_none (nn b _ q)]; exact q)
 ·rw [rmv_none (nn b _ q)]
  exact un.tbls b ps (by rw [trk_none (nn b _ q)]; exact q)
end
def tCallC (sp : Sp) (js : List (Nat × Addr)) (t : TA) : TE := fun σ H Q => t σ H fun vs H1 => ∀ l : Addr -> Option Obj, (∀ b o, l b = some o -> H1 b = none) -> (∀ p ∈ js, ∀ v, σ[p.1]? = some (some v) -> ∃ o u, l p.2 = some o /\ o.data = .cell (some u) /\ RelV v u) ->
 sp vs (trkL H1 l) (fun r H2 => (∀ b o, l b = some o -> H2 b = some (LamO b o)) /\ Q r (rmvL H2 l)) E0
section
variable {X : Cx} {k : Nat} {f : Addr} {fd : FuncData} {ps : List Str} {sp : Sp} {x : Str} {p pos : Pos} {e : Expr} {es : List Expr} {t : TA}
theorem pe_callC {js : List (Nat × Addr)} (F : FnOk X.prog X.w X.K X.mg X.base CX0 k f fd ps sp) (hr : Room k X.A) (hg : Gl X x) (hm : X.mg x = some (.ref f)) (hk : PySem.W.keepIn X.K (.ref f) = true) (hb : Binds X.K fd ps [])
  (hj : ∀ q ∈ js, X.s₀.heap.objs.size <= q.2 /\ ∃ y, X.N[q.1]? = some y /\ X.env.scope.names.lookup y = some .cell /\ X.env.cells.lookup y = some q.2)
  (ha : PA X (e :: es) t) (hdb : (x == ("__debug__" : Str)) = false := by decide) (he : starEach (e :: es) X.env = (false, eval e X.env) :: starEach es X.env := by rfl) (hpl : (backTo pos (starEach es X.env)).any (·.1) = false := by rfl) :
  PE X (.Call (.Name x p) (e :: es) [] pos) (tCallC sp js t) := by
 intro pins s σ H Q I h
 refine wpAny_Call_Name_kw (ld_glob I hg hm ?_ hdb)
 refine PySem.W.callWith_K (h₀ := X.base) I.ok.mod.kin hk (thn (ha pos pins s σ H _ I h) fun us s1 ⟨vs, H1, I1, r, q⟩ => ⟨I1.kIn, ?_⟩) he hpl
 obtain ⟨l, hl⟩ : ∃ l : Addr -> Option Obj, l = fun b => if b ∈ js.map (·.2) then s1.heap.get? b else none := ⟨_, rfl⟩
 have l1 : ∀ b o, l b = some o -> s1.heap.get? b = some o /\ b ∈ js.map (·.2) := fun b o e => by
  rw [hl] at e
  by_cases hb : b ∈ js.map (·.2)
  ·have e' : (if b ∈ js.map (·.2) then s1.heap.get? b else none) = some o := e
   rw [if_pos hb] at e'
   exact ⟨e', hb⟩
  ·have e' : (if b ∈ js.map (·.2) then s1.heap.get? b else none) = some o := e
   rw [if_neg hb] at e'
   cases e'
 have l2 : ∀ b o, l b = some o -> s1.heap.get? b = some o /\ H1 b = none := fun b o e => by
  obtain ⟨e1, e2⟩ := l1 b o e
  obtain ⟨q, hq, rfl⟩ := List.mem_map.mp e2
  obtain ⟨_, y, _, _, hc⟩ := hj q hq
  exact ⟨e1, I1.freeC y _ hc⟩
 have l3 : ∀ q ∈ js, ∀ v, σ[q.1]? = some (some v) -> ∃ o u, l q.2 = some o /\ o.data = .cell (some u) /\ RelV v u := fun q hq v hv => by
  obtain ⟨_, y, hN, hs, hc⟩ := hj q hq
  obtain ⟨m, hn, lo⟩ := I1.loc
  obtain ⟨u, ru, lk⟩ := lo q.1 y v hN hv (.inr (.inl hs))
  rcases lk with ⟨z, _⟩ | ⟨_, c, hc', o, ho, hd⟩
  ·have z' : X.env.scope.names.lookup y = some .local := z
   rw [hs] at z'
   cases z'
  ·rw [hc] at hc'
   cases hc'
   refine ⟨o, u, ?_, hd, ru⟩
   rw [hl]
   show (if q.2 ∈ js.map (·.2) then s1.heap.get? q.2 else none) = some o
   rw [if_pos (List.mem_map.mpr ⟨q, hq, rfl⟩)]
   exact ho
 have q' := q l (fun b o e => (l2 b o e).2) l3
 have nofr : ∀ q ∈ js, q.2 ∉ frs X.stack := fun q hq z => by
  obtain ⟨hge, y, _, _, hc⟩ := hj q hq
  have nf : q.2 ∉ X.fs := fun hb => by
   obtain ⟨_, o, ho, _⟩ := I1.ok.funs.mem hb
   exact absurd (Nat.lt_of_lt_of_le (Heap.lt_size ho) hge) (Nat.lt_irrefl _)
  rcases I1.ok.stk with h1 | ⟨h1, h2⟩
  ·rw [h1] at z
   exact nf z
  ·rw [h1] at z
   unfold frs at z
   rw [List.filterMap_cons, h2] at z
   rcases List.mem_cons.mp z with z | z
   ·exact I1.cne y _ hc z
   ·exact nf z
 have e0 := I1.env0
 have e1 : Env0 X.prog X.w X.K X.mg X.base X.A X.stack s1 (trkL H1 l) := by
  refine ⟨e0.frames, e0.mod, fun b o e => ⟨(e0.bs b o e).1, ?_⟩, e0.bsz, e0.funs, fun b hb => ?_, e0.hok.trkd l2, e0.bare⟩
  ·cases hb : l b with
   | none => rw [trk_none hb]; exact (e0.bs b o e).2
   | some z =>
    obtain ⟨q, hq, rfl⟩ := List.mem_map.mp (l1 b z hb).2
    have := (hj q hq).1
    exact absurd (Nat.lt_of_lt_of_le (Heap.lt_size e) (Nat.le_trans I1.ok.bsz this)) (Nat.lt_irrefl _)
  ·cases hb' : l b with
   | none => rw [trk_none hb']; exact e0.frf b hb
   | some z =>
    obtain ⟨q, hq, rfl⟩ := List.mem_map.mp (l1 b z hb').2
    exact absurd hb (nofr q hq)
 have hlen : us.length = ps.length := by rw [<- r.length]; exact F.len _ _ _ _ q'
 have hbind := hb s1 us I1.kIn (by rw [List.append_nil]; exact hlen)
 rw [List.append_nil] at hbind
 refine wpAny_call (codeAny_mono (F.run X.A X.stack s1 (trkL H1 l) ⟨us, []⟩ us vs _ E0 hr e1 hbind r q') fun r s' hq => ?_)
 cases r with
 | error e => exact False.elim hq
 | ok fl =>
  cases fl with
  | ret u =>
   obtain ⟨v, H', os, bare, un, hok, rv, kept, qq⟩ := hq
   exact I1.after ⟨v, rmvL H' l, os, bare, un.outer l2 kept hok, hok.rmv kept, rv, qq⟩
  | next => exact False.elim hq
  | brk => exact False.elim hq
  | cont => exact False.elim hq
end
def lamC0 (P : Program) (w : World) (K : W.Frag) (mg : Str -> Option Value) (base : Heap) (A : Around) (outer : List Env) (qual : Str) (scope : Scope) (cl : List (Str × Addr)) (N' : List Str) (f : Addr) (cv : Value) (s : Shared) (H : Hp) : Cx where
 prog := P
 w := w
 K := K
 mg := mg
 base := base
 A := A.deeper (lamEnv qual scope cl f cv s)
 N := N'
 s₀ := s
 H₀ := H
 env := lamEnv qual scope cl f cv s
 outer := outer
 stack := List.cons (lamEnv qual scope cl f cv s) outer
 ex := []
 fn := fun _ => false
 calm := true
 pn := []
 xe := fun _ _ => False
def spLam (f c' : Addr) (qual : Str) (ob : Obj) (l : Addr -> Option Obj) (cvs : St) (te : TE) : Sp := fun vs H Q _ => ∃ a, vs = [a] /\ H f = some (LamO f ob) /\ H c' = some (CodeO c' qual) /\ (∀ b o, l b = some o -> H b = some (LamO b o)) /\
 te (some a :: cvs) (rmvL H l) fun v' H' => (∀ b o, l b = some o -> H' b = none) -> Q v' (trkL H' l)
theorem lam_ok {P : Program} {w : World} {K : W.Frag} {mg : Str -> Option Value} {base : Heap} {k : Nat} {qual p : Str} {params : Arguments} {body : Expr} {scope : Scope} {cl : List (Str × Addr)} {N' : List Str} {f c' : Addr} {pm ctv : Value} {te : TE} {l : Addr -> Option Obj} {cvs : St}
  (hkind : scope.kind = .function) (hco : scope.isCoroutine = false) (hgen : scope.isGenerator = false) (hfr : FrOk scope.names cl = true) (hp : scope.names.lookup p = some .local)
  (hinj : ∀ x y c, cl.lookup x = some c -> cl.lookup y = some c -> x = y) (hcl : ∀ x c, cl.lookup x = some c -> ∃ o v, l c = some o /\ o.data = .cell v) (hN : cvs.length = N'.length)
  (hv : ∀ (i : Nat) (x : Str) (v : V), N'[i]? = some x -> cvs[i]? = some (some v) -> scope.names.lookup x = some .free /\ ∃ c o u, cl.lookup x = some c /\ l c = some o /\ o.data = .cell (some u) /\ RelV v u)
  (he : ∀ (A : Around) (outer : List Env) (s : Shared) (H : Hp), Room k (A.deeper (lamEnv qual scope cl f (.ref c') s)) -> PE (lamC0 P w K mg base A outer qual scope cl (p :: N') f (.ref c') s H) body te) :
  FnOk P w K mg base CX0 (k + 1) f (PySem.W.kla_fn "<lambda>" qual params body scope cl pm (.ref c') ctv) [p] (spLam f c' qual (PySem.W.kla_obj "<lambda>" qual params body scope cl pm c' ctv) l cvs te) := by
 refine ⟨fun vs H Q E ⟨a, e, _⟩ => by rw [e]; rfl, fun A outer s H args us vs Q E hr e0 hb r hsp => ?_⟩
 obtain ⟨a, rfl, hf, hc, hl, ht⟩ := hsp
 obtain ⟨u, rfl, ru⟩ := vals1 r
 have hmem : ∀ y ∈ scope.names, y.2 ≠ .cell /\ (y.2 = .free -> (cl.lookup y.1).isSome = true) := fun y hy => by
  unfold FrOk at hfr
  rw [List.all_eq_true] at hfr
  have := hfr y hy
  rw [Bool.and_eq_true] at this
  refine ⟨by simpa using this.1, fun e => ?_⟩
  have h2 := this.2
  rw [e] at h2
  simpa using h2
 have at0 : ∀ b o, l b = some o -> s.heap.get? b = some o := fun b o e => (e0.hok b _ (hl b o e)).1
 have nfr : ∀ b o, l b = some o -> b ∉ frs outer := fun b o e z => by
  have := e0.frf b z
  rw [hl b o e] at this
  cases this
 have lim : s.heap.NoLimit := e0.mod.nolimit.keeps fun b o e => (e0.bs b o e).1
 refine PySem.W.kla_callFunE hr.depth (e0.hok f _ hf).1 rfl hco hgen rfl (e0.hok c' _ hc).1 (hb _ _ _ _ ?_)
 refine wpAny_newFunctionEnv (fun y hy => (hmem y hy).1) (fun y hy => by rw [List.mem_singleton.mp hy]; exact hp) (fun h1 hns hsb => ?_) hkind
 have hk : ∀ b o, s.heap.get? b = some o -> h1.get? b = some o := fun b o e => hsb.extBut b o (Nat.ne_of_lt (Heap.lt_size e)) (Heap.get?_push_of_some _ e)
 refine ⟨lim.keeps hk, ?_⟩
 show codeAny _ _ (.expr body (PySem.W.envX qual scope s.heap.objs.size f (.ref c') cl)) _ _
 have noE : ∀ b : Addr, b ∉ ([] : List Addr) := fun b z => nomatch z
 have rn : ∀ b, H b = none -> rmvL H l b = none := fun b n => by
  cases hb : l b with
  | some z => exact rmv_some hb
  | none => rw [rmv_none hb]; exact n
 have hC : rmvL H l s.heap.objs.size = none := rn _ (e0.hok.fresh (Nat.le_refl _))
 have I : Inv (lamC0 P w K mg base A outer qual scope cl (p :: N') f (.ref c') s (rmvL H l)) [] (some a :: cvs) (rmvL H l) { s with heap := h1, toks := s.toks + [(p, u)].length } := by
  refine ⟨⟨e0.mod, hkind, rfl, rfl, Nat.le_refl _, hinj, fun x hx => ?_, (fun x c e => by cases e), fun _ => hr.hd, Around.frames_deeper e0.frames, .inr ⟨rfl, rfl⟩, fun b z => absurd z (noE b), fun b o e => ⟨(e0.bs b o e).1, rn b (e0.bs b o e).2⟩, e0.bsz, fun b _ _ => noE b, fun b z => absurd z (noE b), e0.funs, fun b hb => rn b (e0.frf b hb)⟩,
   rfl, e0.bare, Un.kept hk, ⟨_, hns, fun i x v e1 e2 e3 => ?_⟩, fun x c e => ?_, hC, fun x c e => ?_, (fun q hq => nomatch hq), (e0.hok.rmv hl).kept hk, ?_⟩
  ·have hx' : scope.names.lookup x = some .cell \/ scope.names.lookup x = some .free := hx
   rcases hx' with h | h
   ·exact absurd rfl (hmem _ (PySem.mem_of_lookup h)).1
   ·exact Option.isSome_iff_exists.mp ((hmem _ (PySem.mem_of_lookup h)).2 rfl)
  ·cases i with
   | zero =>
    have e1' : p = x := by simpa using (show (p :: N')[0]? = some x from e1)
    have e2' : a = v := by simpa using (show (some a :: cvs)[0]? = some (some v) from e2)
    subst e1' e2'
    refine ⟨u, ru, .inl ⟨hp, ?_⟩⟩
    show [(p, u)].reverse.lookup p = some u
    simp [List.lookup]
   | succ i =>
    have e1' : N'[i]? = some x := by simpa using (show (p :: N')[i + 1]? = some x from e1)
    have e2' : cvs[i]? = some (some v) := by simpa using (show (some a :: cvs)[i + 1]? = some (some v) from e2)
    obtain ⟨hs, c, o, u', hc1, hc2, hd, rv⟩ := hv i x v e1' e2'
    exact ⟨u', rv, .inr ⟨.inr hs, c, hc1, o, hk c o (at0 c o hc2), hd⟩⟩
  ·obtain ⟨o, v, h1', h2'⟩ := hcl x c e
   exact ⟨v, o, hk c o (at0 c o h1'), h2'⟩
  ·obtain ⟨o, v, h1', h2'⟩ := hcl x c e
   exact rmv_some h1'
  ·show (some a :: cvs).length = (p :: N').length
   rw [List.length_cons, List.length_cons, hN]
 refine PySem.W.kla_codeExpr (wpAny_mono (he A outer s (rmvL H l) (hr.deeper _) [] _ _ (rmvL H l) _ I ht) (fun u' s' hq => ?_) fun _ _ z => False.elim z)
 obtain ⟨v', H', J, r', q⟩ := hq
 have un : Un (frs outer) [] (rmvL H l) H' s.heap s'.heap := J.base
 have fr : ∀ b o, l b = some o -> H' b = none := fun b o e => un.free b o (at0 b o e) (rmv_some e) (noE b)
 exact ⟨v', trkL H' l, J.os, J.bare, un.inner hl, J.hok.trkd fun b o e => ⟨un.keep b o (at0 b o e) (rmv_some e) (nfr b o e) (noE b), fr b o e⟩, r', q fr⟩
def tCallV (P : Program) (w : World) (K : W.Frag) (mg : Str -> Option Value) (base : Heap) (k i : Nat) (t : TA) : TE := fun σ H Q => ∃ (f : Addr) (ob : Obj) (fd : FuncData), σ[i]? = some (some (.ref f)) /\ H f = some (LamO f ob) /\ ob.data = .func fd /\ t σ H fun vs H1 => ∃ (ps : List Str) (sp : Sp), H1 f = some (LamO f ob) /\
 FnOk P w K mg base CX0 k f fd ps sp /\ Binds K fd ps [] /\ sp vs H1 Q E0
theorem pe_callV {X : Cx} {k i : Nat} {x : Str} {p pos : Pos} {e : Expr} {es : List Expr} {t : TA} (hr : Room k X.A) (hN : X.N[i]? = some x) (hv : Vis X.env.scope x) (ha : PA X (e :: es) t) (hd : (x == ("__debug__" : Str)) = false := by decide) (hcd : (x == ("__classdict__" : Str)) = false := by decide)
  (he : starEach (e :: es) X.env = (false, eval e X.env) :: starEach es X.env := by rfl) (hpl : (backTo pos (starEach es X.env)).any (·.1) = false := by rfl) :
  PE X (.Call (.Name x p) (e :: es) [] pos) (tCallV X.prog X.w X.K X.mg X.base k i t) := by
 intro pins s σ H Q I h
 obtain ⟨f, ob, fd, hσ, hf, hfd, h⟩ := h
 refine wpAny_Call_Name_kw (wpAny_mono (pe_var hN hv hd hcd pins s σ H (fun v H' => v = .ref f /\ H' = H) I ⟨_, hσ, rfl, rfl⟩) (fun u s0 hq => ?_) fun _ _ z => z)
 obtain ⟨v, H', I0, rv, rfl, rfl⟩ := hq
 cases rv
 have hfo := (I0.hok f _ hf).1
 obtain ⟨oc, od, odt, osl⟩ := ob
 have kin : ∀ {hh : Heap}, hh.get? f = some ⟨oc, od, odt, osl⟩ -> PySem.W.Frag.In [(f, ⟨oc, od, odt, osl⟩)] hh := fun {hh} e a o q => by
  by_cases z : a = f
  ·subst z
   have : (some ⟨oc, od, odt, osl⟩ : Option Obj) = some o := by simpa [List.lookup] using q
   rw [<- this]; exact e
  ·have : (none : Option Obj) = some o := by
    have zz : (a == f) = false := by simpa using z
    simpa [List.lookup, zz] using q
   cases this
 have hfd' : odt = .func fd := hfd
 subst hfd'
 refine PySem.W.callWith_K (K := [(f, ⟨oc, od, .func fd, osl⟩)]) (h₀ := s0.heap) (kin hfo) (by unfold PySem.W.keepIn; simp [List.lookup]) (thn (ha pos pins s0 σ _ _ I0 h) fun us s1 ⟨vs, H1, I1, r, ps, sp, hf1, F, hb, q⟩ => ⟨kin (I1.hok f _ hf1).1, ?_⟩) he hpl
 have q' : sp (vs ++ []) H1 Q E0 := by rw [List.append_nil]; exact q
 exact run_fn F hr hb .nil pass0 I1 r q'
end L2
namespace Web
open PySem L2
def top (i : Nat) : Stmt := PySem.Challenge.pw_tallyweb_k67_whole_thick_never_both.main.body.getD i (.Pass ⟨0, 0, 0, 0⟩)
abbrev sCell : Stmt := top 34
abbrev sLaw : Stmt := top 40
abbrev sIsP : Stmt := top 11
abbrev sUp : Stmt := top 12
abbrev sMade : Stmt := top 13
abbrev sIsTold : Stmt := top 14
abbrev sChT : Stmt := top 16
abbrev sFall : Stmt := top 18
abbrev sAmong : Stmt := top 19
abbrev sRow : Stmt := top 35
abbrev sRoomW : Stmt := top 20
abbrev sBelow : Stmt := top 21
abbrev sWallW : Stmt := top 22
abbrev sShowsW : Stmt := top 23
abbrev sWhere : Stmt := top 6
abbrev sAbv : Stmt := top 7
abbrev sShr : Stmt := top 8
abbrev sLeast : Stmt := top 32
abbrev sCkM : Stmt := top 26
abbrev sThL : Stmt := top 27
abbrev sThA : Stmt := top 28
abbrev sTTl : Stmt := top 29
abbrev sIsO : Stmt := top 30
abbrev sThS : Stmt := top 31
abbrev sThick : Stmt := top 36
abbrev sThC : Stmt := top 37
abbrev sMost : Stmt := top 38
structure Bn (mg : Str -> Option Value) : Prop where
 len : mg "len" = none
 range : mg "range" = none
 enum : mg "enumerate" = none
 list : mg "list" = none
 tuple : mg "tuple" = none
 sorted : mg "sorted" = none
 set : mg "set" = none
 isin : mg "isinstance" = none
 int : mg "int" = none
 bool : mg "bool" = none
 min : mg "min" = none
 max : mg "max" = none
 sum : mg "sum" = none
 str : mg "str" = none
 ve : mg "ValueError" = none
 all : mg "all" = none
 zip : mg "zip" = none
theorem sl1000 : 1000 <= sizeLine := by decide
theorem same_upd {H : Hp} {l : Addr} {o : HO} (h : H l = none) : Same H (upd H l o) := fun b u e => by
 rw [upd_ne (ne_of_none e h)]
 exact e
section
variable {P : Program} {w : World} {K : W.Frag} {mg : Str -> Option Value} {base : Heap}
def spCell (K : W.Frag) : Sp := fun vs H Q _ => ∃ (a : Addr) (ns : List Int) (k : Nat), vs = [.ref a, .int k] /\ SqL K H a (ns.map V.int) /\ ∀ r : Int, Q (.int r) H
theorem scCell : FnScope ["script", "k"] ["script", "k"] (defScope sCell) := ⟨rfl, rfl, rfl, by decide +kernel, rfl, by decide +kernel, by decide +kernel⟩
theorem ok_cell {f : Addr} {fd : FuncData} (F : Fun K "_law_cell_at" "_law_cell_at" sCell f fd) (B : Bn mg) : FnOk P w K mg base CX0 1 f fd ["script", "k"] (spCell K) := by
 refine F.ok scCell (fun vs H Q E h => ?_) (fun cdv A outer s H vs Q E hr h => ?_)
 ·obtain ⟨a, ns, k, rfl, _⟩ := h
  rfl
 ·obtain ⟨a, ns, k, rfl, hS, q⟩ := h
  refine ⟨_, pss_cons (ps_if (pt_cmpR op_lt (pv 1) (pe_callB call_len_seq (by rfl) B.len PySem.boot_len (pa_cons (pv 0) pa_nil)) (nomark _)) (pss_one (ps_ret (pe_ix ix_list (pv 0) (pv 1) (fun _ _ => rfl)))) pss_nil)
   (pss_one (ps_ret pe_int)), ?_⟩
  refine ⟨_, rfl, _, rfl, a, _, rfl, .inl hS, _, _, rfl, rfl, _, rfl, ?_⟩
  refine ite2 (fun h => ?_) (fun h => ?_)
  ·have hl : k < ns.length := by
    have := of_decide_eq_true h
    rw [List.length_map] at this
    omega
   refine ⟨_, rfl, _, rfl, a, _, _, _, rfl, rfl, hS, atI_nat (j := k) (v := .int ns[k]) (by simp [hl]), ?_⟩
   exact q _
  ·exact q _
def spIsP : Sp := fun vs H Q _ => ∃ a b : Int, vs = [.int a, .int b] /\ Q (.bl (decide (0 <= b) && decide (b < a))) H
theorem scIsP : FnScope ["places", "number"] ["places", "number"] (defScope sIsP) := ⟨rfl, rfl, rfl, by decide +kernel, rfl, by decide +kernel, by decide +kernel⟩
theorem ok_isP {f : Addr} {fd : FuncData} (F : Fun K "is_place" "is_place" sIsP f fd) : FnOk P w K mg base CX0 1 f fd ["places", "number"] spIsP := by
 refine F.ok scIsP (fun vs H Q E h => ?_) (fun cdv A outer s H vs Q E hr h => ?_)
 ·obtain ⟨a, b, rfl, _⟩ := h
  rfl
 ·obtain ⟨a, b, rfl, k⟩ := h
  refine ⟨_, pss_one (ps_ret (pe_chain op_le op_lt pe_int (pv 1) (pv 0))), ?_⟩
  refine ⟨_, rfl, _, _, rfl, rfl, _, rfl, ?_⟩
  cases e : decide ((0 : Int) <= b) with
  | true =>
   refine iteT ⟨_, rfl, _, _, rfl, rfl, ?_⟩
   rw [e, Bool.true_and] at k
   exact k
  | false =>
   refine iteF ?_
   rw [e, Bool.false_and] at k
   exact k
def spUp (K : W.Frag) : Sp := fun vs H Q _ => ∃ (n : Nat) (a : Addr) (k : List Int), vs = [.int n, .ref a] /\ SqT K H a (k.map V.int) /\ Ends2 n k /\
 ∀ p, H p = none -> Q (.ref p) (upd H p (.tup ((up k).map V.int)))
theorem scUp : FnScope ["places", "tie"] ["places", "tie"] (defScope sUp) := ⟨rfl, rfl, rfl, by decide +kernel, rfl, by decide +kernel, by decide +kernel⟩
theorem ok_up {f fI : Addr} {fd fdI : FuncData} (F : Fun K "turned_up" "turned_up" sUp f fd) (B : Bn mg) (FI : Fun K "is_place" "is_place" sIsP fI fdI) (bI : Binds K fdI ["places", "number"] []) (mI : mg "is_place" = some (.ref fI)) :
  FnOk P w K mg base CX0 2 f fd ["places", "tie"] (spUp K) := by
 have GI : FnOk P w K mg base CX0 1 fI fdI ["places", "number"] spIsP := ok_isP FI
 refine F.ok scUp (fun vs H Q E h => ?_) (fun cdv A outer s H vs Q E hr h => ?_)
 ·obtain ⟨n, a, k, rfl, _⟩ := h
  rfl
 ·obtain ⟨n, a, k, rfl, hS, ⟨i, j, h1, h2, h3, rfl⟩, q⟩ := h
  refine ⟨_, pss_cons (ps_if (PW.pt (pw_or (pt_not (pt_val (pe_call GI hr rfl mI FI.kp bI .nil pass0 (pa_cons (pv 0) (pa_cons (pe_ix ix_tup (pv 1) pe_int (fun _ _ => rfl)) pa_nil)))))
     (pw_or1 (pt_not (pt_val (pe_call GI hr rfl mI FI.kp bI .nil pass0 (pa_cons (pv 0) (pa_cons (pe_ix ix_tup (pv 1) pe_int (fun _ _ => rfl)) pa_nil)))))))) pss_never pss_nil)
   (pss_cons (ps_if (pt_cmpR op_eq (pe_ix ix_tup (pv 1) pe_int (fun _ _ => rfl)) (pe_ix ix_tup (pv 1) pe_int (fun _ _ => rfl)) (nomark _)) pss_never pss_nil)
   (pss_one (ps_ret (pe_tup (pa_cons (pe_callB (call_min2 rfl) (by rfl) B.min (by rfl) (pa_cons (pe_ix ix_tup (pv 1) pe_int (fun _ _ => rfl)) (pa_cons (pe_ix ix_tup (pv 1) pe_int (fun _ _ => rfl)) pa_nil)))
    (pa_cons (pe_callB (call_max2 rfl) (by rfl) B.max (by rfl) (pa_cons (pe_ix ix_tup (pv 1) pe_int (fun _ _ => rfl)) (pa_cons (pe_ix ix_tup (pv 1) pe_int (fun _ _ => rfl)) pa_nil))) pa_nil)))))), ?_⟩
  have a0 : atI (([(i : Int), (j : Int)] : List Int).map V.int) 0 = some (.int i) := atI_nat (j := 0) rfl
  have a1 : atI (([(i : Int), (j : Int)] : List Int).map V.int) 1 = some (.int j) := atI_nat (j := 1) rfl
  refine ⟨_, rfl, _, rfl, a, _, _, _, rfl, rfl, hS, a0, _, _, rfl, ?_⟩
  rw [decide_eq_true (show (0 : Int) <= i by omega), decide_eq_true (show (i : Int) < n by omega)]
  refine ⟨_, rfl, iteF ?_⟩
  refine ⟨_, rfl, _, rfl, a, _, _, _, rfl, rfl, hS, a1, _, _, rfl, ?_⟩
  rw [decide_eq_true (show (0 : Int) <= j by omega), decide_eq_true (show (j : Int) < n by omega)]
  refine ⟨_, rfl, iteF ?_⟩
  refine ⟨_, rfl, a, _, _, _, rfl, rfl, hS, a0, _, rfl, a, _, _, _, rfl, rfl, hS, a1, rfl, _, rfl, ?_⟩
  rw [decide_eq_false (show ¬ V.int (i : Int) = V.int (j : Int) by intro z; injection z; omega)]
  refine iteF ?_
  refine ⟨_, rfl, a, _, _, _, rfl, rfl, hS, a0, _, rfl, a, _, _, _, rfl, rfl, hS, a1, _, _, rfl, ?_⟩
  refine ⟨_, rfl, a, _, _, _, rfl, rfl, hS, a0, _, rfl, a, _, _, _, rfl, rfl, hS, a1, _, _, rfl, (by show 2 <= sizeLine; decide), fun p hp => ?_⟩
  exact q p hp
def isTl (ns : List Int) : Prop := 1 <= ns.length /\ ns.length <= 24
def Sq (K : W.Frag) (H : Hp) (a : Addr) (ns : List Int) : Prop := SqL K H a (ns.map V.int) \/ SqT K H a (ns.map V.int)
theorem Sq.same {H H' : Hp} {a : Addr} {ns : List Int} (h : Sq K H a ns) (s : Same H H') : Sq K H' a ns := h.elim (fun h => .inl (s.seq h)) fun h => .inr (s.seqT h)
def spChT (K : W.Frag) (CB : Addr) : Sp := fun vs H Q E => ∃ (a : Addr) (ns : List Int), vs = [.ref a] /\ Sq K H a ns /\ (isTl ns -> Q .non H) /\ (¬ isTl ns -> E (.ref CB) none H)
theorem scChT : FnScope ["tally"] ["tally"] (defScope sChT) := ⟨rfl, rfl, rfl, by decide +kernel, rfl, by decide +kernel, by decide +kernel⟩
theorem ok_chT {f CB : Addr} {fd : FuncData} {tk : Tok} (F : Fun K "check_tally" "check_tally" sChT f fd) (B : Bn mg) (mM : mg "MOST_PLACES" = some (.int 24 tk)) (mB : mg "BadTally" = some (.ref CB)) (cB : ExcC K CB) : FnOk P w K mg base (CXE P w) 1 f fd ["tally"] (spChT K CB) := by
 refine F.okX scChT (fun vs H Q E h => ?_) (fun cdv A outer s H vs Q E hr h => ?_)
 ·obtain ⟨a, ns, rfl, _⟩ := h
  rfl
 ·obtain ⟨a, ns, rfl, hS, h1, h2⟩ := h
  refine ⟨_, pss_one (ps_if (pt_not (pt_chain op_le op_le pe_int (pe_callB call_len_seq (by rfl) B.len PySem.boot_len (pa_cons (pv 0) pa_nil)) (pe_glob (v := .int 24) (by rfl) mM ⟨tk, rfl⟩))) (pss_one (ps_raise (by rfl) mB cB)) pss_nil), ?_⟩
  refine ⟨_, rfl, a, _, rfl, hS, _, _, rfl, rfl, _, rfl, ?_⟩
  rw [List.length_map]
  by_cases hp : (1 : Int) <= (ns.length : Int)
  ·rw [decide_eq_true hp]
   refine iteT ⟨_, _, rfl, rfl, _, rfl, ?_⟩
   by_cases hp' : (ns.length : Int) <= 24
   ·rw [decide_eq_true hp']
    exact iteF (h1 ⟨by omega, by omega⟩)
   ·rw [decide_eq_false hp']
    exact iteT (h2 fun z => hp' (by have := z.2; omega))
  ·rw [decide_eq_false hp]
   exact iteF ⟨_, rfl, iteT (h2 fun z => hp (by have := z.1; omega))⟩
end
theorem cut_ints_from (ns : List Int) (k : Nat) : cutV (ns.map V.int) (some (k : Int)) none = (ns.drop k).map V.int := by rw [cutV_from, List.map_drop]
theorem cut_ints_to (ns : List Int) (k : Nat) : cutV (ns.map V.int) none (some (k : Int)) = (ns.take k).map V.int := by rw [cutV_to, List.map_take]
theorem int_get {ns : List Int} {i : Nat} {x : V} (h : (ns.map V.int)[i]? = some x) : ∃ z : Int, ns[i]? = some z /\ x = V.int z := by
 rw [List.getElem?_map] at h
 cases e : ns[i]? with
 | none => rw [e] at h; cases h
 | some z => rw [e] at h; cases h; exact ⟨z, rfl, rfl⟩
section
variable {P : Program} {w : World} {K : W.Frag} {mg : Str -> Option Value} {base : Heap}
def spFall (K : W.Frag) : Sp := fun vs H Q _ => ∃ (a : Addr) (ns : List Int), vs = [.ref a] /\ Sq K H a ns /\ ns.length < 64 /\ ∀ (l : Addr) (H' : Hp), Same H H' -> H l = none -> H' l = some (.lst ((up2 ns).reverse.map V.int)) -> Q (.ref l) H'
theorem scFall : FnScope ["tally"] ["tally"] (defScope sFall) := ⟨rfl, rfl, rfl, by decide +kernel, rfl, by decide +kernel, by decide +kernel⟩
theorem ok_fall {f : Addr} {fd : FuncData} (F : Fun K "falling" "falling" sFall f fd) (B : Bn mg) : FnOk P w K mg base CX0 1 f fd ["tally"] (spFall K) := by
 refine F.ok scFall (fun vs H Q E h => ?_) (fun cdv A outer s H vs Q E hr h => ?_)
 ·obtain ⟨a, ns, rfl, _⟩ := h
  rfl
 ·obtain ⟨a, ns, rfl, hS, h64, q⟩ := h
  refine ⟨_, pss_one (ps_ret (pe_sortR K rfl (by rfl) B.sorted (pa_cons (pv 0) pa_nil))), ?_⟩
  refine ⟨_, rfl, a, ns, rfl, hS, h64, fun l zs hl hp hs => ?_⟩
  rw [fall_eq hp hs]
  exact q l _ (same_upd hl) hl upd_same
def spAmong (K : W.Frag) : Sp := fun vs H Q _ => ∃ (a : Addr) (ns : List Int) (M r : Nat), vs = [.ref a, .int M, .int r] /\ SqL K H a ((up2 ns).reverse.map V.int) /\ M <= 1000000 /\ r <= 100 /\ ns.length < 64 /\ ∀ (H' : Hp), Same H H' -> Q (.int (roomM ns M r)) H'
theorem scAmong : FnScope ["numbers", "most", "r", "from_others"] ["numbers", "most", "r"] (defScope sAmong) := ⟨rfl, rfl, rfl, by decide +kernel, rfl, by decide +kernel, by decide +kernel⟩
theorem ok_among {f : Addr} {fd : FuncData} (F : Fun K "room_among" "room_among" sAmong f fd) (B : Bn mg) : FnOk P w K mg base CX0 1 f fd ["numbers", "most", "r"] (spAmong K) := by
 refine F.ok scAmong (fun vs H Q E h => ?_) (fun cdv A outer s H vs Q E hr h => ?_)
 ·obtain ⟨a, ns, M, r, rfl, _⟩ := h
  rfl
 ·obtain ⟨a, ns, M, r, rfl, hS, hM, hr1, h64, q⟩ := h
  have hsl := sl1000
  have nd2 : (["number", "most", "r"] : List Str).Nodup := by decide +kernel
  have hlen : (up2 ns).reverse.length = ns.length := by rw [List.length_reverse, up2_len]
  generalize hz : (up2 ns).reverse = zs at hS hlen
  refine ⟨_, pss_cons (ps_set (i := 3) scAmong.nd rfl (Or.inl rfl) (pe_callB (call_sum rfl) (by rfl) B.sum (by rfl) (pa_cons
    (pe_comp (N' := ["number", "most", "r"]) (lk := [none, some 1, some 2]) rfl (pi_list (pe_slice sl_list (pv 0) (po_some (pv 2)) po_none)) (by rfl) rfl (by decide +kernel) (by exact ⟨rfl, rfl, trivial⟩) (by rfl) (by exact LkL.ok ⟨⟨rfl, Or.inl rfl, rfl, Or.inl rfl⟩, ⟨rfl, Or.inl rfl, rfl, Or.inl rfl⟩, trivial⟩)
     (fun _ _ _ => pg_name (i := 0) nd2 rfl (Or.inl rfl)) (fun _ _ _ => pts_nil) (fun _ _ _ => pe_callB (call_min2 rfl) (by rfl) B.min (by rfl) (pa_cons (pv 0) (pa_cons (pe_op op_mul (pv 1) (pv 2)) pa_nil)))) pa_nil)))
   (pss_one (ps_ret (pe_op op_sub (pe_op op_add (pe_op op_mul (pe_op op_mul (pv 1) (pv 2)) (pe_op op_sub (pv 2) pe_int)) (pv 3)) (pe_callB (call_sum rfl) (by rfl) B.sum (by rfl) (pa_cons (pe_slice sl_list (pv 0) po_none (po_some (pv 2))) pa_nil))))), ?_⟩
  refine ⟨_, rfl, _, rfl, _, rfl, a, _, rfl, hS, fun c hc => ?_⟩
  rw [cut_ints_from]
  have s1 := same_upd (o := .lst ((zs.drop r).map V.int)) hc
  refine ⟨c, rfl, ⟨_, SqL.of upd_same⟩, fun D hD => comp_list (K := K) (a := c) (D := D) (ys := (zs.drop r).map V.int) (fun i xs σ' H' => ∃ v, σ' = [v, some (.int M), some (.int r)] /\ Same H H' /\ H' c = some (.lst ((zs.drop r).map V.int)) /\ xs = (((zs.drop r).take i).map (mn ((M : Int) * (r : Int)))).map V.int /\ H' D = some (.lst xs))
    ⟨none, rfl, s1.trans (same_upd hD), same_upd hD _ _ upd_same, by simp, upd_same⟩ (by rw [List.length_map, List.length_drop]; omega) (fun i xs σ' H' hi ⟨_, _, s3, g3, e3, h3⟩ => ⟨SqL.of g3, h3, by rw [e3, List.length_map, List.length_map, List.length_take, List.length_drop]; omega⟩) ?_ ?_⟩
  ·rintro i xs x σ' H' N kN hx ⟨v, rfl, s3, g3, rfl, h3⟩
   obtain ⟨z, hz', rfl⟩ := int_get hx
   refine gName_to (tTrue_if ?_)
   refine ⟨_, rfl, _, rfl, _, rfl, _, _, rfl, rfl, .inl ⟨by omega, by omega⟩, _, _, rfl, ?_⟩
   refine ⟨h3, kN _ _ _ ⟨_, rfl, s3.upd (s1.free hD), ?_, ?_, upd_same⟩⟩
   ·rw [upd_ne (ne_of_none upd_same hD)]; exact g3
   ·rw [List.take_add_one, hz', List.map_append, List.map_append]; rfl
  ·rintro xs σ' H3 ⟨v, rfl, s3, g3, rfl, h3⟩
   rw [List.take_of_length_le (by rw [List.length_map]; exact Nat.le_refl _)] at h3
   refine ⟨D, _, rfl, SqL.of h3, ?_⟩
   refine ⟨_, rfl, _, rfl, _, _, rfl, rfl, .inl ⟨by omega, by omega⟩, _, rfl, _, _, rfl, rfl, _, _, rfl, rfl, .inr ⟨by omega, by omega⟩, _, rfl, _, _, rfl, rfl, ?_⟩
   refine ⟨_, rfl, _, rfl, _, rfl, a, _, rfl, s3.seq hS, fun c2 hc2 => ?_⟩
   rw [cut_ints_to]
   refine ⟨c2, _, rfl, SqL.of upd_same, _, _, rfl, rfl, ?_⟩
   have fin := q _ (s3.trans (same_upd (o := .lst ((zs.take r).map V.int)) hc2))
   rw [<- room_amongM (M := M) (r := r) hz.symm] at fin
   exact fin
end
def wlT : Wl -> List V
 | .below p => [.str "below", .int p]
 | .odd => [.str "odd"]
 | .wall r => [.str "wall", .int r]
 | .free => []
def WlAt (H : Hp) (v : V) (x : Wl) : Prop := (x = .free /\ v = .non) \/ (x ≠ .free /\ ∃ a, v = .ref a /\ H a = some (.tup (wlT x)))
theorem int_dec {a b : Int} (h : decide (V.int a = V.int b) = true) : a = b := by
 have := of_decide_eq_true h
 injection this
theorem int_ndec {a b : Int} (h : ¬ decide (V.int a = V.int b) = true) : ¬ a = b := fun e => h (by rw [e]; exact decide_eq_true rfl)
section
variable {P : Program} {w : World} {K : W.Frag} {mg : Str -> Option Value} {base : Heap}
def spBelow (K : W.Frag) : Sp := fun vs H Q _ => ∃ (a : Addr) (ns : List Int), vs = [.ref a] /\ Sq K H a ns /\ ns.length <= 100 /\ ∀ (l : Addr) (H' : Hp), Same H H' -> H l = none -> H' l = some (.lst ((belL ns).map V.int)) -> Q (.ref l) H'
theorem scBelow : FnScope ["numbers"] ["numbers"] (defScope sBelow) := ⟨rfl, rfl, rfl, by decide +kernel, rfl, by decide +kernel, by decide +kernel⟩
theorem ok_below {f : Addr} {fd : FuncData} (F : Fun K "places_below" "places_below" sBelow f fd) (B : Bn mg) : FnOk P w K mg base CX0 1 f fd ["numbers"] (spBelow K) := by
 refine F.ok scBelow (fun vs H Q E h => ?_) (fun cdv A outer s H vs Q E hr h => ?_)
 ·obtain ⟨a, ns, rfl, _⟩ := h
  rfl
 ·obtain ⟨a, ns, rfl, hS, hn, q⟩ := h
  have hsl := sl1000
  have nd2 : (["place", "number"] : List Str).Nodup := by decide +kernel
  refine ⟨_, pss_one (ps_ret (pe_comp (N' := ["place", "number"]) (lk := [none, none]) rfl (pi_or (pi_enum (by rfl) B.enum (pa_cons (pv 0) pa_nil)) (pi_enumT (by rfl) B.enum (pa_cons (pv 0) pa_nil))) (by rfl) rfl (by decide +kernel) (by exact trivial) (by rfl) (by exact LkL.ok trivial)
     (fun _ _ _ => pg_tupK (n := 2) K rfl rfl (pgs_cons (pg_name (i := 0) nd2 rfl (Or.inl rfl)) (pgs_cons (pg_name (i := 1) nd2 rfl (Or.inl rfl)) pgs_nil))) (fun _ _ _ => pts_one (pt_cmpR op_lt (pv 1) pe_int (nomark _))) (fun _ _ _ => pv 0))), ?_⟩
  refine Or.imp (fun h => ⟨_, rfl, h⟩) (fun h => ⟨_, rfl, h⟩) (comp_enumS (K := K) (a := a) (ys := ns.map V.int) hS (by rw [List.length_map]; omega)
   (fun D i xs σ' H' => (∃ v u, σ' = [v, u]) /\ Same H H' /\ H' D = some (.lst xs) /\ xs = ((belN ns i).map Int.ofNat).map V.int) (fun D hD => ⟨⟨none, none, rfl⟩, same_upd hD, upd_same, rfl⟩)
   (fun D i xs σ' H' hD hi ⟨_, s1, h1, e1⟩ => ⟨s1, h1, by rw [e1, List.length_map, List.length_map]; exact belN_len ns i⟩) ?_ ?_)
  ·rintro D i xs x t σ' H' N hD kN hx ⟨⟨v, u, rfl⟩, s1, h1, rfl⟩ ht
   obtain ⟨z, hz, rfl⟩ := int_get hx
   have s2 := same_upd (o := .tup [.int i, .int z]) ht
   refine ⟨t, _, rfl, SqT.of upd_same, rfl, _, _, rfl, _, _, rfl, rfl, ?_⟩
   refine ⟨_, rfl, _, _, rfl, rfl, _, rfl, ?_⟩
   have e3 := belN_succ ns i
   rw [bel_getD hz] at e3
   by_cases hb : z < 0
   ·rw [decide_eq_true hb]
    refine iteT ⟨_, rfl, s2 _ _ h1, kN _ _ _ ⟨⟨_, _, rfl⟩, (s1.trans s2).upd hD, upd_same, ?_⟩⟩
    rw [e3, if_pos hb, List.map_append, List.map_append]
    rfl
   ·rw [decide_eq_false hb]
    refine iteF (kN _ _ _ ⟨⟨_, _, rfl⟩, s1.trans s2, s2 _ _ h1, ?_⟩)
    rw [e3, if_neg hb, List.append_nil]
  ·rintro D xs σ' H' hD ⟨⟨v, u, rfl⟩, s1, h1, rfl⟩
   rw [List.length_map] at h1
   exact q D H' s1 hD h1
def spWallW (K : W.Frag) (CB : Addr) : Sp := fun vs H Q E => ∃ (a : Addr) (ns : List Int) (M : Nat), vs = [.ref a, .int M] /\ Sq K H a ns /\ M <= 1000000 /\ (isTl ns -> ∀ (v : V) (x : Wl) (H' : Hp), Same H H' -> IsWlM ns M x -> WlAt H' v x -> Q v H') /\ (¬ isTl ns -> E (.ref CB) none H)
theorem scWallW : FnScope ["tally", "most", "below", "numbers", "r"] ["tally", "most"] (defScope sWallW) := ⟨rfl, rfl, rfl, by decide +kernel, rfl, by decide +kernel, by decide +kernel⟩
set_option maxHeartbeats 1000000 in
theorem ok_wallW {f fT fF fA fβ CB : Addr} {fd fdT fdF fdA fdβ : FuncData} {tk : Tok} (F : Fun K "wall_with" "wall_with" sWallW f fd) (B : Bn mg) (FT : Fun K "check_tally" "check_tally" sChT fT fdT) (bT : Binds K fdT ["tally"] []) (mT : mg "check_tally" = some (.ref fT))
  (FF : Fun K "falling" "falling" sFall fF fdF) (bF : Binds K fdF ["tally"] []) (mF : mg "falling" = some (.ref fF)) (FA : Fun K "room_among" "room_among" sAmong fA fdA) (bA : Binds K fdA ["numbers", "most", "r"] []) (mA : mg "room_among" = some (.ref fA))
  (Fβ : Fun K "places_below" "places_below" sBelow fβ fdβ) (bβ : Binds K fdβ ["numbers"] []) (mβ : mg "places_below" = some (.ref fβ))
  (mM : mg "MOST_PLACES" = some (.int 24 tk)) (mB : mg "BadTally" = some (.ref CB)) (cB : ExcC K CB) : FnOk P w K mg base (CXE P w) 2 f fd ["tally", "most"] (spWallW K CB) := by
 have GT : FnOk P w K mg base (CXE P w) 1 fT fdT ["tally"] (spChT K CB) := ok_chT FT B mM mB cB
 have GF : FnOk P w K mg base CX0 1 fF fdF ["tally"] (spFall K) := ok_fall FF B
 have GA : FnOk P w K mg base CX0 1 fA fdA ["numbers", "most", "r"] (spAmong K) := ok_among FA B
 have GL : FnOk P w K mg base CX0 1 fβ fdβ ["numbers"] (spBelow K) := ok_below Fβ B
 refine F.okX scWallW (fun vs H Q E h => ?_) (fun cdv A outer s H vs Q E hr h => ?_)
 ·obtain ⟨a, ns, M, rfl, _⟩ := h
  rfl
 ·obtain ⟨a, ns, M, rfl, hS, hM, h1, h2⟩ := h
  have hsl := sl1000
  refine ⟨_, pss_cons (ps_expr (pe_call GT hr (by rfl) mT FT.kp bT .nil passE (pa_cons (pv 0) pa_nil)))
    (pss_cons (ps_set (i := 2) scWallW.nd rfl (Or.inl rfl) (pe_call GL hr (by rfl) mβ Fβ.kp bβ .nil pass0 (pa_cons (pv 0) pa_nil)))
    (pss_cons (ps_if (pt_truth (pv 2) (fun _ => rfl)) (pss_one (ps_ret (pe_tup (pa_cons pe_str (pa_cons (pe_ix ix_list (pv 2) pe_int (fun _ _ => rfl)) pa_nil))))) pss_nil)
    (pss_cons (ps_if (pt_cmpR op_eq (pe_op op_mod (pe_callB (call_sumS rfl) (by rfl) B.sum (by rfl) (pa_cons (pv 0) pa_nil)) pe_int) pe_int (nomark _)) (pss_one (ps_ret (pe_tup (pa_cons pe_str pa_nil)))) pss_nil)
    (pss_cons (ps_set (i := 3) scWallW.nd rfl (Or.inl rfl) (pe_call GF hr (by rfl) mF FF.kp bF .nil pass0 (pa_cons (pv 0) pa_nil)))
    (pss_cons (ps_for po_leave rfl (pi_range2 rfl B.range (pa_cons pe_int (pa_cons (pe_op op_add (pe_callB call_len_seq (by rfl) B.len PySem.boot_len (pa_cons (pv 3) pa_nil)) pe_int) pa_nil))) (pg_name (i := 4) scWallW.nd rfl (Or.inl rfl))
     (pss_one (ps_if (pt_cmpR op_lt (pe_call GA hr (by rfl) mA FA.kp bA .nil pass0 (pa_cons (pv 3) (pa_cons (pv 1) (pa_cons (pv 4) pa_nil)))) pe_int (nomark _)) (pss_one (ps_ret (pe_tup (pa_cons pe_str (pa_cons (pv 4) pa_nil))))) pss_nil)))
    (pss_one (ps_ret pe_non))))))), ?_⟩
  refine ⟨_, rfl, a, ns, rfl, hS, fun ht => ?_, h2⟩
  have t2 := ht.2
  refine ⟨_, rfl, a, ns, rfl, hS, by omega, fun bl H1 s1 hbl g1 => ?_⟩
  refine ⟨_, rfl, _, .inl ⟨_, SqL.of g1, rfl⟩, ?_⟩
  unfold belL at g1 ⊢
  cases hb : belN ns ns.length with
  | cons p ps =>
   rw [hb] at g1
   refine iteT ⟨_, rfl, bl, _, _, _, rfl, rfl, SqL.of g1, atI_nat (j := 0) rfl, (by show 2 <= sizeLine; decide), fun q hq => ?_⟩
   exact h1 ht _ (.below p) _ (s1.trans (same_upd hq)) (bel_cons hb) (.inr ⟨by simp, q, rfl, upd_same⟩)
  | nil =>
   have hall : AllP ns := bel_nil hb
   refine iteF ?_
   refine ⟨_, rfl, a, ns, rfl, hS.same s1, _, _, rfl, rfl, (by show (0 : Int) < 2; decide), rfl, _, rfl, ?_⟩
   refine ite2 (fun h => ?_) (fun h => ?_)
   ·exact ⟨(by show 1 <= sizeLine; decide), fun p hp => h1 ht _ .odd _ (s1.trans (same_upd hp)) ⟨hall, int_dec h⟩ (.inr ⟨by simp, p, rfl, upd_same⟩)⟩
   ·have hev := int_ndec h
    refine ⟨_, rfl, a, ns, rfl, hS.same s1, by omega, fun l H2 s2 hl g2 => ?_⟩
    refine ⟨_, rfl, l, _, rfl, .inl (SqL.of g2), _, _, rfl, rfl, 1, ((ns.length : Int) + 1), by rw [List.length_map, List.length_reverse, up2_len], ⟨by omega, by omega, by omega, by omega⟩, ?_⟩
    rw [show ((ns.length : Int) + 1 - 1).toNat = ns.length by omega]
    refine for_range (lo := 1) (n := ns.length) (fun i σ H3 => ∃ e4, σ = [some (.ref a), some (.int M), some (.ref bl), some (.ref l), e4] /\ Same H2 H3 /\ ∀ k, 1 <= k -> k < i + 1 -> 0 <= roomM ns M k) ⟨none, rfl, Same.refl H2, fun k k1 k2 => by omega⟩ ?_ ?_
    ·rintro i σ H3 hi ⟨e4, rfl, s3, hrm⟩
     have e0 : ((1 : Int) + (i : Int)) = ((i + 1 : Nat) : Int) := by omega
     rw [e0]
     refine gName_to ?_
     refine ⟨_, rfl, _, rfl, _, rfl, l, ns, M, i + 1, rfl, SqL.of (s3 _ _ g2), hM, by omega, by omega, fun H4 s4 => ⟨_, _, rfl, rfl, _, rfl, ?_⟩⟩
     refine ite2 (fun h => ?_) (fun h => ?_)
     ·refine ⟨_, rfl, (by show 2 <= sizeLine; decide), fun p hp => ?_⟩
      exact h1 ht _ (.wall (i + 1)) _ ((((s1.trans s2).trans s3).trans s4).trans (same_upd hp)) ⟨hall, hev, by omega, by omega, of_decide_eq_true h, hrm⟩ (.inr ⟨by simp, p, rfl, upd_same⟩)
     ·have h' : ¬ roomM ns M (i + 1) < 0 := fun q => h (decide_eq_true q)
      refine ⟨_, rfl, s3.trans s4, fun k k1 k2 => ?_⟩
      rcases Nat.lt_or_ge k (i + 1) with l1 | l1
      ·exact hrm k k1 l1
      ·rw [show k = i + 1 by omega]; omega
    ·rintro σ H3 ⟨e4, rfl, s3, hrm⟩
     exact h1 ht _ .free _ ((s1.trans s2).trans s3) ⟨hall, hev, fun k k1 k2 => hrm k k1 (by omega)⟩ (.inl ⟨rfl, rfl⟩)
end
theorem p60 : (0 : Int) < 10 ^ (Int.toNat 60) := Int.pow_pos (by decide)
theorem p6 : (10 : Int) ^ (Int.toNat 6) = 1000000 := by decide
theorem set_map_int (ns : List Int) (j : Nat) (v : Int) : (ns.map V.int).set j (.int v) = (ns.set j v).map V.int := by rw [List.map_set]
theorem at_int {ns : List Int} {j : Nat} (h : j < ns.length) : atI (ns.map V.int) (j : Int) = some (.int (ns.getD j 0)) := atI_nat (j := j) (by simp [h])
theorem rep0i (n : Nat) (z : Int) : (List.replicate n [V.int z]).flatten = (List.replicate n z).map V.int := by
 induction n with
 | zero => rfl
 | succ n ih => rw [List.replicate_succ, List.flatten_cons, ih, List.replicate_succ]; rfl
theorem fit63 {k : Int} (h0 : 0 <= k) (h1 : k < 1000) : -(2 ^ 63) <= k /\ k < 2 ^ 63 := by
 constructor <;> omega
section
variable {P : Program} {w : World} {K : W.Frag} {mg : Str -> Option Value} {base : Heap}
def spRow (K : W.Frag) : Sp := fun vs H Q _ => ∃ (c : Int) (m z : Nat), vs = [.int c, .int m, .int z] /\ m <= 300 /\ 1 <= z /\ z <= 100000000 /\ ∀ (l : Addr) (ts : List Int) (H' : Hp), ts.length = m -> Same H H' -> H l = none -> H' l = some (.lst (ts.map V.int)) -> Q (.ref l) H'
theorem scRow : FnScope ["cell", "many", "size", "rest", "stir", "row", "k"] ["cell", "many", "size"] (defScope sRow) := ⟨rfl, rfl, rfl, by decide +kernel, rfl, by decide +kernel, by decide +kernel⟩
theorem ok_row {f : Addr} {fd : FuncData} (F : Fun K "_law_row" "_law_row" sRow f fd) (B : Bn mg) : FnOk P w K mg base CX0 1 f fd ["cell", "many", "size"] (spRow K) := by
 refine F.ok scRow (fun vs H Q E h => ?_) (fun cdv A outer s H vs Q E hr h => ?_)
 ·obtain ⟨c, m, z, rfl, _⟩ := h
  rfl
 ·obtain ⟨c, m, z, rfl, hm, hz1, hz2, q⟩ := h
  have hsl := sl1000
  have hz0 : (0 : Int) < (z : Int) := by omega
  refine ⟨_, pss_cons (ps_set (i := 0) scRow.nd rfl (Or.inl rfl) (pe_op op_mod (pv 0) (pe_op op_pow pe_int pe_int)))
   (pss_cons (ps_set (i := 3) scRow.nd rfl (Or.inl rfl) (pe_op op_fdiv (pv 0) pe_int))
   (pss_cons (ps_set (i := 4) scRow.nd rfl (Or.inl rfl) (pv 0))
   (pss_cons (ps_set (i := 5) scRow.nd rfl (Or.inl rfl) (pe_lst pa_nil))
   (pss_cons (ps_for PassesOwn.never rfl (pi_range1 rfl B.range (pa_cons (pv 1) pa_nil)) (pg_name (i := 6) scRow.nd rfl (Or.inl rfl))
    (pss_one (ps_if (pt_cmpR op_eq (pe_op op_mod (pv 0) pe_int) pe_int (nomark _))
     (pss_cons (ps_expr (pe_bm PySem.F.plainAttrs_list PySem.F.slot_list_append PySem.F.type_list_append mt_append (pv 5) (pa_cons (pe_op op_mod (pv 3) (pv 2)) pa_nil)))
     (pss_one (ps_set (i := 3) scRow.nd rfl (Or.inl rfl) (pe_op op_fdiv (pv 3) (pv 2)))))
     (pss_cons (ps_set (i := 4) scRow.nd rfl (Or.inl rfl) (pe_op op_mod (pe_op op_add (pe_op op_mod (pv 4) pe_int) (pe_op op_mul pe_int (pe_op op_add (pv 6) pe_int))) pe_int))
     (pss_cons (ps_set (i := 4) scRow.nd rfl (Or.inl rfl) (pe_op op_mod (pe_op op_mul (pv 4) (pv 4)) pe_int))
     (pss_cons (ps_set (i := 4) scRow.nd rfl (Or.inl rfl) (pe_op op_mod (pe_op op_mul (pv 4) pe_int) pe_int))
     (pss_one (ps_expr (pe_bm PySem.F.plainAttrs_list PySem.F.slot_list_append PySem.F.type_list_append mt_append (pv 5) (pa_cons (pe_op op_mod (pe_op op_fdiv (pv 4) pe_int) (pv 2)) pa_nil))))))))))
   (pss_one (ps_ret (pv 5))))))), ?_⟩
  refine ⟨_, rfl, _, _, rfl, rfl, ⟨by decide, by decide, by decide⟩, _, _, rfl, rfl, p60, ?_⟩
  refine gName_int fun c1 _ => ?_
  refine ⟨_, rfl, _, _, rfl, rfl, ⟨by decide, by decide⟩, ?_⟩
  refine gName_int fun r0 _ => ?_
  refine ⟨_, rfl, ?_⟩
  refine ⟨by show 0 <= sizeLine; omega, fun l hl => ?_⟩
  have s0 := same_upd (o := .lst []) hl
  refine ⟨_, rfl, m, rfl, by omega, by omega, for_range (lo := 0) (n := m) (fun i σ H1 => ∃ (ts : List Int) (r st : Int) (e6 : Option V), σ = [some (.int c1), some (.int m), some (.int z), some (.int r), some (.int st), some (.ref l), e6] /\ Same H H1 /\ H1 l = some (.lst (ts.map V.int)) /\ ts.length = i)
   ⟨[], r0, c1, none, rfl, s0, upd_same, rfl⟩ ?_ ?_⟩
  ·rintro i σ H1 hi ⟨ts, r, st, e6, rfl, s1, g1, hl1⟩
   have e0 : ((0 : Int) + (i : Int)) = (i : Int) := by omega
   rw [e0]
   refine gName_to ?_
   refine ⟨_, rfl, _, _, rfl, rfl, (by show (0 : Int) < 2; decide), rfl, _, rfl, ?_⟩
   refine ite2 (fun h => ?_) (fun h => ?_)
   ·refine ⟨_, rfl, .inl ⟨rfl, _, SqL.of g1⟩, _, rfl, _, rfl, _, _, rfl, rfl, hz0, l, _, _, rfl, rfl, g1, by rw [List.length_map]; omega, ?_⟩
    refine ⟨_, rfl, _, rfl, _, _, rfl, rfl, ⟨hz0, by omega⟩, ?_⟩
    exact ⟨ts ++ [r % (z : Int)], _, _, _, rfl, s1.upd hl, by rw [upd_same, List.map_append]; rfl, by rw [List.length_append, hl1]; rfl⟩
   ·refine ⟨_, rfl, _, _, rfl, rfl, (by show (0 : Int) < 998244353; decide), _, rfl, _, _, rfl, rfl, _, _, rfl, rfl, .inl ⟨by decide, by decide⟩, _, _, rfl, rfl, _, _, rfl, rfl, (by show (0 : Int) < 2147483647; decide), ?_⟩
    refine gName_int fun k1 hk1 => ?_
    have k10 : 0 <= k1 := by rw [hk1]; exact Int.emod_nonneg _ (by decide)
    have k11 : k1 < 2147483647 := by rw [hk1]; exact Int.emod_lt_of_pos _ (by decide)
    clear hk1
    refine ⟨_, rfl, _, rfl, _, _, rfl, rfl, .inl ⟨by omega, by omega⟩, _, _, rfl, rfl, (by show (0 : Int) < 2147483629; decide), ?_⟩
    refine gName_int fun k2 _ => ?_
    refine ⟨_, rfl, _, _, rfl, rfl, .inr ⟨by decide, by decide⟩, _, _, rfl, rfl, (by show (0 : Int) < 2147483647; decide), ?_⟩
    refine gName_int fun k3 _ => ?_
    refine ⟨_, rfl, .inl ⟨rfl, _, SqL.of g1⟩, _, rfl, _, _, rfl, rfl, ⟨by decide, by decide⟩, _, rfl, _, _, rfl, rfl, hz0, l, _, _, rfl, rfl, g1, by rw [List.length_map]; omega, ?_⟩
    exact ⟨ts ++ [k3 / 7 % (z : Int)], _, _, _, rfl, s1.upd hl, by rw [upd_same, List.map_append]; rfl, by rw [List.length_append, hl1]; rfl⟩
  ·rintro σ H1 ⟨ts, r, st, e6, rfl, s1, g1, hl1⟩
   exact ⟨_, rfl, q l ts H1 hl1 s1 hl g1⟩
end
end Web
namespace Thk
open Grf
section
variable {m : Nat} {M L : Int} {c x : Nat -> Int}
def sz (m : Nat) (σ : Nat -> Bool) : Int := S m fun j => b2 (σ j)
def fV (m : Nat) (M : Int) (c : Nat -> Int) (σ τ : Nat -> Bool) : Int := S m (fun j => (b2 (σ j) - b2 (τ j)) * c j) - M * (sz m σ * ((m : Int) - 1 - sz m τ))
def Apart (m : Nat) (σ τ : Nat -> Bool) : Prop := ∀ j, j < m -> ¬ (σ j = true /\ τ j = true)
theorem al1 (u v w c k : Int) : (u - v) * (c - k) = (u - w) * c - (v - w) * c - k * (u - v) := by
 rw [Int.mul_sub, Int.mul_comm k (u - v), <- Int.sub_mul]
 have : u - w - (v - w) = u - v := by omega
 rw [this]
theorem al2 (u v w c k : Int) : (u - v) * (c - k) = (w - v) * c - (w - u) * c - k * (u - v) := by
 rw [Int.mul_sub, Int.mul_comm k (u - v), <- Int.sub_mul]
 have : w - v - (w - u) = u - v := by omega
 rw [this]
theorem f_sig (σ σ' τ : Nat -> Bool) : fV m M c σ' τ = fV m M c σ τ + S m (fun j => (b2 (σ' j) - b2 (σ j)) * (c j - M * ((m : Int) - 1 - sz m τ))) := by
 unfold fV
 have e1 : S m (fun j => (b2 (σ' j) - b2 (σ j)) * (c j - M * ((m : Int) - 1 - sz m τ))) = S m (fun j => (b2 (σ' j) - b2 (τ j)) * c j - (b2 (σ j) - b2 (τ j)) * c j - (M * ((m : Int) - 1 - sz m τ)) * (b2 (σ' j) - b2 (σ j))) := S_congr fun j _ => al1 _ _ _ _ _
 rw [e1, S_sub, S_sub, S_mul, S_sub]
 unfold sz
 have e2 : M * ((m : Int) - 1 - S m fun j => b2 (τ j)) * ((S m fun j => b2 (σ' j)) - S m fun j => b2 (σ j)) = M * ((S m fun j => b2 (σ' j)) * ((m : Int) - 1 - S m fun j => b2 (τ j))) - M * ((S m fun j => b2 (σ j)) * ((m : Int) - 1 - S m fun j => b2 (τ j))) := by
  rw [Int.mul_sub, Int.mul_assoc, Int.mul_assoc, Int.mul_comm ((m : Int) - 1 - S m fun j => b2 (τ j)), Int.mul_comm ((m : Int) - 1 - S m fun j => b2 (τ j))]
 rw [e2]
 omega
theorem f_tau (σ τ τ' : Nat -> Bool) : fV m M c σ τ' = fV m M c σ τ - S m (fun j => (b2 (τ' j) - b2 (τ j)) * (c j - M * sz m σ)) := by
 unfold fV
 have e1 : S m (fun j => (b2 (τ' j) - b2 (τ j)) * (c j - M * sz m σ)) = S m (fun j => (b2 (σ j) - b2 (τ j)) * c j - (b2 (σ j) - b2 (τ' j)) * c j - (M * sz m σ) * (b2 (τ' j) - b2 (τ j))) := S_congr fun j _ => al2 _ _ _ _ _
 rw [e1, S_sub, S_sub, S_mul, S_sub]
 have e2 : M * sz m σ * ((S m fun j => b2 (τ' j)) - S m fun j => b2 (τ j)) = M * (sz m σ * ((m : Int) - 1 - sz m τ)) - M * (sz m σ * ((m : Int) - 1 - sz m τ')) := by
  rw [<- Int.mul_sub, <- Int.mul_sub, Int.mul_assoc]
  congr 2
  unfold sz
  omega
 rw [e2]
 omega
theorem f_bound (σ τ : Nat -> Bool) (hM : 0 <= M) : fV m M c σ τ <= S m (fun j => (c j).natAbs) + M * ((m : Int) * (m : Int)) + M * (m : Int) := by
 unfold fV
 have s0 : 0 <= sz m σ /\ sz m σ <= m := ⟨S_nonneg fun j _ => b2_nonneg _, by
  have : S m (fun j => b2 (σ j)) <= S m (fun _ => 1) := S_le fun j _ => b2_le _
  rw [S_const] at this
  unfold sz
  omega⟩
 have t0 : 0 <= sz m τ /\ sz m τ <= m := ⟨S_nonneg fun j _ => b2_nonneg _, by
  have : S m (fun j => b2 (τ j)) <= S m (fun _ => 1) := S_le fun j _ => b2_le _
  rw [S_const] at this
  unfold sz
  omega⟩
 have a : S m (fun j => (b2 (σ j) - b2 (τ j)) * c j) <= S m (fun j => ((c j).natAbs : Int)) := S_le fun j _ => by
  cases σ j <;> cases τ j <;> simp [b2] <;> omega
 have b : -(sz m σ) <= sz m σ * ((m : Int) - 1 - sz m τ) := by
  have : sz m σ * (-1) <= sz m σ * ((m : Int) - 1 - sz m τ) := Int.mul_le_mul_of_nonneg_left (by omega) s0.1
  omega
 have d : M * (-(m : Int)) <= M * (sz m σ * ((m : Int) - 1 - sz m τ)) := Int.mul_le_mul_of_nonneg_left (by omega) hM
 have e : 0 <= M * ((m : Int) * (m : Int)) := Int.mul_nonneg hM (Int.mul_nonneg (by omega) (by omega))
 rw [Int.mul_neg] at d
 omega
theorem f_max (hM : 0 <= M) {σ τ : Nat -> Bool} (h : Apart m σ τ) : ∃ σ' τ', Apart m σ' τ' /\ fV m M c σ τ <= fV m M c σ' τ' /\ ∀ σ₁ τ₁, Apart m σ₁ τ₁ -> fV m M c σ₁ τ₁ <= fV m M c σ' τ' := by
 obtain ⟨N, hN⟩ : ∃ N : Int, N = S m (fun j => ((c j).natAbs : Int)) + M * ((m : Int) * (m : Int)) + M * (m : Int) := ⟨_, rfl⟩
 have key : ∀ (n : Nat) (σ τ : Nat -> Bool), Apart m σ τ -> (N - fV m M c σ τ).toNat = n -> ∃ σ' τ', Apart m σ' τ' /\ fV m M c σ τ <= fV m M c σ' τ' /\ ∀ σ₁ τ₁, Apart m σ₁ τ₁ -> fV m M c σ₁ τ₁ <= fV m M c σ' τ' := by
  intro n
  induction n using Nat.strongRecOn with
  | _ n ih =>
   intro σ τ ha hn
   by_cases hm : ∀ σ₁ τ₁, Apart m σ₁ τ₁ -> fV m M c σ₁ τ₁ <= fV m M c σ τ
   ·exact ⟨σ, τ, ha, Int.le_refl _, hm⟩
   ·obtain ⟨σ₁, h1⟩ := Classical.not_forall.mp hm
    obtain ⟨τ₁, h2⟩ := Classical.not_forall.mp h1
    obtain ⟨a1, h3⟩ := Classical.not_imp.mp h2
    have b1 := f_bound (m := m) (c := c) σ₁ τ₁ hM
    have b0 := f_bound (m := m) (c := c) σ τ hM
    rw [<- hN] at b0 b1
    obtain ⟨σ', τ', q1, q2, q3⟩ := ih (N - fV m M c σ₁ τ₁).toNat (by omega) σ₁ τ₁ a1 rfl
    exact ⟨σ', τ', q1, by omega, q3⟩
 exact key _ σ τ h rfl
end
section
variable {m : Nat} {M L : Int} {c x : Nat -> Int}
def Mx (m : Nat) (M : Int) (c : Nat -> Int) (σ τ : Nat -> Bool) : Prop := Apart m σ τ /\ ∀ σ₁ τ₁, Apart m σ₁ τ₁ -> fV m M c σ₁ τ₁ <= fV m M c σ τ
def pP (m : Nat) (M : Int) (σ : Nat -> Bool) : Int := M * sz m σ
def qQ (m : Nat) (M : Int) (τ : Nat -> Bool) : Int := M * ((m : Int) - 1 - sz m τ)
def setB (σ : Nat -> Bool) (i : Nat) (v : Bool) : Nat -> Bool := fun j => if j = i then v else σ j
theorem setB_at {σ : Nat -> Bool} {i : Nat} {v : Bool} : setB σ i v i = v := if_pos rfl
theorem setB_ne {σ : Nat -> Bool} {i j : Nat} {v : Bool} (h : j ≠ i) : setB σ i v j = σ j := if_neg h
theorem S_set (σ : Nat -> Bool) (i : Nat) (v : Bool) (g : Nat -> Int) (hi : i < m) : S m (fun j => (b2 (setB σ i v j) - b2 (σ j)) * g j) = (b2 v - b2 (σ i)) * g i := by
 rw [S_pick (g := fun _ => 0) hi (fun j _ hj => by rw [setB_ne hj]; simp), S_zero, setB_at]
 omega
theorem ge_q {σ τ : Nat -> Bool} (h : Mx m M c σ τ) {j : Nat} (hj : j < m) (hs : σ j = true) : qQ m M τ <= c j := by
 have a := h.2 (setB σ j false) τ (fun i hi ⟨u, v⟩ => by
  by_cases e : i = j
  ·subst e; rw [setB_at] at u; cases u
  ·rw [setB_ne e] at u; exact h.1 i hi ⟨u, v⟩)
 rw [f_sig σ (setB σ j false) τ, S_set σ j false _ hj, hs] at a
 unfold qQ
 simp only [b2_t, b2_f] at a
 omega
theorem le_q {σ τ : Nat -> Bool} (h : Mx m M c σ τ) {j : Nat} (hj : j < m) (hs : σ j = false) (ht : τ j = false) : c j <= qQ m M τ := by
 have a := h.2 (setB σ j true) τ (fun i hi ⟨u, v⟩ => by
  by_cases e : i = j
  ·subst e; rw [ht] at v; cases v
  ·rw [setB_ne e] at u; exact h.1 i hi ⟨u, v⟩)
 rw [f_sig σ (setB σ j true) τ, S_set σ j true _ hj, hs] at a
 unfold qQ
 simp only [b2_t, b2_f] at a
 omega
theorem le_p {σ τ : Nat -> Bool} (h : Mx m M c σ τ) {j : Nat} (hj : j < m) (ht : τ j = true) : c j <= pP m M σ := by
 have a := h.2 σ (setB τ j false) (fun i hi ⟨u, v⟩ => by
  by_cases e : i = j
  ·subst e; rw [setB_at] at v; cases v
  ·rw [setB_ne e] at v; exact h.1 i hi ⟨u, v⟩)
 rw [f_tau σ τ (setB τ j false), S_set τ j false _ hj, ht] at a
 unfold pP
 simp only [b2_t, b2_f] at a
 omega
theorem ge_p {σ τ : Nat -> Bool} (h : Mx m M c σ τ) {j : Nat} (hj : j < m) (hs : σ j = false) (ht : τ j = false) : pP m M σ <= c j := by
 have a := h.2 σ (setB τ j true) (fun i hi ⟨u, v⟩ => by
  by_cases e : i = j
  ·subst e; rw [hs] at u; cases u
  ·rw [setB_ne e] at v; exact h.1 i hi ⟨u, v⟩)
 rw [f_tau σ τ (setB τ j true), S_set τ j true _ hj, ht] at a
 unfold pP
 simp only [b2_t, b2_f] at a
 omega
theorem same_sig {σ σ' τ : Nat -> Bool} (h : ∀ j, j < m -> σ' j ≠ σ j -> c j = qQ m M τ) : fV m M c σ' τ = fV m M c σ τ := by
 rw [f_sig σ σ' τ, S_congr (g := fun _ => 0) fun j hj => ?_, S_zero, Int.add_zero]
 by_cases e : σ' j = σ j
 ·rw [e, Int.sub_self, Int.zero_mul]
 ·rw [h j hj e]; unfold qQ; rw [Int.sub_self, Int.mul_zero]
theorem same_tau {σ τ τ' : Nat -> Bool} (h : ∀ j, j < m -> τ' j ≠ τ j -> c j = pP m M σ) : fV m M c σ τ' = fV m M c σ τ := by
 rw [f_tau σ τ τ', S_congr (g := fun _ => 0) fun j hj => ?_, S_zero, Int.sub_zero]
 by_cases e : τ' j = τ j
 ·rw [e, Int.sub_self, Int.zero_mul]
 ·rw [h j hj e]; unfold pP; rw [Int.sub_self, Int.mul_zero]
structure Shr (m : Nat) (M L : Int) (c x : Nat -> Int) : Prop where
 m1 : 1 <= M
 x0 : ∀ j, j < m -> 0 <= x j
 xM : ∀ j, j < m -> x j <= M
 lo : ∀ j, j < m -> 0 < x j -> L - 1 <= c j
 hi : ∀ j, j < m -> x j < M -> c j <= L
 A : ∀ σ τ, Apart m σ τ -> fV m M c σ τ <= S m fun j => b2 (σ j) * (M - x j) + b2 (τ j) * x j
 B : ∀ σ τ, Apart m σ τ -> fV m M c σ τ <= S m fun j => (1 + b2 (σ j) - b2 (τ j)) * (M - x j)
 C : ∀ σ τ, Apart m σ τ -> fV m M c σ τ <= S m fun j => (1 - b2 (σ j) + b2 (τ j)) * x j
def full (M : Int) (x : Nat -> Int) (σ : Nat -> Bool) : Nat -> Bool := fun j => σ j && decide (x j = M)
def none0 (x : Nat -> Int) (τ : Nat -> Bool) : Nat -> Bool := fun j => τ j && decide (x j = 0)
theorem full_t {σ : Nat -> Bool} {j : Nat} : full M x σ j = true ↔ σ j = true /\ x j = M := by simp [full]
theorem none0_t {τ : Nat -> Bool} {j : Nat} : none0 x τ j = true ↔ τ j = true /\ x j = 0 := by simp [none0]
theorem full_ap {σ τ : Nat -> Bool} (h : Apart m σ τ) : Apart m (full M x σ) τ := fun j hj ⟨u, v⟩ => h j hj ⟨(full_t.mp u).1, v⟩
theorem none0_ap {σ τ : Nat -> Bool} (h : Apart m σ τ) : Apart m σ (none0 x τ) := fun j hj ⟨u, v⟩ => h j hj ⟨u, (none0_t.mp v).1⟩
theorem full_ne {σ : Nat -> Bool} {j : Nat} (h : full M x σ j ≠ σ j) : σ j = true /\ x j ≠ M := by
 unfold full at h
 cases e : σ j
 ·rw [e] at h; simp at h
 ·rw [e] at h; exact ⟨rfl, by simpa using h⟩
theorem none0_ne {τ : Nat -> Bool} {j : Nat} (h : none0 x τ j ≠ τ j) : τ j = true /\ x j ≠ 0 := by
 unfold none0 at h
 cases e : τ j
 ·rw [e] at h; simp at h
 ·rw [e] at h; exact ⟨rfl, by simpa using h⟩
theorem full_same (H : Shr m M L c x) {σ τ : Nat -> Bool} (h : Mx m M c σ τ) (hq : L <= qQ m M τ) : fV m M c (full M x σ) τ = fV m M c σ τ := same_sig fun j hj e => by
 have := full_ne e
 have a := H.hi j hj (by have := H.xM j hj; omega)
 have b := ge_q h hj this.1
 omega
theorem none0_same (H : Shr m M L c x) {σ τ : Nat -> Bool} (h : Mx m M c σ τ) (hp : pP m M σ <= L - 1) : fV m M c σ (none0 x τ) = fV m M c σ τ := same_tau fun j hj e => by
 have := none0_ne e
 have a := H.lo j hj (by have := H.x0 j hj; omega)
 have b := le_p h hj this.1
 omega
theorem S_le0 {g : Nat -> Int} (h : ∀ j, j < m -> g j <= 0) : S m g <= 0 := by
 have := S_le (g := fun _ => 0) h
 rw [S_zero] at this
 exact this
theorem A0 (H : Shr m M L c x) {σ τ : Nat -> Bool} (ha : Apart m σ τ) (hs : ∀ j, j < m -> σ j = true -> x j = M) (ht : ∀ j, j < m -> τ j = true -> x j = 0) : fV m M c σ τ <= 0 :=
 Int.le_trans (H.A σ τ ha) (S_le0 fun j hj => by
  cases e : σ j <;> cases e' : τ j <;> simp only [b2_t, b2_f, Int.zero_mul, Int.one_mul]
  ·omega
  ·have := ht j hj e'; omega
  ·have := hs j hj e; omega
  ·have := ht j hj e'; have := hs j hj e; omega)
theorem X0 (H : Shr m M L c x) {σ τ : Nat -> Bool} (h : Mx m M c σ τ) (ht : ∀ j, j < m -> τ j = true -> x j = 0) : fV m M c σ τ <= 0 := by
 by_cases hq : L <= qQ m M τ
 ·rw [<- full_same H h hq]
  exact A0 H (full_ap h.1) (fun j _ e => (full_t.mp e).2) ht
 ·let σ' : Nat -> Bool := fun j => σ j || (!τ j && decide (0 < x j))
  have hσ : ∀ j, σ' j = (σ j || (!τ j && decide (0 < x j))) := fun _ => rfl
  have ap : Apart m σ' τ := fun j hj ⟨u, v⟩ => by
   rw [hσ, v] at u
   simp at u
   exact h.1 j hj ⟨u, v⟩
  have e : fV m M c σ' τ = fV m M c σ τ := same_sig fun j hj e => by
   rw [hσ] at e
   cases e1 : σ j
   ·cases e2 : τ j
    ·rw [e1, e2] at e
     have e3 : 0 < x j := by simpa using e
     have a := H.lo j hj e3
     have b := le_q h hj e1 e2
     omega
    ·rw [e1, e2] at e; simp at e
   ·rw [e1] at e; simp at e
  rw [<- e]
  refine Int.le_trans (H.C σ' τ ap) (S_le0 fun j hj => ?_)
  rw [hσ]
  cases e1 : σ j
  ·cases e2 : τ j
   ·by_cases e3 : 0 < x j
    ·simp [e3, b2]
    ·have := H.x0 j hj
     have e4 : x j = 0 := by omega
     rw [e4, Int.mul_zero]; exact Int.le_refl _
   ·rw [ht j hj e2, Int.mul_zero]; exact Int.le_refl _
  ·cases e2 : τ j
   ·simp [b2]
   ·exact absurd ⟨e1, e2⟩ (h.1 j hj)
theorem XM (H : Shr m M L c x) {σ τ : Nat -> Bool} (h : Mx m M c σ τ) (hs : ∀ j, j < m -> σ j = true -> x j = M) : fV m M c σ τ <= 0 := by
 by_cases hp : pP m M σ <= L - 1
 ·rw [<- none0_same H h hp]
  exact A0 H (none0_ap h.1) hs (fun j _ e => (none0_t.mp e).2)
 ·let τ' : Nat -> Bool := fun j => τ j || (!σ j && decide (x j < M))
  have hτ : ∀ j, τ' j = (τ j || (!σ j && decide (x j < M))) := fun _ => rfl
  have ap : Apart m σ τ' := fun j hj ⟨u, v⟩ => by
   rw [hτ, u] at v
   simp at v
   exact h.1 j hj ⟨u, v⟩
  have e : fV m M c σ τ' = fV m M c σ τ := same_tau fun j hj e => by
   rw [hτ] at e
   cases e2 : τ j
   ·cases e1 : σ j
    ·rw [e1, e2] at e
     have e3 : x j < M := by simpa using e
     have a := H.hi j hj e3
     have b := ge_p h hj e1 e2
     omega
    ·rw [e1, e2] at e; simp at e
   ·rw [e2] at e; simp at e
  rw [<- e]
  refine Int.le_trans (H.B σ τ' ap) (S_le0 fun j hj => ?_)
  rw [hτ]
  cases e1 : σ j
  ·cases e2 : τ j
   ·by_cases e3 : x j < M
    ·simp [e3, b2]
    ·have := H.xM j hj
     have e4 : M - x j = 0 := by omega
     rw [e4, Int.mul_zero]; exact Int.le_refl _
   ·simp [b2]
  ·rw [hs j hj e1, Int.sub_self, Int.mul_zero]; exact Int.le_refl _
end
section
variable {m : Nat} {M L : Int} {c x : Nat -> Int}
def cut (m : Nat) (σ σ' : Nat -> Bool) : Int := S m fun j => b2 (σ j) - b2 (σ' j)
theorem sz_cut (σ σ' : Nat -> Bool) : sz m σ' = sz m σ - cut m σ σ' := by
 unfold cut sz
 rw [S_sub]
 omega
theorem cut0 {σ σ' : Nat -> Bool} (h : ∀ j, j < m -> b2 (σ' j) <= b2 (σ j)) (e : cut m σ σ' <= 0) {j : Nat} (hj : j < m) : σ' j = σ j := by
 have a := S_ge (f := fun j => b2 (σ j) - b2 (σ' j)) hj fun i hi => by have := h i hi; omega
 have b := h j hj
 unfold cut at e
 have : b2 (σ' j) = b2 (σ j) := by omega
 cases e1 : σ' j <;> cases e2 : σ j <;> rw [e1, e2] at this <;> simp [b2] at this <;> rfl
theorem full_le (σ : Nat -> Bool) (j : Nat) : b2 (full M x σ j) <= b2 (σ j) := by
 unfold full
 cases σ j <;> cases decide (x j = M) <;> decide
theorem none0_le (τ : Nat -> Bool) (j : Nat) : b2 (none0 x τ j) <= b2 (τ j) := by
 unfold none0
 cases τ j <;> cases decide (x j = 0) <;> decide
theorem even_prod (s : Int) : ∃ k, s * (s - 1) = 2 * k := by
 rcases (show s % 2 = 0 \/ s % 2 = 1 by omega) with e | e
 ·obtain ⟨k, hk⟩ : ∃ k, s = 2 * k := ⟨s / 2, by omega⟩
  exact ⟨k * (s - 1), by rw [<- Int.mul_assoc, <- hk]⟩
 ·obtain ⟨k, hk⟩ : ∃ k, s - 1 = 2 * k := ⟨s / 2, by omega⟩
  exact ⟨k * s, by rw [<- Int.mul_assoc, <- hk, Int.mul_comm]⟩
theorem f_even {σ τ : Nat -> Bool} (hr : ∀ j, j < m -> b2 (σ j) + b2 (τ j) = 1) (hc : ∃ k, S m c = 2 * k) : ∃ k, fV m M c σ τ = 2 * k := by
 obtain ⟨k, hk⟩ := hc
 have st : sz m σ + sz m τ = m := by
  unfold sz
  rw [<- S_add, S_congr (g := fun _ => 1) hr, S_const]
  omega
 have e1 : S m (fun j => (b2 (σ j) - b2 (τ j)) * c j) = S m c - 2 * S m (fun j => b2 (τ j) * c j) := by
  rw [<- S_mul, <- S_sub]
  refine S_congr fun j hj => ?_
  have : b2 (σ j) = 1 - b2 (τ j) := by have := hr j hj; omega
  rw [this]
  cases τ j <;> simp [b2] <;> omega
 obtain ⟨n, hn⟩ := even_prod (sz m σ)
 unfold fV
 rw [e1, show (m : Int) - 1 - sz m τ = sz m σ - 1 by omega, hn, hk, show M * (2 * n) = 2 * (M * n) by rw [<- Int.mul_assoc, Int.mul_comm M 2, Int.mul_assoc]]
 exact ⟨k - S m (fun j => b2 (τ j) * c j) - M * n, by omega⟩
theorem last_le {h k w F : Int} (hM : 1 <= M) (h1 : 1 <= h) (k1 : 1 <= k) (w0 : 0 <= w) (w1 : w <= M - 1) (hF : F <= (h - k) * w + h - M * (k * (h - 1))) : F <= 1 := by
 have kh : 0 <= (k - 1) * (h - 1) := Int.mul_nonneg (by omega) (by omega)
 have e0 : (k - 1) * (h - 1) = k * (h - 1) - (h - 1) := by rw [Int.sub_mul]; omega
 by_cases c1 : k <= h
 ·have a : (h - k) * w <= (h - k) * (M - 1) := Int.mul_le_mul_of_nonneg_left w1 (by omega)
  have b : (h - k) * (M - 1) = M * (h - k) - (h - k) := by rw [Int.mul_sub, Int.mul_one, Int.mul_comm]
  have d : M * (h - k) - M * (k * (h - 1)) = M * (h - k - k * (h - 1)) := by rw [Int.mul_sub M (h - k)]
  have e2 : h - k - k * (h - 1) = -(h * (k - 1)) := by
   rw [Int.mul_sub, Int.mul_sub, Int.mul_comm h k]; omega
  have g : 1 * (h * (k - 1)) <= M * (h * (k - 1)) := Int.mul_le_mul_of_nonneg_right hM (Int.mul_nonneg (by omega) (by omega))
  have g2 : 1 * (k - 1) <= h * (k - 1) := Int.mul_le_mul_of_nonneg_right h1 (by omega)
  rw [e2, Int.mul_neg] at d
  omega
 ·have a : (k - h) * 0 <= (k - h) * w := Int.mul_le_mul_of_nonneg_left w0 (by omega)
  have b : (h - k) * w = -((k - h) * w) := by rw [<- Int.neg_mul]; congr 1; omega
  have g : 1 * (k * (h - 1)) <= M * (k * (h - 1)) := Int.mul_le_mul_of_nonneg_right hM (Int.mul_nonneg (by omega) (by omega))
  omega
theorem mid (H : Shr m M L c x) {σ τ : Nat -> Bool} (ha : Apart m σ τ) (hr : sz m σ + sz m τ = m) : fV m M c σ τ <= (cut m τ (none0 x τ) - cut m σ (full M x σ)) * (pP m M σ - L) + cut m τ (none0 x τ) - M * (cut m σ (full M x σ) * (cut m τ (none0 x τ) - 1)) := by
 have a0 := A0 H (full_ap (x := x) (M := M) (none0_ap (x := x) ha)) (fun j _ e => (full_t.mp e).2) (fun j _ e => (none0_t.mp e).2)
 rw [f_sig σ (full M x σ) (none0 x τ), f_tau σ τ (none0 x τ), sz_cut τ (none0 x τ)] at a0
 obtain ⟨h, hh⟩ : ∃ h, h = cut m τ (none0 x τ) := ⟨_, rfl⟩
 obtain ⟨k, hk⟩ : ∃ k, k = cut m σ (full M x σ) := ⟨_, rfl⟩
 rw [<- hh] at a0
 rw [<- hh, <- hk]
 have t : S m (fun j => (b2 (none0 x τ j) - b2 (τ j)) * (c j - M * sz m σ)) <= (pP m M σ - L + 1) * h := by
  rw [hh]
  unfold cut
  rw [<- S_mul]
  refine S_le fun j hj => ?_
  by_cases e : none0 x τ j = τ j
  ·rw [e]; simp
  ·obtain ⟨e1, e2⟩ := none0_ne e
   have e3 : none0 x τ j = false := by cases e4 : none0 x τ j; rfl; rw [e4, e1] at e; exact absurd rfl e
   have := H.lo j hj (by have := H.x0 j hj; omega)
   rw [e1, e3]
   simp only [b2_t, b2_f]
   unfold pP
   omega
 have s : -((L - M * ((m : Int) - 1 - (sz m τ - h))) * k) <= S m (fun j => (b2 (full M x σ j) - b2 (σ j)) * (c j - M * ((m : Int) - 1 - (sz m τ - h)))) := by
  rw [hk, <- Int.neg_mul]
  unfold cut
  rw [<- S_mul]
  refine S_le fun j hj => ?_
  by_cases e : full M x σ j = σ j
  ·rw [e]; simp
  ·obtain ⟨e1, e2⟩ := full_ne e
   have e3 : full M x σ j = false := by cases e4 : full M x σ j; rfl; rw [e4, e1] at e; exact absurd rfl e
   have := H.hi j hj (by have := H.xM j hj; omega)
   rw [e1, e3]
   simp only [b2_t, b2_f]
   omega
 have q1 : M * ((m : Int) - 1 - (sz m τ - h)) = pP m M σ + M * (h - 1) := by
  unfold pP
  rw [<- Int.mul_add]
  congr 1
  omega
 rw [q1] at s a0
 have e1 : (L - (pP m M σ + M * (h - 1))) * k = -((pP m M σ - L) * k) - M * (k * (h - 1)) := by
  rw [<- Int.sub_sub, Int.sub_mul, Int.mul_assoc, Int.mul_comm (h - 1) k, <- Int.neg_mul]
  congr 2
  omega
 have e2 : (pP m M σ - L + 1) * h = (pP m M σ - L) * h + h := by rw [Int.add_mul, Int.one_mul]
 have e3 : (h - k) * (pP m M σ - L) = (pP m M σ - L) * h - (pP m M σ - L) * k := by rw [Int.sub_mul, Int.mul_comm h, Int.mul_comm k]
 rw [e3]
 rw [e1] at s
 rw [e2] at t
 omega
theorem thick (H : Shr m M L c x) (hc : ∃ k, S m c = 2 * k) {σ τ : Nat -> Bool} (ha : Apart m σ τ) : fV m M c σ τ <= 0 := by
 have M0 : 0 <= M := by have := H.m1; omega
 obtain ⟨σ', τ', a1, a2, a3⟩ := f_max (c := c) M0 ha
 refine Int.le_trans a2 ?_
 have h : Mx m M c σ' τ' := ⟨a1, a3⟩
 clear a2 a3 ha
 by_cases hp : pP m M σ' <= L - 1
 ·rw [<- none0_same H h hp]
  exact X0 H ⟨none0_ap a1, fun σ₁ τ₁ q => by rw [none0_same H h hp]; exact h.2 _ _ q⟩ fun j _ e => (none0_t.mp e).2
 ·by_cases hq : L <= qQ m M τ'
  ·rw [<- full_same H h hq]
   exact XM H ⟨full_ap a1, fun σ₁ τ₁ q => by rw [full_same H h hq]; exact h.2 _ _ q⟩ fun j _ e => (full_t.mp e).2
  ·have hr : ∀ j, j < m -> b2 (σ' j) + b2 (τ' j) = 1 := fun j hj => by
    cases e1 : σ' j <;> cases e2 : τ' j
    ·have := ge_p h hj e1 e2
     have := le_q h hj e1 e2
     omega
    ·rfl
    ·rfl
    ·exact absurd ⟨e1, e2⟩ (a1 j hj)
   have st : sz m σ' + sz m τ' = m := by
    unfold sz
    rw [<- S_add, S_congr (g := fun _ => 1) hr, S_const]
    omega
   by_cases k0 : cut m σ' (full M x σ') <= 0
   ·exact XM H h fun j hj e => by
     have := cut0 (fun i _ => full_le σ' i) k0 hj
     rw [e] at this
     exact (full_t.mp this).2
   ·by_cases h0 : cut m τ' (none0 x τ') <= 0
    ·exact X0 H h fun j hj e => by
      have := cut0 (fun i _ => none0_le τ' i) h0 hj
      rw [e] at this
      exact (none0_t.mp this).2
    ·have q1 : qQ m M τ' = pP m M σ' - M := by
      unfold qQ pP
      rw [show (m : Int) - 1 - sz m τ' = sz m σ' - 1 by omega, Int.mul_sub, Int.mul_one]
     have f1 := last_le H.m1 (by omega) (by omega) (by omega) (by omega) (mid H a1 st)
     obtain ⟨n, hn⟩ := f_even (M := M) hr hc
     omega
end
section
variable {m : Nat} {M L a : Int} {c x d : Nat -> Int}
theorem S_head (f : Nat -> Int) : ∀ n : Nat, S (n + 1) f = f 0 + S n (fun j => f (j + 1))
 | 0 => by simp [S]
 | n + 1 => by
  show S (n + 1) f + f (n + 1) = f 0 + (S n (fun j => f (j + 1)) + f (n + 1))
  rw [S_head f n]
  omega
def cons1 (b : Bool) (σ : Nat -> Bool) : Nat -> Bool
 | 0 => b
 | j + 1 => σ j
theorem sz_cons (b : Bool) (σ : Nat -> Bool) : sz (m + 1) (cons1 b σ) = b2 b + sz m σ := by
 unfold sz
 rw [S_head]
 rfl
theorem cons_ap {b b' : Bool} {σ τ : Nat -> Bool} (h : Apart m σ τ) (hb : ¬ (b = true /\ b' = true)) : Apart (m + 1) (cons1 b σ) (cons1 b' τ)
 | 0, _ => hb
 | j + 1, hj => h j (by omega)
theorem fV_cons (b b' : Bool) (σ τ : Nat -> Bool) : fV (m + 1) M d (cons1 b σ) (cons1 b' τ) = (b2 b - b2 b') * d 0 + S m (fun j => (b2 (σ j) - b2 (τ j)) * d (j + 1)) - M * ((b2 b + sz m σ) * ((m : Int) - b2 b' - sz m τ)) := by
 unfold fV
 rw [S_head, sz_cons, sz_cons]
 have : ((m + 1 : Nat) : Int) - 1 - (b2 b' + sz m τ) = (m : Int) - b2 b' - sz m τ := by omega
 rw [this]
 rfl
def Kk (n : Nat) (M : Int) (d : Nat -> Int) : Prop := ∀ σ τ, Apart n σ τ -> fV n M d σ τ <= 0
theorem fV_less (σ τ : Nat -> Bool) : fV m M (fun j => d (j + 1) - x j) σ τ = S m (fun j => (b2 (σ j) - b2 (τ j)) * d (j + 1)) - S m (fun j => (b2 (σ j) - b2 (τ j)) * x j) - M * (sz m σ * ((m : Int) - 1 - sz m τ)) := by
 unfold fV
 rw [<- S_sub]
 congr 1
 exact S_congr fun j _ => Int.mul_sub _ _ _
theorem prodA (s u : Int) : M * (s * u) = M * (s * (u - 1)) + M * s := by
 rw [<- Int.mul_add, Int.mul_sub]; congr 1; omega
theorem prodB (s u : Int) : M * ((1 + s) * u) = M * (s * (u - 1)) + M * s + M * u := by
 rw [<- prodA, Int.add_mul, Int.mul_add, Int.one_mul]; omega
theorem shr_of (hM : 1 <= M) (hK : Kk (m + 1) M d) (ha : S m x = d 0) (x0 : ∀ j, j < m -> 0 <= x j) (xM : ∀ j, j < m -> x j <= M) (lo : ∀ j, j < m -> 0 < x j -> L - 1 <= d (j + 1) - x j) (hi : ∀ j, j < m -> x j < M -> d (j + 1) - x j <= L) : Shr m M L (fun j => d (j + 1) - x j) x where
 m1 := hM
 x0 := x0
 xM := xM
 lo := lo
 hi := hi
 A σ τ h := by
  have k := hK _ _ (cons_ap (b := false) (b' := false) h (fun e => by cases e.1))
  rw [fV_cons] at k
  rw [fV_less]
  have e : S m (fun j => b2 (σ j) * (M - x j) + b2 (τ j) * x j) = M * sz m σ - S m (fun j => (b2 (σ j) - b2 (τ j)) * x j) := by
   unfold sz
   rw [<- S_mul, <- S_sub]
   refine S_congr fun j _ => ?_
   cases σ j <;> cases τ j <;> simp [b2]
  rw [e]
  have p := prodA (M := M) (sz m σ) ((m : Int) - sz m τ)
  rw [show (m : Int) - sz m τ - 1 = (m : Int) - 1 - sz m τ by omega] at p
  simp only [b2_f, Int.zero_add, Int.sub_zero, Int.sub_self, Int.zero_mul] at k
  omega
 B σ τ h := by
  have k := hK _ _ (cons_ap (b := true) (b' := false) h (fun e => by cases e.2))
  rw [fV_cons] at k
  rw [fV_less]
  have e : S m (fun j => (1 + b2 (σ j) - b2 (τ j)) * (M - x j)) = M * ((m : Int) - sz m τ) + M * sz m σ - S m x - S m (fun j => (b2 (σ j) - b2 (τ j)) * x j) := by
   have e1 : S m (fun j => (1 + b2 (σ j) - b2 (τ j)) * (M - x j)) = S m (fun j => M * ((1 - b2 (τ j)) + b2 (σ j)) - x j - (b2 (σ j) - b2 (τ j)) * x j) := S_congr fun j _ => by
    cases σ j <;> cases τ j <;> simp [b2] <;> omega
   rw [e1, S_sub, S_sub, S_mul, S_add, S_sub, S_const, Int.mul_add]
   unfold sz
   rw [Int.mul_one]
  rw [e]
  have p := prodB (M := M) (sz m σ) ((m : Int) - sz m τ)
  rw [show (m : Int) - sz m τ - 1 = (m : Int) - 1 - sz m τ by omega] at p
  simp only [b2_f, b2_t, Int.sub_zero, Int.one_mul] at k
  omega
 C σ τ h := by
  have k := hK _ _ (cons_ap (b := false) (b' := true) h (fun e => by cases e.1))
  rw [fV_cons] at k
  rw [fV_less]
  have e : S m (fun j => (1 - b2 (σ j) + b2 (τ j)) * x j) = S m x - S m (fun j => (b2 (σ j) - b2 (τ j)) * x j) := by
   rw [<- S_sub]
   refine S_congr fun j _ => ?_
   cases σ j <;> cases τ j <;> simp [b2] <;> omega
  rw [e]
  simp only [b2_f, b2_t, Int.zero_add, Int.zero_sub] at k
  omega
theorem K_step (hM : 1 <= M) (hK : Kk (m + 1) M d) (ev : ∃ k, S (m + 1) d = 2 * k) (ha : S m x = d 0) (x0 : ∀ j, j < m -> 0 <= x j) (xM : ∀ j, j < m -> x j <= M) (lo : ∀ j, j < m -> 0 < x j -> L - 1 <= d (j + 1) - x j) (hi : ∀ j, j < m -> x j < M -> d (j + 1) - x j <= L) : Kk m M (fun j => d (j + 1) - x j) /\ ∃ k, S m (fun j => d (j + 1) - x j) = 2 * k := by
 have e : ∃ k, S m (fun j => d (j + 1) - x j) = 2 * k := by
  obtain ⟨k, hk⟩ := ev
  rw [S_head] at hk
  exact ⟨k - d 0, by rw [S_sub, ha]; omega⟩
 exact ⟨fun σ τ h => thick (shr_of hM hK ha x0 xM lo hi) e h, e⟩
theorem K_first (hK : Kk (m + 1) M d) (hM : 0 <= M) : d 0 <= S m fun j => if d (j + 1) <= M then d (j + 1) else M := by
 have k := hK (cons1 true fun _ => false) (cons1 false fun j => decide (d (j + 1) <= M)) (cons_ap (fun j _ e => by cases e.1) fun e => by cases e.2)
 rw [fV_cons] at k
 have e : S m (fun j => if d (j + 1) <= M then d (j + 1) else M) = M * ((m : Int) - sz m (fun j => decide (d (j + 1) <= M))) - S m (fun j => (b2 false - b2 (decide (d (j + 1) <= M))) * d (j + 1)) := by
  have : (m : Int) = S m fun _ => 1 := by rw [S_const]; omega
  unfold sz
  rw [this, <- S_sub, <- S_mul, <- S_sub]
  refine S_congr fun j _ => ?_
  by_cases h : d (j + 1) <= M <;> simp [h, b2]
 have z : sz m (fun _ => false) = 0 := by unfold sz; rw [S_congr (g := fun _ => 0) fun _ _ => b2_f, S_zero]
 rw [z] at k
 rw [e]
 simp only [b2_f, b2_t, Int.sub_zero, Int.one_mul, Int.add_zero] at k ⊢
 omega
end
section
variable {n : Nat} {M : Int} {d : Nat -> Int}
def roomTh (n : Nat) (M : Int) (d : Nat -> Int) (A : Nat -> Bool) : Int := M * (cnt n A * (cnt n A - 1)) + S n (fun i => if A i = true then 0 else mnf (M * cnt n A) (d i)) - sm n A d
theorem fV_sm (σ τ : Nat -> Bool) : fV n M d σ τ = sm n σ d - sm n τ d - M * (cnt n σ * ((n : Int) - 1 - cnt n τ)) := by
 unfold fV sm
 rw [<- S_sub]
 congr 1
 refine S_congr fun j _ => ?_
 cases σ j <;> cases τ j <;> simp [b2]
theorem prodR (s t : Int) : M * (s * ((n : Int) - 1 - t)) = M * (s * (s - 1)) + (M * s) * ((n : Int) - s - t) := by
 rw [Int.mul_assoc, <- Int.mul_add, <- Int.mul_add]
 congr 2
 omega
theorem kk_room (hM : 0 <= M) (hd : ∀ i, i < n -> 0 <= d i) (h : ∀ r : Nat, 1 <= r -> r <= n -> ∃ A, cnt n A = r /\ Top n d A /\ 0 <= roomTh n M d A) : Kk n M d := by
 intro a0 b hab0
 rw [fV_sm]
 -- only the first n places count
 let a : Nat -> Bool := fun i => a0 i && !b i
 have ha0 : ∀ i, i < n -> a i = a0 i := fun i hi => by
  show (a0 i && !b i) = a0 i
  cases e : a0 i <;> cases e' : b i <;> first | rfl | exact absurd ⟨e, e'⟩ (hab0 i hi)
 have hab : ∀ i, a i = true -> b i = false := fun i hi => by
  have hi : (a0 i && !b i) = true := hi
  cases e : b i
  ·rfl
  ·rw [e] at hi; simp at hi
 have ec : cnt n a0 = cnt n a := S_congr fun i hi => by rw [ha0 i hi]
 have es : sm n a0 d = sm n a d := S_congr fun i hi => by rw [ha0 i hi]
 rw [ec, es]
 have k0 := cnt_nonneg n a
 have kr := cnt_two (n := n) hab
 have kb := cnt_nonneg n b
 by_cases hz : cnt n a = 0
 ·have za : ∀ i, i < n -> a i = false := fun i hi => by
   cases h : a i with
   | false => rfl
   | true =>
    have := S_ge (f := fun i => b2 (a i)) hi (fun i _ => b2_nonneg _)
    have e : b2 (a i) = 1 := by rw [h]; rfl
    have t : b2 (a i) <= cnt n a := this
    omega
  have := sm_nonneg (a := b) hd
  rw [sm_zero za, hz, Int.zero_mul, Int.mul_zero]
  omega
 ·obtain ⟨A, hc, ht, r1⟩ := h (cnt n a).toNat (by omega) (by omega)
  have hcA : cnt n A = cnt n a := by omega
  have r2 := top_most (φ := fun x => x + mnf (M * cnt n a) x) (fun x y hxy => by have := mnf_mono (r := M * cnt n a) hxy; omega) ht hcA.symm
  have sp : ∀ c : Nat -> Bool, sm n c (fun i => d i + mnf (M * cnt n a) (d i)) = sm n c d + S n (fun i => mnf (M * cnt n a) (d i)) - S n (fun i => if c i = true then 0 else mnf (M * cnt n a) (d i)) := fun c => by
   unfold sm
   rw [<- S_add, <- S_sub]
   refine S_congr fun i _ => ?_
   cases c i <;> simp
  rw [sp a, sp A] at r2
  unfold roomTh at r1
  rw [hcA] at r1
  have low : S n (fun i => if a i = true then 0 else mnf (M * cnt n a) (d i)) <= sm n b d + (M * cnt n a) * ((n : Int) - cnt n a - cnt n b) := by
   have e : (M * cnt n a) * ((n : Int) - cnt n a - cnt n b) = S n (fun i => (M * cnt n a) * (1 - b2 (a i) - b2 (b i))) := by
    rw [S_mul, S_sub, S_sub, S_const, Int.mul_one]; rfl
   rw [e]
   unfold sm
   rw [<- S_add]
   refine S_le fun i hi => ?_
   have l1 := mnf_le1 (M * cnt n a) (d i)
   have l2 := mnf_le2 (M * cnt n a) (d i)
   cases ha : a i with
   | true => rw [hab i ha]; simp [b2]
   | false => cases b i <;> simp [b2] <;> assumption
  rw [prodR]
  omega
theorem room_kk (K : Kk n M d) (A : Nat -> Bool) : 0 <= roomTh n M d A := by
 have k := K A (fun i => !A i && decide (d i < M * cnt n A)) (fun i _ ⟨u, v⟩ => by simp [u] at v)
 rw [fV_sm, prodR] at k
 have e : S n (fun i => if A i = true then 0 else mnf (M * cnt n A) (d i)) = sm n (fun i => !A i && decide (d i < M * cnt n A)) d + (M * cnt n A) * ((n : Int) - cnt n A - cnt n (fun i => !A i && decide (d i < M * cnt n A))) := by
  have e1 : (M * cnt n A) * ((n : Int) - cnt n A - cnt n (fun i => !A i && decide (d i < M * cnt n A))) = S n (fun i => (M * cnt n A) * (1 - b2 (A i) - b2 (!A i && decide (d i < M * cnt n A)))) := by
   rw [S_mul, S_sub, S_sub, S_const, Int.mul_one]; rfl
  rw [e1]
  unfold sm
  rw [<- S_add]
  refine S_congr fun i hi => ?_
  show (if A i = true then 0 else mnf (M * cnt n A) (d i)) = (if (!A i && decide (d i < M * cnt n A)) = true then d i else 0) + (M * cnt n A) * (1 - b2 (A i) - b2 (!A i && decide (d i < M * cnt n A)))
  cases hA : A i with
  | true => simp [b2]
  | false =>
   generalize M * cnt n A = r
   by_cases c : d i < r
   ·rw [decide_eq_true c]
    simp [b2, mnf]
    omega
   ·rw [decide_eq_false c]
    simp [b2, mnf]
    omega
 unfold roomTh
 rw [e]
 omega
structure Thw (M : Int) (g : Nat -> Nat -> Int) : Prop where
 sym : ∀ i j, g i j = g j i
 dia : ∀ i, g i i = 0
 lo : ∀ i j, 0 <= g i j
 hi : ∀ i j, g i j <= M
def tdeg (n : Nat) (g : Nat -> Nat -> Int) (i : Nat) : Int := S n fun j => g i j
theorem kk_of {g : Nat -> Nat -> Int} (hM : 0 <= M) (hg : Thw M g) (dg : ∀ i, i < n -> tdeg n g i = d i) : Kk n M d := by
 intro σ τ hab
 unfold fV
 -- both ways of adding up
 have e1 : S n (fun j => (b2 (σ j) - b2 (τ j)) * d j) = S n (fun i => S n (fun j => (b2 (σ i)) * g i j)) - S n (fun i => S n (fun j => b2 (τ i) * g i j)) := by
  rw [<- S_sub]
  refine S_congr fun i hi => ?_
  rw [S_mul, S_mul, <- dg i hi, Int.sub_mul]
  rfl
 have e2 : S n (fun i => S n (fun j => b2 (τ i) * g i j)) = S n (fun i => S n (fun j => b2 (τ j) * g i j)) := by
  rw [S_swap]
  refine S_congr fun i _ => S_congr fun j _ => ?_
  rw [hg.sym j i]
 have e3 : M * (sz n σ * ((n : Int) - 1 - sz n τ)) = S n (fun i => S n (fun j => M * (b2 (σ i) * ((1 - b2 (τ j)) - (if j = i then 1 else 0))))) := by
  have : ∀ i, i < n -> S n (fun j => M * (b2 (σ i) * ((1 - b2 (τ j)) - (if j = i then 1 else 0)))) = (M * ((n : Int) - 1 - sz n τ)) * b2 (σ i) := fun i hi => by
   rw [S_mul, S_mul, S_sub, S_sub, S_const, S_one 1 hi]
   unfold sz
   rw [Int.mul_assoc, Int.mul_comm (b2 (σ i))]
   congr 2
   omega
  rw [S_congr this, S_mul]
  show _ = _ * sz n σ
  rw [Int.mul_assoc, Int.mul_comm (sz n σ)]
 rw [e1, e2, e3, <- S_sub, <- S_sub]
 refine S_le0 fun i hi => ?_
 rw [<- S_sub, <- S_sub]
 refine S_le0 fun j hj => ?_
 have l := hg.lo i j
 have h := hg.hi i j
 by_cases e : j = i
 ·subst e
  rw [if_pos rfl, hg.dia]
  cases e1 : σ j <;> cases e2 : τ j <;> simp [b2] <;> first | omega | exact absurd ⟨e1, e2⟩ (hab j hj)
 ·rw [if_neg e]
  cases σ i <;> cases τ j <;> simp [b2] <;> omega
theorem tdeg_even {g : Nat -> Nat -> Int} (hg : Thw M g) : ∀ n : Nat, ∃ q, S n (tdeg n g) = 2 * q
 | 0 => ⟨0, rfl⟩
 | n + 1 => by
  obtain ⟨q, hq⟩ := tdeg_even hg n
  have e : S (n + 1) (tdeg (n + 1) g) = S n (tdeg n g) + S n (fun i => g i n) + (S n (fun j => g n j) + g n n) := by
   show S n (tdeg (n + 1) g) + tdeg (n + 1) g n = _
   have : S n (tdeg (n + 1) g) = S n (fun i => tdeg n g i + g i n) := S_congr fun i _ => rfl
   rw [this, S_add]
   rfl
  rw [e, hg.dia, S_congr (f := fun i => g i n) (g := fun j => g n j) fun i _ => hg.sym i n]
  exact ⟨q + S n (fun j => g n j), by omega⟩
end
end Thk
namespace Web
open L2 Grf Thk
theorem order_topM {ns zs : List Int} (hp : zs.Perm (rng ns.length)) (hs : zs.Pairwise (ole ns)) {M r : Nat} (hr : r <= ns.length) :
  roomTh ns.length M (fun i => ns.getD i 0) (fun i => decide ((i : Int) ∈ zs.take r)) = roomM ns M r := by
 have nd : zs.Nodup := hp.nodup_iff.mpr (rng_nodup _)
 have hin : ∀ z ∈ zs, 0 <= z /\ z < (ns.length : Int) := fun z hz => rng_mem.mp (hp.mem_iff.mp hz)
 have ndA : (zs.take r).Nodup := nd.sublist (List.take_sublist r zs)
 have ndB : (zs.drop r).Nodup := nd.sublist (List.drop_sublist r zs)
 have inA : ∀ z ∈ zs.take r, 0 <= z /\ z < (ns.length : Int) := fun z hz => hin z (List.mem_of_mem_take hz)
 have inB : ∀ z ∈ zs.drop r, 0 <= z /\ z < (ns.length : Int) := fun z hz => hin z (List.mem_of_mem_drop hz)
 have app := nd
 rw [<- List.take_append_drop r zs] at app
 have cross := (List.nodup_append.mp app).2.2
 have mem_or : ∀ i : Nat, i < ns.length -> (i : Int) ∈ zs.take r \/ (i : Int) ∈ zs.drop r := fun i hi => by
  have : (i : Int) ∈ zs := hp.mem_iff.mpr (rng_mem.mpr ⟨by omega, by omega⟩)
  rw [<- List.take_append_drop r zs] at this
  exact List.mem_append.mp this
 have hc := (order_top hp hs hr).1
 have of := order_fall hp hs
 have rm := room_amongM (ns := ns) (M := M) (r := r) of
 unfold roomTh
 rw [hc, <- rm, <- List.map_drop, <- List.map_take, List.map_map, <- Int.mul_assoc]
 have s1 : sm ns.length (fun i => decide ((i : Int) ∈ zs.take r)) (fun i => ns.getD i 0) = ((zs.take r).map fun z => ns.getD z.toNat 0).sum := by
  rw [<- S_in (n := ns.length) (f := fun i => ns.getD i 0) ndA inA]
  refine Grf.S_congr fun i _ => ?_
  show (if decide ((i : Int) ∈ zs.take r) = true then ns.getD i 0 else 0) = _
  by_cases c : (i : Int) ∈ zs.take r
  ·rw [if_pos c, decide_eq_true c, if_pos rfl]
  ·rw [if_neg c, decide_eq_false c, if_neg (by decide)]
 have s2 : S ns.length (fun i => if decide ((i : Int) ∈ zs.take r) = true then 0 else Grf.mnf ((M : Int) * r) (ns.getD i 0)) = ((zs.drop r).map (mn ((M : Int) * r) ∘ fun z => ns.getD z.toNat 0)).sum := by
  have := S_in (n := ns.length) (f := fun i => mn ((M : Int) * r) (ns.getD i 0)) ndB inB
  show _ = ((zs.drop r).map fun z => mn ((M : Int) * r) (ns.getD z.toNat 0)).sum
  rw [<- this]
  refine Grf.S_congr fun i hi => ?_
  by_cases c : (i : Int) ∈ zs.take r
  ·rw [decide_eq_true c, if_pos rfl, if_neg (fun z => cross _ c _ z rfl)]
  ·rw [decide_eq_false c, if_neg (by decide), if_pos ((mem_or i hi).resolve_left c)]
   rfl
 rw [s1, s2]
theorem free_kk {ns : List Int} {M : Nat} (h : IsWlM ns M .free) : Kk ns.length M (fun i => ns.getD i 0) := by
 obtain ⟨h1, h2, h3⟩ := h
 obtain ⟨zs, hp, hs⟩ := ord_is ns
 have hd : ∀ i, i < ns.length -> 0 <= ns.getD i 0 := fun i hi => allp_get h1 hi
 exact kk_room (Int.natCast_nonneg M) hd fun r r1 r2 => by
  obtain ⟨a1, a2, _⟩ := order_top hp hs r2
  exact ⟨_, a1, a2, by rw [order_topM hp hs r2]; exact h3 r r1 r2⟩
theorem kk_free {ns : List Int} {M : Nat} (h0 : AllP ns) (h1 : ¬ ns.sum % 2 = 1) (h : Kk ns.length M (fun i => ns.getD i 0)) : IsWlM ns M .free := by
 obtain ⟨zs, hp, hs⟩ := ord_is ns
 exact ⟨h0, h1, fun r r1 r2 => by rw [<- order_topM hp hs r2]; exact room_kk h _⟩
def Tgr (M : Nat) (ns : List Int) : Prop := ∃ g, Thw M g /\ ∀ i, i < ns.length -> tdeg ns.length g i = ns.getD i 0
theorem tgr_free {ns : List Int} {M : Nat} (h : Tgr M ns) : IsWlM ns M .free := by
 obtain ⟨g, hg, dg⟩ := h
 refine kk_free ?_ ?_ (kk_of (Int.natCast_nonneg M) hg dg)
 ·intro j x hx
  have hj : j < ns.length := by
   rcases Nat.lt_or_ge j ns.length with h | h
   ·exact h
   ·rw [List.getElem?_eq_none h] at hx; cases hx
  have := dg j hj
  rw [List.getD_eq_getElem?_getD, hx] at this
  have e : tdeg ns.length g j = x := this
  rw [<- e]
  exact Grf.S_nonneg fun i _ => hg.lo j i
 ·obtain ⟨q, hq⟩ := tdeg_even hg ns.length
  rw [Grf.S_congr (g := fun i => ns.getD i 0) fun i hi => dg i hi, S_sum] at hq
  omega
def abv (M L c : Int) : Int := if c - L <= 0 then 0 else if c - L <= M then c - L else M
theorem abv_step {M : Int} (hM : 1 <= M) (L c : Int) : abv M (L - 1) c - abv M L c = if abv M L c < abv M (L - 1) c then 1 else 0 := by
 unfold abv
 split <;> split <;> split <;> first | omega | (split <;> omega)
theorem abv_more {M L c : Int} (hM : 1 <= M) (h : abv M L c < abv M (L - 1) c) : abv M L c = c - L /\ 0 <= c - L /\ c - L < M := by
 unfold abv at *
 split at h <;> split at h <;> first | omega | (split at h <;> first | omega | (split at h <;> omega)) | skip
 all_goals (repeat' split) <;> omega
def moreP (M L : Int) (ns : List Int) : List Int := (rng ns.length).filter fun z => decide (abv M L (ns.getD z.toNat 0) < abv M (L - 1) (ns.getD z.toNat 0))
def oneM (M L : Int) (ns : List Int) (k : Nat) : List Int := (moreP M L ns).take k
def shx (M L : Int) (ns : List Int) (k : Nat) (j : Nat) : Int := abv M L (ns.getD j 0) + if (j : Int) ∈ oneM M L ns k then 1 else 0
theorem moreP_nd (M L : Int) (ns : List Int) : (moreP M L ns).Nodup := (rng_nodup _).sublist List.filter_sublist
theorem moreP_in {M L : Int} {ns : List Int} : ∀ z ∈ moreP M L ns, 0 <= z /\ z < ns.length := fun z hz => rng_mem.mp (List.mem_filter.mp hz).1
theorem moreP_mem {M L : Int} {ns : List Int} {j : Nat} (hj : j < ns.length) : (j : Int) ∈ moreP M L ns ↔ abv M L (ns.getD j 0) < abv M (L - 1) (ns.getD j 0) := by
 unfold moreP
 rw [List.mem_filter, rng_mem, decide_eq_true_iff, Int.toNat_natCast]
 constructor
 ·exact fun h => h.2
 ·exact fun h => ⟨⟨by omega, by omega⟩, h⟩
theorem sum_ones (L : List Int) : (L.map fun _ => (1 : Int)).sum = L.length := by
 induction L with
 | nil => rfl
 | cons a L ih => rw [List.map_cons, List.sum_cons, ih, List.length_cons]; omega
theorem S_ones {n : Nat} {L : List Int} (nd : L.Nodup) (h : ∀ z ∈ L, 0 <= z /\ z < n) : S n (fun i => if (i : Int) ∈ L then 1 else 0) = L.length := by
 rw [S_in (f := fun _ => 1) nd h, sum_ones]
theorem moreP_len {M : Int} (hM : 1 <= M) (L : Int) (ns : List Int) : ((moreP M L ns).length : Int) = (ns.map (abv M (L - 1))).sum - (ns.map (abv M L)).sum := by
 rw [<- S_ones (moreP_nd M L ns) moreP_in, <- S_list, <- S_list, <- S_sub]
 refine Grf.S_congr fun j hj => ?_
 rw [abv_step hM]
 by_cases c : abv M L (ns.getD j 0) < abv M (L - 1) (ns.getD j 0)
 ·rw [if_pos c, if_pos ((moreP_mem hj).mpr c)]
 ·rw [if_neg c, if_neg fun h => c ((moreP_mem hj).mp h)]
structure Lvl (M : Int) (ns : List Int) (a L : Int) : Prop where
 l0 : 0 <= L
 le : (ns.map (abv M L)).sum <= a
 lt : 0 < L -> a < (ns.map (abv M (L - 1))).sum
section
variable {M a L : Int} {ns : List Int}
theorem shx_sum (hM : 1 <= M) (h : Lvl M ns a L) (h0 : a <= (ns.map (abv M 0)).sum) : S ns.length (shx M L ns (a - (ns.map (abv M L)).sum).toNat) = a := by
 unfold shx
 rw [S_add, S_list, S_ones (L := oneM M L ns (a - (ns.map (abv M L)).sum).toNat) ((moreP_nd M L ns).sublist (List.take_sublist _ _)) fun z hz => moreP_in z (List.mem_of_mem_take hz)]
 unfold oneM
 rw [List.length_take]
 have l := moreP_len hM L ns
 have le := h.le
 by_cases c : 0 < L
 ·have := h.lt c
  omega
 ·have : L = 0 := by have := h.l0; omega
  subst this
  omega
theorem shx_one {j : Nat} (hj : j < ns.length) {k : Nat} (hM : 1 <= M) (h : (j : Int) ∈ oneM M L ns k) : abv M L (ns.getD j 0) = ns.getD j 0 - L /\ 0 <= ns.getD j 0 - L /\ ns.getD j 0 - L < M := abv_more hM ((moreP_mem hj).mp (List.mem_of_mem_take h))
theorem shx_facts (hM : 1 <= M) (k : Nat) {j : Nat} (hj : j < ns.length) : 0 <= shx M L ns k j /\ shx M L ns k j <= M /\ (0 < shx M L ns k j -> L - 1 <= ns.getD j 0 - shx M L ns k j) /\ (shx M L ns k j < M -> ns.getD j 0 - shx M L ns k j <= L) := by
 unfold shx
 by_cases c : (j : Int) ∈ oneM M L ns k
 ·obtain ⟨e1, e2, e3⟩ := shx_one hj hM c
  rw [if_pos c, e1]
  omega
 ·rw [if_neg c]
  unfold abv
  split
  ·omega
  ·split <;> omega
theorem shx_le (hM : 1 <= M) (h : Lvl M ns a L) (h0 : a <= (ns.map (abv M 0)).sum) {j : Nat} (hj : j < ns.length) (hn : 0 <= ns.getD j 0) : shx M L ns (a - (ns.map (abv M L)).sum).toNat j <= ns.getD j 0 := by
 have l0 := h.l0
 unfold shx
 by_cases c : (j : Int) ∈ oneM M L ns (a - (ns.map (abv M L)).sum).toNat
 ·obtain ⟨e1, e2, e3⟩ := shx_one hj hM c
  have : L ≠ 0 := fun e => by
   subst e
   have z : (a - (ns.map (abv M 0)).sum).toNat = 0 := by omega
   rw [z] at c
   unfold oneM at c
   rw [List.take_zero] at c
   cases c
  rw [if_pos c, e1]
  omega
 ·rw [if_neg c]
  unfold abv
  split
  ·omega
  ·split <;> omega
end
theorem shares_step {M : Nat} {a L : Int} {ns : List Int} (hM : 1 <= M) (hK : Kk (ns.length + 1) M (fun i => (a :: ns).getD i 0)) (hn : AllP ns) (ev : (a + ns.sum) % 2 = 0) (h : Lvl M ns a L) :
  S ns.length (shx M L ns (a - (ns.map (abv M L)).sum).toNat) = a /\ Kk ns.length M (fun j => ns.getD j 0 - shx M L ns (a - (ns.map (abv M L)).sum).toNat j) /\ (∀ j, j < ns.length -> 0 <= ns.getD j 0 - shx M L ns (a - (ns.map (abv M L)).sum).toNat j) /\ ∃ k, S ns.length (fun j => ns.getD j 0 - shx M L ns (a - (ns.map (abv M L)).sum).toNat j) = 2 * k := by
 have M1 : 1 <= (M : Int) := by omega
 have g : ∀ j, (a :: ns).getD (j + 1) 0 = ns.getD j 0 := fun j => by rw [List.getD_cons_succ]
 have h0 : a <= (ns.map (abv M 0)).sum := by
  have := K_first hK (by omega)
  rw [<- S_list]
  refine Int.le_trans this (Grf.S_le fun j hj => ?_)
  simp only [g]
  have := allp_get hn hj
  unfold abv
  split <;> split <;> first | omega | (split <;> omega)
 have sx := shx_sum M1 h h0
 have st := K_step (L := L) (x := shx M L ns (a - (ns.map (abv M L)).sum).toNat) M1 hK ?_ sx (fun j hj => (shx_facts M1 _ hj).1) (fun j hj => (shx_facts M1 _ hj).2.1) (fun j hj => by simp only [g]; exact (shx_facts M1 _ hj).2.2.1) (fun j hj => by simp only [g]; exact (shx_facts M1 _ hj).2.2.2)
 ·simp only [g] at st
  exact ⟨sx, st.1, fun j hj => by have := shx_le M1 h h0 hj (allp_get hn hj); omega, st.2⟩
 ·rw [S_head]
  simp only [g]
  rw [S_sum, List.getD_cons_zero]
  exact ⟨(a + ns.sum) / 2, by omega⟩
def row3 (p : Nat) : Nat -> List Int -> List (List Int)
 | _, [] => []
 | q, x :: xs => if 0 < x then [(p : Int), (q : Int), x] :: row3 p (q + 1) xs else row3 p (q + 1) xs
def cnt3 : List (List Int) -> Nat -> Int
 | [], _ => 0
 | k :: ks, i => (if k.getD 0 0 = (i : Int) then k.getD 2 0 else 0) + (if k.getD 1 0 = (i : Int) then k.getD 2 0 else 0) + cnt3 ks i
def lex2 (k k' : List Int) : Prop := k.getD 0 0 < k'.getD 0 0 \/ (k.getD 0 0 = k'.getD 0 0 /\ k.getD 1 0 < k'.getD 1 0)
def tri (n M : Nat) (k : List Int) : Prop := ∃ (i j : Nat) (x : Int), k = [(i : Int), (j : Int), x] /\ i < j /\ j < n /\ 1 <= x /\ x <= M
theorem cnt3_app : ∀ (ks ks' : List (List Int)) (i : Nat), cnt3 (ks ++ ks') i = cnt3 ks i + cnt3 ks' i
 | [], ks', i => by show cnt3 ks' i = 0 + cnt3 ks' i; omega
 | k :: ks, ks', i => by
  show _ + _ + cnt3 (ks ++ ks') i = _ + _ + cnt3 ks i + cnt3 ks' i
  rw [cnt3_app ks ks' i]
  omega
theorem row3_mem {p : Nat} : ∀ {xs : List Int} {q : Nat} {k : List Int}, k ∈ row3 p q xs -> ∃ (j : Nat) (x : Int), k = [(p : Int), (j : Int), x] /\ q <= j /\ j < q + xs.length /\ 0 < x /\ x ∈ xs
 | [], q, k, h => by cases h
 | x :: xs, q, k, h => by
  unfold row3 at h
  have go : k ∈ row3 p (q + 1) xs -> ∃ (j : Nat) (y : Int), k = [(p : Int), (j : Int), y] /\ q <= j /\ j < q + (x :: xs).length /\ 0 < y /\ y ∈ x :: xs := fun h => by
   obtain ⟨j, y, e, h1, h2, h3, h4⟩ := row3_mem h
   exact ⟨j, y, e, by omega, by rw [List.length_cons]; omega, h3, List.mem_cons_of_mem _ h4⟩
  by_cases c : 0 < x
  ·rw [if_pos c] at h
   rcases List.mem_cons.mp h with e | h
   ·exact ⟨q, x, e, by omega, by rw [List.length_cons]; omega, c, List.mem_cons_self⟩
   ·exact go h
  ·rw [if_neg c] at h
   exact go h
theorem row3_pw {p : Nat} : ∀ (xs : List Int) (q : Nat), (row3 p q xs).Pairwise lex2
 | [], _ => List.Pairwise.nil
 | x :: xs, q => by
  unfold row3
  by_cases c : 0 < x
  ·rw [if_pos c]
   refine List.Pairwise.cons (fun k hk => ?_) (row3_pw xs (q + 1))
   obtain ⟨j, y, e, h1, _⟩ := row3_mem hk
   rw [e]
   refine .inr ⟨rfl, ?_⟩
   show (q : Int) < (j : Int)
   omega
  ·rw [if_neg c]
   exact row3_pw xs (q + 1)
theorem row3_cnt {p : Nat} : ∀ (xs : List Int) (q : Nat) (i : Nat), p < q -> (∀ x ∈ xs, 0 <= x) -> cnt3 (row3 p q xs) i = (if i = p then xs.sum else 0) + (if q <= i then xs.getD (i - q) 0 else 0)
 | [], q, i, _, _ => by
  show (0 : Int) = (if i = p then 0 else 0) + (if q <= i then 0 else 0)
  split <;> split <;> rfl
 | x :: xs, q, i, hp, hx => by
  have ih := row3_cnt (p := p) xs (q + 1) i (by omega) fun y hy => hx y (List.mem_cons_of_mem _ hy)
  have x0 := hx x List.mem_cons_self
  have e1 : cnt3 (row3 p q (x :: xs)) i = (if i = p then x else 0) + (if i = q then x else 0) + cnt3 (row3 p (q + 1) xs) i := by
   show cnt3 (if 0 < x then _ else _) i = _
   by_cases c : 0 < x
   ·rw [if_pos c]
    show (if (p : Int) = (i : Int) then x else 0) + (if (q : Int) = (i : Int) then x else 0) + cnt3 (row3 p (q + 1) xs) i = _
    congr 2
    ·by_cases e : i = p
     ·rw [if_pos e, if_pos (by omega)]
     ·rw [if_neg e, if_neg (by omega)]
    ·by_cases e : i = q
     ·rw [if_pos e, if_pos (by omega)]
     ·rw [if_neg e, if_neg (by omega)]
   ·have : x = 0 := by omega
    rw [if_neg c, this]
    split <;> split <;> omega
  rw [e1, ih, List.sum_cons]
  by_cases c1 : i = p
  ·rw [if_pos c1, if_pos c1, if_pos c1, if_neg (by omega), if_neg (by omega), if_neg (by omega)]
   omega
  ·rw [if_neg c1, if_neg c1, if_neg c1]
   by_cases c2 : i = q
   ·subst c2
    rw [if_pos rfl, if_neg (by omega), if_pos (Nat.le_refl _), Nat.sub_self, List.getD_cons_zero]
    omega
   ·rw [if_neg c2]
    by_cases c3 : q + 1 <= i
    ·rw [if_pos c3, if_pos (by omega), show i - q = (i - (q + 1)) + 1 by omega, List.getD_cons_succ]
     omega
    ·rw [if_neg c3, if_neg (by omega)]
     omega
structure Lay (n M p : Nat) (os : List Int) (ks : List (List Int)) (ds : List Int) : Prop where
 on : os.length = n
 len : p + ds.length = n
 tr : ∀ k ∈ ks, tri n M k /\ k.getD 0 0 < p
 pw : ks.Pairwise lex2
 don : ∀ i, i < p -> cnt3 ks i = os.getD i 0
 rst : ∀ i, p <= i -> i < n -> cnt3 ks i + ds.getD (i - p) 0 = os.getD i 0
 pos : AllP ds
 evn : ds.sum % 2 = 0
 kk : Kk ds.length M (fun i => ds.getD i 0)
theorem lay_first {M : Nat} {os : List Int} (h : IsWlM os M .free) : Lay os.length M 0 os [] os where
 on := rfl
 len := by omega
 tr := fun k hk => by cases hk
 pw := List.Pairwise.nil
 don := fun i hi => by omega
 rst := fun i _ _ => by show 0 + os.getD (i - 0) 0 = _; rw [Nat.sub_zero]; omega
 pos := h.1
 evn := by have := h.2.1; omega
 kk := free_kk h
theorem lay_step {n M p : Nat} {a L : Int} {os ns xs ds : List Int} {ks : List (List Int)} (hM : 1 <= M) (h : Lay n M p os ks (a :: ns)) (hl : Lvl M ns a L) (hxl : xs.length = ns.length) (hx : ∀ j, j < ns.length -> xs.getD j 0 = shx M L ns (a - (ns.map (abv M L)).sum).toNat j) (hdl : ds.length = ns.length) (hd : ∀ j, j < ns.length -> ds.getD j 0 = ns.getD j 0 - xs.getD j 0) : Lay n M (p + 1) os (ks ++ row3 p (p + 1) xs) ds := by
 have M1 : 1 <= (M : Int) := by omega
 have hlen := h.len
 rw [List.length_cons] at hlen
 have hn : AllP ns := fun j x hj => h.pos (j + 1) x (by rw [List.getElem?_cons_succ]; exact hj)
 have ev := h.evn
 rw [List.sum_cons] at ev
 have kk := h.kk
 rw [List.length_cons] at kk
 obtain ⟨s1, s2, s3, s4⟩ := shares_step (L := L) hM kk hn ev hl
 have xs0 : ∀ x ∈ xs, 0 <= x /\ x <= M := fun x hx' => by
  obtain ⟨j, hj, e⟩ := List.getElem_of_mem hx'
  have e2 : xs.getD j 0 = x := by rw [List.getD_eq_getElem?_getD, List.getElem?_eq_getElem hj, e]; rfl
  rw [<- e2, hx j (by omega)]
  have := shx_facts (L := L) M1 (a - (ns.map (abv M L)).sum).toNat (show j < ns.length by omega)
  exact ⟨this.1, this.2.1⟩
 have xsum : xs.sum = a := by
  rw [<- S_sum, hxl, Grf.S_congr hx, s1]
 have de : ∀ j, j < ns.length -> ds.getD j 0 = ns.getD j 0 - shx M L ns (a - (ns.map (abv M L)).sum).toNat j := fun j hj => by rw [hd j hj, hx j hj]
 refine ⟨h.on, by omega, fun k hk => ?_, ?_, fun i hi => ?_, fun i h1 h2 => ?_, fun j x hj => ?_, ?_, ?_⟩
 ·rcases List.mem_append.mp hk with hk | hk
  ·have := h.tr k hk
   exact ⟨this.1, by omega⟩
  ·obtain ⟨j, x, e, h1, h2, h3, h4⟩ := row3_mem hk
   refine ⟨⟨p, j, x, e, by omega, by omega, by omega, (xs0 x h4).2⟩, ?_⟩
   rw [e]
   show (p : Int) < ((p + 1 : Nat) : Int)
   omega
 ·refine List.pairwise_append.mpr ⟨h.pw, row3_pw xs _, fun k hk k' hk' => ?_⟩
  have a1 := (h.tr k hk).2
  obtain ⟨j, x, e, _⟩ := row3_mem hk'
  refine .inl ?_
  rw [e]
  exact a1
 ·rw [cnt3_app, row3_cnt xs (p + 1) i (by omega) fun x hx => (xs0 x hx).1, if_neg (show ¬ p + 1 <= i by omega)]
  by_cases c : i = p
  ·have := h.rst i (by omega) (by omega)
   rw [show i - p = 0 by omega, List.getD_cons_zero] at this
   rw [if_pos c, xsum]
   omega
  ·rw [if_neg c, <- h.don i (by omega)]
   omega
 ·have := h.rst i (by omega) h2
  rw [show i - p = (i - (p + 1)) + 1 by omega, List.getD_cons_succ] at this
  rw [cnt3_app, row3_cnt xs (p + 1) i (by omega) fun x hx => (xs0 x hx).1, if_neg (by omega), if_pos h1, hd _ (by omega)]
  omega
 ·have hj' : j < ds.length := by
   rcases Nat.lt_or_ge j ds.length with h | h
   ·exact h
   ·rw [List.getElem?_eq_none h] at hj; cases hj
  have e : ds.getD j 0 = x := by rw [List.getD_eq_getElem?_getD, hj]; rfl
  rw [<- e, de j (by omega)]
  exact s3 j (by omega)
 ·obtain ⟨k, hk⟩ := s4
  have : ds.sum = 2 * k := by rw [<- S_sum, hdl, Grf.S_congr de, hk]
  omega
 ·rw [hdl]
  intro σ τ hap
  have := s2 σ τ hap
  unfold fV at this ⊢
  rw [Grf.S_congr (g := fun j => (b2 (σ j) - b2 (τ j)) * (ns.getD j 0 - shx M L ns (a - (ns.map (abv M L)).sum).toNat j)) fun j hj => by show _ * ds.getD j 0 = _; rw [de j hj]]
  exact this
theorem lay_end {n M : Nat} {os ds : List Int} {ks : List (List Int)} (h : Lay n M n os ks ds) : (∀ k ∈ ks, tri n M k) /\ ks.Pairwise lex2 /\ ∀ i, i < n -> cnt3 ks i = os.getD i 0 := ⟨fun k hk => (h.tr k hk).1, h.pw, h.don⟩
end Web
namespace L2
open PySem PySem.Spec PyProof.Rows
open Sem (wp)
set_option maxRecDepth 100000
section
variable {prog : Program} {w : World} {A : Around} {E : Value -> Shared -> Prop} {s : Shared}
theorem ctk_meets {T newId initId : String} {Bn Bi : Builtin} {args : List Value} {kw : List (Str × Value)} {S : PySem.Spec} {Q Q₁ : Value -> Shared -> Prop} (ft : TypeCalled T newId initId) (hct : checkTypeCall T ⟨args, kw⟩ = pure ()) (hcn : checkBuiltinCall newId ⟨.type T :: args, kw⟩ = pure ())
  (entryN : entryFor table newId = some Bn) (entryI : entryFor table initId = some Bi) (g : Meets (Bn ⟨.type T :: args, kw⟩) S) (h : S A.in1 (wants Q₁ E) s)
  (hnext : ∀ obj s₁, Q₁ obj s₁ -> s₁.TypeIs obj T /\ argsOk initId ⟨obj :: args, kw⟩ /\ ∃ Si, Meets (Bi ⟨obj :: args, kw⟩) Si /\ Si A.in1 (wants (fun r s₂ => r = .none /\ Q obj s₂) E) s₁) : wpAny (model prog w) A (call (.type T) args kw) Q E s := by
 obtain ⟨c, tl, hmro⟩ := ft.mro; have hmade := ft.made; have hsub := ft.sub
 refine wpAny_call (codeAny_of_tree ?_); show wpAny _ _ (callAny (.type T) _) _ _ _
 refine wpAny_pure ⟨Code.quiet_builtin _ (by decide +kernel), codeAny_builtin F.entry_type_call ?_⟩; rw [Around.under_plain (weight_type_call_type T args kw) (units_type_call_type T args kw)]
 have h1 := ft.notType; have h2 := ft.canCreate; repeat (any_goals (first | assumption | wp_step))
 refine codeAny_mono (codeAny_call_builtin ft.plain entryN (wpAny_of_eq hcn (g prog w A.in1 _ s h))) fun r s₁ hr => ?_; cases r with
 | error e => exact hr
 | ok fl =>
  cases fl with
  | ret obj =>
   obtain ⟨hT, hok, Si, gi, hsi⟩ := hnext _ _ hr; have hli := ft.init.lookup; have hbi := ft.init.bind obj
   repeat (any_goals (first | assumption | wp_step))
   refine codeAny_mono (codeAny_call_builtin ft.init.plain entryI (ft.init.check _ _ _ _ _ _ _ _ hT hok (gi prog w A.in1 _ s₁ hsi))) fun r₂ s₂ hr₂ => ?_; cases r₂ with
   | error e => exact hr₂
   | ok fl₂ =>
    cases fl₂ with
    | ret r =>
     obtain ⟨rfl, hq⟩ := hr₂; repeat (any_goals (first | assumption | wp_step))
    | _ => exact hr₂.elim
  | _ => exact hr.elim
theorem oik_meets {T newId : String} {self : Value} {rest : List Value} {kw : List (Str × Value)} (hl : typeLookup (.type T) "__init__" = pure (some (.builtin "object.__init__"))) (hm : Bind.madeBy (.type T) = pure (some newId)) (hne : (some newId != some "object.__new__") = true) :
    Meets (Builtin.«object.__init__» ⟨self :: rest, kw⟩) (fun _ R s => s.TypeIs self T /\ R (.ok (.ret .none)) s) := by
  refine Meets.of_wp fun prog w A R s hs => ?_; obtain ⟨hT, hq⟩ := hs
  cases rest with
  | nil =>
    cases kw with
    | nil => exact wpAny_pure ⟨_, rfl, hq⟩
    | cons b kw => repeat (any_goals (first | assumption | wp_step))
                   exact ⟨_, rfl, hq⟩
  | cons a rest => repeat (any_goals (first | assumption | wp_step))
                   exact ⟨_, rfl, hq⟩
end
theorem enk_type (a v : Value) : checkTypeCall "enumerate" ⟨[a], [(Str.ofString "start", v)]⟩ = pure () := by kernel_rfl
theorem enk_new (a v : Value) : checkBuiltinCall "enumerate.__new__" ⟨[.type "enumerate", a], [(Str.ofString "start", v)]⟩ = pure () := by kernel_rfl
theorem enk_init (o a v : Value) : argsOk "object.__init__" ⟨[o, a], [(Str.ofString "start", v)]⟩ := by unfold argsOk; kernel_rfl
end L2
namespace L2
open PySem PySem.Spec PyProof.Rows
set_option maxHeartbeats 1000000
open AutoSeq1 (wpAny_loadPart') in
set_option maxRecDepth 100000 in
theorem enk_meets (l : Addr) (ys : Array Value) (n : Nat) (dd : Option Addr) (ss : Array (Option Value)) (k : Int) (t : Tok) (hk : Builtin.SmallTypes.fitsIndex k = true) :
  Meets (Builtin.«enumerate.__new__» ⟨[.type "enumerate", .ref l], [(Str.ofString "start", .int k t)]⟩) (fun _ R s => s.heap.get? l = some { cls := .type "list", dict := dd, data := .seq ys n, slots := ss } /\
   R (.ok (.ret (.ref (s.heap.push { cls := .type "list_iterator", data := .fields #[.ref l, .int 0 0] }).objs.size)))
    { s with heap := (s.heap.push { cls := .type "list_iterator", data := .fields #[.ref l, .int 0 0] }).push { cls := .type "enumerate", data := .fields #[.none, .bool false, .ref s.heap.objs.size, rawInt k, .none, .none] } }) :=
 .of_wp fun prog w A R s h => by
  obtain ⟨hp, g, d, tk, os⟩ := s; obtain ⟨hl, h⟩ := h
  have hsub := sub_enumerate
  have hL : Heap.IsList (Shared.heap ⟨hp, g, d, tk, os⟩) l ys := ⟨_, hl, rfl, n, rfl⟩
  wp_walk using wpAny_loadPart' hl
  refine wpAny_stack_any fun st => wpAny_pure ?_
  split
  ·rename_i c _ _ _ _ _
   cases (c == Value.type "enumerate")
   ·wp_walk using wpAny_loadPart' hl, wpAny_pyIter_list hL; exact ⟨_, rfl, h⟩
   ·wp_walk using wpAny_loadPart' hl, wpAny_pyIter_list hL; exact ⟨_, rfl, h⟩
  ·wp_walk using wpAny_loadPart' hl, wpAny_pyIter_list hL; exact ⟨_, rfl, h⟩
end L2
namespace L2
open PySem PySem.Spec PyProof.Rows
section
variable {prog : Program} {w : World} {A : Around} {E : Value -> Shared -> Prop} {s : Shared}
theorem enk_call {l : Addr} {ys : Array Value} {k : Int} {t : Tok} {Q : Value -> Shared -> Prop} (hk : Builtin.SmallTypes.fitsIndex k = true) (hT : s.heap.IsList l ys)
  (q : ∀ h', IsEnum h' (s.heap.objs.size + 1) s.heap.objs.size k .none -> h'.IsListIter s.heap.objs.size l 0 -> h'.objs.size = s.heap.objs.size + 2 -> (∀ b o, s.heap.get? b = some o -> h'.get? b = some o) -> Q (.ref (s.heap.objs.size + 1)) { s with heap := h' }) :
  wpAny (model prog w) A (call (.type "enumerate") [.ref l] [(Str.ofString "start", .int k t)]) Q E s := by
 obtain ⟨⟨c, dd, dt, ss⟩, hl, hc, n, hd⟩ := hT
 replace hc : c = .type "list" := hc
 replace hd : dt = .seq ys n := hd
 subst hc hd
 refine ctk_meets (Q₁ := fun obj s₁ => s₁.TypeIs obj "enumerate" /\ Q obj s₁) F.called_enumerate (enk_type _ _) (enk_new _ _) F.entry_enumerate_new F.entry_object_init (enk_meets l ys n dd ss k t hk) ⟨hl, ?_⟩ fun obj _ hq => ⟨hq.1, enk_init obj _ _, _, oik_meets F.called_enumerate.init.lookup F.called_enumerate.made (by decide), hq.1, rfl, hq.2⟩
 have hz : (s.heap.push { cls := .type "list_iterator", data := .fields #[.ref l, .int 0 0] }).objs.size = s.heap.objs.size + 1 := Heap.size_push ..
 show _ /\ _
 rw [hz]
 have he : IsEnum ((s.heap.push { cls := .type "list_iterator", data := .fields #[.ref l, .int 0 0] }).push { cls := .type "enumerate", data := .fields #[.none, .bool false, .ref s.heap.objs.size, rawInt k, .none, .none] }) (s.heap.objs.size + 1) s.heap.objs.size k .none := by
  have := Heap.get?_push_size (s.heap.push { cls := .type "list_iterator", data := .fields #[.ref l, .int 0 0] }) (o := { cls := .type "enumerate", data := .fields #[.none, .bool false, .ref s.heap.objs.size, rawInt k, .none, .none] }) rfl
  rw [hz] at this; exact this
 exact ⟨⟨_, he, rfl⟩, q _ he ⟨_, Heap.get?_push_of_some _ (Heap.get?_push_size _ rfl), rfl, rfl⟩ (by rw [Heap.size_push, hz]) fun b o x => Heap.get?_push_of_some _ (Heap.get?_push_of_some _ x)⟩
end
section
variable {M : Model} {A : Around} {E : Value -> Shared -> Prop} {s : Shared} {env : Env}
theorem cwk_type {pos : Pos} {T : String} {e : Expr} {rest : List Expr} {kws : List Keyword} {Q : Value -> Shared -> Prop}
  (h : wpAny M A (spliced (backTo pos (starEach (e :: rest) env))) (fun vs s₁ => wpAny M A (evalAll ((backToKw pos (keywordEach kws env)).map (·.2))) (fun kvs s₂ => wpAny M A (call (.type T) vs (((backToKw pos (keywordEach kws env)).filterMap (·.1)).zip kvs)) Q E s₂) E s₁) E s)
  (he : backTo pos (starEach (e :: rest) env) = (false, eval e env) :: backTo pos (starEach rest env) := by rfl) (hplain : (backTo pos (starEach (e :: rest) env)).any (·.1) = false := by rfl)
  (hall : (backToKw pos (keywordEach kws env)).all (·.1.isSome) = true := by rfl) (hkw : (backToKw pos (keywordEach kws env)).any (·.1.isNone) = false := by rfl) :
  wpAny M A (callWith pos (.type T) [] (backTo pos (starEach (e :: rest) env)) (backToKw pos (keywordEach kws env))) Q E s := by
 have h' : wpAny M A (evalArgs (.type T) true (backTo pos (starEach (e :: rest) env)) (backToKw pos (keywordEach kws env))) (fun a s₁ => wpAny M A (call (.type T) ([] ++ a.pos) a.kw) Q E s₁) E s := by
  rw [he] at h ⊢; exact evalArgs_kwB hall h
 unfold callWith; refine wpAny_bind (wpAny_holding (wpAny_mono h' (fun a s₁ h₁ => wpAny_bind (wpAny_standAt ?_)) fun _ _ x => x)); simp only [hplain, hkw, Bool.or_false]
 refine wpAny_bind (wpAny_pure ?_); exact wpAny_bind (wpAny_mono h₁ (fun r s₂ hr => wpAny_bind (wpAny_holding (wpAny_point (wpAny_pure hr)))) fun _ _ x => x)
end
structure ZAp (z TI TO i1 i2 : Addr) (f1 f2 : List Addr) : Prop where
 a1 : TI ≠ z
 a2 : TO ≠ z
 a3 : i1 ≠ z
 a4 : i2 ≠ z
 a5 : TI ≠ TO
 a6 : TI ≠ i1
 a7 : TI ≠ i2
 a8 : TO ≠ i1
 a9 : TO ≠ i2
 b0 : i1 ≠ i2
 b1 : z ∉ f1
 b2 : z ∉ f2
 b3 : TO ∉ f1
 b4 : TO ∉ f2
 b5 : i1 ∉ f2
 b6 : i2 ∉ f1
section
variable {prog : Program} {w : World} {A : Around} {E : Value -> Shared -> Prop} {s : Shared} {z TI TO i1 i2 : Addr} {f1 f2 : List Addr} {n1 n2 k : Nat} {P1 P2 : Nat -> Value -> Prop} {S1 S2 : Nat -> Heap -> Prop}
theorem zd_frame {it : Addr} {fp : List Addr} {n i : Nat} {P : Nat -> Value -> Prop} {St : Nat -> Heap -> Prop} (D : Draws prog w A it fp n P St) {h h' : Heap} {c : Addr} (st : St i h) (k : Heap.ExtBut c h h') (hc : c ∉ fp) : St i h' := D.frame i h h' st fun b hb o e => k b o (fun zz => hc (zz ▸ hb)) e
theorem zd_item {Q : Value -> Shared -> Prop} {a b : Value} (D : ZAp z TI TO i1 i2 f1 f2) (D1 : Draws prog w A i1 f1 n1 P1 S1) (D2 : Draws prog w A i2 f2 n2 P2 S2) (hz : IsZip s.heap z TI TO .none) (hTI : IsPair s.heap TI (.ref i1) (.ref i2)) (hTO : IsPair s.heap TO a b) (st1 : S1 k s.heap) (st2 : S2 k s.heap) (hk1 : k < n1) (hk2 : k < n2)
  (hQ : ∀ x y h' tk, P1 k x -> P2 k y -> IsZip h' z TI TO (rawInt s.heap.objs.size) -> IsPair h' TO x y -> S1 (k + 1) h' -> S2 (k + 1) h' -> IsPair h' s.heap.objs.size x y -> h'.objs.size = s.heap.objs.size + 1 ->
   (∀ c o, c ≠ z -> c ≠ TO -> c ≠ i1 -> c ≠ i2 -> s.heap.get? c = some o -> h'.get? c = some o) -> Q (.ref s.heap.objs.size) { s with heap := h', toks := tk }) :
  wpAny (model prog w) A (Builtin.«zip.__next__» ⟨[.ref z], []⟩) (fun fin s' => ∃ v, fin = .done (.ret v) /\ Q v s') E s := by
 show wpAny _ _ (field (.ref z) 2 >>= _) _ _ _; refine wpAny_bind (wpAny_field hz rfl (x := .bool false) rfl ?_)
 show wpAny _ _ (field (.ref z) 3 >>= _) _ _ _; refine wpAny_bind (wpAny_field hz rfl (x := .ref TI) rfl (wpAny_bind (wpAny_seqItems hTI rfl ?_)))
 show wpAny _ _ (Builtin.SmallTypes.ownedTupleIsFree (.ref z) >>= _) _ _ _; refine wpAny_bind ?_; unfold Builtin.SmallTypes.ownedTupleIsFree
 refine wpAny_bind (wpAny_field hz rfl (x := .none) rfl (wpAny_pure ?_)); simp only [if_true]
 refine wpAny_bind (wpAny_rule (wpAny_bind (wpAny_field hz rfl (x := .ref TO) rfl (wpAny_bind (wpAny_setField_rec hz (by simp) fun hA hzA hsA => ?_)))))
 replace hzA : IsZip hA z TI TO .ellipsis := hzA
 refine wpAny_bind ?_; simp only [List.zipIdx_cons, List.zipIdx_nil, List.forIn_cons, List.forIn_nil]
 refine wpAny_bind (wpAny_bind (wpAny_onRaise ?_)); show wpAny _ _ (Builtin.SmallTypes.nextOf (.ref i1) >>= _) _ _ _
 refine wpAny_bind (D1.item k _ _ _ hk1 (zd_frame D1 st1 hsA.extBut D.b1) fun x hB tB hx stB hsB => wpAny_pure ?_)
 have hTOB : IsPair hB TO a b := hsB.extBut _ _ D.a8 (hsA.extBut _ _ D.a2 hTO)
 refine wpAny_bind (wpAny_seqItems hTOB rfl (wpAny_bind (wpAny_updateSeq_pair hTOB fun hC hTOC hsC => ?_)))
 replace hTOC : IsPair hC TO x b := hTOC
 refine wpAny_bind (wpAny_letGo (wpAny_pure ?_)); refine wpAny_bind (wpAny_bind (wpAny_onRaise ?_)); show wpAny _ _ (Builtin.SmallTypes.nextOf (.ref i2) >>= _) _ _ _
 refine wpAny_bind (D2.item k _ _ _ hk2 (zd_frame D2 (zd_frame D2 (zd_frame D2 st2 hsA.extBut D.b2) hsB.extBut D.b5) hsC.extBut D.b4) fun y hD tD hy stD hsD => wpAny_pure ?_)
 have hTOD : IsPair hD TO x b := hsD.extBut _ _ D.a9 hTOC
 refine wpAny_bind (wpAny_seqItems hTOD rfl (wpAny_bind (wpAny_updateSeq_pair hTOD fun hF hTOF hsF => ?_)))
 replace hTOF : IsPair hF TO x y := hTOF
 refine wpAny_bind (wpAny_letGo (wpAny_pure (wpAny_pure (wpAny_bind (wpAny_seqItems hTOF rfl (wpAny_bind (wpAny_newTuple ?_)))))))
 have hsz : hF.objs.size = s.heap.objs.size := by rw [hsF.1, hsD.1, hsC.1, hsB.1, hsA.1]
 have hzF : IsZip hF z TI TO .ellipsis := hsF.extBut _ _ D.a2.symm (hsD.extBut _ _ D.a4.symm (hsC.extBut _ _ D.a2.symm (hsB.extBut _ _ D.a3.symm hzA)))
 have hkF : ∀ c o, c ≠ z -> c ≠ TO -> c ≠ i1 -> c ≠ i2 -> s.heap.get? c = some o -> hF.get? c = some o := fun c o c1 c2 c3 c4 e => hsF.extBut _ _ c2 (hsD.extBut _ _ c4 (hsC.extBut _ _ c2 (hsB.extBut _ _ c3 (hsA.extBut _ _ c1 e))))
 have s1F : S1 (k + 1) hF := zd_frame D1 (zd_frame D1 (zd_frame D1 stB hsC.extBut D.b3) hsD.extBut D.b6) hsF.extBut D.b3
 have s2F : S2 (k + 1) hF := zd_frame D2 stD hsF.extBut D.b4
 have hzlt : z < hF.objs.size := Heap.lt_size hzF
 show wpAny _ _ (Builtin.SmallTypes.ownedTupleHandOut (.ref z) (.ref hF.objs.size) >>= _) _ _ _; refine wpAny_bind ?_; unfold Builtin.SmallTypes.ownedTupleHandOut
 have hzG : IsZip (hF.push { cls := .type "tuple", data := .seq #[x, y] }) z TI TO .ellipsis := Heap.get?_push_of_some _ hzF
 refine wpAny_bind (wpAny_setField_rec hzG (by simp) fun hJ hzJ hsJ => ?_)
 replace hzJ : IsZip hJ z TI TO (rawInt hF.objs.size) := hzJ
 refine wpAny_setField_rec hzJ (by simp) fun hL hzL hsL => ?_
 replace hzL : IsZip hL z TI TO (rawInt hF.objs.size) := hzL
 have up : ∀ c o, c ≠ z -> hF.get? c = some o -> hL.get? c = some o := fun c o c1 e => hsL.extBut _ _ c1 (hsJ.extBut _ _ c1 (Heap.get?_push_of_some _ e))
 have hTL : IsPair hL hF.objs.size x y := hsL.extBut _ _ (Nat.ne_of_gt hzlt) (hsJ.extBut _ _ (Nat.ne_of_gt hzlt) (Heap.get?_push_size _ rfl))
 have hzs : hL.objs.size = hF.objs.size + 1 := by rw [hsL.1, hsJ.1, Heap.size_push]
 rw [hsz] at hzL hTL hzs
 refine wpAny_pure ⟨_, rfl, ?_⟩; show Q (.ref hF.objs.size) _; rw [hsz]
 exact hQ x y hL tD hx hy hzL (up _ _ D.a2 hTOF) (D1.frame _ _ _ s1F fun b hb o e => up b o (fun q => D.b1 (q ▸ hb)) e) (D2.frame _ _ _ s2F fun b hb o e => up b o (fun q => D.b2 (q ▸ hb)) e) hTL hzs fun c o c1 c2 c3 c4 e => up c o c1 (hkF c o c1 c2 c3 c4 e)
theorem zd_end {Q : PySem.Fin -> Shared -> Prop} {a b : Value} (D : ZAp z TI TO i1 i2 f1 f2) (D1 : Draws prog w A i1 f1 n1 P1 S1) (hz : IsZip s.heap z TI TO .none) (hTI : IsPair s.heap TI (.ref i1) (.ref i2)) (hTO : IsPair s.heap TO a b) (st1 : S1 n1 s.heap)
  (hE : ∀ h' e, (∀ c o, c ≠ z -> c ≠ TO -> c ≠ i1 -> c ≠ i2 -> s.heap.get? c = some o -> h'.get? c = some o) -> (∃ o, h'.get? e = some o /\ o.cls = .type "StopIteration") -> E (.ref e) { s with heap := h' }) :
  wpAny (model prog w) A (Builtin.«zip.__next__» ⟨[.ref z], []⟩) Q E s := by
 show wpAny _ _ (field (.ref z) 2 >>= _) _ _ _; refine wpAny_bind (wpAny_field hz rfl (x := .bool false) rfl ?_)
 show wpAny _ _ (field (.ref z) 3 >>= _) _ _ _; refine wpAny_bind (wpAny_field hz rfl (x := .ref TI) rfl (wpAny_bind (wpAny_seqItems hTI rfl ?_)))
 show wpAny _ _ (Builtin.SmallTypes.ownedTupleIsFree (.ref z) >>= _) _ _ _; refine wpAny_bind ?_; unfold Builtin.SmallTypes.ownedTupleIsFree
 refine wpAny_bind (wpAny_field hz rfl (x := .none) rfl (wpAny_pure ?_)); simp only [if_true]
 refine wpAny_bind (wpAny_rule (wpAny_bind (wpAny_field hz rfl (x := .ref TO) rfl (wpAny_bind (wpAny_setField_rec hz (by simp) fun hA hzA hsA => ?_)))))
 replace hzA : IsZip hA z TI TO .ellipsis := hzA
 refine wpAny_bind ?_; simp only [List.zipIdx_cons, List.zipIdx_nil, List.forIn_cons, List.forIn_nil]
 refine wpAny_bind (wpAny_bind (wpAny_onRaise ?_)); show wpAny _ _ (Builtin.SmallTypes.nextOf (.ref i1) >>= _) _ _ _
 refine wpAny_bind (D1.done _ _ _ (zd_frame D1 st1 hsA.extBut D.b1) fun hB e hsB he => ?_)
 obtain ⟨oe, hoe, hce⟩ := he
 have hzB : IsZip hB z TI TO .ellipsis := hsB _ _ D.a3.symm hzA
 have hez : e ≠ z := fun x => by subst x; rw [hzB] at hoe; cases hoe; simp at hce
 exact wpAny_setField_rec hzB (by simp) fun hC _ hsC => hE hC e (fun c o c1 _ c3 _ x => hsC.extBut _ _ c1 (hsB _ _ c3 (hsA.extBut _ _ c1 x))) ⟨oe, hsC.extBut _ _ hez hoe, hce⟩
theorem zd_next {Q : Option Value -> Shared -> Prop} {a b : Value} (D : ZAp z TI TO i1 i2 f1 f2) (D1 : Draws prog w A.in1 i1 f1 n1 P1 S1) (D2 : Draws prog w A.in1 i2 f2 n2 P2 S2) (hz : IsZip s.heap z TI TO .none) (hTI : IsPair s.heap TI (.ref i1) (.ref i2)) (hTO : IsPair s.heap TO a b) (st1 : S1 k s.heap) (st2 : S2 k s.heap) (hk1 : k < n1) (hk2 : k < n2)
  (hQ : ∀ x y h' tk, P1 k x -> P2 k y -> IsZip h' z TI TO (rawInt s.heap.objs.size) -> IsPair h' TO x y -> S1 (k + 1) h' -> S2 (k + 1) h' -> IsPair h' s.heap.objs.size x y -> h'.objs.size = s.heap.objs.size + 1 ->
   (∀ c o, c ≠ z -> c ≠ TO -> c ≠ i1 -> c ≠ i2 -> s.heap.get? c = some o -> h'.get? c = some o) -> Q (some (.ref s.heap.objs.size)) { s with heap := h', toks := tk }) : wpAny (model prog w) A (pyNext (.ref z)) Q E s := by
 have hT : s.TypeIs (.ref z) "zip" := ⟨_, hz, rfl⟩; unfold pyNext
 refine wpAny_bind (wpAny_attempt (wpAny_callSpecial?_slot (name := Str.ofString "__next__") hT F.slot_zip_next (wpAny_call_entry F.slot_zip_next hT F.entry_zip_next ?_ (F.args_zip_next_1 _))))
 exact zd_item D D1 D2 hz hTI hTO st1 st2 hk1 hk2 fun x y h' tk a0 a1 a2 a3 a4 a5 a6 a7 a8 => wpAny_pure (hQ x y h' tk a0 a1 a2 a3 a4 a5 a6 a7 a8)
theorem zd_last {Q : Option Value -> Shared -> Prop} {a b : Value} (D : ZAp z TI TO i1 i2 f1 f2) (D1 : Draws prog w A.in1 i1 f1 n1 P1 S1) (hz : IsZip s.heap z TI TO .none) (hTI : IsPair s.heap TI (.ref i1) (.ref i2)) (hTO : IsPair s.heap TO a b) (st1 : S1 n1 s.heap)
  (hQ : ∀ h', (∀ c o, c ≠ z -> c ≠ TO -> c ≠ i1 -> c ≠ i2 -> s.heap.get? c = some o -> h'.get? c = some o) -> Q none { s with heap := h' }) : wpAny (model prog w) A (pyNext (.ref z)) Q E s := by
 have hT : s.TypeIs (.ref z) "zip" := ⟨_, hz, rfl⟩; unfold pyNext
 refine wpAny_bind (wpAny_attempt (wpAny_callSpecial?_slot (name := Str.ofString "__next__") hT F.slot_zip_next (wpAny_call_entry F.slot_zip_next hT F.entry_zip_next (zd_end D D1 hz hTI hTO st1 fun h' e hk he => ?_) (F.args_zip_next_1 _))))
 obtain ⟨o, ho, hc⟩ := he
 exact wpAny_bind (wpAny_isInstance (T := "StopIteration") (b := true) ⟨o, ho, hc⟩ isSubtype_stop (wpAny_pure (hQ _ hk)))
end
abbrev zA (h : Heap) (p : Addr) : Heap := h.push { cls := .type "list_iterator", data := .fields #[.ref p, .int 0 0] }
section
variable {prog : Program} {w : World} {A : Around} {E : Value -> Shared -> Prop} {s : Shared}
end
section
variable {X : Cx} {pins : List (Addr × Obj)} {σ : St} {H : Hp} {s : Shared}
theorem fp_base {a c : Addr} {o : Obj} (I : Inv X pins σ H s) (f : FpOk X pins H c) (lk : X.K.lookup a = some o) : a ≠ c := fun z => by
 have e := I.ok.mod.kin a o lk
 rw [z] at e
 rcases f.2.2.2.1 with h | h
 ·exact I.ok.noex c o e h
 ·exact absurd (Nat.lt_of_lt_of_le (Heap.lt_size e) (Nat.le_trans I.ok.bsz h)) (Nat.lt_irrefl _)
theorem fp_L {a c : Addr} {xs : List V} (I : Inv X pins σ H s) (f : FpOk X pins H c) (q : SqL X.K H a xs) : a ≠ c := by
 rcases q with (q | ⟨o, q⟩) | ⟨o, its, n, lk, _⟩
 ·exact ne_of_none q f.1
 ·exact ne_of_none q f.1
 ·exact fp_base I f lk
theorem Inv.tupled {h' : Heap} {t' : Nat} {fp : List Addr} {xs : List V} {its : List Value} (I : Inv X pins σ H s) (hf : ∀ b ∈ fp, FpOk X pins H b) (kp : ∀ b o, b ∉ fp -> s.heap.get? b = some o -> h'.get? b = some o)
  (ht : h'.get? s.heap.objs.size = some { cls := .type "tuple", data := .seq its.toArray }) (rv : Vals xs its) (hl : xs.length <= sizeLine) : Inv X pins σ (upd H s.heap.objs.size (.tup xs)) { s with heap := h', toks := t' } := by
 have hT : H s.heap.objs.size = none := I.hok.fresh (Nat.le_refl _)
 have nH : ∀ b o, H b = some o -> b ∉ fp := fun b o q hb => by rw [(hf b hb).1] at q; cases q
 have keepH : ∀ b o, H b = some o -> upd H s.heap.objs.size (.tup xs) b = some o := fun b o q => by rw [upd_ne (ne_of_none q hT)]; exact q
 have hok2 : HOk X.prog X.w (upd H s.heap.objs.size (.tup xs)) h' := fun b o eb => by
  by_cases hb : b = s.heap.objs.size
  ·subst hb
   rw [upd_same] at eb
   cases eb
   exact ⟨hl, its, rv, ⟨_, ht, rfl, _, rfl⟩⟩
  ·rw [upd_ne hb] at eb
   refine (I.hok b o eb).stay (fun c v hcc q => kp c v ?_ q) (fun c q => keepH c _ q) fun c ys q => keepH c _ q
   rcases hcc with z | z
   ·exact nH c o (by rw [z]; exact eb)
   ·exact nH c _ z
 refine I.step (g' := s.gens) (d' := s.drawn) (t' := t') (ch := fp) (fun b hb => ?_) (fun b o _ _ hcc q _ => kp b o hcc q) (fun b o _ _ hcc q _ => ⟨o.slots, kp b o hcc q⟩) (fun b o _ q n => ?_) (fun b o hcc q => ⟨o, kp b o hcc q⟩) (fun b ys q => keepH b _ q) (fun b o v q => keepH b _ q) (fun b ps q => ⟨#[], by rw [keepH b _ q]; simp⟩) (fun m hm => ?_) hok2 I.bare
 ·obtain ⟨f0, f1, f2, f3, f4, f5⟩ := hf b hb
  exact ⟨f3, f1, f4, f5⟩
 ·rw [upd_ne (Nat.ne_of_lt (Heap.lt_size q))]
  exact n
 ·obtain ⟨o, es, ep, ho, r⟩ := hm
  exact ⟨o, es, ep, kp _ o (fun hb => (hf _ hb).2.1 rfl) ho, r⟩
theorem Inv.turns {h' : Heap} {t' : Nat} {fp : List Addr} (I : Inv X pins σ H s) (hf : ∀ b ∈ fp, FpOk X pins H b) (kp : ∀ b o, b ∉ fp -> s.heap.get? b = some o -> h'.get? b = some o) : Inv X pins σ H { s with heap := h', toks := t' } := by
 have nH : ∀ b o, H b = some o -> b ∉ fp := fun b o q hb => by rw [(hf b hb).1] at q; cases q
 refine I.step (g' := s.gens) (d' := s.drawn) (t' := t') (ch := fp) (fun b hb => ?_) (fun b o _ _ hcc q _ => kp b o hcc q) (fun b o _ _ hcc q _ => ⟨o.slots, kp b o hcc q⟩) (fun b o _ q n => n) (fun b o hcc q => ⟨o, kp b o hcc q⟩) (fun b ys q => q) (fun b o v q => q) (fun b ps q => ⟨#[], by rw [q]; simp⟩) (fun m hm => ?_) (fun b o eb => ?_) I.bare
 ·obtain ⟨f0, f1, f2, f3, f4, f5⟩ := hf b hb
  exact ⟨f3, f1, f4, f5⟩
 ·obtain ⟨o, es, ep, ho, r⟩ := hm
  exact ⟨o, es, ep, kp _ o (fun hb => (hf _ hb).2.1 rfl) ho, r⟩
 ·refine (I.hok b o eb).stay (fun c v hcc q => kp c v ?_ q) (fun c q => q) fun c ys q => q
  rcases hcc with z | z
  ·exact nH c o (by rw [z]; exact eb)
  ·exact nH c _ z
end
theorem nd5 (n : Nat) : [n + 4, n + 2, n + 3, n, n + 1].Nodup := by
 simp only [List.nodup_cons, List.mem_cons, List.mem_nil_iff, or_false, not_or, List.nodup_nil, not_false_eq_true, and_true]
 omega
theorem mem5 {n k : Nat} (h : k ∈ [n + 4, n + 2, n + 3, n, n + 1]) : n <= k := by
 simp only [List.mem_cons, List.mem_nil_iff, or_false] at h
 omega
section
variable {X : Cx}
end
theorem bstL_lt (bt : Nat -> Nat -> Bool) : ∀ n : Nat, argBest bt n <= n
 | 0 => Nat.le_refl _
 | n + 1 => by
  unfold argBest
  have := bstL_lt bt n
  split <;> omega
theorem bstL_ge (f : Nat -> Int) : ∀ (n j : Nat), j <= n -> f j <= f (argBest (fun i j => decide (f i > f j)) n)
 | 0, j, h => by rw [Nat.le_zero.mp h]; exact Int.le_refl _
 | n + 1, j, h => by
  unfold argBest
  have ih := bstL_ge f n
  by_cases hb : f (n + 1) > f (argBest (fun i j => decide (f i > f j)) n)
  ·rw [if_pos (decide_eq_true hb)]
   rcases Nat.lt_or_ge j (n + 1) with l | l
   ·have := ih j (by omega); omega
   ·rw [show j = n + 1 by omega]; exact Int.le_refl _
  ·rw [if_neg (fun z => hb (of_decide_eq_true z))]
   rcases Nat.lt_or_ge j (n + 1) with l | l
   ·exact ih j (by omega)
   ·rw [show j = n + 1 by omega]; omega
section
variable {X : Cx}
theorem call_maxL (hc : X.calm = true) : CallR X (.builtin "max") (fun xs H Q => ∃ (p : Addr) (ns : List Int), xs = [.ref p] /\ SqL X.K H p (ns.map V.int) /\ 0 < ns.length /\ ∀ m : Int, m ∈ ns -> (∀ x ∈ ns, x <= m) -> Q (.int m) H) := by
 intro pins s σ H xs us Q I r h
 obtain ⟨p, ns, rfl, hq, hn, q⟩ := h
 obtain ⟨u, rfl, rx⟩ := vals1 r
 cases rx
 obtain ⟨its, r', pl, hz⟩ := I.list hq
 have hlen : its.length = ns.length := by rw [<- r'.length, List.length_map]
 have hi : IntsAre its ns := intsAre_of r'
 obtain ⟨ys, e⟩ := hi.allInts.items
 have hT : s.heap.IsList p (intItems ys) := by rw [<- e]; exact pl.isList
 have hsz : (intItems ys).size = ns.length := by rw [<- e, List.size_toArray, hlen]
 have hnum : ∀ j, j < ns.length -> numAt ys j = ns.getD j 0 := fun j hj => by
  have hx : (ns.map V.int)[j]? = some (.int (ns.getD j 0)) := by simp [hj]
  obtain ⟨v, hv, t, rfl⟩ := r'.get hx
  have hv' : (intItems ys)[j]? = some (.int (ns.getD j 0) t) := by rw [<- e]; simpa using hv
  obtain ⟨t', ht'⟩ := intItems_at hv'
  injection ht' with h1 _
  exact h1.symm
 have hpl : p < s.heap.objs.size := by
  obtain ⟨o, ho, _⟩ := hT
  exact Heap.lt_size ho
 refine call_max_walk (wpAny_pyIter_list hT ?_)
 refine ⟨_, [_, p], [_], _, _, _, _, rfl, Walks.list (A := X.A.in1) (I.ok.hd hc) _ p (Nat.ne_of_lt hpl) (intItems ys),
  ⟨⟨_, Heap.get?_push_size _ rfl, rfl, rfl⟩, hT.push _⟩, fun c hc' => ?_, by rw [hsz]; exact hn, CmpOf.ints_gt (numAt ys) (fun _ _ => intItems_at), fun v h' tk hP hk => ?_⟩
 ·show c < (s.heap.push _).objs.size
  rw [Heap.size_push]
  rcases List.mem_cons.mp hc' with rfl | hc'
  ·exact Nat.lt_succ_self _
  ·rcases List.mem_cons.mp hc' with rfl | hc'
   ·exact Nat.lt_succ_of_lt hpl
   ·cases hc'
 ·have hold : ∀ c o, s.heap.get? c = some o -> h'.get? c = some o := fun c o e => by
   refine hk c o (fun hm => ?_) (Heap.get?_push_of_some _ e)
   rcases List.mem_cons.mp hm with e1 | hm
   ·exact absurd (Heap.lt_size e) (by rw [e1]; exact Nat.lt_irrefl _)
   ·cases hm
  obtain ⟨t, rfl⟩ := intItems_at hP
  have hb := bstL_lt (fun i j => decide (numAt ys i > numAt ys j)) ((intItems ys).size - 1)
  have hbl : argBest (fun i j => decide (numAt ys i > numAt ys j)) ((intItems ys).size - 1) < ns.length := by rw [hsz] at hb ⊢; omega
  refine ⟨.int _, H, I.kept (t' := tk) hold, ⟨t, rfl⟩, q _ ?_ fun x hx => ?_⟩
  ·rw [hnum _ hbl, List.getD_eq_getElem?_getD, List.getElem?_eq_getElem hbl]
   exact List.getElem_mem hbl
  ·obtain ⟨j, hj, rfl⟩ := List.mem_iff_getElem.mp hx
   have := bstL_ge (numAt ys) ((intItems ys).size - 1) j (by rw [hsz]; omega)
   rw [hnum j hj, List.getD_eq_getElem?_getD, List.getElem?_eq_getElem hj] at this
   exact this
end
theorem mxd_name : (toString "max" ++ toString ".loop" : String) = "max.loop" := by decide
section
variable {prog : Program} {w : World} {A : Around} {R : Result -> Shared -> Prop} {I : Addr} {fp wr : List Addr} {n : Nat} {P : Nat -> Value -> Prop} {St : Nat -> Heap -> Prop} {d : Value}
theorem mxd_loop (W : Walks prog w A.in1 I fp wr n P St) (bt : Nat -> Nat -> Bool) (hcmp : CmpOf prog w A.in1 .Gt P bt) (S : Addr) (hSf : S ∉ fp) : ∀ (k j : Nat) (s : Shared) (vb : Value) (c : Nat), n - (j + 1) = k -> j + 1 <= n -> St (j + 1) s.heap -> P (argBest bt j) vb ->
  s.heap.get? S = some { cls := .type "list", dict := none, data := .seq #[vb, vb] c, slots := #[] } -> (∀ v h' tk, P (argBest bt (n - 1)) v -> (∀ b o, b ∉ wr -> b ≠ S -> s.heap.get? b = some o -> h'.get? b = some o) -> R (.ok (.ret v)) { s with heap := h', toks := tk }) ->
  codeAny (model prog w) A (.builtin "max.loop" ⟨[.ref I, .none, .ref S], [("default", d)]⟩) R s := by
 have hSw : S ∉ wr := (fun h => hSf (W.sub _ h)); intro k
 induction k with
 | zero =>
  intro j s vb c hk hj hst hPb hS hR; have hin : j + 1 = n := by omega
  refine codeAny_builtin F.entry_max_loop ?_; rw [Around.under_plainId F.plain_max_loop _]; show wpAny _ A.in1 (seqItems? (.ref S) >>= _) _ _ s
  refine wpAny_bind (wpAny_seqItems hS rfl ?_); show wpAny _ A.in1 (tryCatch (pyNext (.ref I)) _ >>= _) _ _ s
  refine wpAny_bind (wpAny_tryCatch (W.done s _ _ (hin ▸ hst) fun h' tk hk' => ?_)); have hS' := hk' S _ hSw hS
  show wpAny _ A.in1 (updateSeq S (fun _ => #[]) >>= _) _ _ _; refine wpAny_bind ?_
  refine wpAny_updateSeq hS' rfl (wpAny_bind (wpAny_letGo (wpAny_pure ?_))); exact hR vb _ tk (by rw [<- hin]; exact hPb) fun b o hbw hbS e => (Heap.get?_update_other _ _ (Ne.symm hbS)).trans (hk' b o hbw e)
 | succ k ih =>
  intro j s vb c hk hj hst hPb hS hR; have hlt : j + 1 < n := by omega
  refine codeAny_builtin F.entry_max_loop ?_; rw [Around.under_plainId F.plain_max_loop _]; show wpAny _ A.in1 (seqItems? (.ref S) >>= _) _ _ s
  refine wpAny_bind (wpAny_seqItems hS rfl ?_); show wpAny _ A.in1 (tryCatch (pyNext (.ref I)) _ >>= _) _ _ s
  refine wpAny_bind (wpAny_tryCatch (W.item (j + 1) s _ _ hlt hst fun v h' tk hP hst' hk' => ?_)); have hS' := hk' S _ hSw hS
  show wpAny _ A.in1 (tryCatch (holding [v, v] (richCompare .Gt v vb >>= _)) _ >>= _) _ _ _; refine wpAny_bind (wpAny_tryCatch (wpAny_holding (wpAny_bind (hcmp (j + 1) (argBest bt j) v vb _ _ _ hP hPb ?_))))
  refine wpAny_bind (wpAny_holding (wpAny_truthy_bool ?_)); refine wpAny_bind (wpAny_letGo (wpAny_pure ?_))
  cases hb : bt (j + 1) (argBest bt j) with
  | true =>
   simp only [if_true]; refine wpAny_bind ?_
   refine wpAny_updateSeq hS' rfl (wpAny_bind (wpAny_letGo ?_)); rw [mxd_name]
   refine wpAny_pure ⟨plainId_quiet F.plain_max_loop _, ih (j + 1) _ v _ (by omega) hlt (W.frame _ _ _ hst' fun b hbf o e => ?_) (by simp only [argBest, hb, if_true]; exact hP) (Heap.get?_update_self _ hS' rfl) fun v' h'' tk'' hP' hk'' => ?_⟩
   ·exact ((Heap.get?_update_other _ _ (fun h : S = b => hSf (by rw [h]; exact hbf))).trans e)
   ·exact (hR v' h'' tk'' hP' fun b o hbw hbS e => hk'' b o hbw hbS ((Heap.get?_update_other _ _ (Ne.symm hbS)).trans (hk' b o hbw e)))
  | false =>
   simp only [Bool.false_eq_true, if_false]; refine wpAny_bind (wpAny_letGo ?_); rw [mxd_name]
   refine wpAny_pure ⟨plainId_quiet F.plain_max_loop _, ih (j + 1) _ vb c (by omega) hlt hst' (by simp only [argBest, hb, Bool.false_eq_true, if_false]; exact hPb) hS' fun v' h'' tk'' hP' hk'' => ?_⟩; exact hR v' h'' tk'' hP' fun b o hbw hbS e => hk'' b o hbw hbS (hk' b o hbw e)
theorem mxd_first (W : Walks prog w A.in1 I fp wr n P St) (bt : Nat -> Nat -> Bool) (hcmp : CmpOf prog w A.in1 .Gt P bt) (S : Addr) (hSf : S ∉ fp) {s : Shared} {c : Nat} (hst : St 0 s.heap) (hS : s.heap.get? S = some { cls := .type "list", dict := none, data := .seq #[] c, slots := #[] })
  (h0 : n = 0 -> ∀ h' tk, (∀ b o, b ∉ wr -> b ≠ S -> s.heap.get? b = some o -> h'.get? b = some o) -> R (.ok (.ret d)) { s with heap := h', toks := tk })
  (hR : 0 < n -> ∀ v h' tk, P (argBest bt (n - 1)) v -> (∀ b o, b ∉ wr -> b ≠ S -> s.heap.get? b = some o -> h'.get? b = some o) -> R (.ok (.ret v)) { s with heap := h', toks := tk }) :
  codeAny (model prog w) A (.builtin "max.loop" ⟨[.ref I, .none, .ref S], [("default", d)]⟩) R s := by
 have hSw : S ∉ wr := (fun h => hSf (W.sub _ h))
 refine codeAny_builtin F.entry_max_loop ?_; rw [Around.under_plainId F.plain_max_loop _]; show wpAny _ A.in1 (seqItems? (.ref S) >>= _) _ _ s
 refine wpAny_bind (wpAny_seqItems hS rfl ?_); show wpAny _ A.in1 (tryCatch (pyNext (.ref I)) _ >>= _) _ _ s
 by_cases hn : 0 < n
 ·refine wpAny_bind (wpAny_tryCatch (W.item 0 s _ _ hn hst fun v h' tk hP hst' hk' => ?_)); have hS' := hk' S _ hSw hS
  show wpAny _ A.in1 (updateSeq S (fun _ => #[v, v]) >>= _) _ _ _; refine wpAny_bind ?_
  refine wpAny_updateSeq hS' rfl ?_; rw [mxd_name]
  refine wpAny_pure ⟨plainId_quiet F.plain_max_loop _, mxd_loop W bt hcmp S hSf _ 0 _ v _ rfl hn (W.frame _ _ _ hst' fun b hbf o e => ?_) hP (Heap.get?_update_self _ hS' rfl) fun v' h'' tk'' hP' hk'' => ?_⟩
  ·exact ((Heap.get?_update_other _ _ (fun h : S = b => hSf (by rw [h]; exact hbf))).trans e)
  ·exact (hR hn v' h'' tk'' hP' fun b o hbw hbS e => hk'' b o hbw hbS ((Heap.get?_update_other _ _ (Ne.symm hbS)).trans (hk' b o hbw e)))
 ·have hz : n = 0 := by omega
  refine wpAny_bind (wpAny_tryCatch (W.done s _ _ (by rw [hz]; exact hst) fun h' tk hk' => ?_))
  refine wpAny_bind (wpAny_rule ?_)
  exact wpAny_pure (h0 hz h' tk fun b o hbw _ e => hk' b o hbw e)
end
theorem args_maxd (a v : Value) : argsOk "max" ⟨[a], [(Str.ofString "default", v)]⟩ := by unfold argsOk; kernel_rfl
section
variable {X : Cx}
theorem max_def {pins : List (Addr × Obj)} {s : Shared} {σ : St} {H : Hp} {E : Value -> Shared -> Prop} {p : Addr} {ns : List Int} {d : Value} {Q : Value -> Shared -> Prop} (hc : X.calm = true) (I : Inv X pins σ H s) (hq : SqL X.K H p (ns.map V.int))
  (h0 : ns = [] -> ∀ s', Inv X pins σ H s' -> Q d s') (h1 : ∀ (m : Int) (t : Tok) (s' : Shared), m ∈ ns -> (∀ x ∈ ns, x <= m) -> Inv X pins σ H s' -> Q (.int m t) s') : wpAny (model X.prog X.w) X.A (call (.builtin "max") [.ref p] [(Str.ofString "default", d)]) Q E s := by
 obtain ⟨its, r', pl, hz⟩ := I.list hq
 have hlen : its.length = ns.length := by rw [<- r'.length, List.length_map]
 have hi : IntsAre its ns := intsAre_of r'
 obtain ⟨ys, e⟩ := hi.allInts.items
 have hT : s.heap.IsList p (intItems ys) := by rw [<- e]; exact pl.isList
 have hsz : (intItems ys).size = ns.length := by rw [<- e, List.size_toArray, hlen]
 have hnum : ∀ j, j < ns.length -> numAt ys j = ns.getD j 0 := fun j hj => by
  have hx : (ns.map V.int)[j]? = some (.int (ns.getD j 0)) := by simp [hj]
  obtain ⟨v, hv, t, rfl⟩ := r'.get hx
  have hv' : (intItems ys)[j]? = some (.int (ns.getD j 0) t) := by rw [<- e]; simpa using hv
  obtain ⟨t', ht'⟩ := intItems_at hv'
  injection ht' with h1 _
  exact h1.symm
 have hpl : p < s.heap.objs.size := by
  obtain ⟨o, ho, _⟩ := hT
  exact Heap.lt_size ho
 refine kmk_tree PySem.F.kind_max PySem.F.plain_max PySem.F.entry_max (args_maxd _ _) ?_; show wpAny _ X.A.in1 (Builtin.Builtins.bindParams "max" ["key", "default"] 0 ⟨[], [(Str.ofString "default", d)]⟩ >>= _) _ _ s
 refine wpAny_bind (wpAny_of_eq (show Builtin.Builtins.bindParams "max" ["key", "default"] 0 ⟨[], [(Str.ofString "default", d)]⟩ = pure [none, some d] from rfl) ?_); refine wpAny_bind (wpAny_pure ?_)
 refine wpAny_bind (wpAny_pyIter_list hT ?_); refine wpAny_bind (wpAny_newList ?_ (Nat.zero_le _)); rw [mxd_name]
 have hS : (s.heap.push { cls := .type "list_iterator", data := .fields #[.ref p, .int 0 0] }).objs.size = s.heap.objs.size + 1 := Heap.size_push ..
 have old : ∀ c o, s.heap.get? c = some o -> ((s.heap.push { cls := .type "list_iterator", data := .fields #[.ref p, .int 0 0] }).push (seqObj "list" #[] 0)).get? c = some o := fun c o e => Heap.get?_push_of_some _ (Heap.get?_push_of_some _ e)
 refine wpAny_pure ⟨plainId_quiet PySem.F.plain_max_loop _, mxd_first (Walks.list (A := X.A.in1) (I.ok.hd hc) s.heap.objs.size p (Nat.ne_of_lt hpl) (intItems ys)) _ (CmpOf.ints_gt (numAt ys) (fun _ _ => intItems_at)) _ (fun hm => ?_) ⟨⟨_, Heap.get?_push_of_some _ (Heap.get?_push_size _ rfl), rfl, rfl⟩, (hT.push _).push _⟩ (Heap.get?_push_size _ rfl) (fun hn h' tk hk => ?_) fun hn v h' tk hP hk => ?_⟩
 ·rw [hS] at hm
  rcases List.mem_cons.mp hm with e1 | hm
  ·exact absurd e1 (Nat.ne_of_gt (Nat.lt_succ_self _))
  ·rcases List.mem_cons.mp hm with e1 | hm
   ·exact absurd e1 (Nat.ne_of_gt (Nat.lt_succ_of_lt hpl))
   ·cases hm
 ·have hold : ∀ c o, s.heap.get? c = some o -> h'.get? c = some o := fun c o e => hk c o (fun hm => by
   rcases List.mem_cons.mp hm with e1 | hm
   ·exact absurd (Heap.lt_size e) (by rw [e1]; exact Nat.lt_irrefl _)
   ·cases hm) (by rw [hS]; exact Nat.ne_of_lt (Nat.lt_succ_of_lt (Heap.lt_size e))) (old c o e)
  exact h0 (List.length_eq_zero_iff.mp (by omega)) _ (I.kept (t' := tk) hold)
 ·have hold : ∀ c o, s.heap.get? c = some o -> h'.get? c = some o := fun c o e => hk c o (fun hm => by
   rcases List.mem_cons.mp hm with e1 | hm
   ·exact absurd (Heap.lt_size e) (by rw [e1]; exact Nat.lt_irrefl _)
   ·cases hm) (by rw [hS]; exact Nat.ne_of_lt (Nat.lt_succ_of_lt (Heap.lt_size e))) (old c o e)
  obtain ⟨t, rfl⟩ := intItems_at hP
  have hb := bstL_lt (fun i j => decide (numAt ys i > numAt ys j)) ((intItems ys).size - 1)
  have hbl : argBest (fun i j => decide (numAt ys i > numAt ys j)) ((intItems ys).size - 1) < ns.length := by rw [hsz] at hb ⊢; omega
  refine h1 _ t _ ?_ (fun x hx => ?_) (I.kept (t' := tk) hold)
  ·rw [hnum _ hbl, List.getD_eq_getElem?_getD, List.getElem?_eq_getElem hbl]
   exact List.getElem_mem hbl
  ·obtain ⟨j, hj, rfl⟩ := List.mem_iff_getElem.mp hx
   have := bstL_ge (numAt ys) ((intItems ys).size - 1) j (by rw [hsz]; omega)
   rw [hnum j hj, List.getD_eq_getElem?_getD, List.getElem?_eq_getElem hj] at this
   exact this
end
theorem dr_shift {prog : Program} {w : World} {A : Around} {it : Addr} {fp : List Addr} {n : Nat} {P : Nat -> Value -> Prop} {St : Nat -> Heap -> Prop} (D : Draws prog w A it fp n P St) (k : Nat) : Draws prog w A it fp (k + n) (fun j x => ∃ i, j = k + i /\ P i x) (fun j h => ∃ i, j = k + i /\ St i h) where
 live := fun j h ⟨i, _, st⟩ => D.live i h st
 frame := fun j h h' ⟨i, e, st⟩ kp => ⟨i, e, D.frame i h h' st kp⟩
 item := fun j s Q E hj ⟨i, e, st⟩ hQ => D.item i s Q E (by omega) st fun x h' tk p st' sb => hQ x h' tk ⟨i, e, p⟩ ⟨i + 1, by omega, st'⟩ sb
 done := fun s Q E ⟨i, e, st⟩ hE => by
  obtain rfl : i = n := by omega
  exact D.done s Q E st hE
def Itk (K : W.Frag) (a : Addr) (k0 : Nat) : It :=
 ⟨fun i H => ∃ xs x, SqL K H a xs /\ xs[i]? = some x, fun i H x H' => ∃ t v, H t = none /\ x = .ref t /\ (∀ xs, SqL K H a xs -> xs[i]? = some v) /\ H' = upd H t (.tup [.int ((k0 + i : Nat) : Int), v]), fun i H => ∃ xs, SqL K H a xs /\ xs.length = i⟩
theorem turn_enumK {P : Program} {w : World} {K : W.Frag} {elts : List Expr} {x1 : Nat} {pos : Pos} (k0 : Nat) (a it e : Addr) (hne : e ≠ it) : Turn P w K (.Tuple elts x1 pos) (Itk K a k0) [e, it] e (fun i h => (∃ old, IsEnum h e it ((k0 + i : Nat) : Int) old) /\ h.IsListIter it a i) where
 mem := by simp
 obj := fun i h st b hb => by
  obtain ⟨⟨old, he⟩, o, ho, hc, hd⟩ := st
  rcases List.mem_cons.mp hb with rfl | hb
  ·exact ⟨_, he, fun v z => by cases z⟩
  ·have eb : b = it := by simpa using hb
   subst eb
   exact ⟨o, ho, fun v z => by rw [hd] at z; cases z⟩
 keep := fun i h h' st k => by
  obtain ⟨⟨old, he⟩, hit⟩ := st
  exact ⟨⟨old, k e (by simp) _ he⟩, hit.at fun o q => k it (by simp) o q⟩
 item := by
  intro X hP hw hK hc i pins s σ H E I hf st hg
  subst hP hw hK
  obtain ⟨xs, x, hq, hx⟩ := hg
  obtain ⟨⟨old, he⟩, hit⟩ := st
  obtain ⟨its, rv, p, hz⟩ := I.list hq
  obtain ⟨u, hu, ru⟩ := rv.get hx
  obtain ⟨f0, f1, f2, f3, f4, f5⟩ := hf e (by simp)
  obtain ⟨g0, g1, g2, g3, g4, g5⟩ := hf it (by simp)
  have ha : a ≠ it := fp_L I (hf it (by simp)) hq
  have hae : a ≠ e := fp_L I (hf e (by simp)) hq
  have hlt0 : i < its.toArray.size := by
   rw [List.size_toArray]
   rcases Nat.lt_or_ge i its.length with z | z
   ·exact z
   ·rw [List.getElem?_eq_none z] at hu; cases hu
  refine wpAny_pyNext_enum_itemD (i := k0 + i) (dr_shift (Draws.list (A := X.A.in1) (I.ok.hd hc) it a ha its.toArray) k0) he ⟨i, rfl, hit, p.isList⟩ (by omega) hne (by simp only [List.mem_cons, List.not_mem_nil, or_false, not_or]; exact ⟨hne, Ne.symm hae⟩) fun u' h1 tk hP heo hit1' ht1 hz1 hk1 => ?_
  obtain ⟨i', ei, hP⟩ := hP
  obtain rfl : i' = i := by omega
  obtain rfl : u' = u := by
   have hu' : its.toArray[i']? = some u := by simpa using hu
   rw [hu'] at hP
   exact (Option.some.inj hP).symm
  obtain ⟨i2, ei2, hit1, _⟩ := hit1'
  obtain rfl : i2 = i' + 1 := by omega
  refine ⟨_, rfl, ?_⟩
  refine wpAny_letOwnedTupleGo_enum heo fun h2 he2 hs2 => ?_
  have hlt : e < s.heap.objs.size := Heap.lt_size he
  have hs2' : Heap.SameBut e h1 h2 := hs2
  have ht2 : h2.get? s.heap.objs.size = some { cls := .type "tuple", data := .seq #[.int ((k0 + i' : Nat) : Int) tk, u'] } := (hs2'.2 _ (Nat.ne_of_gt hlt)).trans ht1
  have kp : ∀ b o, b ≠ e -> b ≠ it -> s.heap.get? b = some o -> h2.get? b = some o := fun b o h1' h2' q => (hs2'.2 b h1').trans (hk1 b o h1' h2' q)
  -- the two records turn, then the tuple is laid
  have hT : H s.heap.objs.size = none := I.hok.fresh (Nat.le_refl _)
  have nH : ∀ b, H b ≠ none -> b ≠ e /\ b ≠ it := fun b hb => ⟨fun z => hb (z ▸ f0), fun z => hb (z ▸ g0)⟩
  have keepH : ∀ b o, H b = some o -> upd H s.heap.objs.size (.tup [.int ((k0 + i' : Nat) : Int), x]) b = some o := fun b o q => by rw [upd_ne (ne_of_none q hT)]; exact q
  have hok2 : HOk X.prog X.w (upd H s.heap.objs.size (.tup [.int ((k0 + i' : Nat) : Int), x])) h2 := fun b o eb => by
   by_cases hb : b = s.heap.objs.size
   ·subst hb
    rw [upd_same] at eb
    cases eb
    exact ⟨by show 2 <= sizeLine; decide, [.int ((k0 + i' : Nat) : Int) tk, u'], .cons ⟨_, rfl⟩ (.cons ru .nil), ⟨_, ht2, rfl, _, rfl⟩⟩
   ·rw [upd_ne hb] at eb
    refine (I.hok b o eb).stay (fun c v hcc q => kp c v ?_ ?_ q) (fun c q => keepH c _ q) fun c ys q => keepH c _ q
    ·rcases hcc with z | z
     ·exact (nH c (by rw [z, eb]; simp)).1
     ·exact (nH c (by rw [z]; simp)).1
    ·rcases hcc with z | z
     ·exact (nH c (by rw [z, eb]; simp)).2
     ·exact (nH c (by rw [z]; simp)).2
  have I2 : Inv X pins σ (upd H s.heap.objs.size (.tup [.int ((k0 + i' : Nat) : Int), x])) { s with heap := h2, toks := tk + 1 } := by
   refine I.step (g' := s.gens) (d' := s.drawn) (t' := tk + 1) (ch := [e, it]) (fun b hb => ?_) (fun b o _ _ hcc q _ => kp b o (fun z => hcc (by simp [z])) (fun z => hcc (by simp [z])) q) (fun b o _ _ hcc q _ => ⟨o.slots, kp b o (fun z => hcc (by simp [z])) (fun z => hcc (by simp [z])) q⟩) (fun b o _ q n => ?_)
    (fun b o hcc q => ⟨o, kp b o (fun z => hcc (by simp [z])) (fun z => hcc (by simp [z])) q⟩) (fun b ys q => keepH b _ q) (fun b o v q => keepH b _ q) (fun b ps q => ⟨#[], by rw [keepH b _ q]; simp⟩) (fun m hm => ?_) hok2 I.bare
   ·rcases List.mem_cons.mp hb with rfl | hb
    ·exact ⟨f3, f1, f4, f5⟩
    ·have eb : b = it := by simpa using hb
     subst eb
     exact ⟨g3, g1, g4, g5⟩
   ·rw [upd_ne (Nat.ne_of_lt (Heap.lt_size q))]
    exact n
   ·obtain ⟨o, es, ep, ho, r⟩ := hm
    exact ⟨o, es, ep, kp _ o (Ne.symm f1) (Ne.symm g1) ho, r⟩
  have hilt : it < s.heap.objs.size := by
   obtain ⟨o, ho, _⟩ := id hit
   exact Heap.lt_size ho
  refine ⟨.ref s.heap.objs.size, _, I2, rfl, ⟨s.heap.objs.size, x, hT, rfl, fun ys hy => by rw [I.list_inj hy hq]; exact hx, rfl⟩, ⟨⟨u', ?_⟩, ?_⟩, fun b hb => ?_⟩
  ·have := he2
   rw [show (((k0 + i' : Nat) : Int) + 1) = (((k0 + (i' + 1) : Nat) : Int)) by omega] at this
   exact this
  ·exact hit1.at fun o q => (hs2'.2 it (Ne.symm hne)).trans q
  ·rcases List.mem_cons.mp hb with rfl | hb
   ·rw [upd_ne (Nat.ne_of_lt hlt)]; exact f0
   ·have eb : b = it := by simpa using hb
    subst eb
    rw [upd_ne (Nat.ne_of_lt hilt)]
    exact g0
 done := by
  intro X hP hw hK hc i pins s σ H E I hf st hg
  subst hP hw hK
  obtain ⟨xs, hq, hx⟩ := hg
  obtain ⟨⟨old, he⟩, hit⟩ := st
  obtain ⟨its, rv, p, hz⟩ := I.list hq
  obtain ⟨g0, g1, g2, g3, g4, g5⟩ := hf it (by simp)
  have hl := rv.length
  have ha : a ≠ it := fp_L I (hf it (by simp)) hq
  have ei : i = its.toArray.size := by rw [List.size_toArray]; omega
  exact wpAny_pyNext_enum_endD (dr_shift (Draws.list (A := X.A.in1) (I.ok.hd hc) it a ha its.toArray) k0) he ⟨its.toArray.size, rfl, ei ▸ hit, p.isList⟩ fun h' eb => ⟨rfl, I.turned (t' := s.toks) (fun b o hb q => eb b o hb q) g0 g1 g3 g4 g5⟩
 self := fun _ _ _ _ _ st h => by
  obtain ⟨⟨old, he⟩, _⟩ := st
  exact wpAny_pyIter_enum he h
def iEnumK (K : W.Frag) (ta : TA) (tb : TE) : TI := fun σ H R => ta σ H fun vs H1 => tCons tb tNil σ H1 fun zs H2 => ∃ (c : Addr) (k : Nat), vs = [.ref c] /\ zs = [.int k] /\ k < 1000 /\ (∃ xs, SqL K H2 c xs) /\ R (Itk K c k) H2
section
variable {X : Cx}
theorem pi_enumK {a b : Expr} {ta : TA} {tb : TE} {elts : List Expr} {x1 : Nat} {tpos p pos kpos : Pos} (hg : Gl X "enumerate") (hm : X.mg "enumerate" = none) (ha : PA X [a] ta) (hb : PE X b tb)
  (hs : backTo pos (starEach [a] X.env) = (false, eval a X.env) :: backTo pos (starEach [] X.env) := by rfl) (hpl : (backTo pos (starEach [a] X.env)).any (·.1) = false := by rfl) :
  PI X (.Tuple elts x1 tpos) (.Call (.Name "enumerate" p) [a] [⟨some "start", b, kpos⟩] pos) (iEnumK X.K ta tb) := by
 intro pins s σ H R I h
 refine wpAny_Call_Name_kw (ld_blt I hg hm (show bootBuiltins "enumerate" = some (.type "enumerate") from rfl) ?_ (by decide) (by decide))
 refine cwk_type (thn (ha pos pins s σ H _ I h) fun us s1 ⟨vs, H1, I1, r1, q1⟩ => ?_) hs hpl rfl rfl
 have hk : PK X [⟨some "start", b, kpos⟩] (tCons tb tNil) := pk_cons hb pk_nil
 refine thn (hk pos pins s1 σ H1 (fun zs H2 => ∃ (c : Addr) (k : Nat), vs = [.ref c] /\ zs = [.int k] /\ k < 1000 /\ (∃ xs, SqL X.K H2 c xs) /\ R (Itk X.K c k) H2) I1 q1) fun ws s2 ⟨zs, H2, I2, r2, c, k, ev, ez, hk', ⟨xs, hq⟩, q⟩ => ?_
 subst ev ez
 obtain ⟨w, rfl, rw⟩ := vals1 r2
 obtain ⟨u, rfl, ru⟩ := vals1 r1
 obtain ⟨t, rfl⟩ := rw
 cases ru
 obtain ⟨its, rv, pl, hz⟩ := I2.list hq
 refine enk_call (k := (k : Int)) (t := t) ?_ pl.isList fun h' he hit hsz kp => ?_
 ·unfold Builtin.SmallTypes.fitsIndex
  simp only [Bool.and_eq_true, decide_eq_true_eq]
  exact ⟨Int.le_trans (show (-(2 ^ 63) : Int) <= 0 by decide) (Int.natCast_nonneg k), Int.lt_trans (show (k : Int) < 1000 by omega) (by decide)⟩
 refine wpAny_pyIter_enum he ?_
 have hne : s2.heap.objs.size + 1 ≠ s2.heap.objs.size := Nat.succ_ne_self _
 refine ⟨s2.heap.objs.size + 1, [s2.heap.objs.size + 1, s2.heap.objs.size], _, _, H2, rfl, I2.kept (t' := s2.toks) kp, turn_enumK k c s2.heap.objs.size (s2.heap.objs.size + 1) hne, ⟨⟨_, he⟩, hit⟩, fun d hd => ?_, q⟩
 rcases List.mem_cons.mp hd with rfl | hd
 ·exact I2.fpOk (Nat.le_succ _) (I2.hok.fresh (Nat.le_succ _))
 ·have e : d = s2.heap.objs.size := by simpa using hd
  subst e
  exact I2.fpOk (Nat.le_refl _) (I2.hok.fresh (Nat.le_refl _))
end
theorem comp_enumK {K : W.Frag} {a D : Addr} {k0 : Nat} {ys : List V} {g : TG} {tt : TT} {te : TE} {Qd : Hp -> Prop} {σ0 : St} {H0 : Hp} (Pv : Nat -> List V -> St -> Hp -> Prop) (h0 : Pv 0 [] σ0 H0) (hz : ys.length <= sizeLine) (hl : ∀ i xs σ H, i <= ys.length -> Pv i xs σ H -> SqL K H a ys /\ H D = some (.lst xs) /\ xs.length <= i)
  (hs : ∀ i xs x t σ H (N : List V -> St -> Hp -> Prop), (∀ xs' σ' H', Pv (i + 1) xs' σ' H' -> N xs' σ' H') -> ys[i]? = some x -> Pv i xs σ H -> H t = none -> g (.ref t) σ (upd H t (.tup [.int ((k0 + i : Nat) : Int), x])) fun σ2 H2 => tt σ2 H2 fun b H3 => if b = true then te σ2 H3 fun v H4 => H4 D = some (.lst xs) /\ N (xs ++ [v]) σ2 (upd H4 D (.lst (xs ++ [v]))) else N xs σ2 H3)
  (hd : ∀ xs σ H, Pv ys.length xs σ H -> Qd H) :
  ∃ W : Nat -> Nat -> List V -> St -> Hp -> Prop, (∃ m, W 0 m [] σ0 H0) /\ ∀ i m xs σ' H', W i m xs σ' H' -> H' D = some (.lst xs) /\ (((Itk K a k0).stop i H' /\ Qd H') \/ ((Itk K a k0).go i H' /\ xs.length < sizeLine /\ ∀ x H'', (Itk K a k0).yld i H' x H'' -> g x σ' H'' fun σ2 H2 => tt σ2 H2 fun b H3 =>
   if b = true then te σ2 H3 fun v H4 => H4 D = some (.lst xs) /\ ∃ m', m' < m /\ W (i + 1) m' (xs ++ [v]) σ2 (upd H4 D (.lst (xs ++ [v]))) else ∃ m', m' < m /\ W (i + 1) m' xs σ2 H3)) := by
 refine ⟨fun i m xs σ H => m = ys.length - i /\ i <= ys.length /\ Pv i xs σ H, ⟨ys.length, by simp, Nat.zero_le _, h0⟩, ?_⟩
 rintro i m xs σ H ⟨rfl, hi, p⟩
 obtain ⟨q, hD, hx⟩ := hl i xs σ H hi p
 refine ⟨hD, ?_⟩
 by_cases hlt : i < ys.length
 ·refine .inr ⟨⟨ys, ys[i], q, by simp [hlt]⟩, by omega, fun x H'' y => ?_⟩
  obtain ⟨t, v, ht, e, hv, e'⟩ := y
  subst e e'
  exact hs i xs v t σ _ (fun zs σ' H' => ∃ m', m' < ys.length - i /\ m' = ys.length - (i + 1) /\ i + 1 <= ys.length /\ Pv (i + 1) zs σ' H') (fun zs σ' H' r => ⟨_, by omega, rfl, hlt, r⟩) (hv ys q) p ht
 ·have e : i = ys.length := by omega
  subst e
  exact .inl ⟨⟨ys, q, rfl⟩, hd xs σ H p⟩
def ItzL (K : W.Frag) (a b : Addr) : It :=
 ⟨fun i H => ∃ xs ys x y, SqL K H a xs /\ SqL K H b ys /\ xs[i]? = some x /\ ys[i]? = some y, fun i H x H' => ∃ t u v, H t = none /\ x = .ref t /\ (∀ xs, SqL K H a xs -> xs[i]? = some u) /\ (∀ ys, SqL K H b ys -> ys[i]? = some v) /\ H' = upd H t (.tup [u, v]), fun i H => ∃ xs, SqL K H a xs /\ xs.length = i⟩
def iZipL (K : W.Frag) (ta : TA) : TI := fun σ H R => ta σ H fun vs H1 => ∃ a b, vs = [.ref a, .ref b] /\ (∃ xs, SqL K H1 a xs) /\ (∃ ys, SqL K H1 b ys) /\ R (ItzL K a b) H1
theorem turn_zipL {P : Program} {w : World} {K : W.Frag} {elts : List Expr} {x1 : Nat} {pos : Pos} (a b z TI TO i1 i2 : Addr) (nd : [z, TI, TO, i1, i2].Nodup) :
  Turn P w K (.Tuple elts x1 pos) (ItzL K a b) [z, TI, TO, i1, i2] z (fun i h => IsZip h z TI TO .none /\ IsPair h TI (.ref i1) (.ref i2) /\ (∃ x y, IsPair h TO x y) /\ h.IsListIter i1 a i /\ h.IsListIter i2 b i) where
 mem := by simp
 obj := fun i h st c hc => by
  obtain ⟨hz, hTI, ⟨x, y, hTO⟩, ⟨o1, ho1, hc1, hd1⟩, ⟨o2, ho2, hc2, hd2⟩⟩ := st
  simp only [List.mem_cons, List.mem_nil_iff, or_false] at hc
  rcases hc with rfl | rfl | rfl | rfl | rfl
  ·exact ⟨_, hz, fun v q => by cases q⟩
  ·exact ⟨_, hTI, fun v q => by cases q⟩
  ·exact ⟨_, hTO, fun v q => by cases q⟩
  ·exact ⟨o1, ho1, fun v q => by rw [hd1] at q; cases q⟩
  ·exact ⟨o2, ho2, fun v q => by rw [hd2] at q; cases q⟩
 keep := fun i h h' st k => by
  obtain ⟨hz, hTI, ⟨x, y, hTO⟩, h1, h2⟩ := st
  exact ⟨k z (by simp) _ hz, k TI (by simp) _ hTI, ⟨x, y, k TO (by simp) _ hTO⟩, h1.at fun o q => k i1 (by simp) o q, h2.at fun o q => k i2 (by simp) o q⟩
 item := by
  intro X hP hw hK hc i pins s σ H E I hf st hg
  subst hP hw hK
  obtain ⟨xs, ys, x, y, q1, q2, hx, hy⟩ := hg
  obtain ⟨hz, hTI, ⟨o1, o2, hTO⟩, h1, h2⟩ := st
  obtain ⟨its, rv, pl, hzl⟩ := I.list q1
  obtain ⟨jts, rw', pt, hzt⟩ := I.list q2
  obtain ⟨u, hu, ru⟩ := rv.get hx
  obtain ⟨v, hv, rv'⟩ := rw'.get hy
  have fa : ∀ c ∈ [z, TI, TO, i1, i2], a ≠ c := fun c hc => fp_L I (hf c hc) q1
  have fb : ∀ c ∈ [z, TI, TO, i1, i2], b ≠ c := fun c hc => fp_L I (hf c hc) q2
  have hl1 : s.heap.IsList a its.toArray := pl.isList
  have hl2 : s.heap.IsList b jts.toArray := pt.isList
  have ui : its.toArray[i]? = some u := by simpa using hu
  have vi : jts.toArray[i]? = some v := by simpa using hv
  have lt1 : i < its.toArray.size := by
   rcases Nat.lt_or_ge i its.toArray.size with h | h
   ·exact h
   ·rw [Array.getElem?_eq_none h] at ui; cases ui
  have lt2 : i < jts.toArray.size := by
   rcases Nat.lt_or_ge i jts.toArray.size with h | h
   ·exact h
   ·rw [Array.getElem?_eq_none h] at vi; cases vi
  simp only [List.nodup_cons, List.mem_cons, List.mem_nil_iff, or_false, not_or] at nd
  obtain ⟨⟨n1, n2, n3, n4⟩, ⟨n5, n6, n7⟩, ⟨n8, n9⟩, n10, _⟩ := nd
  have ap : ZAp z TI TO i1 i2 [i1, a] [i2, b] := by
   refine ⟨Ne.symm n1, Ne.symm n2, Ne.symm n3, Ne.symm n4, n5, n6, n7, n8, n9, n10, ?_, ?_, ?_, ?_, ?_, ?_⟩
   ·simp [n3, Ne.symm (fa z (by simp))]
   ·simp [n4, Ne.symm (fb z (by simp))]
   ·simp [n8, Ne.symm (fa TO (by simp))]
   ·simp [n9, Ne.symm (fb TO (by simp))]
   ·simp [n10, Ne.symm (fb i1 (by simp))]
   ·simp [Ne.symm n10, Ne.symm (fa i2 (by simp))]
  refine zd_next (k := i) ap (Draws.list (A := X.A.in1) (I.ok.hd hc) i1 a (fa i1 (by simp)) its.toArray) (Draws.list (A := X.A.in1) (I.ok.hd hc) i2 b (fb i2 (by simp)) jts.toArray) hz hTI hTO ⟨h1, hl1⟩ ⟨h2, hl2⟩ lt1 lt2 fun x' y' hA tk px py hzo hTOo st1 st2 hT hsz hk => ?_
  obtain rfl : u = x' := by have := ui.symm.trans px; cases this; rfl
  obtain rfl : v = y' := by have := vi.symm.trans py; cases this; rfl
  refine ⟨_, rfl, ?_⟩
  refine wpAny_letOwnedTupleGo_zip hzo fun hB hzB hsB => ?_
  have hsB' : Heap.SameBut z hA hB := hsB
  have zlt : z < s.heap.objs.size := Heap.lt_size hz
  have up : ∀ c o, c ≠ z -> hA.get? c = some o -> hB.get? c = some o := fun c o c1 e => (hsB'.2 c c1).trans e
  have kp : ∀ c o, c ∉ [z, TI, TO, i1, i2] -> s.heap.get? c = some o -> hB.get? c = some o := fun c o hc e => by
   simp only [List.mem_cons, List.mem_nil_iff, or_false, not_or] at hc
   exact up c o hc.1 (hk c o hc.1 hc.2.2.1 hc.2.2.2.1 hc.2.2.2.2 e)
  have I2 : Inv X pins σ (upd H s.heap.objs.size (.tup [x, y])) { s with heap := hB, toks := tk } := I.tupled (its := [u, v]) hf kp (up _ _ (Nat.ne_of_gt zlt) hT) (.cons ru (.cons rv' .nil)) (by show 2 <= sizeLine; decide)
  have hTn : H s.heap.objs.size = none := I.hok.fresh (Nat.le_refl _)
  refine ⟨.ref s.heap.objs.size, _, I2, rfl, ⟨s.heap.objs.size, x, y, hTn, rfl, fun zs hq => by rw [I.list_inj hq q1]; exact hx, fun zs hq => by rw [I.list_inj hq q2]; exact hy, rfl⟩, ⟨hzB, ?_, ⟨u, v, up _ _ (Ne.symm n2) hTOo⟩, st1.1.at fun o e => up i1 o (Ne.symm n3) e, st2.1.at fun o e => up i2 o (Ne.symm n4) e⟩, fun c hc => ?_⟩
  ·exact up _ _ (Ne.symm n1) (hk _ _ (Ne.symm n1) n5 n6 n7 hTI)
  ·have lt : c < s.heap.objs.size := by
    simp only [List.mem_cons, List.mem_nil_iff, or_false] at hc
    rcases hc with rfl | rfl | rfl | rfl | rfl
    ·exact zlt
    ·exact Heap.lt_size hTI
    ·exact Heap.lt_size hTO
    ·obtain ⟨o, ho, _⟩ := h1; exact Heap.lt_size ho
    ·obtain ⟨o, ho, _⟩ := h2; exact Heap.lt_size ho
   rw [upd_ne (Nat.ne_of_lt lt)]
   exact (hf c hc).1
 done := by
  intro X hP hw hK hc i pins s σ H E I hf st hg
  subst hP hw hK
  obtain ⟨xs, q1, hx⟩ := hg
  obtain ⟨hz, hTI, ⟨o1, o2, hTO⟩, h1, h2⟩ := st
  obtain ⟨its, rv, pl, hzl⟩ := I.list q1
  have hl := rv.length
  have fa : ∀ c ∈ [z, TI, TO, i1, i2], a ≠ c := fun c hc => fp_L I (hf c hc) q1
  simp only [List.nodup_cons, List.mem_cons, List.mem_nil_iff, or_false, not_or] at nd
  obtain ⟨⟨n1, n2, n3, n4⟩, ⟨n5, n6, n7⟩, ⟨n8, n9⟩, n10, _⟩ := nd
  have ap : ZAp z TI TO i1 i2 [i1, a] [i2] := by
   refine ⟨Ne.symm n1, Ne.symm n2, Ne.symm n3, Ne.symm n4, n5, n6, n7, n8, n9, n10, ?_, ?_, ?_, ?_, ?_, ?_⟩
   ·simp [n3, Ne.symm (fa z (by simp))]
   ·simp [n4]
   ·simp [n8, Ne.symm (fa TO (by simp))]
   ·simp [n9]
   ·simp [n10]
   ·simp [Ne.symm n10, Ne.symm (fa i2 (by simp))]
  have ei : i = its.toArray.size := by rw [List.size_toArray]; omega
  refine zd_last ap (Draws.list (A := X.A.in1) (I.ok.hd hc) i1 a (fa i1 (by simp)) its.toArray) hz hTI hTO ⟨by rw [<- ei]; exact h1, pl.isList⟩ fun h' hk => ⟨rfl, I.turns (t' := s.toks) hf fun c o hc' e => ?_⟩
  simp only [List.mem_cons, List.mem_nil_iff, or_false, not_or] at hc'
  exact hk c o hc'.1 hc'.2.2.1 hc'.2.2.2.1 hc'.2.2.2.2 e
 self := fun _ _ _ _ _ st h => wpAny_pyIter_zip st.1 h
section
variable {X : Cx}
theorem pi_zipL {a b : Expr} {ta : TA} {elts : List Expr} {x1 : Nat} {tpos p pos : Pos} (hg : Gl X "zip") (hm : X.mg "zip" = none) (ha : PA X [a, b] ta) (hv : bootBuiltins "zip" = some (.type "zip") := by rfl) (hs : starEach [a, b] X.env = (false, eval a X.env) :: starEach [b] X.env := by rfl) (hpl : (backTo pos (starEach [b] X.env)).any (·.1) = false := by rfl) :
  PI X (.Tuple elts x1 tpos) (.Call (.Name "zip" p) [a, b] [] pos) (iZipL X.K ta) := by
 intro pins s σ H R I h
 refine Call_ (ld_blt I hg hm hv (PyProof.Rows.callWith_type1 (thn (ha pos pins s σ H _ I h) fun us s1 ⟨vs, H1, I1, r1, q1⟩ => ?_) hs hpl))
 obtain ⟨c, d, e, ⟨xs, hq⟩, ⟨ys, hq2⟩, q⟩ := q1
 subst e
 obtain ⟨u, v, rfl, rx, ry⟩ := vals2 r1
 cases rx
 cases ry
 obtain ⟨its, rv, pl, hz⟩ := I1.list hq
 obtain ⟨jts, rv2, pt, hz2⟩ := I1.list hq2
 refine call_zip_2 pl.isList pt.isList fun h' gz gTI gTO g1 g2 hsz kp => ?_
 refine wpAny_pyIter_zip gz ?_
 refine ⟨s1.heap.objs.size + 4, [s1.heap.objs.size + 4, s1.heap.objs.size + 2, s1.heap.objs.size + 3, s1.heap.objs.size, s1.heap.objs.size + 1], _, _, H1, rfl, I1.kept (t' := s1.toks) kp, turn_zipL c d (s1.heap.objs.size + 4) (s1.heap.objs.size + 2) (s1.heap.objs.size + 3) s1.heap.objs.size (s1.heap.objs.size + 1) ?_, ⟨gz, gTI, ⟨_, _, gTO⟩, g1, g2⟩, fun k hk => ?_, q⟩
 ·exact nd5 _
 ·have := mem5 hk
  exact I1.fpOk this (I1.hok.fresh this)
end
theorem comp_zipL {K : W.Frag} {a b D : Addr} {ys zs : List V} {g : TG} {tt : TT} {te : TE} {Qd : Hp -> Prop} {σ0 : St} {H0 : Hp} (hyz : ys.length = zs.length) (Pv : Nat -> List V -> St -> Hp -> Prop) (h0 : Pv 0 [] σ0 H0) (hz : ys.length <= sizeLine) (hl : ∀ i xs σ H, i <= ys.length -> Pv i xs σ H -> SqL K H a ys /\ SqL K H b zs /\ H D = some (.lst xs) /\ xs.length <= i)
  (hs : ∀ i xs x y t σ H (N : List V -> St -> Hp -> Prop), (∀ xs' σ' H', Pv (i + 1) xs' σ' H' -> N xs' σ' H') -> ys[i]? = some x -> zs[i]? = some y -> Pv i xs σ H -> H t = none -> g (.ref t) σ (upd H t (.tup [x, y])) fun σ2 H2 => tt σ2 H2 fun b H3 => if b = true then te σ2 H3 fun v H4 => H4 D = some (.lst xs) /\ N (xs ++ [v]) σ2 (upd H4 D (.lst (xs ++ [v]))) else N xs σ2 H3)
  (hd : ∀ xs σ H, Pv ys.length xs σ H -> Qd H) :
  ∃ W : Nat -> Nat -> List V -> St -> Hp -> Prop, (∃ m, W 0 m [] σ0 H0) /\ ∀ i m xs σ' H', W i m xs σ' H' -> H' D = some (.lst xs) /\ (((ItzL K a b).stop i H' /\ Qd H') \/ ((ItzL K a b).go i H' /\ xs.length < sizeLine /\ ∀ x H'', (ItzL K a b).yld i H' x H'' -> g x σ' H'' fun σ2 H2 => tt σ2 H2 fun b H3 =>
   if b = true then te σ2 H3 fun v H4 => H4 D = some (.lst xs) /\ ∃ m', m' < m /\ W (i + 1) m' (xs ++ [v]) σ2 (upd H4 D (.lst (xs ++ [v]))) else ∃ m', m' < m /\ W (i + 1) m' xs σ2 H3)) := by
 refine ⟨fun i m xs σ H => m = ys.length - i /\ i <= ys.length /\ Pv i xs σ H, ⟨ys.length, by simp, Nat.zero_le _, h0⟩, ?_⟩
 rintro i m xs σ H ⟨rfl, hi, p⟩
 obtain ⟨q1, q2, hD, hx⟩ := hl i xs σ H hi p
 refine ⟨hD, ?_⟩
 by_cases hlt : i < ys.length
 ·refine .inr ⟨⟨ys, zs, ys[i], zs[i], q1, q2, by simp [hlt], by simp [hyz ▸ hlt]⟩, by omega, fun x H'' y => ?_⟩
  obtain ⟨t, u, v, ht, e, hu, hv, e'⟩ := y
  subst e e'
  exact hs i xs u v t σ _ (fun zs σ' H' => ∃ m', m' < ys.length - i /\ m' = ys.length - (i + 1) /\ i + 1 <= ys.length /\ Pv (i + 1) zs σ' H') (fun zs σ' H' r => ⟨_, by omega, rfl, hlt, r⟩) (hu ys q1) (hv zs q2) p ht
 ·obtain rfl : i = ys.length := by omega
  exact .inl ⟨⟨ys, q1, rfl⟩, hd xs σ H p⟩
end L2
namespace Web
open PySem L2
theorem in_intsW {K : W.Frag} {A : Around} {H : Hp} {Q : VK} {l : Addr} {es : List Int} {z : Int} (hun : A.units + 64 < cLine) (hl : SqL K H l (es.map V.int)) (q : Q (.bl (decide (z ∈ es))) H) : rInD K A false (.int z) (.ref l) H Q := by
 refine ⟨l, _, .int z, es.map .int, rfl, .inl hl, Dt.mkInt, DtAll.ints es, by simp [PyData.canLay0], lay_ints es, un_lt1 hun (by simp [PyData.depth]), ?_⟩
 rw [eqv_intP, if_neg Bool.false_ne_true]
 exact q
inductive Wz where
 | odd | below (z : Int) | wall (z : Int)
def wzT : Wz -> List V
 | .odd => [.str "odd"]
 | .below z => [.str "below", .int z]
 | .wall z => [.str "wall", .int z]
def shwM (ns : List Int) (M : Nat) : Wz -> Bool
 | .odd => decide (ns.sum % 2 = 1)
 | .below z => decide (z ∈ belL ns)
 | .wall z => decide (1 <= z /\ z <= ns.length /\ roomM ns M z.toNat < 0)
theorem dec_i (a b : Int) : decide (V.int a = V.int b) = decide (a = b) := by
 by_cases h : a = b
 ·rw [h, decide_eq_true rfl, decide_eq_true rfl]
 ·rw [decide_eq_false h, decide_eq_false (fun z => h (by injection z))]
theorem ne_bo : ¬ (V.str "below" = V.str "odd") := by decide +kernel
theorem ne_wo : ¬ (V.str "wall" = V.str "odd") := by decide +kernel
theorem ne_wb : ¬ (V.str "wall" = V.str "below") := by decide +kernel
theorem at_st {x y : V} : atI ([x, y] : List V) 0 = some x := atI_nat (j := 0) rfl
theorem at_nd {x y : V} : atI ([x, y] : List V) 1 = some y := atI_nat (j := 1) rfl
theorem at_on {x : V} : atI ([x] : List V) 0 = some x := atI_nat (j := 0) rfl
theorem passN {P : Program} {w : World} {X : Cx} : Passes (CXE P w) X E0 := fun _ _ _ _ _ _ _ h => by
 obtain ⟨_, _, _, _, _, _, _, _, _, _, _, hE⟩ := h
 exact hE.elim
def tMaxN (K : W.Frag) (tr : TA) : TE := fun σ H Q => tr σ H fun vs H1 => ∃ (p : Addr) (ns : List Int), vs = [.ref p] /\ SqL K H1 p (ns.map V.int) /\ AllP ns /\ ∀ m : Int, 0 <= m -> (∀ x ∈ ns, x <= m) -> Q (.int m) H1
open PyProof.Rows in
theorem pe_maxN {X : Cx} {e : Expr} {np pos bpos kpos : Pos} {j : Nat} {tr : TA} (K : W.Frag) (hK : X.K = K) (hc : X.calm = true) (hg : Gl X "max") (hm : X.mg "max" = none) (ha : PA X [e] tr)
  (hs : backTo pos (starEach [e] X.env) = (false, eval e X.env) :: backTo pos (starEach [] X.env) := by rfl)
  (hpl : (backTo pos (starEach [e] X.env)).any (·.1) = false := by rfl) :
  PE X (.Call (.Name "max" np) [e] [⟨some "default", .Constant (.int 0) j bpos, kpos⟩] pos) (tMaxN K tr) := by
 subst hK
 intro pins s σ H Q I h
 refine wpAny_Call_Name_kw (ld_blt I hg hm (show bootBuiltins "max" = some (.builtin "max") from rfl) ?_ (by decide) (by decide))
 refine callWith_kw (thn (ha pos pins s σ H _ I h) fun us s1 ⟨vs, H1, I1, r1, q1⟩ => ?_) hs hpl rfl rfl
 obtain ⟨p, ns, rfl, hq, hp, q⟩ := q1
 have hk : PK X [⟨some "default", .Constant (.int 0) j bpos, kpos⟩] (tCons (tC (.int 0)) tNil) := pk_cons pe_int pk_nil
 refine thn (hk pos pins s1 σ H1 (fun zs H2 => zs = [.int 0] /\ H2 = H1) I1 ⟨rfl, rfl⟩) fun ws s2 ⟨zs, H2, I2, r2, ez, eH⟩ => ?_
 subst ez eH
 obtain ⟨w, rfl, rw⟩ := vals1 r2
 obtain ⟨u, rfl, ru⟩ := vals1 r1
 obtain ⟨t, rfl⟩ := rw
 cases ru
 exact max_def hc I2 hq (fun e s' I' => ⟨.int 0, _, I', ⟨_, rfl⟩, q 0 (by omega) fun x hx => by rw [e] at hx; cases hx⟩) fun m t s' a1 a2 I' => ⟨.int m, _, I', ⟨t, rfl⟩, q m (by
  obtain ⟨i, hi⟩ := List.mem_iff_getElem?.mp a1
  exact hp i m hi) a2⟩
theorem abv_if (M L c : Int) (hM : 1 <= M) : (if (if c - L > 0 then c - L else 0) < M then (if c - L > 0 then c - L else 0) else M) = abv M L c := by
 unfold abv
 by_cases h1 : c - L <= 0
 ·have e : (if c - L > 0 then c - L else 0) = 0 := if_neg (by omega)
  rw [if_pos h1, e, if_pos (show (0 : Int) < M by omega)]
 ·have e : (if c - L > 0 then c - L else 0) = c - L := if_pos (by omega)
  rw [if_neg h1, e]
  by_cases h2 : c - L <= M
  ·rw [if_pos h2]
   by_cases h3 : c - L < M
   ·rw [if_pos h3]
   ·rw [if_neg h3]; omega
  ·rw [if_neg h2, if_neg (by omega)]
seal L2.PE L2.PA L2.PS L2.PSs L2.PT
section
variable {P : Program} {w : World} {K : W.Frag} {mg : Str -> Option Value} {base : Heap}
def spWhere (P : Program) (w : World) (K : W.Frag) (mg : Str -> Option Value) (base : Heap) (k : Nat) : Sp := fun vs H Q _ => ∃ (lo hi : Int) (f : Addr) (ob : Obj) (fd : FuncData) (x : Str) (sp : Sp) (J : Hp -> Prop) (p : Int -> Bool), vs = [.int lo, .int hi, .ref f] /\ lo <= hi /\ ob.data = .func fd /\
 FnOk P w K mg base CX0 k f fd [x] sp /\ Binds K fd [x] [] /\ (∀ H, J H -> H f = some (LamO f ob)) /\ (∀ (H : Hp) (m : Int) (Q : VK), J H -> lo <= m -> m < hi -> (∀ H', Same H H' -> J H' -> Q (.bl (p m)) H') -> sp [.int m] H Q E0) /\ J H /\
 ∀ (r : Int) (H' : Hp), lo <= r -> r <= hi -> (r < hi -> p r = true) -> (lo < r -> p (r - 1) = false) -> J H' -> Same H H' -> Q (.int r) H'
theorem scWhere : FnScope ["low", "high", "holds", "middle"] ["low", "high", "holds"] (defScope sWhere) := ⟨rfl, rfl, rfl, by decide +kernel, rfl, by decide +kernel, by decide +kernel⟩
theorem ok_where {k : Nat} {f : Addr} {fd : FuncData} (F : Fun K "least_where" "least_where" sWhere f fd) : FnOk P w K mg base CX0 (k + 1) f fd ["low", "high", "holds"] (spWhere P w K mg base k) := by
 refine F.ok scWhere (fun vs H Q E h => ?_) (fun cdv A outer s H vs Q E hr h => ?_)
 ·obtain ⟨lo, hi, fl, ob, fd, x, sp, J, p, rfl, _⟩ := h
  rfl
 ·obtain ⟨lo, hi, fl, ob, fdl, x, sp, J, p, rfl, hlh, hob, FL, bL, hJ, hcall, hJ0, q⟩ := h
  refine ⟨_, pss_cons (ps_while PassesOwn.never (pt_cmpR op_lt (pv 0) (pv 1) (nomark _))
   (pss_cons (ps_set (i := 3) scWhere.nd rfl (Or.inl rfl) (pe_op op_fdiv (pe_op op_add (pv 0) (pv 1)) pe_int))
   (pss_one (ps_if (pt_val (pe_callV hr (i := 2) rfl (Or.inl rfl) (pa_cons (pv 3) pa_nil)))
    (pss_one (ps_set (i := 1) scWhere.nd rfl (Or.inl rfl) (pv 3))) (pss_one (ps_set (i := 0) scWhere.nd rfl (Or.inl rfl) (pe_op op_add (pv 3) pe_int)))))))
   (pss_one (ps_ret (pv 0))), ?_⟩
  refine ⟨fun m σ H1 => ∃ (a b : Int) (e3 : Option V), m = (b - a).toNat /\ σ = [some (.int a), some (.int b), some (.ref fl), e3] /\ lo <= a /\ a <= b /\ b <= hi /\ (b < hi -> p b = true) /\ (lo < a -> p (a - 1) = false) /\ J H1 /\ Same H H1, ⟨_, lo, hi, none, rfl, rfl, by omega, hlh, by omega, fun z => absurd z (by omega), fun z => absurd z (by omega), hJ0, Same.refl H⟩, ?_⟩
  rintro m σ H1 ⟨a, b, e3, rfl, rfl, h1, h2, h3, h4, h5, h6, h7⟩
  refine ⟨_, rfl, _, rfl, _, _, rfl, rfl, _, rfl, ?_⟩
  refine ite2 (fun hc => ?_) (fun hc => ?_)
  ·have hab := of_decide_eq_true hc
   refine ⟨fun σ' H' => ∃ (a' b' : Int) (e3 : Option V), (b' - a').toNat < (b - a).toNat /\ σ' = [some (.int a'), some (.int b'), some (.ref fl), e3] /\ lo <= a' /\ a' <= b' /\ b' <= hi /\ (b' < hi -> p b' = true) /\ (lo < a' -> p (a' - 1) = false) /\ J H' /\ Same H H', fun σ' H' ⟨a', b', e3', z0, z1, z2, z3, z4, z5, z6, z7, z8⟩ => ⟨_, z0, a', b', e3', rfl, z1, z2, z3, z4, z5, z6, z7, z8⟩, ?_⟩
   refine ⟨_, rfl, _, rfl, _, _, rfl, rfl, _, _, rfl, rfl, ⟨by decide, by decide⟩, ?_⟩
   refine gName_int fun c hcm => ?_
   refine gName_to ?_
   have hc1 : a <= c := by omega
   have hc2 : c < b := by omega
   refine ⟨fl, ob, fdl, rfl, hJ _ h6, hob, _, rfl, [x], sp, hJ _ h6, FL, bL, hcall H1 c _ h6 (by omega) (by omega) fun H2 s2 j2 => ⟨_, rfl, ?_⟩⟩
   refine ite2 (fun hp => ?_) (fun hp => ?_)
   ·exact ⟨_, rfl, a, c, _, by omega, rfl, h1, by omega, by omega, fun _ => hp, h5, j2, h7.trans s2⟩
   ·refine ⟨_, rfl, _, _, rfl, rfl, c + 1, b, _, by omega, rfl, by omega, by omega, h3, h4, fun _ => ?_, j2, h7.trans s2⟩
    rw [show c + 1 - 1 = c by omega]
    simpa using hp
  ·have hab : ¬ a < b := fun z => hc (decide_eq_true z)
   have e : b = a := by omega
   rw [e] at h4
   exact ⟨_, rfl, q a H1 h1 (by omega) h4 h5 h6 h7⟩
def spAbv (K : W.Frag) : Sp := fun vs H Q _ => ∃ (a : Addr) (ns : List Int) (L M : Int), vs = [.ref a, .int L, .int M] /\ SqL K H a (ns.map V.int) /\ ns.length <= 100 /\ 1 <= M /\ ∀ (l : Addr) (H' : Hp), Same H H' -> H l = none -> H' l = some (.lst ((ns.map (abv M L)).map V.int)) -> Q (.ref l) H'
theorem scAbv : FnScope ["numbers", "level", "most"] ["numbers", "level", "most"] (defScope sAbv) := ⟨rfl, rfl, rfl, by decide +kernel, rfl, by decide +kernel, by decide +kernel⟩
theorem ok_abv {f : Addr} {fd : FuncData} (F : Fun K "above" "above" sAbv f fd) (B : Bn mg) : FnOk P w K mg base CX0 1 f fd ["numbers", "level", "most"] (spAbv K) := by
 refine F.ok scAbv (fun vs H Q E h => ?_) (fun cdv A outer s H vs Q E hr h => ?_)
 ·obtain ⟨a, ns, L, M, rfl, _⟩ := h
  rfl
 ·obtain ⟨a, ns, L, M, rfl, hS, hn, hM, q⟩ := h
  have hsl := sl1000
  have nd3 : (["number", "level", "most"] : List Str).Nodup := by decide +kernel
  refine ⟨_, pss_one (ps_ret (pe_comp (N' := ["number", "level", "most"]) (lk := [none, some 1, some 2]) rfl (pi_list (pv 0)) (by rfl) rfl (by decide +kernel) (by exact ⟨rfl, rfl, trivial⟩) (by rfl) (by exact LkL.ok ⟨⟨rfl, Or.inl rfl, rfl, Or.inl rfl⟩, ⟨rfl, Or.inl rfl, rfl, Or.inl rfl⟩, trivial⟩)
     (fun _ _ _ => pg_name (i := 0) nd3 rfl (Or.inl rfl)) (fun _ _ _ => pts_nil) (fun _ _ _ => pe_callB (call_min2 rfl) (by rfl) B.min (by rfl) (pa_cons (pv 2) (pa_cons (pe_callB (call_max2 rfl) (by rfl) B.max (by rfl) (pa_cons pe_int (pa_cons (pe_op op_sub (pv 0) (pv 1)) pa_nil))) pa_nil))))), ?_⟩
  refine ⟨_, rfl, a, rfl, ⟨_, hS⟩, fun D hD => comp_list (K := K) (a := a) (D := D) (ys := ns.map V.int) (fun i xs σ' H' => (∃ v, σ' = [v, some (.int L), some (.int M)]) /\ Same H H' /\ H' D = some (.lst xs) /\ xs = ((ns.take i).map (abv M L)).map V.int)
   ⟨⟨none, rfl⟩, same_upd hD, upd_same, rfl⟩ (by rw [List.length_map]; omega) (fun i xs σ' H' hi ⟨_, s6, h6, e6⟩ => ⟨s6.seq hS, h6, by rw [e6, List.length_map, List.length_map, List.length_take]; omega⟩) ?_ ?_⟩
  ·rintro i xs x σ' H' N kN hx ⟨⟨v, rfl⟩, s6, h6, rfl⟩
   obtain ⟨z, hz, rfl⟩ := int_get hx
   refine gName_to (tTrue_if ?_)
   refine ⟨_, rfl, _, rfl, _, rfl, _, _, rfl, rfl, _, _, rfl, _, _, rfl, ?_⟩
   rw [abv_if M L z hM]
   refine ⟨h6, kN _ _ _ ⟨⟨_, rfl⟩, s6.upd hD, upd_same, ?_⟩⟩
   rw [List.take_add_one, hz, List.map_append, List.map_append]
   rfl
  ·rintro xs σ' H' ⟨⟨v, rfl⟩, s6, h6, rfl⟩
   rw [List.take_of_length_le (by rw [List.length_map]; exact Nat.le_refl _)] at h6
   exact q D H' s6 hD h6
def lamAt (st : Stmt) : Pos := match (defBody st).getD 0 (.Pass ⟨0, 0, 0, 0⟩) with
 | .Assign _ (.Call _ [_, _, .Lambda _ _ _ p] _ _) _ => p
 | _ => ⟨0, 0, 0, 0⟩
def lamP (st : Stmt) : Arguments × Expr × Scope := match (defBody st).getD 0 (.Pass ⟨0, 0, 0, 0⟩) with
 | .Assign _ (.Call _ [_, _, .Lambda a b c _] _ _) _ => (a, b, c)
 | _ => ({ posonlyargs := [], args := [], vararg := none, kwonlyargs := [], kw_defaults := [], kwarg := none, defaults := [] }, .Constant .none 0 ⟨0, 0, 0, 0⟩, { kind := .function, names := [], isGenerator := false, isCoroutine := false })
def lamQ : Str := (("shares" : Str) ++ (".<locals>." : Str)) ++ ("<lambda>" : Str)
abbrev Tb (P : Addr) (H : Hp) : Prop := TabOk P (lamAt sShr) lamQ H
theorem Grow.sqL {K : W.Frag} {P a : Addr} {H H' : Hp} {xs : List V} {po : Pos} {qu : Str} (g : Grow P H H') (t : TabOk P po qu H) (h : SqL K H a xs) : SqL K H' a xs := by
 obtain ⟨ps, hP, _⟩ := t
 rcases h with (h | ⟨o, h⟩) | h
 ·exact .inl (.inl (g a _ (fun z => by rw [z, hP] at h; cases h) h))
 ·exact .inl (.inr ⟨o, g a _ (fun z => by rw [z, hP] at h; cases h) h⟩)
 ·exact .inr h
theorem Grow.sqT {K : W.Frag} {P a : Addr} {H H' : Hp} {xs : List V} {po : Pos} {qu : Str} (g : Grow P H H') (t : TabOk P po qu H) (h : SqT K H a xs) : SqT K H' a xs := by
 obtain ⟨ps, hP, _⟩ := t
 rcases h with (h | ⟨o, h⟩) | h
 ·exact .inl (.inl (g a _ (fun z => by rw [z, hP] at h; cases h) h))
 ·exact .inl (.inr ⟨o, g a _ (fun z => by rw [z, hP] at h; cases h) h⟩)
 ·exact .inr h
theorem Sq.grow {K : W.Frag} {P a : Addr} {H H' : Hp} {ns : List Int} {po : Pos} {qu : Str} (h : Sq K H a ns) (g : Grow P H H') (t : TabOk P po qu H) : Sq K H' a ns := h.elim (fun h => .inl (Grow.sqL g t h)) fun h => .inr (Grow.sqT g t h)
theorem Sq.rmv {K : W.Frag} {a : Addr} {H : Hp} {l : Addr -> Option Obj} {ns : List Int} (h : Sq K H a ns) (hl : ∀ b o, l b = some o -> H b = some (LamO b o)) : Sq K (rmvL H l) a ns := by
 have go : ∀ u, (∀ o, u ≠ LamO a o) -> H a = some u -> rmvL H l a = some u := fun u hu q => by rw [rmv_none (lam_un hl q hu)]; exact q
 rcases h with ((h | ⟨o, h⟩) | h) | ((h | ⟨o, h⟩) | h)
 ·exact .inl (.inl (.inl (go _ (fun o z => by unfold LamO at z; cases z) h)))
 ·exact .inl (.inl (.inr ⟨o, go _ (fun o z => by unfold LamO at z; cases z) h⟩))
 ·exact .inl (.inr h)
 ·exact .inr (.inl (.inl (go _ (fun o z => by unfold LamO at z; cases z) h)))
 ·exact .inr (.inl (.inr ⟨o, go _ (fun o z => by unfold LamO at z; cases z) h⟩))
 ·exact .inr (.inr h)
theorem same_trk {H : Hp} {l : Addr -> Option Obj} (hl : ∀ b o, l b = some o -> H b = none) : Same H (trkL H l) := fun b u e => by
 cases hb : l b with
 | some z => rw [hl b z hb] at e; cases e
 | none => rw [trk_none hb]; exact e
theorem same_back {H H' : Hp} {l : Addr -> Option Obj} (hl : ∀ b o, l b = some o -> H b = some (LamO b o)) (s : Same (rmvL H l) H') : Same H (trkL H' l) := fun b u e => by
 cases hb : l b with
 | some z => rw [hl b z hb] at e; rw [trk_some hb]; exact e
 | none => rw [trk_none hb]; exact s b u (by rw [rmv_none hb]; exact e)
theorem same_out {H H2 : Hp} {l : Addr -> Option Obj} (hl : ∀ b o, l b = some o -> H b = none) (s : Same (trkL H l) H2) : Same H (rmvL H2 l) := fun b u e => by
 cases hb : l b with
 | some z => rw [hl b z hb] at e; cases e
 | none => rw [rmv_none hb]; exact s b u (by rw [trk_none hb]; exact e)
theorem SqL.rmv {a : Addr} {H : Hp} {l : Addr -> Option Obj} {ns : List Int} (h : SqL K H a (ns.map V.int)) (hl : ∀ b o, l b = some o -> H b = some (LamO b o)) : SqL K (rmvL H l) a (ns.map V.int) := by
 have go : ∀ u, (∀ o, u ≠ LamO a o) -> H a = some u -> rmvL H l a = some u := fun u hu q => by rw [rmv_none (lam_un hl q hu)]; exact q
 rcases h with (h | ⟨o, h⟩) | h
 ·exact .inl (.inl (go _ (fun o z => by unfold LamO at z; cases z) h))
 ·exact .inl (.inr ⟨o, go _ (fun o z => by unfold LamO at z; cases z) h⟩)
 ·exact .inr h
end
end Web
namespace Web
open PySem L2
theorem look3 {x k1 k2 k3 : Str} {c a1 a2 a3 : Addr} (h : List.lookup x [(k1, a1), (k2, a2), (k3, a3)] = some c) : (x = k1 /\ c = a1) \/ (x = k2 /\ c = a2) \/ (x = k3 /\ c = a3) := by
 by_cases z1 : x = k1
 ·subst z1
  simp [List.lookup] at h
  exact .inl ⟨rfl, h.symm⟩
 ·have e1 : (x == k1) = false := by simpa using z1
  by_cases z2 : x = k2
  ·subst z2
   simp [List.lookup, e1] at h
   exact .inr (.inl ⟨rfl, h.symm⟩)
  ·have e2 : (x == k2) = false := by simpa using z2
   by_cases z3 : x = k3
   ·subst z3
    simp [List.lookup, e1, e2] at h
    exact .inr (.inr ⟨rfl, h.symm⟩)
   ·have e3 : (x == k3) = false := by simpa using z3
    simp [List.lookup, e1, e2, e3] at h
theorem inj3 {x y k1 k2 k3 : Str} {c a1 a2 a3 : Addr} (n12 : a1 ≠ a2) (n13 : a1 ≠ a3) (n23 : a2 ≠ a3) (hx : List.lookup x [(k1, a1), (k2, a2), (k3, a3)] = some c) (hy : List.lookup y [(k1, a1), (k2, a2), (k3, a3)] = some c) : x = y := by
 rcases look3 hx with ⟨rfl, e⟩ | ⟨rfl, e⟩ | ⟨rfl, e⟩ <;> rcases look3 hy with ⟨h, e'⟩ | ⟨h, e'⟩ | ⟨h, e'⟩
 all_goals first | exact h.symm | exact absurd (e.symm.trans e') n12 | exact absurd (e.symm.trans e') n13 | exact absurd (e.symm.trans e') n23 | exact absurd (e'.symm.trans e) n12 | exact absurd (e'.symm.trans e) n13 | exact absurd (e'.symm.trans e) n23
theorem lk1 {k1 k2 k3 : Str} {a1 a2 a3 : Addr} : List.lookup k1 [(k1, a1), (k2, a2), (k3, a3)] = some a1 := by simp [List.lookup]
theorem lk2 {k1 k2 k3 : Str} {a1 a2 a3 : Addr} (h : (k2 == k1) = false) : List.lookup k2 [(k1, a1), (k2, a2), (k3, a3)] = some a2 := by simp [List.lookup, h]
theorem lk3 {k1 k2 k3 : Str} {a1 a2 a3 : Addr} (h : (k3 == k1) = false) (h' : (k3 == k2) = false) : List.lookup k3 [(k1, a1), (k2, a2), (k3, a3)] = some a3 := by simp [List.lookup, h, h']
theorem abv_top {M L : Int} : ∀ {ns : List Int}, (∀ x ∈ ns, x <= L) -> (ns.map (abv M L)).sum = 0
 | [], _ => rfl
 | c :: ns, h => by
  rw [List.map_cons, List.sum_cons, abv_top fun x hx => h x (List.mem_cons_of_mem _ hx)]
  have := h c List.mem_cons_self
  unfold abv
  rw [if_pos (by omega)]
  rfl
def mpN (M L : Int) (ns : List Int) (i : Nat) : List Int := ((List.range i).filter fun j => decide (abv M L (ns.getD j 0) < abv M (L - 1) (ns.getD j 0))).map fun j : Nat => (j : Int)
theorem mpN_succ (M L : Int) (ns : List Int) (i : Nat) : mpN M L ns (i + 1) = mpN M L ns i ++ (if abv M L (ns.getD i 0) < abv M (L - 1) (ns.getD i 0) then [(i : Int)] else []) := by
 unfold mpN
 rw [List.range_succ, List.filter_append, List.map_append]
 congr 1
 by_cases h : abv M L (ns.getD i 0) < abv M (L - 1) (ns.getD i 0)
 ·rw [if_pos h, List.filter_cons, if_pos (decide_eq_true h)]; rfl
 ·rw [if_neg h, List.filter_cons, if_neg (by rw [decide_eq_false h]; decide)]; rfl
theorem mpN_all (M L : Int) (ns : List Int) : mpN M L ns ns.length = moreP M L ns := by
 unfold mpN moreP rng
 rw [List.filter_map, <- List.range_eq_range']
 congr 1
theorem mpN_len (M L : Int) (ns : List Int) (i : Nat) : (mpN M L ns i).length <= i := by
 unfold mpN
 rw [List.length_map]
 have := List.length_filter_le (fun j => decide (abv M L (ns.getD j 0) < abv M (L - 1) (ns.getD j 0))) (List.range i)
 rw [List.length_range] at this
 exact this
theorem getD_abv {M L : Int} {ns : List Int} {j : Nat} (h : j < ns.length) : (ns.map (abv M L)).getD j 0 = abv M L (ns.getD j 0) := by
 rw [List.getD_eq_getElem?_getD, List.getD_eq_getElem?_getD, List.getElem?_map, List.getElem?_eq_getElem h]
 rfl
theorem getD_rmap {f : Nat -> Int} {n j : Nat} (h : j < n) : ((List.range n).map f).getD j 0 = f j := by
 rw [List.getD_eq_getElem?_getD, List.getElem?_map, List.getElem?_range h]
 rfl
theorem atSK {K : W.Frag} {H : Hp} {a : Addr} {ns : List Int} {j : Nat} {Q : VK} (h : SqL K H a (ns.map V.int)) (hj : j < ns.length) (q : Q (.int (ns.getD j 0)) H) : rIx K (.ref a) (.int j) H Q := .inl ⟨a, _, _, _, rfl, rfl, h, at_int hj, q⟩
theorem grow_free {PT l : Addr} {H H' : Hp} {po : Pos} {qu : Str} (g : Grow PT H H') (t : TabOk PT po qu H') (h : H' l = none) : H l = none := by
 cases e : H l with
 | none => rfl
 | some o =>
  by_cases z : l = PT
  ·obtain ⟨ps, hP, _⟩ := t
   rw [z, hP] at h
   cases h
  ·rw [g l o z e] at h
   cases h
seal L2.PE L2.PA L2.PS L2.PSs L2.PT
section
variable {P : Program} {w : World} {K : W.Frag} {mg : Str -> Option Value} {base : Heap}
def spShr (K : W.Frag) (PT : Addr) : Sp := fun vs H Q _ => ∃ (na : Addr) (ns : List Int) (a : Int) (M : Nat), vs = [.ref na, .int a, .int M] /\ SqL K H na (ns.map V.int) /\ ns.length <= 24 /\ 1 <= M /\ AllP ns /\ 0 <= a /\ Tb PT H /\
 ∀ (l : Addr) (xs : List Int) (L : Int) (H' : Hp), Grow PT H H' -> Tb PT H' -> Lvl M ns a L -> xs.length = ns.length -> (∀ j, j < ns.length -> xs.getD j 0 = shx M L ns (a - (ns.map (abv M L)).sum).toNat j) -> H l = none -> H' l = some (.lst (xs.map V.int)) -> Q (.ref l) H'
theorem scShr : FnScope ["numbers", "much", "most", "level", "taken", "deeper", "one_more"] ["numbers", "much", "most"] (defScope sShr) := ⟨rfl, rfl, rfl, by decide +kernel, rfl, by decide +kernel, by decide +kernel⟩
set_option maxHeartbeats 4000000 in
theorem ok_shr {f fA fW c PT : Addr} {fd fdA fdW : FuncData} (F : Fun K "shares" "shares" sShr f fd) (hc : fd.code = .ref c) (LB : LamB base mg c PT) (B : Bn mg) (FA : Fun K "above" "above" sAbv fA fdA) (bA : Binds K fdA ["numbers", "level", "most"] []) (mA : mg "above" = some (.ref fA))
  (FW : Fun K "least_where" "least_where" sWhere fW fdW) (bW : Binds K fdW ["low", "high", "holds"] []) (mW : mg "least_where" = some (.ref fW)) : FnOk P w K mg base (CXE P w) 4 f fd ["numbers", "much", "most"] (spShr K PT) := by
 have GA : FnOk P w K mg base CX0 1 fA fdA ["numbers", "level", "most"] (spAbv K) := ok_abv FA B
 have GA3 : FnOk P w K mg base CX0 3 fA fdA ["numbers", "level", "most"] (spAbv K) := GA.mono (by decide)
 have GW : FnOk P w K mg base CX0 3 fW fdW ["low", "high", "holds"] (spWhere P w K mg base 2) := ok_where FW
 refine F.okXC hc scShr (fun vs H Q E h => ?_) (fun A outer s H vs Q E hr h => ?_)
 ·obtain ⟨na, ns, a, M, rfl, _⟩ := h
  rfl
 ·obtain ⟨na, ns, a, M, rfl, hS, hn, hM, hp, ha, tb, q⟩ := h
  have hsl := sl1000
  have hun := hr.units
  have nd3 : (["place", "deeper", "taken"] : List Str).Nodup := by decide +kernel
  have nd4 : (["place", "many", "one_more"] : List Str).Nodup := by decide +kernel
  refine ⟨_, pss_cons (ps_set (i := 3) scShr.nd rfl (Or.inl rfl) (pe_callC (js := [(0, s.heap.objs.size + 1), (1, s.heap.objs.size + 2), (2, s.heap.objs.size + 3)]) GW hr (by rfl) mW FW.kp bW (fun q hq => by
     simp only [List.mem_cons, List.not_mem_nil, or_false] at hq
     rcases hq with e | e | e
     ·rw [e]; exact ⟨Nat.le_add_right _ _, "numbers", rfl, rfl, rfl⟩
     ·rw [e]; exact ⟨Nat.le_add_right _ _, "much", rfl, rfl, rfl⟩
     ·rw [e]; exact ⟨Nat.le_add_right _ _, "most", rfl, rfl, rfl⟩) (pa_cons pe_int (pa_cons (pe_maxN K rfl rfl (by rfl) B.max (pa_cons (pv 0) pa_nil)) (pa_cons (pe_lam LB rfl (by rfl) (by rfl)) pa_nil)))))
   (pss_cons (ps_set (i := 4) scShr.nd rfl (Or.inr rfl) (pe_call GA3 hr (by rfl) mA FA.kp bA .nil pass0 (pa_cons (pv 0) (pa_cons (pv 3) (pa_cons (pv 2) pa_nil)))))
   (pss_cons (ps_set (i := 5) scShr.nd rfl (Or.inr rfl) (pe_call GA3 hr (by rfl) mA FA.kp bA .nil pass0 (pa_cons (pv 0) (pa_cons (pe_op op_sub (pv 3) pe_int) (pa_cons (pv 2) pa_nil)))))
   (pss_cons (ps_set (i := 6) scShr.nd rfl (Or.inr rfl) (pe_slice sl_list (pe_comp (N' := ["place", "deeper", "taken"]) (lk := [none, some 5, some 4]) rfl (pi_range1 rfl B.range (pa_cons (pe_callB call_len_seq (by rfl) B.len PySem.boot_len (pa_cons (pv 0) pa_nil)) pa_nil)) (by rfl) rfl (by decide +kernel) (by exact ⟨rfl, rfl, trivial⟩) (by rfl) (by exact LkL.ok ⟨⟨rfl, Or.inl rfl, rfl, Or.inl rfl⟩, ⟨rfl, Or.inl rfl, rfl, Or.inl rfl⟩, trivial⟩)
     (fun _ _ _ => pg_name (i := 0) nd3 rfl (Or.inl rfl)) (fun _ _ _ => pts_one (pt_cmpR op_gt (pe_ixSK K rfl (pv 1) (pv 0) (fun _ _ => rfl)) (pe_ixSK K rfl (pv 2) (pv 0) (fun _ _ => rfl)) (nomark _))) (fun _ _ _ => pv 0)) po_none (po_some (pe_op op_sub (pv 1) (pe_callB (call_sum rfl) (by rfl) B.sum (by rfl) (pa_cons (pv 4) pa_nil))))))
   (pss_one (ps_ret (pe_comp (N' := ["place", "many", "one_more"]) (lk := [none, none, some 6]) rfl (pi_or (pi_enum (by rfl) B.enum (pa_cons (pv 4) pa_nil)) (pi_enumT (by rfl) B.enum (pa_cons (pv 4) pa_nil))) (by rfl) rfl (by decide +kernel) (by exact ⟨rfl, trivial⟩) (by rfl) (by exact LkL.ok ⟨⟨rfl, Or.inl rfl, rfl, Or.inl rfl⟩, trivial⟩)
     (fun _ _ _ => pg_tupK (n := 2) K rfl rfl (pgs_cons (pg_name (i := 0) nd4 rfl (Or.inl rfl)) (pgs_cons (pg_name (i := 1) nd4 rfl (Or.inl rfl)) pgs_nil))) (fun _ _ _ => pts_nil) (fun _ _ _ => pe_ifExp (pt_cmpR (op_inDK K hr.around rfl rfl) (pv 0) (pv 2) (by rfl)) (pe_op op_add (pv 1) pe_int) (pv 1)))))))), ?_⟩
  refine ⟨_, rfl, na, ns, rfl, hS, hp, fun hi h0 hmx => ⟨tb, fun fl c' ctv H2 g2 tb2 hfn hfo hco l hl hjv => ?_⟩⟩
  obtain ⟨o1, u1, hl1, hd1, ru1⟩ := hjv _ List.mem_cons_self (.ref na) rfl
  obtain ⟨o2, u2, hl2, hd2, ru2⟩ := hjv _ (List.mem_cons_of_mem _ List.mem_cons_self) (.int a) rfl
  obtain ⟨o3, u3, hl3, hd3, ru3⟩ := hjv _ (List.mem_cons_of_mem _ (List.mem_cons_of_mem _ List.mem_cons_self)) (.int (M : Int)) rfl
  have hS2 := Grow.sqL g2 tb hS
  have st := same_trk hl
  have n1 : (("much" : Str) == ("numbers" : Str)) = false := by decide +kernel
  have n2 : (("most" : Str) == ("numbers" : Str)) = false := by decide +kernel
  have n3 : (("most" : Str) == ("much" : Str)) = false := by decide +kernel
  refine ⟨0, hi, fl, PySem.W.kla_obj "<lambda>" lamQ (lamP sShr).1 (lamP sShr).2.1 (lamP sShr).2.2 [("numbers", s.heap.objs.size + 1), ("much", s.heap.objs.size + 2), ("most", s.heap.objs.size + 3)] ((mg "__name__").getD .none) c' ctv, PySem.W.kla_fn "<lambda>" lamQ (lamP sShr).1 (lamP sShr).2.1 (lamP sShr).2.2 [("numbers", s.heap.objs.size + 1), ("much", s.heap.objs.size + 2), ("most", s.heap.objs.size + 3)] ((mg "__name__").getD .none) (.ref c') ctv, "tried", ?sp, ?J, ?p, rfl, h0, rfl, ?F, ?b, ?h3, ?h4, ?h5, ?h6⟩
  case F =>
   refine lam_ok (k := 1) (p := "tried") (qual := lamQ) (params := (lamP sShr).1) (body := (lamP sShr).2.1) (scope := (lamP sShr).2.2) (cl := [("numbers", s.heap.objs.size + 1), ("much", s.heap.objs.size + 2), ("most", s.heap.objs.size + 3)]) (f := fl) (c' := c') (l := l) (cvs := [some (.int (M : Int)), some (.int a), some (.ref na)]) (N' := ["most", "much", "numbers"]) rfl rfl rfl (by rfl) rfl ?_ ?_ rfl ?_ (fun A' outer' s' H' hr' => pe_cmpR op_le (pe_callB (call_sumK K rfl rfl) (by rfl) B.sum (by rfl) (pa_cons (pe_call GA hr' (by rfl) mA FA.kp bA .nil pass0 (pa_cons (pv 3) (pa_cons (pv 0) (pa_cons (pv 1) pa_nil)))) pa_nil)) (pv 2) (by rfl))
   ·intro x y c hx hy
    exact inj3 (show (s.heap.objs.size + 1 : Nat) ≠ s.heap.objs.size + 2 by omega) (show (s.heap.objs.size + 1 : Nat) ≠ s.heap.objs.size + 3 by omega) (show (s.heap.objs.size + 2 : Nat) ≠ s.heap.objs.size + 3 by omega) hx hy
   ·intro x c hx
    rcases look3 hx with ⟨_, e⟩ | ⟨_, e⟩ | ⟨_, e⟩
    ·rw [e]; exact ⟨o1, _, hl1, hd1⟩
    ·rw [e]; exact ⟨o2, _, hl2, hd2⟩
    ·rw [e]; exact ⟨o3, _, hl3, hd3⟩
   ·intro i x v e1 e2
    match i, e1, e2 with
    | 0, e1, e2 =>
     have e1' : ("most" : Str) = x := Option.some.inj e1
     have e2' : V.int (M : Int) = v := Option.some.inj (Option.some.inj e2)
     subst e1' e2'
     exact ⟨rfl, _, o3, u3, lk3 n2 n3, hl3, hd3, ru3⟩
    | 1, e1, e2 =>
     have e1' : ("much" : Str) = x := Option.some.inj e1
     have e2' : V.int a = v := Option.some.inj (Option.some.inj e2)
     subst e1' e2'
     exact ⟨rfl, _, o2, u2, lk2 n1, hl2, hd2, ru2⟩
    | 2, e1, e2 =>
     have e1' : ("numbers" : Str) = x := Option.some.inj e1
     have e2' : V.ref na = v := Option.some.inj (Option.some.inj e2)
     subst e1' e2'
     exact ⟨rfl, _, o1, u1, lk1, hl1, hd1, ru1⟩
    | i + 3, e1, e2 => cases e1
  case b => exact .all fun us hl => match us, hl with | [_], _ => rfl
  case J => exact fun Hx => Hx fl = some (LamO fl (PySem.W.kla_obj "<lambda>" lamQ (lamP sShr).1 (lamP sShr).2.1 (lamP sShr).2.2 [("numbers", s.heap.objs.size + 1), ("much", s.heap.objs.size + 2), ("most", s.heap.objs.size + 3)] ((mg "__name__").getD .none) c' ctv)) /\ Hx c' = some (CodeO c' lamQ) /\ (∀ b o, l b = some o -> Hx b = some (LamO b o)) /\ SqL K Hx na (ns.map V.int)
  case p => exact fun t => decide ((ns.map (abv M t)).sum <= a)
  case h3 => exact fun Hx h => h.1
  case h4 =>
   rintro Hx m Qx ⟨j1, j2, j3, j4⟩ hm1 hm2 hq
   refine ⟨.int m, rfl, j1, j2, j3, ?_⟩
   refine ⟨_, rfl, _, rfl, _, rfl, na, ns, m, M, rfl, SqL.rmv j4 j3, by omega, by omega, fun l8 H8 s8 f8 g8 => ⟨l8, _, rfl, SqL.of g8, _, rfl, _, _, rfl, rfl, fun hfr => ?_⟩⟩
   have sb := same_back j3 s8
   exact hq _ sb ⟨sb _ _ j1, sb _ _ j2, fun b o e => trk_some e, sb.seq j4⟩
  case h5 => exact ⟨st _ _ hfo, st _ _ hco, fun b o e => trk_some e, st.seq hS2⟩
  case h6 =>
   rintro L H' hr1 hr2 hp1 hp2 ⟨j1, j2, j3, j4⟩ s'
   have so := same_out hl s'
   refine ⟨j3, ?_⟩
   have hlv : Lvl M ns a L := by
    refine ⟨hr1, ?_, fun h => ?_⟩
    ·rcases Int.lt_or_le L hi with z | z
     ·exact of_decide_eq_true (hp1 z)
     ·rw [abv_top fun x hx => Int.le_trans (hmx x hx) z]
      exact ha
    ·have := of_decide_eq_false (hp2 h)
     omega
   have g3 : Grow PT H (rmvL H' l) := g2.trans (so.grow PT)
   have tb3 := tb2.same so
   have hS3 := so.seq hS2
   generalize rmvL H' l = H3 at g3 tb3 hS3 ⊢
   refine ⟨_, rfl, _, rfl, _, rfl, na, ns, L, M, rfl, hS3, by omega, by omega, fun lt H4 s4 f4 g4 => ?_⟩
   refine ⟨_, rfl, _, rfl, _, _, rfl, rfl, _, rfl, na, ns, L - 1, M, rfl, s4.seq hS3, by omega, by omega, fun ld H5 s5 f5 g5 => ?_⟩
   have g45 := s5 _ _ g4
   have hS5 := (s4.trans s5).seq hS3
   have hle := hlv.le
   obtain ⟨k, hk⟩ : ∃ k : Nat, a - (ns.map (abv M L)).sum = (k : Int) := ⟨(a - (ns.map (abv M L)).sum).toNat, by omega⟩
   refine ⟨_, rfl, na, _, rfl, .inl hS5, (ns.length : Int), congrArg (fun z : Nat => [V.int (z : Int)]) (List.length_map ..), by omega, by omega, fun D hD => ?_⟩
   rw [Int.toNat_natCast]
   refine comp_range (lo := 0) (n := ns.length) (D := D) (fun i xs σ' H' => (∃ v, σ' = [v, some (.ref ld), some (.ref lt)]) /\ Same H5 H' /\ H' D = some (.lst xs) /\ xs = (mpN M L ns i).map V.int) ⟨⟨none, rfl⟩, same_upd hD, upd_same, rfl⟩ (by omega)
    (fun i xs σ' H' hi ⟨_, s6, h6, e6⟩ => ⟨h6, by rw [e6, List.length_map]; exact mpN_len M L ns i⟩) ?_ ?_
   ·rintro i xs σ' H' N kN hi ⟨⟨v, rfl⟩, s6, h6, rfl⟩
    have e0 : ((0 : Int) + (i : Int)) = (i : Int) := by omega
    rw [e0]
    refine gName_to ?_
    refine ⟨_, rfl, _, rfl, atSK (SqL.of (s6 _ _ g5)) (by rw [List.length_map]; exact hi) ⟨_, rfl, _, rfl, atSK (SqL.of (s6 _ _ g45)) (by rw [List.length_map]; exact hi) ⟨_, _, rfl, rfl, _, rfl, ?_⟩⟩⟩
    rw [getD_abv hi, getD_abv hi]
    by_cases hm : abv M L (ns.getD i 0) < abv M (L - 1) (ns.getD i 0)
    ·rw [decide_eq_true hm]
     refine iteT ⟨_, rfl, h6, kN _ _ _ ⟨⟨_, rfl⟩, s6.upd hD, upd_same, ?_⟩⟩
     rw [mpN_succ, if_pos hm, List.map_append]
     rfl
    ·rw [decide_eq_false hm]
     refine iteF (kN _ _ _ ⟨⟨_, rfl⟩, s6, h6, ?_⟩)
     rw [mpN_succ, if_neg hm, List.append_nil]
   ·rintro xs σ' H6 ⟨⟨v, rfl⟩, s6, h6, rfl⟩
    rw [mpN_all] at h6
    refine ⟨_, rfl, _, rfl, lt, _, rfl, SqL.of (s6 _ _ g45), _, _, rfl, rfl, _, rfl, D, _, rfl, SqL.of h6, fun lo flo => ?_⟩
    rw [hk, cut_ints_to]
    have s7 := same_upd (o := .lst (((moreP M L ns).take k).map V.int)) flo
    have g7 : (upd H6 lo (.lst (((moreP M L ns).take k).map V.int))) lo = some (.lst ((oneM M L ns k).map V.int)) := upd_same
    have s57 := s6.trans s7
    generalize upd H6 lo (.lst (((moreP M L ns).take k).map V.int)) = H7 at s57 g7 ⊢
    have g47 := s57 _ _ g45
    refine Or.imp (fun h => ⟨_, rfl, h⟩) (fun h => ⟨_, rfl, h⟩) (comp_enumS (K := K) (a := lt) (ys := (ns.map (abv M L)).map V.int) (.inl (SqL.of g47)) (by rw [List.length_map, List.length_map]; omega)
     (fun D i xs σ' H' => (∃ v u, σ' = [v, u, some (.ref lo)]) /\ Same H7 H' /\ H' D = some (.lst xs) /\ xs = ((List.range i).map (shx M L ns k)).map V.int) (fun D hD => ⟨⟨none, none, rfl⟩, same_upd hD, upd_same, rfl⟩)
     (fun D i xs σ' H' hD hi ⟨_, s1, h1, e1⟩ => ⟨s1, h1, by rw [e1, List.length_map, List.length_map, List.length_range]; exact Nat.le_refl _⟩) ?_ ?_)
    ·rintro D8 i xs x t σ' H' N hD8 kN hx ⟨⟨v, u, rfl⟩, s1, h1, rfl⟩ ht'
     obtain ⟨z, hz, rfl⟩ := int_get hx
     have s2 := same_upd (o := .tup [.int i, .int z]) ht'
     have hi : i < ns.length := by
      rcases Nat.lt_or_ge i ns.length with h | h
      ·exact h
      ·rw [List.getElem?_eq_none (by rw [List.length_map]; exact h)] at hz; cases hz
     have ez : z = abv M L (ns.getD i 0) := by
      rw [<- getD_abv hi, List.getD_eq_getElem?_getD, hz]
      rfl
     refine ⟨t, _, rfl, SqT.of upd_same, rfl, _, _, rfl, _, _, rfl, rfl, tTrue_if ?_⟩
     refine ⟨_, rfl, _, rfl, in_intsW hun (SqL.of ((s1.trans s2) _ _ g7)) ⟨_, rfl, ?_⟩⟩
     have ex : ((List.range (i + 1)).map (shx M L ns k)).map V.int = ((List.range i).map (shx M L ns k)).map V.int ++ [V.int (shx M L ns k i)] := by
      rw [List.range_succ, List.map_append, List.map_append]
      rfl
     by_cases hm : (i : Int) ∈ oneM M L ns k
     ·rw [decide_eq_true hm]
      refine iteT ⟨_, rfl, _, _, rfl, rfl, s2 _ _ h1, kN _ _ _ ⟨⟨_, _, rfl⟩, (s1.trans s2).upd hD8, upd_same, ?_⟩⟩
      rw [ex]
      unfold shx
      rw [if_pos hm, ez]
     ·rw [decide_eq_false hm]
      refine iteF ⟨_, rfl, s2 _ _ h1, kN _ _ _ ⟨⟨_, _, rfl⟩, (s1.trans s2).upd hD8, upd_same, ?_⟩⟩
      rw [ex]
      unfold shx
      rw [if_neg hm, ez, Int.add_zero]
    ·rintro D8 xs σ' H8 hD8 ⟨⟨v, u, rfl⟩, s1, h1, rfl⟩
     rw [List.length_map, List.length_map] at h1
     have sE := (s4.trans s5).trans (s57.trans s1)
     have sF := (s4.trans s5).trans s57
     refine q D8 _ L H8 (g3.trans (sE.grow PT)) (tb3.same sE) hlv (by rw [List.length_map, List.length_range]) (fun j hj => ?_) (grow_free (g3.trans (sF.grow PT)) (tb3.same sF) hD8) h1
     rw [getD_rmap hj, hk, Int.toNat_natCast]
end
end Web
namespace Web
open PySem L2
theorem list_getD {xs ys : List Int} (hl : xs.length = ys.length) (h : ∀ j, j < ys.length -> xs.getD j 0 = ys.getD j 0) : xs = ys := by
 apply List.ext_getElem?
 intro j
 rcases Nat.lt_or_ge j ys.length with z | z
 ·have := h j z
  rw [List.getD_eq_getElem?_getD, List.getD_eq_getElem?_getD, List.getElem?_eq_getElem z, List.getElem?_eq_getElem (show j < xs.length by omega)] at this
  rw [List.getElem?_eq_getElem z, List.getElem?_eq_getElem (show j < xs.length by omega)]
  exact congrArg some this
 ·rw [List.getElem?_eq_none z, List.getElem?_eq_none (by omega)]
theorem row3_snoc {p : Nat} : ∀ (xs : List Int) (q : Nat) (x : Int), row3 p q (xs ++ [x]) = row3 p q xs ++ (if 0 < x then [[(p : Int), ((q + xs.length : Nat) : Int), x]] else [])
 | [], q, x => by
  show (if 0 < x then [(p : Int), (q : Int), x] :: row3 p (q + 1) [] else row3 p (q + 1) []) = _
  by_cases c : 0 < x
  ·rw [if_pos c, if_pos c]; rfl
  ·rw [if_neg c, if_neg c]; rfl
 | y :: xs, q, x => by
  have ih := row3_snoc (p := p) xs (q + 1) x
  rw [show q + 1 + xs.length = q + (y :: xs).length by rw [List.length_cons]; omega] at ih
  show (if 0 < y then [(p : Int), (q : Int), y] :: row3 p (q + 1) (xs ++ [x]) else row3 p (q + 1) (xs ++ [x])) = (if 0 < y then [(p : Int), (q : Int), y] :: row3 p (q + 1) xs else row3 p (q + 1) xs) ++ _
  rw [ih]
  by_cases c : 0 < y
  ·rw [if_pos c, if_pos c]; rfl
  ·rw [if_neg c, if_neg c]
theorem row3_len {p : Nat} : ∀ (xs : List Int) (q : Nat), (row3 p q xs).length <= xs.length
 | [], _ => Nat.le_refl _
 | x :: xs, q => by
  have := row3_len (p := p) xs (q + 1)
  unfold row3
  split
  ·rw [List.length_cons, List.length_cons]; omega
  ·rw [List.length_cons]; omega
theorem grow_lst {PT l : Addr} {H H' : Hp} {xs : List V} {po : Pos} {qu : Str} (g : Grow PT H H') (t : TabOk PT po qu H) (h : H l = some (.lst xs)) : H' l = some (.lst xs) := by
 obtain ⟨ps, hP, _⟩ := t
 exact g l _ (fun z => by rw [z, hP] at h; cases h) h
theorem grow_tup {PT l : Addr} {H H' : Hp} {xs : List V} {po : Pos} {qu : Str} (g : Grow PT H H') (t : TabOk PT po qu H) (h : H l = some (.tup xs)) : H' l = some (.tup xs) := by
 obtain ⟨ps, hP, _⟩ := t
 exact g l _ (fun z => by rw [z, hP] at h; cases h) h
theorem grow_tups {K : W.Frag} {PT : Addr} {H H' : Hp} {po : Pos} {qu : Str} (g : Grow PT H H') (t : TabOk PT po qu H) : ∀ {zs : List V} {ks : List (List Int)}, Tups K H zs ks -> Tups K H' zs ks
 | _, _, .nil => .nil
 | _, _, .cons ⟨a, e, h⟩ r => .cons ⟨a, e, Grow.sqT g t h⟩ (grow_tups g t r)
structure ThW (K : W.Frag) (H : Hp) (b : Addr) (os : List Int) (M : Nat) (ks : List (List Int)) : Prop where
 at_ : ∃ t zs, H b = some (.tup [.int os.length, .ref t]) /\ H t = some (.tup zs) /\ Tups K H zs ks
 tr : ∀ k ∈ ks, tri os.length M k
 pw : ks.Pairwise lex2
 ct : ∀ i, i < os.length -> cnt3 ks i = os.getD i 0
 len : ks.length <= 600
seal L2.PE L2.PA L2.PS L2.PSs L2.PT
section
variable {P : Program} {w : World} {K : W.Frag} {mg : Str -> Option Value} {base : Heap}
def spThL (K : W.Frag) (PT : Addr) : Sp := fun vs H Q _ => ∃ (a : Addr) (os : List Int) (M : Nat), vs = [.ref a, .int M] /\ Sq K H a os /\ isTl os /\ 1 <= M /\ IsWlM os M .free /\ Tb PT H /\
 ∀ (r : Addr) (ks : List (List Int)) (H' : Hp), Grow PT H H' -> Tb PT H' -> ThW K H' r os M ks -> Q (.ref r) H'
theorem scThL : FnScope ["tally", "most", "triples", "left", "place", "behind", "laid"] ["tally", "most"] (defScope sThL) := ⟨rfl, rfl, rfl, by decide +kernel, rfl, by decide +kernel, by decide +kernel⟩
set_option maxHeartbeats 4000000 in
theorem ok_thL {f fS PT : Addr} {fd fdS : FuncData} (F : Fun K "thick_laid" "thick_laid" sThL f fd) (B : Bn mg) (FS : Fun K "shares" "shares" sShr fS fdS) (bS : Binds K fdS ["numbers", "much", "most"] []) (mS : mg "shares" = some (.ref fS)) (GS : FnOk P w K mg base (CXE P w) 4 fS fdS ["numbers", "much", "most"] (spShr K PT)) : FnOk P w K mg base CX0 5 f fd ["tally", "most"] (spThL K PT) := by
  refine F.ok scThL (fun vs H Q E h => ?_) (fun cdv A outer s H vs Q E hr h => ?_)
  · obtain ⟨a, os, M, rfl, _⟩ := h
    rfl
  · obtain ⟨a, os, M, rfl, hS, ht, hM, hf, tb, q⟩ := h
    have hsl := sl1000
    have t2 := ht.2
    have nd3 : (["other", "many", "place"] : List Str).Nodup := by decide +kernel
    have nd2 : (["number", "many"] : List Str).Nodup := by decide +kernel
    refine ⟨_, pss_cons (ps_set (i := 2) scThL.nd rfl (Or.inl rfl) (pe_lst pa_nil))
      (pss_cons (ps_set (i := 3) scThL.nd rfl (Or.inl rfl) (pe_callTy call_list_of (by rfl) B.list (by rfl) (pa_cons (pv 0) pa_nil)))
      (pss_cons (ps_for PassesOwn.never rfl (pi_range1 rfl B.range (pa_cons (pe_callB call_len_seq (by rfl) B.len PySem.boot_len (pa_cons (pv 0) pa_nil)) pa_nil)) (pg_name (i := 4) scThL.nd rfl (Or.inr rfl))
        (pss_cons (ps_set (i := 5) scThL.nd rfl (Or.inl rfl) (pe_slice sl_list (pv 3) (po_some pe_int) po_none))
        (pss_cons (ps_set (i := 6) scThL.nd rfl (Or.inl rfl) (pe_call GS hr (by rfl) mS FS.kp bS .nil (passN (P := P) (w := w)) (pa_cons (pv 5) (pa_cons (pe_ix ix_list (pv 3) pe_int (fun _ _ => rfl)) (pa_cons (pv 1) pa_nil)))))
        (pss_cons (ps_aug (i := 2) scThL.nd rfl (Or.inl rfl) (pe_comp (N' := ["other", "many", "place"]) (lk := [none, none, some 4]) rfl (pi_enumK (by rfl) B.enum (pa_cons (pv 6) pa_nil) (pe_op op_add (pv 4) pe_int)) (by rfl) rfl (by decide +kernel) (by exact ⟨rfl, trivial⟩) (by rfl) (by exact LkL.ok ⟨⟨rfl, Or.inl rfl, rfl, Or.inl rfl⟩, trivial⟩)
            (fun _ _ _ => pg_tupK (n := 2) K rfl rfl (pgs_cons (pg_name (i := 0) nd3 rfl (Or.inl rfl)) (pgs_cons (pg_name (i := 1) nd3 rfl (Or.inl rfl)) pgs_nil))) (fun _ _ _ => pts_one (pt_cmpR op_gt (pv 1) pe_int (nomark _))) (fun _ _ _ => pe_tup (pa_cons (pv 2) (pa_cons (pv 0) (pa_cons (pv 1) pa_nil))))) ip_ext)
        (pss_one (ps_setC (i := 3) scThL.nd rfl rfl (by rfl) (N' := ["number", "many"]) (lk := [none, none]) rfl (pi_zipL (by rfl) B.zip (pa_cons (pv 5) (pa_cons (pv 6) pa_nil))) (by rfl) rfl (by decide +kernel) (by exact trivial) (by rfl) (by exact LkL.ok trivial)
            (fun _ _ _ => pg_tupK (n := 2) K rfl rfl (pgs_cons (pg_name (i := 0) nd2 rfl (Or.inl rfl)) (pgs_cons (pg_name (i := 1) nd2 rfl (Or.inl rfl)) pgs_nil))) (fun _ _ _ => pts_nil) (fun _ _ _ => pe_op op_sub (pv 0) (pv 1))))))))
      (pss_one (ps_ret (pe_tup (pa_cons (pe_callB call_len_seq (by rfl) B.len PySem.boot_len (pa_cons (pv 0) pa_nil)) (pa_cons (pe_callTy call_tuple_of (by rfl) B.tuple (by rfl) (pa_cons (pv 2) pa_nil)) pa_nil))))))), ?_⟩
    refine ⟨(by show 0 <= sizeLine; omega), fun lz fz => ?_⟩
    have sz := same_upd (o := .lst []) fz
    refine ⟨_, rfl, a, _, rfl, hS.same sz, fun l0 f0 => ?_⟩
    have s0 := same_upd (o := .lst (os.map V.int)) f0
    have n0 : l0 ≠ lz := (ne_of_none upd_same f0).symm
    have gz0 : (upd (upd H lz (.lst [])) l0 (.lst (os.map V.int))) lz = some (.lst []) := s0 _ _ upd_same
    have gl0 : (upd (upd H lz (.lst [])) l0 (.lst (os.map V.int))) l0 = some (.lst (os.map V.int)) := upd_same
    have sz0 := sz.trans s0
    generalize upd (upd H lz (.lst [])) l0 (.lst (os.map V.int)) = H0 at gz0 gl0 sz0 ⊢
    refine ⟨_, rfl, a, _, rfl, hS.same sz0, (os.length : Int), congrArg (fun z : Nat => [V.int (z : Int)]) (List.length_map ..), by omega, by omega, ?_⟩
    rw [Int.toNat_natCast]
    refine for_range (lo := 0) (n := os.length) (fun p σ Ha => ∃ (ks : List (List Int)) (left : List Int) (zs : List V) (la : Addr) (e4 e5 e6 : Option V), σ = [some (.ref a), some (.int M), some (.ref lz), some (.ref la), e4, e5, e6] /\ Ha lz = some (.lst zs) /\ Tups K Ha zs ks /\ Ha la = some (.lst (left.map V.int)) /\ la ≠ lz /\
        Lay os.length M p os ks left /\ ks.length <= 24 * p /\ Grow PT H Ha /\ Tb PT Ha)
      ⟨[], os, [], l0, none, none, none, rfl, gz0, .nil, gl0, n0, lay_first hf, Nat.zero_le _, sz0.grow PT, tb.same sz0⟩ ?_ ?_
    · rintro p σ Ha hp ⟨ks, left, zs, la, e4, e5, e6, rfl, gz, tz, gl, nl, hL, hkl, gr, tba⟩
      have e0 : ((0 : Int) + (p : Int)) = (p : Int) := by omega
      rw [e0]
      have hlen := hL.len
      obtain ⟨a0, ns, rfl⟩ : ∃ a0 ns, left = a0 :: ns := by
        cases left with
        | nil => simp at hlen; omega
        | cons x xs => exact ⟨x, xs, rfl⟩
      rw [List.length_cons] at hlen
      have hpos := hL.pos
      have hpn : AllP ns := fun j x hj => hpos (j + 1) x (by rw [List.getElem?_cons_succ]; exact hj)
      have ha0 : 0 <= a0 := hpos 0 a0 rfl
      refine gName_to ?_
      refine ⟨_, rfl, _, rfl, la, _, rfl, SqL.of gl, fun lb fb => ?_⟩
      have ecut : cutV ((a0 :: ns).map V.int) (some 1) none = ns.map V.int := by
        have := cut_ints_from (a0 :: ns) 1
        simpa using this
      rw [ecut]
      have sb := same_upd (o := .lst (ns.map V.int)) fb
      have gb : (upd Ha lb (.lst (ns.map V.int))) lb = some (.lst (ns.map V.int)) := upd_same
      have glb := sb _ _ gl
      have gzb := sb _ _ gz
      have tzb := sb.tups tz
      have tbb := tba.same sb
      have grb := gr.trans (sb.grow PT)
      have nb : lb ≠ lz := (ne_of_none gz fb).symm
      generalize upd Ha lb (.lst (ns.map V.int)) = Hb at gb glb gzb tzb tbb grb ⊢
      have at0 : atI ((a0 :: ns).map V.int) 0 = some (.int a0) := atI_nat (j := 0) rfl
      refine ⟨_, rfl, _, rfl, la, _, _, _, rfl, rfl, SqL.of glb, at0, _, rfl, lb, ns, a0, M, rfl, SqL.of gb, by omega, hM, hpn, ha0, tbb, fun lx xs L Hc gc tbc hlv hxl hxj fx gx => ?_⟩
      have gzc := grow_lst gc tbb gzb
      have gbc := grow_lst gc tbb gb
      have tzc := grow_tups gc tbb tzb
      have grc := grb.trans gc
      -- the triples
      refine ⟨_, rfl, _, rfl, _, rfl, _, _, rfl, rfl, lx, p + 1, rfl, by simp, by omega, ⟨_, SqL.of gx⟩, fun D hD => ?_⟩
      refine comp_enumK (K := K) (a := lx) (D := D) (k0 := p + 1) (ys := xs.map V.int) (fun i us σ' H' => (∃ v u, σ' = [v, u, some (.int p)]) /\ Same Hc H' /\ H' D = some (.lst us) /\ Tups K H' us (row3 p (p + 1) (xs.take i)))
        ⟨⟨none, none, rfl⟩, same_upd hD, upd_same, .nil⟩ (by rw [List.length_map]; omega) (fun i us σ' H' hi ⟨_, s6, h6, t6⟩ => ⟨SqL.of (s6 _ _ gx), h6, by
          have h1 := t6.len
          have h2 := row3_len (p := p) (xs.take i) (p + 1)
          rw [List.length_take] at h2
          omega⟩) ?_ ?_
      · rintro i us x t σ' H' N kN hx ⟨⟨v, u, rfl⟩, s6, h6, t6⟩ ht'
        obtain ⟨z, hz, rfl⟩ := int_get hx
        have s7 := same_upd (o := .tup [.int ((p + 1 + i : Nat) : Int), .int z]) ht'
        have hi : i < xs.length := by
          rcases Nat.lt_or_ge i xs.length with h | h
          · exact h
          · rw [List.getElem?_eq_none h] at hz; cases hz
        have er := row3_snoc (p := p) (xs.take i) (p + 1) z
        have et : xs.take (i + 1) = xs.take i ++ [z] := by rw [List.take_add_one, hz]; rfl
        rw [<- et, List.length_take, Nat.min_eq_left (by omega)] at er
        refine ⟨t, _, rfl, SqT.of upd_same, rfl, _, _, rfl, _, _, rfl, rfl, ?_⟩
        refine ⟨_, rfl, _, _, rfl, rfl, _, rfl, ?_⟩
        by_cases hb : 0 < z
        · rw [decide_eq_true hb]
          refine iteT ⟨_, rfl, _, rfl, _, rfl, (by show 3 <= sizeLine; omega), fun t9 f9 => ?_⟩
          have s9 := same_upd (o := .tup [.int (p : Int), .int ((p + 1 + i : Nat) : Int), .int z]) f9
          have h6' := (s7.trans s9) _ _ h6
          refine ⟨h6', kN _ _ _ ⟨⟨_, _, rfl⟩, (s6.trans (s7.trans s9)).upd hD, upd_same, ?_⟩⟩
          rw [er, if_pos hb]
          refine Tups.updL h6' (Tups.append ((s7.trans s9).tups t6) (Tups.one (SqT.of ?_)))
          exact upd_same
        · rw [decide_eq_false hb]
          refine iteF (kN _ _ _ ⟨⟨_, _, rfl⟩, s6.trans s7, s7 _ _ h6, ?_⟩)
          rw [er, if_neg hb, List.append_nil]
          exact s7.tups t6
      · rintro us σ' H5 ⟨⟨v, u, rfl⟩, s5, h5, t5⟩
        rw [List.take_of_length_le (by rw [List.length_map]; exact Nat.le_refl _)] at t5
        have gz5 := s5 _ _ gzc
        have hl5 := t5.len
        have hlz := tzc.len
        have hr3 := row3_len (p := p) xs (p + 1)
        refine ⟨lz, D, zs, us, rfl, rfl, gz5, h5, by omega, ?_⟩
        have fzH : H lz = none := fz
        have gu : Grow PT H (upd H5 lz (.lst (zs ++ us))) := by
          intro b o nb hb
          rw [upd_ne (ne_of_none hb fzH)]
          exact (grc.trans (s5.grow PT)) b o nb hb
        have tb6 : Tb PT (upd H5 lz (.lst (zs ++ us))) := by
          obtain ⟨ps', hP, hx⟩ := tbc.same s5
          refine ⟨ps', ?_, hx.1, hx.2.imp id fun ⟨c', e, h⟩ => ⟨c', e, by rw [upd_ne (fun z => by rw [z, gz5] at h; cases h)]; exact h⟩⟩
          rw [upd_ne (fun z => by rw [z, gz5] at hP; cases hP)]
          exact hP
        have nx : lx ≠ lz := (ne_of_none gzb fx).symm
        have gz6 : (upd H5 lz (.lst (zs ++ us))) lz = some (.lst (zs ++ us)) := upd_same
        have t6 : Tups K (upd H5 lz (.lst (zs ++ us))) (zs ++ us) (ks ++ row3 p (p + 1) xs) := Tups.updL gz5 (Tups.append (s5.tups tzc) t5)
        have gb6 : (upd H5 lz (.lst (zs ++ us))) lb = some (.lst (ns.map V.int)) := by rw [upd_ne nb]; exact s5 _ _ gbc
        have gx6 : (upd H5 lz (.lst (zs ++ us))) lx = some (.lst (xs.map V.int)) := by rw [upd_ne nx]; exact s5 _ _ gx
        generalize upd H5 lz (.lst (zs ++ us)) = H6 at gu tb6 gz6 t6 gb6 gx6 ⊢
        refine ⟨_, rfl, _, rfl, lb, lx, rfl, ⟨_, SqL.of gb6⟩, ⟨_, SqL.of gx6⟩, fun D7 hD7 => ?_⟩
        refine comp_zipL (K := K) (a := lb) (b := lx) (D := D7) (ys := ns.map V.int) (zs := xs.map V.int) (by rw [List.length_map, List.length_map, hxl]) (fun i ds σ' H' => (∃ v u, σ' = [v, u]) /\ Same H6 H' /\ H' D7 = some (.lst ds) /\ ds = ((List.range i).map fun j => ns.getD j 0 - xs.getD j 0).map V.int)
          ⟨⟨none, none, rfl⟩, same_upd hD7, upd_same, rfl⟩ (by rw [List.length_map]; omega) (fun i ds σ' H' hi ⟨_, s8, h8, e8⟩ => ⟨SqL.of (s8 _ _ gb6), SqL.of (s8 _ _ gx6), h8, by rw [e8, List.length_map, List.length_map, List.length_range]; exact Nat.le_refl _⟩) ?_ ?_
        · rintro i ds x y t σ' H' N kN hx hy ⟨⟨v, u, rfl⟩, s8, h8, rfl⟩ ht'
          obtain ⟨z1, hz1, rfl⟩ := int_get hx
          obtain ⟨z2, hz2, rfl⟩ := int_get hy
          have s9 := same_upd (o := .tup [.int z1, .int z2]) ht'
          refine ⟨t, _, rfl, SqT.of upd_same, rfl, _, _, rfl, _, _, rfl, rfl, tTrue_if ?_⟩
          refine ⟨_, rfl, _, rfl, _, _, rfl, rfl, s9 _ _ h8, kN _ _ _ ⟨⟨_, _, rfl⟩, (s8.trans s9).upd hD7, upd_same, ?_⟩⟩
          rw [List.range_succ, List.map_append, List.map_append]
          show _ = _ ++ [V.int (ns.getD i 0 - xs.getD i 0)]
          rw [List.getD_eq_getElem?_getD, List.getD_eq_getElem?_getD, hz1, hz2]
          rfl
        · rintro ds σ' H8 ⟨⟨v, u, rfl⟩, s8, h8, rfl⟩
          rw [List.length_map] at h8
          have hdl : ((List.range ns.length).map fun j => ns.getD j 0 - xs.getD j 0).length = ns.length := by rw [List.length_map, List.length_range]
          have hL' := lay_step hM hL hlv hxl hxj hdl fun j hj => getD_rmap hj
          refine ⟨ks ++ row3 p (p + 1) xs, _, zs ++ us, D7, _, _, _, rfl, s8 _ _ gz6, s8.tups t6, h8, (ne_of_none gz6 hD7).symm, hL', ?_, gu.trans (s8.grow PT), tb6.same s8⟩
          · rw [List.length_append]
            omega
    · rintro σ Ha ⟨ks, left, zs, la, e4, e5, e6, rfl, gz, tz, gl, nl, hL, hkl, gr, tba⟩
      obtain ⟨e1, e2, e3⟩ := lay_end hL
      refine ⟨_, rfl, a, _, rfl, hS.grow gr tb, _, rfl, lz, _, rfl, .inl ⟨SqL.of gz, fun t9 f9 => ⟨(by show 2 <= sizeLine; decide), fun r9 f9' => ?_⟩⟩⟩
      rw [List.length_map]
      have s9 := same_upd (o := .tup zs) f9
      have s10 := same_upd (o := .tup [.int (os.length : Int), .ref t9]) f9'
      have sE := s9.trans s10
      refine q r9 ks _ (gr.trans (sE.grow PT)) (tba.same sE) ⟨⟨t9, zs, upd_same, s10 _ _ upd_same, sE.tups tz⟩, e1, e2, e3, by omega⟩
end
end Web
namespace Web
open PySem L2
def AnsT (K : W.Frag) (H : Hp) (r : Addr) (ns : List Int) (M : Nat) : Prop :=
 (∃ (x : Wl) (b : Addr), x ≠ .free /\ IsWlM ns M x /\ H r = some (.tup [.str "wall", .ref b]) /\ H b = some (.tup (wlT x))) \/
 (IsWlM ns M .free /\ ∃ (b : Addr) (ks : List (List Int)), H r = some (.tup [.str "web", .ref b]) /\ ThW K H b ns M ks)
seal L2.PE L2.PA L2.PS L2.PSs L2.PT
section
variable {P : Program} {w : World} {K : W.Frag} {mg : Str -> Option Value} {base : Heap}
def isM (m : Int) : Prop := 1 <= m /\ m <= 1000000
def spCkM (K : W.Frag) (CB CN : Addr) : Sp := fun vs H Q E => ∃ (a : Addr) (ns : List Int) (m : Int), vs = [.ref a, .int m] /\ Sq K H a ns /\ (isTl ns -> isM m -> Q .non H) /\ (isTl ns -> ¬ isM m -> E (.ref CN) none H) /\ (¬ isTl ns -> E (.ref CB) none H)
theorem scCkM : FnScope ["tally", "most"] ["tally", "most"] (defScope sCkM) := ⟨rfl, rfl, rfl, by decide +kernel, rfl, by decide +kernel, by decide +kernel⟩
theorem ok_ckM {f fT CB CN : Addr} {fd fdT : FuncData} {tk tg : Tok} (F : Fun K "check_most" "check_most" sCkM f fd) (B : Bn mg) (FT : Fun K "check_tally" "check_tally" sChT fT fdT) (bT : Binds K fdT ["tally"] []) (mT : mg "check_tally" = some (.ref fT))
  (mM : mg "MOST_PLACES" = some (.int 24 tk)) (mG : mg "GREATEST_MOST" = some (.int 1000000 tg)) (mB : mg "BadTally" = some (.ref CB)) (cB : ExcC K CB) (mN : mg "BadNumber" = some (.ref CN)) (cN : ExcC K CN) : FnOk P w K mg base (CXE P w) 2 f fd ["tally", "most"] (spCkM K CB CN) := by
 have GT : FnOk P w K mg base (CXE P w) 1 fT fdT ["tally"] (spChT K CB) := ok_chT FT B mM mB cB
 refine F.okX scCkM (fun vs H Q E h => ?_) (fun cdv A outer s H vs Q E hr h => ?_)
 ·obtain ⟨a, ns, m, rfl, _⟩ := h
  rfl
 ·obtain ⟨a, ns, m, rfl, hS, h1, h2, h3⟩ := h
  refine ⟨_, pss_cons (ps_expr (pe_call GT hr (by rfl) mT FT.kp bT .nil passE (pa_cons (pv 0) pa_nil)))
   (pss_one (ps_if (pt_not (pt_chain op_le op_le pe_int (pv 1) (pe_glob (v := .int 1000000) (by rfl) mG ⟨tg, rfl⟩))) (pss_one (ps_raise (by rfl) mN cN)) pss_nil)), ?_⟩
  refine ⟨_, rfl, a, ns, rfl, hS, fun ht => ?_, h3⟩
  refine ⟨_, rfl, _, _, rfl, rfl, _, rfl, ?_⟩
  by_cases hp : (1 : Int) <= m
  ·rw [decide_eq_true hp]
   refine iteT ⟨_, _, rfl, rfl, _, rfl, ?_⟩
   by_cases hp' : m <= 1000000
   ·rw [decide_eq_true hp']
    exact iteF (h1 ht ⟨hp, hp'⟩)
   ·rw [decide_eq_false hp']
    exact iteT (h2 ht fun z => hp' z.2)
  ·rw [decide_eq_false hp]
   exact iteF ⟨_, rfl, iteT (h2 ht fun z => hp z.1)⟩
def spThA (K : W.Frag) (CB CN PT : Addr) : Sp := fun vs H Q E => ∃ (a : Addr) (ns : List Int) (m : Int), vs = [.ref a, .int m] /\ Sq K H a ns /\ (isTl ns -> isM m -> Tb PT H /\ ∀ (r : Addr) (H' : Hp), Grow PT H H' -> Tb PT H' -> AnsT K H' r ns m.toNat -> Q (.ref r) H') /\ (isTl ns -> ¬ isM m -> E (.ref CN) none H) /\ (¬ isTl ns -> E (.ref CB) none H)
theorem scThA : FnScope ["tally", "most", "wall"] ["tally", "most"] (defScope sThA) := ⟨rfl, rfl, rfl, by decide +kernel, rfl, by decide +kernel, by decide +kernel⟩
theorem ok_thA {f fK fω fL CB CN PT : Addr} {fd fdK fdω fdL : FuncData} (F : Fun K "thick_answered" "thick_answered" sThA f fd)
  (FK : Fun K "check_most" "check_most" sCkM fK fdK) (bK : Binds K fdK ["tally", "most"] []) (mK : mg "check_most" = some (.ref fK)) (GK : FnOk P w K mg base (CXE P w) 5 fK fdK ["tally", "most"] (spCkM K CB CN))
  (Fω : Fun K "wall_with" "wall_with" sWallW fω fdω) (bω : Binds K fdω ["tally", "most"] []) (mω : mg "wall_with" = some (.ref fω)) (Gω : FnOk P w K mg base (CXE P w) 5 fω fdω ["tally", "most"] (spWallW K CB))
  (FL : Fun K "thick_laid" "thick_laid" sThL fL fdL) (bL : Binds K fdL ["tally", "most"] []) (mL : mg "thick_laid" = some (.ref fL)) (GL : FnOk P w K mg base CX0 5 fL fdL ["tally", "most"] (spThL K PT)) : FnOk P w K mg base (CXE P w) 6 f fd ["tally", "most"] (spThA K CB CN PT) := by
 refine F.okX scThA (fun vs H Q E h => ?_) (fun cdv A outer s H vs Q E hr h => ?_)
 ·obtain ⟨a, ns, m, rfl, _⟩ := h
  rfl
 ·obtain ⟨a, ns, m, rfl, hS, h1, h2, h3⟩ := h
  refine ⟨_, pss_cons (ps_expr (pe_call GK hr (by rfl) mK FK.kp bK .nil passE (pa_cons (pv 0) (pa_cons (pv 1) pa_nil))))
   (pss_cons (ps_set (i := 2) scThA.nd rfl (Or.inl rfl) (pe_call Gω hr (by rfl) mω Fω.kp bω .nil passE (pa_cons (pv 0) (pa_cons (pv 1) pa_nil))))
   (pss_cons (ps_if (pt_cmpR op_notN (pv 2) pe_non (nomark _)) (pss_one (ps_ret (pe_tup (pa_cons pe_str (pa_cons (pv 2) pa_nil))))) pss_nil)
   (pss_one (ps_ret (pe_tup (pa_cons pe_str (pa_cons (pe_call GL hr (by rfl) mL FL.kp bL .nil pass0 (pa_cons (pv 0) (pa_cons (pv 1) pa_nil))) pa_nil))))))), ?_⟩
  refine ⟨_, rfl, _, rfl, a, ns, m, rfl, hS, fun ht hm => ?_, h2, h3⟩
  obtain ⟨tb, q⟩ := h1 ht hm
  obtain ⟨M, rfl⟩ : ∃ M : Nat, m = (M : Int) := ⟨m.toNat, by have := hm.1; omega⟩
  have hm1 := hm.1
  have hm2 := hm.2
  rw [Int.toNat_natCast] at q
  refine ⟨_, rfl, _, rfl, a, ns, M, rfl, hS, by omega, fun _ v x H1 s1 hx hv => ?_, fun h => absurd ht h⟩
  refine ⟨_, rfl, rfl, _, rfl, ?_⟩
  rcases hv with ⟨rfl, rfl⟩ | ⟨hne, b, rfl, gb⟩
  ·refine iteF ?_
   refine ⟨_, rfl, _, rfl, a, ns, M, rfl, hS.same s1, ht, by omega, hx, tb.same s1, fun r ks H2 g2 tb2 hw => ⟨(by show 2 <= sizeLine; decide), fun p fp => ?_⟩⟩
   have sp := same_upd (o := .tup [.str "web", .ref r]) fp
   obtain ⟨⟨t, zs, k1, k2, k3⟩, w1, w2, w3, w4⟩ := hw
   exact q p _ (((s1.grow PT).trans g2).trans (sp.grow PT)) (tb2.same sp) (.inr ⟨hx, r, ks, upd_same, ⟨⟨t, zs, sp _ _ k1, sp _ _ k2, sp.tups k3⟩, w1, w2, w3, w4⟩⟩)
  ·refine iteT ⟨_, rfl, (by show 2 <= sizeLine; decide), fun p fp => ?_⟩
   have sp := same_upd (o := .tup [.str "wall", .ref b]) fp
   exact q p _ ((s1.trans sp).grow PT) (tb.same (s1.trans sp)) (.inl ⟨x, b, hne, hx, upd_same, sp _ _ gb⟩)
end
end Web
namespace Tim
open PySem PyProof.Rows
theorem minRun_le : ∀ n : Nat, n < 300 -> minRun' n n 0 <= n := by decide +kernel
section
variable {prog : Program} {w : World} {A : Around} {E : Value -> Shared -> Prop} {s : Shared} {κ : SortKind} {a₀ : Array Keyed} {p : Array (Nat × Nat × Nat)} {O : KeyOrd} {f : Keyed -> O.α}
theorem wpS_countA (C : CmpA prog w A E s κ a₀ f) {st : SortSt} {Q : Option Nat -> SortSt -> Prop} (d : O.α) (h1 : 1 <= a₀.size) (hB : SI a₀ κ p st) (hs : SortedF f d 0 (arrOf st) a₀.size) (h : Q (some a₀.size) st) :
  wpS (model prog w) A E s (countRun' 0 (a₀.size - 0)) Q st := by
 rw [countRun'_eq]
 dsimp only
 refine wpS_bind (wpS_asc (f := f) (d := d) (lo := 0) (Nat.le_refl 1) h1 (fun x n R hn1 hn2 q1 q2 => ?_) (fun i j hij hj => by have : i = j := (by omega); subst this; exact KeyOrd.kle_refl _) fun n hn1 hn2 hsn hor => ?_)
 ·dsimp only
  refine wpS_bind (wpS_ltF (d := d) C hB (by omega) (by omega) ?_)
  cases e : O.blt (KF f d (arrOf st) (0 + n)) (KF f d (arrOf st) (0 + n - 1)) with
  | true => exact wpS_pure (q1 e)
  | false => exact wpS_pure (q2 e)
 dsimp only
 have hnn : n = a₀.size - 0 := by
  rcases hor with e | z
  ·exact e
  ·by_cases hlt : n < a₀.size
   ·have k := hs (n - 1) n (by omega) hlt
    rw [show 0 + (n - 1) = 0 + n - 1 by omega] at k
    exact absurd (show O.blt _ _ = true from z) (by rw [show O.blt _ _ = false from k]; exact Bool.false_ne_true)
   ·omega
 rw [if_pos (by simpa using hnn), hnn]
 exact wpS_pure h
theorem wpS_sortA (C : CmpA prog w A E s κ a₀ f) {st : SortSt} {Q : Unit -> SortSt -> Prop} (d : O.α) (ha : arrOf st = a₀) (hk : kindOf st = κ) (hf : failedOf st = none) (hpe : pendingOf st = #[]) (h1s : 1 <= a₀.size) (h3 : a₀.size < 300) (hs : SortedF f d 0 a₀ a₀.size)
  (h : ∀ st', arrOf st' = a₀ -> failedOf st' = none -> Q () st') : wpS (model prog w) A E s sortRuns' Q st := by
 rw [sortRuns'_eq]
 refine wpS_bind (wpS_get ?_)
 dsimp only
 rw [ha]
 have hmr := minRun_le a₀.size h3
 generalize minRun' a₀.size a₀.size 0 = mr at hmr ⊢
 have key : ∀ {p : Array (Nat × Nat × Nat)} {st' : SortSt}, arrOf st' = a₀ /\ kindOf st' = κ /\ failedOf st' = none /\ pendingOf st' = p -> SI a₀ κ p st' := fun I => ⟨I.1 ▸ Array.Perm.refl _, I.2.1, I.2.2.1, I.2.2.2⟩
 refine wpS_bind (wpS_mono (wpS_forRange
  (I := fun x c st' => (c = (none, 0) /\ x = 0 /\ (arrOf st' = a₀ /\ kindOf st' = κ /\ failedOf st' = none /\ pendingOf st' = #[])) \/ (c = (none, a₀.size) /\ (arrOf st' = a₀ /\ kindOf st' = κ /\ failedOf st' = none /\ pendingOf st' = #[(0, a₀.size, 0)])))
  (Q := fun c st' => c = (none, a₀.size) /\ (arrOf st' = a₀ /\ kindOf st' = κ /\ failedOf st' = none /\ pendingOf st' = #[(0, a₀.size, 0)])) ?step ?fin
  (.inl ⟨rfl, rfl, ha, hk, hf, hpe⟩)) ?post)
 case fin =>
  rintro c st' (⟨rfl, hx, I⟩ | q)
  ·omega
  ·exact q
 case step =>
  rintro x c st1 _ hx (⟨rfl, rfl, I⟩ | ⟨rfl, I⟩)
  ·dsimp only
   rw [if_neg (by omega)]
   refine wpS_bind (wpS_countA C d h1s (key I) (by rw [I.1]; exact hs) ?_)
   dsimp only
   rw [if_neg (by omega)]
   refine wpS_bind (wpS_get ?_)
   rw [I.2.2.2]
   show wpS _ _ _ _ (do modify fun s => setPending s ((pendingOf s).push (0, a₀.size, 0)); pure (ForInStep.yield (none, 0 + a₀.size))) _ _
   refine wpS_bind (wpS_modify (wpS_pure (.inr ⟨by rw [Nat.zero_add], I.1, I.2.1, I.2.2.1, ?_⟩)))
   show (pendingOf st1).push (0, a₀.size, 0) = _
   rw [I.2.2.2]
   rfl
  ·dsimp only
   rw [if_pos (Nat.le_refl _)]
   exact wpS_pure ⟨rfl, I⟩
 case post =>
  rintro c st1 ⟨rfl, I⟩
  try dsimp only
  refine wpS_bind (wpS_mono (wpS_forRange
   (I := fun x c st' => c = (none, ()) /\ (arrOf st' = a₀ /\ kindOf st' = κ /\ failedOf st' = none /\ pendingOf st' = #[(0, a₀.size, 0)]))
   (Q := fun c st' => c = (none, ()) /\ (arrOf st' = a₀ /\ kindOf st' = κ /\ failedOf st' = none /\ pendingOf st' = #[(0, a₀.size, 0)])) ?fstep (fun _ _ q => q) ⟨rfl, I⟩) ?fpost)
  case fstep =>
   rintro x c st2 _ hx ⟨rfl, I2⟩
   refine wpS_bind (wpS_get ?_)
   try dsimp only
   rw [if_pos (by rw [I2.2.2.2]; exact Nat.le_refl _)]
   exact wpS_pure ⟨rfl, I2⟩
  case fpost =>
   rintro c st2 ⟨rfl, I2⟩
   exact wpS_pure (h st2 I2.1 I2.2.2.1)
end
section
variable {prog : Program} {w : World} {A : Around} {E : Value -> Shared -> Prop} {s : Shared}
theorem sort_listA {a : Addr} {vs : List Value} {n : Nat} {P : PySem.Fin -> Shared -> Prop} (ho : s.heap.get? a = some (seqObj "list" vs.toArray n)) (hz : vs.length <= sizeLine) (h3 : vs.length < 300)
  (hv : ∀ v ∈ vs, ∃ i k, IsK prog w s.heap (i :: k) v) (hna : ∀ v ∈ vs, v ≠ .ref a) (hs : vs.Pairwise (fun x y => lexB (keyAt prog w s.heap y) (keyAt prog w s.heap x) = false))
  (h : P (.done (.ret .none)) { s with heap := sortedHeap s.heap a vs vs.toArray }) :
  wpAny (model prog w) A (Builtin.«list.sort» ⟨[.ref a], []⟩) P E s := by
 rw [list_sort_plain]
 have ha : a < s.heap.objs.size := Heap.lt_size ho
 refine wpAny_bind (listItems_at ho rfl ?_)
 refine wpAny_bind (listUpdate_at ho rfl ?_ (by rw [List.size_toArray]; exact hz) (Nat.zero_le _))
 obtain ⟨e1, ho1⟩ : ∃ e1, (s.heap.update a (Obj.mapSeq fun _ => #[])).get? a = some (seqObj "list" #[] e1) := ⟨_, get?_update_seq ho (fun _ => #[])⟩
 refine wpAny_bind (seqEpoch_at ho1 rfl ?_)
 refine wpAny_bind (wpAny_newTuple ?_ (by show vs.length <= _; exact hz))
 refine wpAny_bind (wpAny_newList ?_ (Nat.zero_le _))
 refine wpAny_holding ?_
 -- the heap while it is sorted
 generalize hH : ((s.heap.update a (Obj.mapSeq fun _ => #[])).push (seqObj "tuple" vs.toArray 0)).push (seqObj "list" #[] 0) = h6
 have ho6 : h6.get? a = some (seqObj "list" #[] e1) := by rw [<- hH]; exact Heap.get?_push_of_some _ (Heap.get?_push_of_some _ ho1)
 have keep : ∀ b o, b ≠ a -> s.heap.get? b = some o -> h6.get? b = some o := fun b o hb e => by
  rw [<- hH]
  exact Heap.get?_push_of_some _ (Heap.get?_push_of_some _ ((Heap.get?_update_other s.heap _ (Ne.symm hb)).trans e))
 have up : ∀ v ∈ vs, ∀ k, IsK prog w s.heap k v -> IsK prog w h6 k v := fun v hv' k hk => by
  obtain ⟨c, rfl, o, items, n, h2, h3⟩ := hk
  exact ⟨c, rfl, o, items, n, keep c o (fun z => hna _ hv' (by rw [z])) h2, h3⟩
 have hm : (pairsOf vs).map (·.2) = vs.toArray := by
  apply Array.ext'
  rw [Array.toList_map, pairsOf_toList]
  exact List.map_snd_zip (Nat.le_refl _)
 have out : ∀ st' : SortSt, arrOf st' = pairsOf vs -> failedOf st' = none ->
   wpAny (model prog w) A (do
    let sorted := (arrOf st').map (·.2)
    let touched := (<- seqEpoch a) != e1
    Builtin.List.listUpdate (.ref a) fun _ => sorted
    if let some e := failedOf st' then rule "list.sort.comparison-raised"; throw e
    if touched then rule "list.sort.modified"; raiseError "ValueError" "list modified during sort"
    ret .none) P E { s with heap := h6 } := fun st' hp hf => by
  rw [hp, hm]
  dsimp only
  refine wpAny_bind (seqEpoch_at (s := { s with heap := h6 }) ho6 rfl ?_)
  refine wpAny_bind (listUpdate_at (s := { s with heap := h6 }) ho6 rfl ?_ (Nat.zero_le _) (by rw [List.size_toArray]; omega))
  rw [hf]
  simp only [bne_self_eq_false, Bool.false_eq_true, if_false]
  refine wpAny_pure ?_
  unfold sortedHeap at h
  rw [hH] at h
  exact h
 show wpAny (model prog w) A _ P E { s with heap := h6 }
 dsimp only
 by_cases h2 : vs.toArray.size < 2
 ·rw [if_pos h2, if_pos h2]
  refine wpAny_bind (wpAny_pure ?_)
  rw [StateT.run_pure]
  refine wpAny_bind (wpAny_pure ?_)
  exact out (SortSt.mk' general' (vs.toArray.zip vs.toArray) #[] 7 none) rfl rfl
 ·rw [if_neg h2, if_neg h2]
  rw [List.size_toArray] at h2
  refine wpAny_bind (kind_pairs (s := { s with heap := h6 }) (by omega) (fun v hv' => ?_) ?_)
  ·obtain ⟨i, k, hk⟩ := hv v hv'
   exact ⟨i, k, up v hv' _ hk⟩
  refine wpAny_bind (wpAny_mono (wpS_sortA (s := { s with heap := h6 }) (a₀ := pairsOf vs) (κ := tuples' true) (O := lexO) (f := fun p => keyAt prog w s.heap p.1) (st := SortSt.mk' (tuples' true) (vs.toArray.zip vs.toArray) #[] 7 none)
   (Q := fun _ st' => arrOf st' = pairsOf vs /\ failedOf st' = none) ?_ ([] : List Int) rfl rfl rfl rfl (by rw [pairsOf_size]; omega) (by rw [pairsOf_size]; exact h3) ?_ fun st' a1 a2 => ⟨a1, a2⟩) ?_ fun _ _ e => e)
  ·intro x y hx hy Q hq
   rw [pairsOf_toList] at hx hy
   obtain ⟨i, k, hk⟩ := hv x.1 (mem_zip_self hx).2
   obtain ⟨j, k', hk'⟩ := hv y.1 (mem_zip_self hy).2
   refine lt_pairs (s := { s with heap := h6 }) (up _ (mem_zip_self hx).2 _ hk) (up _ (mem_zip_self hy).2 _ hk') ?_
   rw [<- keyAt_eq hk, <- keyAt_eq hk']
   exact hq
  ·intro i j hij hj
   rw [pairsOf_size] at hj
   have g : ∀ k, (hk : k < vs.length) -> (pairsOf vs)[0 + k]? = some (vs[k], vs[k]) := fun k hk => by
    rw [Nat.zero_add, <- Array.getElem?_toList, pairsOf_toList, List.getElem?_zip_eq_some]
    exact ⟨List.getElem?_eq_getElem hk, List.getElem?_eq_getElem hk⟩
   have kk : ∀ k, (hk : k < vs.length) -> KF (O := lexO) (fun p => keyAt prog w s.heap p.1) ([] : List Int) (pairsOf vs) (0 + k) = keyAt prog w s.heap vs[k] := fun k hk => KF_some (O := lexO) (f := fun p => keyAt prog w s.heap p.1) (g k hk)
   have hij2 : lexB (keyAt prog w s.heap vs[j]) (keyAt prog w s.heap (vs[i]'(by omega))) = false := by
    by_cases e : i = j
    ·subst e; exact lexB_irr _
    ·exact List.pairwise_iff_getElem.mp hs i j (by omega) hj (by omega)
   exact (congr (congrArg lexB (kk j hj)) (kk i (by omega))).trans hij2
  ·rintro ⟨⟨⟩, st'⟩ s' ⟨rfl, hp, hf⟩
   exact out st' hp hf
theorem sorted_tuplesA {l : Addr} {vs : List Value} {Q : Value -> Shared -> Prop} (hl : s.heap.IsList l vs.toArray) (hz : vs.length <= sizeLine) (h3 : vs.length < 300) (hv : ∀ v ∈ vs, ∃ i k, IsK prog w s.heap (i :: k) v)
  (hs : vs.Pairwise (fun x y => lexB (keyAt prog w s.heap y) (keyAt prog w s.heap x) = false))
  (h : ∀ (h' : Heap) (n : Nat), (∀ b o, s.heap.get? b = some o -> h'.get? b = some o) ->
   h'.get? (s.heap.objs.size + 1) = some { cls := .type "list", data := .seq vs.toArray n } -> Q (.ref (s.heap.objs.size + 1)) { s with heap := h' }) :
  wpAny (model prog w) A (call (.builtin "sorted") [.ref l]) Q E s := by
 refine Calls.call_function_entry kind_sorted plain_sorted entry_sorted (args_sorted1 _) ?_
 unfold Builtin.«sorted»
 refine wpAny_bind (m := checkCount "sorted" 1 1 _) (wpAny_pure ?_)
 refine wpAny_bind (collect_list hl ?_ hz)
 refine wpAny_bind (wpAny_newList ?_ hz)
 have hsz : ((s.heap.push (seqObj "list" #[] 0)).update s.heap.objs.size (Obj.mapSeq (· ++ vs.toArray))).objs.size = s.heap.objs.size + 1 := by
  rw [Heap.size_update, size_push']
 generalize hH : ((s.heap.push (seqObj "list" #[] 0)).update s.heap.objs.size (Obj.mapSeq (· ++ vs.toArray))).push (seqObj "list" vs.toArray 0) = h2
 have hoL : h2.get? (s.heap.objs.size + 1) = some (seqObj "list" vs.toArray 0) := by
  rw [<- hH, <- hsz]; exact Heap.get?_push_size _ rfl
 have keep : ∀ b o, s.heap.get? b = some o -> h2.get? b = some o := fun b o e => by
  rw [<- hH]
  refine Heap.get?_push_of_some _ ((Heap.get?_update_other _ _ ?_).trans (Heap.get?_push_of_some _ e))
  exact Ne.symm (Nat.ne_of_lt (Heap.lt_size e))
 have hsz2 : h2.objs.size = s.heap.objs.size + 2 := by rw [<- hH, size_push', hsz]
 rw [hsz]
 have up : ∀ v k, IsK prog w s.heap k v -> IsK prog w h2 k v := fun v k hk => hk.up keep
 have kA : ∀ v ∈ vs, keyAt prog w h2 v = keyAt prog w s.heap v := fun v hv' => by
  obtain ⟨i, k, hk⟩ := hv v hv'
  rw [keyAt_eq hk, keyAt_eq (up v _ hk)]
 refine wpAny_bind (wpAny_holding (wpAny_call_entry slot_list_sort (s := { s with heap := h2 }) ⟨_, hoL, rfl⟩ entry_list_sort (sort_listA (s := { s with heap := h2 }) hoL hz h3 (fun v hv' => ?_) (fun v hv' z => ?_) ?_ ⟨_, rfl, ?_⟩) (args_list_sort _)))
 ·obtain ⟨i, k, hk⟩ := hv v hv'
  exact ⟨i, k, up v _ hk⟩
 ·obtain ⟨i, k, a, rfl, o, items, n, ho, _⟩ := hv v hv'
  cases z
  exact absurd (Heap.lt_size ho) (Nat.not_lt.mpr (Nat.le_succ _))
 ·refine List.Pairwise.imp_of_mem ?_ hs
  intro x y hx hy hxy
  show lexB (keyAt prog w h2 y) (keyAt prog w h2 x) = false
  rw [kA x hx, kA y hy]
  exact hxy
 ·have hlast : ∃ n, (sortedHeap h2 (s.heap.objs.size + 1) vs vs.toArray).get? (s.heap.objs.size + 1) = some (seqObj "list" vs.toArray n) := by
   unfold sortedHeap
   have g1 := get?_update_seq hoL (fun _ => (#[] : Array Value))
   have g2 : (((h2.update (s.heap.objs.size + 1) (Obj.mapSeq fun _ => #[])).push (seqObj "tuple" vs.toArray 0)).push (seqObj "list" #[] 0)).get? (s.heap.objs.size + 1) = _ := Heap.get?_push_of_some _ (Heap.get?_push_of_some _ g1)
   exact ⟨_, get?_update_seq g2 (fun _ => vs.toArray)⟩
  obtain ⟨n, hn⟩ := hlast
  refine wpAny_pure ⟨_, rfl, h _ n (fun b o e => ?_) hn⟩
  have hb : b ≠ s.heap.objs.size + 1 := Nat.ne_of_lt (Nat.lt_succ_of_lt (Heap.lt_size e))
  unfold sortedHeap
  refine (Heap.get?_update_other _ _ (Ne.symm hb)).trans (Heap.get?_push_of_some _ (Heap.get?_push_of_some _ ((Heap.get?_update_other _ _ (Ne.symm hb)).trans (keep b o e))))
end
end Tim
namespace L2
open PySem PySem.Spec PyProof.Rows
section
variable {X : Cx}
theorem call_sortedA : CallR X (.builtin "sorted") (fun xs H Q => ∃ p ys ks, xs = [.ref p] /\ SqL X.K H p ys /\ Tups X.K H ys ks /\ (∀ k ∈ ks, k ≠ []) /\ ks.length < 300 /\ ks.Pairwise (fun a b => Tim.lexB b a = false) /\
  ∀ l, H l = none -> Q (.ref l) (upd H l (.lst ys))) := by
 intro pins s σ H xs us Q I r h
 obtain ⟨p, ys, ks, rfl, hq, ht, hne, h3, hso, q⟩ := h
 obtain ⟨u, rfl, rx⟩ := vals1 r
 cases rx
 obtain ⟨its, r', pl, hz⟩ := I.list hq
 have hlen := r'.length
 have hk := tups_vals I ht r'
 have hv : ∀ v ∈ its, ∃ i k, Tim.IsK X.prog X.w s.heap (i :: k) v := fun v hv => by
  obtain ⟨j, hj⟩ := List.mem_iff_getElem?.mp hv
  obtain ⟨k, h1, a, rfl, h2⟩ := paired_get hk hj
  cases k with
  | nil => exact absurd rfl (hne [] (List.mem_of_getElem? h1))
  | cons i k => exact ⟨i, k, a, rfl, h2⟩
 have eq : ks = its.map (Tim.keyAt X.prog X.w s.heap) := by
  clear hso h3 hne ht hv q r' pl hlen
  induction hk with
  | nil => rfl
  | cons r t ih =>
   obtain ⟨a, rfl, hka⟩ := r
   rw [List.map_cons, Tim.keyAt_eq ⟨a, rfl, hka⟩, <- ih]
 refine Tim.sorted_tuplesA pl.isList (by omega) (by rw [<- hlen, Tups.len ht]; exact h3) hv (by rw [eq, List.pairwise_map] at hso; exact hso) fun h' n kp e => ?_
 have hfr : H (s.heap.objs.size + 1) = none := I.hok.fresh (Nat.le_succ _)
 exact ⟨.ref (s.heap.objs.size + 1), upd H (s.heap.objs.size + 1) (.lst ys), I.laid (t' := s.toks) kp (Nat.le_succ _) (show ObjOk X.prog X.w _ h' _ (.lst ys) from ⟨hz, its, n, r', e⟩), rfl, q _ hfr⟩
end
end L2
namespace Web
open PySem L2
def WebAt (K : W.Frag) (H : Hp) (p : Addr) (n : Nat) (ks : List (List Int)) : Prop := ∃ t zs, SqT K H p [.int n, .ref t] /\ SqT K H t zs /\ Tups K H zs ks
theorem WebAt.dt {K : W.Frag} {H : Hp} {p : Addr} {n : Nat} {ks : List (List Int)} (h : WebAt K H p n ks) : Dt K H (dW n ks) (.ref p) := by
 obtain ⟨t, zs, h1, h2, h3⟩ := h
 exact Dt.mkT h1 (.mkC .mkInt (.mkC (Dt.mkT h2 h3.dtAll) .mkN))
theorem ups_map {n : Nat} : ∀ {ks : List (List Int)}, (∀ k ∈ ks, Up n k) -> ks.map up = ks
 | [], _ => rfl
 | k :: ks, h => by
  rw [List.map_cons, ups_map fun x hx => h x (List.mem_cons_of_mem _ hx)]
  rw [up_up (h k List.mem_cons_self)]
structure Tld (n : Nat) (ks : List (List Int)) : Prop where
 ups : ∀ k ∈ ks, Up n k
 nd : ks.Nodup
 srt : ks.Pairwise (fun a b => Tim.lexB b a = false)
seal L2.PE L2.PA L2.PS L2.PSs L2.PT
section
variable {P : Program} {w : World} {K : W.Frag} {mg : Str -> Option Value} {base : Heap}
def spMade (K : W.Frag) : Sp := fun vs H Q _ => ∃ (n : Nat) (a : Addr) (ys : List V) (hs : List (List Int)), vs = [.int n, .ref a] /\ 1 <= n /\ n <= 24 /\ SqT K H a ys /\ Tups K H ys hs /\ Tld n hs /\ ∀ p H', Same H H' -> WebAt K H' p n hs -> Q (.ref p) H'
theorem scMade : FnScope ["places", "ties", "ascending"] ["places", "ties"] (defScope sMade) := ⟨rfl, rfl, rfl, by decide +kernel, rfl, by decide +kernel, by decide +kernel⟩
theorem ok_made {f fI fU : Addr} {fd fdI fdU : FuncData} {tk : Tok} (F : Fun K "made" "made" sMade f fd) (B : Bn mg) (FI : Fun K "is_place" "is_place" sIsP fI fdI) (bI : Binds K fdI ["places", "number"] []) (mI : mg "is_place" = some (.ref fI))
  (FU : Fun K "turned_up" "turned_up" sUp fU fdU) (bU : Binds K fdU ["places", "tie"] []) (mU : mg "turned_up" = some (.ref fU)) (mM : mg "MOST_PLACES" = some (.int 24 tk)) :
  FnOk P w K mg base CX0 3 f fd ["places", "ties"] (spMade K) := by
 have GU : FnOk P w K mg base CX0 2 fU fdU ["places", "tie"] (spUp K) := ok_up FU B FI bI mI
 refine F.ok scMade (fun vs H Q E h => ?_) (fun cdv A outer s H vs Q E hr h => ?_)
 ·obtain ⟨n, a, ys, hs, rfl, _⟩ := h
  rfl
 ·obtain ⟨n, a, ys, hs, rfl, n1, n2, hS, hT, T, q⟩ := h
  have hL := ups_le n2 T.nd T.ups
  have hE : ∀ k ∈ hs, Ends2 n k := fun k hk => (T.ups k hk).ends
  have hu8 := Nat.lt_of_le_of_lt (Nat.add_le_add_left (by decide : 8 <= 64) _) hr.units
  have hyl := hT.len
  have nd2 : (["tie", "places"] : List Str).Nodup := by decide +kernel
  have step : ∀ (D : Addr), H D = none -> ∀ (i : Nat) (xs : List V) (H' : Hp) (x : V) (N : List V -> Hp -> Prop), Same H H' -> H' D = some (.lst xs) -> Tups K H' xs ((hs.take i).map up) -> ys[i]? = some x ->
    (∀ xs' H'', Same H H'' -> H'' D = some (.lst xs') -> Tups K H'' xs' ((hs.take (i + 1)).map up) -> N xs' H'') ->
    ∃ (m : Nat) (b : Addr) (k : List Int), [V.int n, x] = [.int m, .ref b] /\ SqT K H' b (k.map V.int) /\ Ends2 m k /\ ∀ p, H' p = none -> (upd H' p (.tup ((up k).map V.int))) D = some (.lst xs) /\ N (xs ++ [.ref p]) (upd (upd H' p (.tup ((up k).map V.int))) D (.lst (xs ++ [.ref p]))) := by
   intro D hD i xs H' x N s1 hd ht hx k
   obtain ⟨b, kk, rfl, hk, hq⟩ := hT.get hx
   refine ⟨n, b, kk, rfl, s1.seqT hq, hE kk (List.mem_of_getElem? hk), fun p hp => ?_⟩
   have npd : D ≠ p := ne_of_none hd hp
   have hd' : (upd H' p (.tup ((up kk).map V.int))) D = some (.lst xs) := by rw [upd_ne npd]; exact hd
   refine ⟨hd', k _ _ ((s1.trans (same_upd hp)).upd hD) upd_same ?_⟩
   have e : (hs.take (i + 1)).map up = (hs.take i).map up ++ [up kk] := by
    rw [List.take_add_one, hk, List.map_append]
    rfl
   rw [e]
   refine Tups.updL hd' (Tups.append (Same.tups (same_upd hp) ht) (Tups.one (SqT.of upd_same)))
  refine ⟨_, pss_cons (ps_if (pt_not (pt_chain op_le op_le pe_int (pv 0) (pe_glob (v := .int 24) rfl mM ⟨_, rfl⟩))) pss_never pss_nil)
   (pss_cons (ps_set (i := 2) scMade.nd rfl (Or.inl rfl) (pe_callB call_sortedA (by rfl) B.sorted (by rfl) (pa_cons
    (pe_comp (N' := ["tie", "places"]) (lk := [none, some 0]) rfl (pi_tup (pv 1)) (by rfl) rfl (by decide +kernel) (by exact ⟨rfl, trivial⟩) (by rfl) (by exact LkL.ok ⟨⟨rfl, Or.inl rfl, rfl, Or.inl rfl⟩, trivial⟩)
     (fun _ _ _ => pg_name (i := 0) nd2 rfl (Or.inl rfl)) (fun _ _ _ => pts_nil) (fun _ _ _ => pe_call GU hr (by rfl) mU FU.kp bU .nil pass0 (pa_cons (pv 1) (pa_cons (pv 0) pa_nil)))) pa_nil)))
   (pss_cons (ps_if (pt_cmpR op_lt (pe_callB call_len_set (by rfl) B.len PySem.boot_len (pa_cons (pe_callTy (call_set rfl hu8) (by rfl) B.set (by rfl) (pa_cons (pv 2) pa_nil)) pa_nil)) (pe_callB call_len_seq (by rfl) B.len PySem.boot_len (pa_cons (pv 2) pa_nil)) (nomark _)) pss_never pss_nil)
   (pss_one (ps_ret (pe_tup (pa_cons (pv 0) (pa_cons (pe_callTy call_tuple_of (by rfl) B.tuple (by rfl) (pa_cons (pv 2) pa_nil)) pa_nil))))))), ?_⟩
  refine ⟨_, rfl, _, _, rfl, rfl, _, rfl, ?_⟩
  rw [decide_eq_true (show (1 : Int) <= n by omega)]
  refine iteT ⟨_, _, rfl, rfl, _, rfl, ?_⟩
  rw [decide_eq_true (show (n : Int) <= 24 by omega)]
  refine iteF ?_
  refine ⟨_, rfl, a, rfl, ⟨_, hS⟩, fun D hD => comp_tup (K := K) (a := a) (D := D) (ys := ys) (fun i xs σ' H' => ∃ v, σ' = [v, some (.int n)] /\ Same H H' /\ H' D = some (.lst xs) /\ Tups K H' xs ((hs.take i).map up)) ⟨none, rfl, same_upd hD, upd_same, .nil⟩ (by have := sl1000; omega)
   (fun i xs σ' H' hi ⟨_, _, s1, h1, h2⟩ => ⟨s1.seqT hS, h1, by have := h2.len; simp at this; omega⟩) ?_ ?_⟩
  ·rintro i xs x σ' H' N kN hx ⟨v, rfl, s1, h1, h2⟩
   refine gName_to ?_
   refine tTrue_if ?_
   refine ⟨_, rfl, _, rfl, ?_⟩
   exact step D hD i xs H' x (fun xs' H'' => N xs' _ H'') s1 h1 h2 hx fun xs' H'' a1 a2 a3 => kN _ _ _ ⟨_, rfl, a1, a2, a3⟩
  ·rintro xs σ' H1 ⟨v, rfl, s1, h1, h2⟩
   rw [List.take_of_length_le (by omega), ups_map T.ups] at h2
   refine ⟨D, xs, _, rfl, SqL.of h1, h2, (fun k hk z => by have := (T.ups k hk).len; rw [z] at this; cases this), by omega, T.srt, fun l hl => ?_⟩
   have hzl := h2.len
   have s2 : Same H (upd H1 l (.lst xs)) := s1.trans (same_upd hl)
   have t2 : Tups K (upd H1 l (.lst xs)) xs hs := (same_upd hl).tups h2
   refine ⟨_, rfl, l, xs, hs, rfl, SqL.of upd_same, t2, (fun k hk => (T.ups k hk).key n2), by omega, fun S hSn => ?_⟩
   have hlS : l ≠ S := ne_of_none upd_same hSn
   have s3 := s2.trans (same_upd (o := SetO P w S (hs.foldl Sett.insT []).length) hSn)
   have l3 : (upd (upd H1 l (.lst xs)) S (SetO P w S (hs.foldl Sett.insT []).length)) l = some (.lst xs) := by rw [upd_ne hlS, upd_same]
   refine ⟨S, _, rfl, upd_same, _, rfl, l, xs, rfl, .inl (SqL.of l3), _, _, rfl, rfl, _, rfl, ?_⟩
   have hfold : (hs.foldl Sett.insT []).length = xs.length := by
    have := (Sett.fold_full hs []).mpr ⟨T.nd, fun x _ => by simp⟩
    simp at this
    omega
   rw [hfold, decide_eq_false (by omega)]
   refine iteF ?_
   refine ⟨_, rfl, _, rfl, l, xs, rfl, .inl ⟨SqL.of (by rw [hfold] at l3; exact l3), fun t ht => ⟨(by show 2 <= sizeLine; decide), fun p hp => ?_⟩⟩⟩
   rw [hfold] at s3
   have s4 := (s3.trans (same_upd (o := .tup xs) ht)).trans (same_upd (o := .tup [.int n, .ref t]) hp)
   exact q p _ s4 ⟨t, xs, SqT.of upd_same, SqT.of (by rw [upd_ne (ne_of_none upd_same hp), upd_same]), Same.tups (((same_upd hSn).trans (same_upd ht)).trans (same_upd hp)) t2⟩
end
end Web
namespace Web
open PySem L2
seal L2.PE L2.PA L2.PS L2.PSs L2.PT
section
variable {P : Program} {w : World} {K : W.Frag} {mg : Str -> Option Value} {base : Heap}
def spTold (K : W.Frag) : Sp := fun vs H Q _ => ∃ (p : Addr) (n : Nat) (ks : List (List Int)), vs = [.ref p] /\ WebAt K H p n ks /\ 1 <= n /\ n <= 24 /\ Tld n ks /\ ∀ H', Same H H' -> Q (.bl true) H'
theorem scTold : FnScope ["web"] ["web"] (defScope sIsTold) := ⟨rfl, rfl, rfl, by decide +kernel, rfl, by decide +kernel, by decide +kernel⟩
theorem ok_told {f fV CX : Addr} {fd fdV : FuncData} (F : Fun K "is_told" "is_told" sIsTold f fd) (FV : Fun K "made" "made" sMade fV fdV) (bV : Binds K fdV ["places", "ties"] []) (mV : mg "made" = some (.ref fV)) (GV : FnOk P w K mg base CX0 3 fV fdV ["places", "ties"] (spMade K)) (mX : mg "BadWeb" = some (.ref CX)) : FnOk P w K mg base CX0 4 f fd ["web"] (spTold K) := by
 refine F.ok scTold (fun vs H Q E h => ?_) (fun cdv A outer s H vs Q E hr h => ?_)
 ·obtain ⟨p, n, ks, rfl, _⟩ := h
  rfl
 ·obtain ⟨p, n, ks, rfl, ⟨t, zs, h1, h2, h3⟩, n1, hn, T, q⟩ := h
  have hun := hr.units
  have hsl := sl1000
  refine ⟨_, pss_one (ps_tryN (by rfl) mX rfl rfl (fun _ _ => pss_one (ps_ret (pe_cmpR (op_eqDK K hr.around rfl rfl) (pe_call GV hr (by rfl) mV FV.kp bV .nil pass0 (pa_cons (pe_ixSK K rfl (pv 0) pe_int (fun _ _ => rfl)) (pa_cons (pe_ixSK K rfl (pv 0) pe_int (fun _ _ => rfl)) pa_nil))) (pv 0) (nomark _)))) (fun _ => pss_never)), ?_⟩
  have a0 : atI ([.int n, .ref t] : List V) 0 = some (.int n) := atI_nat (j := 0) rfl
  have a1 : atI ([.int n, .ref t] : List V) 1 = some (.ref t) := atI_nat (j := 1) rfl
  refine ⟨fun _ _ _ _ => False, ?_, fun _ _ _ h => h.elim⟩
  refine ⟨_, rfl, .inr (.inl ⟨p, _, _, _, rfl, rfl, h1, a0, _, rfl, .inr (.inl ⟨p, _, _, _, rfl, rfl, h1, a1, ?_⟩)⟩)⟩
  refine ⟨n, t, zs, ks, rfl, n1, hn, h2, h3, T, fun r H' s' hw2 => ?_⟩
  have hkl := ups_le hn T.nd T.ups
  have hw : WebAt K H' p n ks := ⟨t, zs, s'.seqT h1, s'.seqT h2, s'.tups h3⟩
  refine ⟨_, rfl, _, _, hw2.dt, hw.dt, lay_W _ _, lay_W _ _, ?_, ?_⟩
  ·refine un_lt hun (Nat.le_trans (Nat.min_le_left _ _) ?_)
   have := dep_W n ks
   omega
  ·rw [if_neg Bool.false_ne_true, eqv_W, decide_eq_true rfl, decide_eq_true rfl]
   exact q _ s'
end
end Web
namespace Web
open PySem L2
section
variable {P : Program} {w : World} {K : W.Frag} {mg : Str -> Option Value} {base : Heap}
def isR (ns : List Int) (r : Int) : Prop := 0 <= r /\ r <= ns.length
def spRoomW (K : W.Frag) (CB CN : Addr) : Sp := fun vs H Q E => ∃ (a : Addr) (ns : List Int) (M : Nat) (r : Int), vs = [.ref a, .int M, .int r] /\ Sq K H a ns /\ M <= 1000000 /\ (isTl ns -> isR ns r -> ∀ H' : Hp, Same H H' -> Q (.int (roomM ns M r.toNat)) H') /\ (isTl ns -> ¬ isR ns r -> E (.ref CN) none H) /\ (¬ isTl ns -> E (.ref CB) none H)
theorem scRoomW : FnScope ["tally", "most", "r"] ["tally", "most", "r"] (defScope sRoomW) := ⟨rfl, rfl, rfl, by decide +kernel, rfl, by decide +kernel, by decide +kernel⟩
theorem ok_roomW {f fT fF fA CB CN : Addr} {fd fdT fdF fdA : FuncData} {tk : Tok} (F : Fun K "room_with" "room_with" sRoomW f fd) (B : Bn mg) (FT : Fun K "check_tally" "check_tally" sChT fT fdT) (bT : Binds K fdT ["tally"] []) (mT : mg "check_tally" = some (.ref fT))
  (FF : Fun K "falling" "falling" sFall fF fdF) (bF : Binds K fdF ["tally"] []) (mF : mg "falling" = some (.ref fF)) (FA : Fun K "room_among" "room_among" sAmong fA fdA) (bA : Binds K fdA ["numbers", "most", "r"] []) (mA : mg "room_among" = some (.ref fA))
  (mM : mg "MOST_PLACES" = some (.int 24 tk)) (mB : mg "BadTally" = some (.ref CB)) (cB : ExcC K CB) (mN : mg "BadNumber" = some (.ref CN)) (cN : ExcC K CN) : FnOk P w K mg base (CXE P w) 2 f fd ["tally", "most", "r"] (spRoomW K CB CN) := by
 have GT : FnOk P w K mg base (CXE P w) 1 fT fdT ["tally"] (spChT K CB) := ok_chT FT B mM mB cB
 have GF : FnOk P w K mg base CX0 1 fF fdF ["tally"] (spFall K) := ok_fall FF B
 have GA : FnOk P w K mg base CX0 1 fA fdA ["numbers", "most", "r"] (spAmong K) := ok_among FA B
 refine F.okX scRoomW (fun vs H Q E h => ?_) (fun cdv A outer s H vs Q E hr h => ?_)
 ·obtain ⟨a, ns, M, r, rfl, _⟩ := h
  rfl
 ·obtain ⟨a, ns, M, r, rfl, hS, hM, h1, h2, h3⟩ := h
  refine ⟨_, pss_cons (ps_expr (pe_call GT hr (by rfl) mT FT.kp bT .nil passE (pa_cons (pv 0) pa_nil)))
   (pss_cons (ps_if (pt_not (pt_chain op_le op_le pe_int (pv 2) (pe_callB call_len_seq (by rfl) B.len PySem.boot_len (pa_cons (pv 0) pa_nil)))) (pss_one (ps_raise (by rfl) mN cN)) pss_nil)
   (pss_one (ps_ret (pe_call GA hr (by rfl) mA FA.kp bA .nil pass0 (pa_cons (pe_call GF hr (by rfl) mF FF.kp bF .nil pass0 (pa_cons (pv 0) pa_nil)) (pa_cons (pv 1) (pa_cons (pv 2) pa_nil))))))), ?_⟩
  refine ⟨_, rfl, a, ns, rfl, hS, fun ht => ?_, h3⟩
  have t2 := ht.2
  refine ⟨_, rfl, _, _, rfl, rfl, _, rfl, ?_⟩
  by_cases hp : (0 : Int) <= r
  ·rw [decide_eq_true hp]
   refine iteT ⟨_, rfl, a, _, rfl, hS, _, _, rfl, rfl, _, rfl, ?_⟩
   rw [List.length_map]
   by_cases hp' : r <= (ns.length : Int)
   ·rw [decide_eq_true hp']
    refine iteF ?_
    obtain ⟨k, rfl⟩ : ∃ k : Nat, r = (k : Int) := ⟨r.toNat, by omega⟩
    refine ⟨_, rfl, a, ns, rfl, hS, by omega, fun l H1 s1 hl g1 => ?_⟩
    refine ⟨_, rfl, _, rfl, l, ns, M, k, rfl, SqL.of g1, hM, by omega, by omega, fun H2 s2 => ?_⟩
    exact h1 ht ⟨hp, hp'⟩ H2 (s1.trans s2)
   ·rw [decide_eq_false hp']
    exact iteT (h2 ht fun z => hp' z.2)
  ·rw [decide_eq_false hp]
   exact iteF ⟨_, rfl, iteT (h2 ht fun z => hp z.1)⟩
end
section
variable {P : Program} {w : World} {K : W.Frag} {mg : Str -> Option Value} {base : Heap}
def spShowsW (K : W.Frag) (CB : Addr) : Sp := fun vs H Q E => ∃ (a p : Addr) (ns : List Int) (M : Nat) (x : Wz), vs = [.ref a, .int M, .ref p] /\ Sq K H a ns /\ M <= 1000000 /\ SqT K H p (wzT x) /\ (isTl ns -> ∀ H' : Hp, Same H H' -> Q (.bl (shwM ns M x)) H') /\ (¬ isTl ns -> E (.ref CB) none H)
theorem scShowsW : FnScope ["tally", "most", "wall"] ["tally", "most", "wall"] (defScope sShowsW) := ⟨rfl, rfl, rfl, by decide +kernel, rfl, by decide +kernel, by decide +kernel⟩
set_option maxHeartbeats 1000000 in
theorem ok_showsW {f fT fF fA fρ fβ CB CN : Addr} {fd fdT fdF fdA fdρ fdβ : FuncData} {tk : Tok} (F : Fun K "wall_shows_with" "wall_shows_with" sShowsW f fd) (B : Bn mg)
  (FT : Fun K "check_tally" "check_tally" sChT fT fdT) (bT : Binds K fdT ["tally"] []) (mT : mg "check_tally" = some (.ref fT))
  (FF : Fun K "falling" "falling" sFall fF fdF) (bF : Binds K fdF ["tally"] []) (mF : mg "falling" = some (.ref fF)) (FA : Fun K "room_among" "room_among" sAmong fA fdA) (bA : Binds K fdA ["numbers", "most", "r"] []) (mA : mg "room_among" = some (.ref fA))
  (Fρ : Fun K "room_with" "room_with" sRoomW fρ fdρ) (bρ : Binds K fdρ ["tally", "most", "r"] []) (mρ : mg "room_with" = some (.ref fρ)) (Fβ : Fun K "places_below" "places_below" sBelow fβ fdβ) (bβ : Binds K fdβ ["numbers"] []) (mβ : mg "places_below" = some (.ref fβ))
  (mM : mg "MOST_PLACES" = some (.int 24 tk)) (mB : mg "BadTally" = some (.ref CB)) (cB : ExcC K CB) (mN : mg "BadNumber" = some (.ref CN)) (cN : ExcC K CN) : FnOk P w K mg base (CXE P w) 3 f fd ["tally", "most", "wall"] (spShowsW K CB) := by
 have GT : FnOk P w K mg base (CXE P w) 2 fT fdT ["tally"] (spChT K CB) := (ok_chT FT B mM mB cB).mono (by decide)
 have GL : FnOk P w K mg base CX0 2 fβ fdβ ["numbers"] (spBelow K) := (ok_below Fβ B).mono (by decide)
 have GR : FnOk P w K mg base (CXE P w) 2 fρ fdρ ["tally", "most", "r"] (spRoomW K CB CN) := ok_roomW Fρ B FT bT mT FF bF mF FA bA mA mM mB cB mN cN
 refine F.okX scShowsW (fun vs H Q E h => ?_) (fun cdv A outer s H vs Q E hr h => ?_)
 ·obtain ⟨a, p, ns, M, x, rfl, _⟩ := h
  rfl
 ·obtain ⟨a, p, ns, M, x, rfl, hS, hM, hp, h1, h2⟩ := h
  have hsl := sl1000
  have hun := hr.units
  refine ⟨_, pss_cons (ps_expr (pe_call GT hr (by rfl) mT FT.kp bT .nil passE (pa_cons (pv 0) pa_nil)))
    (pss_cons (ps_if (pt_cmpR op_eq (pe_ix ix_tup (pv 2) pe_int (fun _ _ => rfl)) pe_str (nomark _)) (pss_one (ps_ret (pe_cmpR op_eq (pe_op op_mod (pe_callB (call_sumS rfl) (by rfl) B.sum (by rfl) (pa_cons (pv 0) pa_nil)) pe_int) pe_int (nomark _)))) pss_nil)
    (pss_cons (ps_if (pt_cmpR op_eq (pe_ix ix_tup (pv 2) pe_int (fun _ _ => rfl)) pe_str (nomark _)) (pss_one (ps_ret (pe_cmpR op_inD (pe_ix ix_tup (pv 2) pe_int (fun _ _ => rfl)) (pe_call GL hr (by rfl) mβ Fβ.kp bβ .nil pass0 (pa_cons (pv 0) pa_nil)) (by rfl)))) pss_nil)
    (pss_one (ps_ret (pe_and (pe_chain op_le op_le pe_int (pe_ix ix_tup (pv 2) pe_int (fun _ _ => rfl)) (pe_callB call_len_seq (by rfl) B.len PySem.boot_len (pa_cons (pv 0) pa_nil)))
      (pe_one (pe_cmpR op_lt (pe_call GR hr (by rfl) mρ Fρ.kp bρ .nil passE (pa_cons (pv 0) (pa_cons (pv 1) (pa_cons (pe_ix ix_tup (pv 2) pe_int (fun _ _ => rfl)) pa_nil)))) pe_int (nomark _)))))))), ?_⟩
  refine ⟨_, rfl, a, ns, rfl, hS, fun ht => ?_, h2⟩
  have t2 := ht.2
  have h1 := fun Q' => h1 ht Q'
  cases x with
  | odd =>
   refine ⟨_, rfl, p, _, _, _, rfl, rfl, hp, at_on, rfl, _, rfl, ?_⟩
   rw [decide_eq_true rfl]
   refine iteT ⟨_, rfl, a, ns, rfl, hS, _, _, rfl, rfl, (by show (0 : Int) < 2; decide), rfl, ?_⟩
   rw [dec_i]
   exact h1 _ (Same.refl H)
  | below z =>
   refine ⟨_, rfl, p, _, _, _, rfl, rfl, hp, at_st, rfl, _, rfl, ?_⟩
   rw [decide_eq_false ne_bo]
   refine iteF ⟨_, rfl, p, _, _, _, rfl, rfl, hp, at_st, rfl, _, rfl, ?_⟩
   rw [decide_eq_true rfl]
   refine iteT ⟨_, rfl, p, _, _, _, rfl, rfl, hp, at_nd, _, rfl, a, ns, rfl, hS, by omega, fun l H1 s1 hl g1 => ?_⟩
   exact in_intsW hun (SqL.of g1) (h1 _ s1)
  | wall z =>
   refine ⟨_, rfl, p, _, _, _, rfl, rfl, hp, at_st, rfl, _, rfl, ?_⟩
   rw [decide_eq_false ne_wo]
   refine iteF ⟨_, rfl, p, _, _, _, rfl, rfl, hp, at_st, rfl, _, rfl, ?_⟩
   rw [decide_eq_false ne_wb]
   refine iteF ⟨_, rfl, p, _, _, _, rfl, rfl, hp, at_nd, _, _, rfl, rfl, _, rfl, ?_⟩
   have no : ¬ (1 <= z /\ z <= (ns.length : Int)) -> Q (.bl false) H := fun hz => by
    have e2 : shwM ns M (.wall z) = false := decide_eq_false fun q => hz ⟨q.1, q.2.1⟩
    have := h1 _ (Same.refl H)
    rw [e2] at this
    exact this
   by_cases hz1 : (1 : Int) <= z
   ·rw [decide_eq_true hz1]
    refine iteT ⟨_, rfl, a, _, rfl, hS, _, _, rfl, rfl, _, rfl, ?_⟩
    rw [List.length_map]
    by_cases hz2 : z <= (ns.length : Int)
    ·rw [decide_eq_true hz2]
     refine iteT ⟨_, rfl, _, rfl, _, rfl, p, _, _, _, rfl, rfl, hp, at_nd, a, ns, M, z, rfl, hS, hM, fun _ _ H' s' => ?_, fun _ h => absurd ⟨by omega, hz2⟩ h, fun h => absurd ht h⟩
     refine ⟨_, _, rfl, rfl, ?_⟩
     have e : shwM ns M (.wall z) = decide (roomM ns M z.toNat < 0) := by
      show decide (_ /\ _ /\ _) = _
      by_cases h : roomM ns M z.toNat < 0
      ·rw [decide_eq_true h, decide_eq_true ⟨hz1, hz2, h⟩]
      ·rw [decide_eq_false h, decide_eq_false fun q => h q.2.2]
     have := h1 _ s'
     rw [e] at this
     exact this
    ·rw [decide_eq_false hz2]
     exact iteF (no fun q => hz2 q.2)
   ·rw [decide_eq_false hz1]
    refine iteF ⟨_, rfl, iteF (no fun q => hz1 q.1)⟩
end
end Web
namespace L2
open PySem PySem.Spec PyProof.Rows
section
variable {X : Cx} {a b c d : Expr} {ta tb tc td : TE} {pos : Pos}
end
end L2
namespace HT
open PySem PyProof.Rows
section
open PySem.SeqAt
open PySem.AutoSeq1 (wpAny_loadPart')
open PySem.MeetsSeq PySem.MeetsSeq2 PySem.MeetsSeq3
end
end HT
namespace L2
open PySem PySem.Spec PyProof.Rows
section
variable {X : Cx}
end
end L2
namespace Web
open PySem L2
theorem cnt3_one (u v : Nat) (m : Int) (i : Nat) : cnt3 [[(u : Int), (v : Int), m]] i = (if u = i then m else 0) + (if v = i then m else 0) := by
 show (if (u : Int) = (i : Int) then m else 0) + (if (v : Int) = (i : Int) then m else 0) + 0 = _
 rw [Int.add_zero]
 congr 1
 ·by_cases h : u = i
  ·rw [if_pos h, if_pos (by omega)]
  ·rw [if_neg h, if_neg (by omega)]
 ·by_cases h : v = i
  ·rw [if_pos h, if_pos (by omega)]
  ·rw [if_neg h, if_neg (by omega)]
theorem getD_setI {ts : List Int} {i j : Nat} {x : Int} (hi : i < ts.length) : (ts.set i x).getD j 0 = if i = j then x else ts.getD j 0 := by
 rw [List.getD_eq_getElem?_getD, List.getElem?_set, List.getD_eq_getElem?_getD]
 by_cases h : i = j
 ·rw [if_pos h, if_pos h, if_pos hi]; rfl
 ·rw [if_neg h, if_neg h]
def cntL (n : Nat) (ks : List (List Int)) : List Int := (List.range n).map (cnt3 ks)
theorem cntL_put {n u v : Nat} {m : Int} {ks : List (List Int)} (hu : u < n) (hv : v < n) (hne : u ≠ v) :
  ((cntL n ks).set u ((cntL n ks).getD u 0 + m)).set v (((cntL n ks).set u ((cntL n ks).getD u 0 + m)).getD v 0 + m) = cntL n (ks ++ [[(u : Int), (v : Int), m]]) := by
 have l0 : (cntL n ks).length = n := by unfold cntL; rw [List.length_map, List.length_range]
 have l1 : (cntL n (ks ++ [[(u : Int), (v : Int), m]])).length = n := by unfold cntL; rw [List.length_map, List.length_range]
 have g : ∀ {qs : List (List Int)} {i : Nat}, i < n -> (cntL n qs).getD i 0 = cnt3 qs i := fun hi => getD_rmap hi
 refine list_getD (by rw [List.length_set, List.length_set, l0, l1]) fun i hi => ?_
 rw [l1] at hi
 rw [getD_setI (by rw [List.length_set]; omega), getD_setI (by omega), getD_setI (by omega), g hi, g hi, cnt3_app, cnt3_one, g hu, g hv]
 by_cases e1 : v = i
 ·subst e1
  rw [if_pos rfl, if_neg hne, if_neg hne, if_pos rfl]
  omega
 ·rw [if_neg e1, if_neg e1]
  by_cases e2 : u = i
  ·subst e2
   rw [if_pos rfl, if_pos rfl]
   omega
  ·rw [if_neg e2, if_neg e2]
   omega
theorem cntL_eq {n : Nat} {ks : List (List Int)} {os : List Int} (hl : os.length = n) (h : ∀ i, i < n -> cnt3 ks i = os.getD i 0) : cntL n ks = os := by
 refine list_getD (by unfold cntL; rw [List.length_map, List.length_range, hl]) fun i hi => ?_
 unfold cntL
 rw [getD_rmap (by omega)]
 exact h i (by omega)
def two (k : List Int) : List Int := [k.getD 0 0, k.getD 1 0]
theorem lex2_two {k k' : List Int} (h : lex2 k k') : two k ≠ two k' /\ Tim.lexB (two k') (two k) = false := by
 unfold lex2 at h
 unfold two
 generalize k.getD 0 0 = a at h ⊢
 generalize k.getD 1 0 = b at h ⊢
 generalize k'.getD 0 0 = c at h ⊢
 generalize k'.getD 1 0 = d at h ⊢
 constructor
 ·intro e
  injection e with e1 e2
  injection e2 with e2 _
  omega
 ·unfold Tim.lexB Tim.lexB
  by_cases e1 : c = a
  ·rw [if_pos e1]
   by_cases e2 : d = b
   ·omega
   ·rw [if_neg e2]
    exact decide_eq_false (by omega)
  ·rw [if_neg e1]
   exact decide_eq_false (by omega)
theorem tld_two {n M : Nat} {ks : List (List Int)} (tr : ∀ k ∈ ks, tri n M k) (pw : ks.Pairwise lex2) : Tld n (ks.map two) := by
 refine ⟨fun k hk => ?_, ?_, ?_⟩
 ·obtain ⟨q, hq, rfl⟩ := List.mem_map.mp hk
  obtain ⟨i, j, x, rfl, h1, h2, _⟩ := tr q hq
  exact ⟨i, j, h1, h2, rfl⟩
 ·refine List.nodup_iff_pairwise_ne.mpr (List.pairwise_map.mpr (pw.imp fun h => (lex2_two h).1))
 ·exact List.pairwise_map.mpr (pw.imp fun h => (lex2_two h).2)
seal L2.PE L2.PA L2.PS L2.PSs L2.PT
section
variable {P : Program} {w : World} {K : W.Frag} {mg : Str -> Option Value} {base : Heap}
def spTTl (K : W.Frag) : Sp := fun vs H Q _ => ∃ (b t : Addr) (n : Nat) (zs : List V) (ks : List (List Int)), vs = [.ref b] /\ n <= 24 /\ SqT K H b [.int n, .ref t] /\ SqT K H t zs /\ Tups K H zs ks /\ (∃ M : Nat, ∀ k ∈ ks, tri n M k) /\ ∀ (l : Addr) (H' : Hp), Same H H' -> H l = none -> H' l = some (.lst ((cntL n ks).map V.int)) -> Q (.ref l) H'
theorem scTTl : FnScope ["web", "tally", "one", "other", "many"] ["web"] (defScope sTTl) := ⟨rfl, rfl, rfl, by decide +kernel, rfl, by decide +kernel, by decide +kernel⟩
theorem ok_ttl {f : Addr} {fd : FuncData} (F : Fun K "thick_tally" "thick_tally" sTTl f fd) : FnOk P w K mg base CX0 1 f fd ["web"] (spTTl K) := by
 refine F.ok scTTl (fun vs H Q E h => ?_) (fun cdv A outer s H vs Q E hr h => ?_)
 ·obtain ⟨b, a, n, zs, ks, rfl, _⟩ := h
  rfl
 ·obtain ⟨b, a, n, zs, ks, rfl, hn, hb, hS, hT, ⟨M, htr⟩, q⟩ := h
  have hsl := sl1000
  refine ⟨_, pss_cons (ps_set (i := 1) scTTl.nd rfl (Or.inl rfl) (pe_op op_rep (pe_lst (pa_cons pe_int pa_nil)) (pe_ix ix_tup (pv 0) pe_int (fun _ _ => rfl))))
   (pss_cons (ps_for PassesOwn.never rfl (pi_tup (pe_ix ix_tup (pv 0) pe_int (fun _ _ => rfl))) (pg_tup rfl (pgs_cons (pg_name (i := 2) scTTl.nd rfl (Or.inl rfl)) (pgs_cons (pg_name (i := 3) scTTl.nd rfl (Or.inl rfl)) (pgs_cons (pg_name (i := 4) scTTl.nd rfl (Or.inl rfl)) pgs_nil))))
    (pss_cons (ps_augS (pv 1) (pv 2) get_list (pv 4) ip_add set_list) (pss_one (ps_augS (pv 1) (pv 3) get_list (pv 4) ip_add set_list))))
   (pss_one (ps_ret (pv 1)))), ?_⟩
  have a0 : atI ([.int n, .ref a] : List V) 0 = some (.int n) := atI_nat (j := 0) rfl
  have a1 : atI ([.int n, .ref a] : List V) 1 = some (.ref a) := atI_nat (j := 1) rfl
  have hk := fit63 (k := (n : Int)) (by omega) (by omega)
  refine ⟨(by show 1 <= sizeLine; decide), fun l0 f0 => ?_⟩
  have s0 := same_upd (o := .lst [.int 0]) f0
  refine ⟨_, rfl, b, _, _, _, rfl, rfl, s0.seqT hb, a0, l0, _, _, rfl, rfl, upd_same, hk.1, hk.2, by show 1 * _ <= sizeLine; omega, fun l hl => ?_⟩
  have hlH : H l = none := s0.free hl
  rw [Int.toNat_natCast, rep0i]
  have e00 : List.replicate n (0 : Int) = cntL n [] := by
   refine list_getD (by unfold cntL; rw [List.length_replicate, List.length_map, List.length_range]) fun i hi => ?_
   unfold cntL at hi ⊢
   rw [List.length_map, List.length_range] at hi
   rw [getD_rmap hi, List.getD_eq_getElem?_getD, List.getElem?_replicate, if_pos hi]
   rfl
  rw [e00]
  have sA := s0.trans (same_upd (o := .lst ((cntL n []).map V.int)) hl)
  have gA : (upd (upd H l0 (.lst [.int 0])) l (.lst ((cntL n []).map V.int))) l = some (.lst ((cntL n []).map V.int)) := upd_same
  generalize upd (upd H l0 (.lst [.int 0])) l (.lst ((cntL n []).map V.int)) = HA at sA gA
  have hzl := hT.len
  have lC : ∀ qs, (cntL n qs).length = n := fun qs => by unfold cntL; rw [List.length_map, List.length_range]
  refine ⟨_, rfl, b, _, _, _, rfl, rfl, sA.seqT hb, a1, a, rfl, ⟨_, sA.seqT hS⟩, ?_⟩
  refine for_tup (K := K) (a := a) (xs := zs) (fun j σ H2 => ∃ (e3 e4 e5 : Option V), σ = [some (.ref b), some (.ref l), e3, e4, e5] /\ Same H H2 /\ H2 l = some (.lst ((cntL n (ks.take j)).map V.int)))
   ⟨none, none, none, rfl, sA, by rw [List.take_zero]; exact gA⟩ (fun i σ H2 _ ⟨_, _, _, _, s, _⟩ => s.seqT hS) ?_ ?_
  ·rintro i x σ H2 hx ⟨e3, e4, e5, rfl, s2, g2⟩
   obtain ⟨pa, pk, rfl, hk', hq⟩ := hT.get hx
   obtain ⟨u, v, m, rfl, huv, hv, _⟩ := htr _ (List.mem_of_getElem? hk')
   have hu' : u < (cntL n (ks.take i)).length := by rw [lC]; omega
   refine ⟨pa, _, rfl, s2.seqT hq, rfl, _, _, rfl, _, _, rfl, _, _, rfl, rfl, ?_⟩
   refine ⟨_, rfl, _, rfl, l, _, _, _, rfl, rfl, SqL.of g2, at_int hu', _, rfl, _, _, rfl, rfl, l, _, _, u, rfl, rfl, g2, ixN_nat (by rw [List.length_map]; exact hu'), ?_⟩
   rw [set_map_int]
   have hv2 : v < ((cntL n (ks.take i)).set u ((cntL n (ks.take i)).getD u 0 + m)).length := by rw [List.length_set, lC]; omega
   refine ⟨_, rfl, _, rfl, l, _, _, _, rfl, rfl, SqL.of upd_same, at_int hv2, _, rfl, _, _, rfl, rfl, l, _, _, v, rfl, rfl, upd_same, ixN_nat (by rw [List.length_map]; exact hv2), ?_⟩
   rw [set_map_int, upd_upd, cntL_put (by omega) hv (by omega)]
   refine ⟨_, _, _, rfl, s2.upd hlH, ?_⟩
   rw [upd_same, List.take_add_one, hk']
   rfl
  ·rintro σ H2 ⟨e3, e4, e5, rfl, s2, g2⟩
   rw [List.take_of_length_le (by omega)] at g2
   exact ⟨_, rfl, q l H2 s2 hlH g2⟩
end
end Web
namespace Web
open PySem L2
theorem free_shw {ns : List Int} {M : Nat} (h : IsWlM ns M .free) (x : Wz) : shwM ns M x = false := by
 cases x with
 | odd => exact decide_eq_false h.2.1
 | below p =>
  refine decide_eq_false fun z => ?_
  obtain ⟨h1, h2, h3⟩ := (bel_mem ns p).mp z
  have hl : p.toNat < ns.length := by omega
  have := h.1 p.toNat (ns.getD p.toNat 0) (by rw [List.getD_eq_getElem?_getD, List.getElem?_eq_getElem hl]; rfl)
  omega
 | wall r =>
  refine decide_eq_false fun ⟨h1, h2, h3⟩ => ?_
  have := h.2.2 r.toNat (by omega) (by omega)
  omega
def allM (M : Nat) (ks : List (List Int)) : Bool := ks.all fun k => decide (k.getD 2 0 <= (M : Int))
theorem allM_of {n M M0 : Nat} {ks : List (List Int)} (h : ∀ k ∈ ks, tri n M0 k) (hM : M0 <= M) : allM M ks = true := by
 refine List.all_eq_true.mpr fun k hk => ?_
 obtain ⟨i, j, x, rfl, _, _, _, h4⟩ := h k hk
 exact decide_eq_true (show x <= (M : Int) by omega)
seal L2.PE L2.PA L2.PS L2.PSs L2.PT
section
variable {P : Program} {w : World} {K : W.Frag} {mg : Str -> Option Value} {base : Heap}
def spIsO (K : W.Frag) : Sp := fun vs H Q _ => ∃ (a b : Addr) (os : List Int) (M M0 : Nat) (ks : List (List Int)), vs = [.ref a, .int M, .ref b] /\ Sq K H a os /\ isTl os /\ ThW K H b os M0 ks /\ ∀ H', Same H H' -> Q (.bl (allM M ks)) H'
theorem scIsO : FnScope ["tally", "most", "web", "thin"] ["tally", "most", "web"] (defScope sIsO) := ⟨rfl, rfl, rfl, by decide +kernel, rfl, by decide +kernel, by decide +kernel⟩
set_option maxHeartbeats 2000000 in
theorem ok_isO {f fT fL : Addr} {fd fdT fdL : FuncData} (F : Fun K "is_thick_web_of" "is_thick_web_of" sIsO f fd) (B : Bn mg) (FT : Fun K "is_told" "is_told" sIsTold fT fdT) (bT : Binds K fdT ["web"] []) (mT : mg "is_told" = some (.ref fT)) (GT : FnOk P w K mg base CX0 4 fT fdT ["web"] (spTold K))
  (FL : Fun K "thick_tally" "thick_tally" sTTl fL fdL) (bL : Binds K fdL ["web"] []) (mL : mg "thick_tally" = some (.ref fL)) : FnOk P w K mg base CX0 5 f fd ["tally", "most", "web"] (spIsO K) := by
 have GL : FnOk P w K mg base CX0 4 fL fdL ["web"] (spTTl K) := (ok_ttl FL).mono (by decide)
 refine F.ok scIsO (fun vs H Q E h => ?_) (fun cdv A outer s H vs Q E hr h => ?_)
 ·obtain ⟨a, b, os, M, M0, ks, rfl, _⟩ := h
  rfl
 ·obtain ⟨a, b, os, M, M0, ks, rfl, hS, ht, ⟨⟨t, zs, h1, h2, h3⟩, tr, pw, ct, hlen⟩, q⟩ := h
  have hun := hr.units
  have hsl := sl1000
  have nd1 : (["triple"] : List Str).Nodup := by decide +kernel
  have nd2 : (["triple", "most"] : List Str).Nodup := by decide +kernel
  refine ⟨_, pss_cons (ps_set (i := 3) scIsO.nd rfl (Or.inl rfl) (pe_tup (pa_cons (pe_ix ix_tup (pv 2) pe_int (fun _ _ => rfl)) (pa_cons (pe_callTy call_tuple_of (by rfl) B.tuple (by rfl) (pa_cons
     (pe_comp (N' := ["triple"]) (lk := [none]) rfl (pi_tup (pe_ix ix_tup (pv 2) pe_int (fun _ _ => rfl))) (by rfl) rfl (by decide +kernel) (by exact trivial) (by rfl) (by exact LkL.ok trivial)
      (fun _ _ _ => pg_name (i := 0) nd1 rfl (Or.inl rfl)) (fun _ _ _ => pts_nil) (fun _ _ _ => pe_tup (pa_cons (pe_ixTK K rfl (pv 0) pe_int (fun _ _ => rfl)) (pa_cons (pe_ixTK K rfl (pv 0) pe_int (fun _ _ => rfl)) pa_nil)))) pa_nil)) pa_nil))))
   (pss_cons (ps_if (PW.pt (pw_or (pt_not (pt_val (pe_call GT hr (by rfl) mT FT.kp bT .nil pass0 (pa_cons (pv 3) pa_nil))))
     (pw_or1 (pt_not (pt_val (pe_callB (call_allB rfl) (by rfl) B.all boot_all (pa_cons
     (pe_comp (N' := ["triple", "most"]) (lk := [none, some 1]) rfl (pi_tup (pe_ix ix_tup (pv 2) pe_int (fun _ _ => rfl))) (by rfl) rfl (by decide +kernel) (by exact ⟨rfl, trivial⟩) (by rfl) (by exact LkL.ok ⟨⟨rfl, Or.inl rfl, rfl, Or.inl rfl⟩, trivial⟩)
      (fun _ _ _ => pg_name (i := 0) nd2 rfl (Or.inl rfl)) (fun _ _ _ => pts_nil) (fun _ _ _ => pe_chain op_le op_le pe_int (pe_ixTK K rfl (pv 0) pe_int (fun _ _ => rfl)) (pv 1))) pa_nil))))))) (pss_one (ps_ret pe_bl)) pss_nil)
   (pss_one (ps_ret (pe_cmpR op_eqD (pe_call GL hr (by rfl) mL FL.kp bL .nil pass0 (pa_cons (pv 2) pa_nil)) (pe_callTy call_list_of (by rfl) B.list (by rfl) (pa_cons (pv 0) pa_nil)) (nomark _))))), ?_⟩
  have a0 : atI ([.int os.length, .ref t] : List V) 0 = some (.int os.length) := atI_nat (j := 0) rfl
  have a1 : atI ([.int os.length, .ref t] : List V) 1 = some (.ref t) := atI_nat (j := 1) rfl
  have hb := SqT.of (K := K) h1
  have htt := SqT.of (K := K) h2
  have hzl := h3.len
  refine ⟨_, rfl, b, _, _, _, rfl, rfl, hb, a0, _, rfl, b, _, _, _, rfl, rfl, hb, a1, t, rfl, ⟨_, htt⟩, fun D hD => comp_tup (K := K) (a := t) (D := D) (ys := zs) (fun i xs σ' H' => (∃ v, σ' = [v]) /\ Same H H' /\ H' D = some (.lst xs) /\ Tups K H' xs ((ks.take i).map two))
   ⟨⟨none, rfl⟩, same_upd hD, upd_same, by rw [List.take_zero]; exact .nil⟩ (by omega) (fun i xs σ' H' hi ⟨_, s6, h6, t6⟩ => ⟨s6.seqT htt, h6, by have := t6.len; rw [List.length_map, List.length_take] at this; omega⟩) ?_ ?_⟩
  ·rintro i xs x σ' H' N kN hx ⟨⟨v, rfl⟩, s6, h6, t6⟩
   obtain ⟨pa, pk, rfl, hk', hq⟩ := h3.get hx
   obtain ⟨u, v', m, rfl, _⟩ := tr _ (List.mem_of_getElem? hk')
   have b0 : atI (([(u : Int), (v' : Int), m] : List Int).map V.int) 0 = some (.int u) := atI_nat (j := 0) rfl
   have b1 : atI (([(u : Int), (v' : Int), m] : List Int).map V.int) 1 = some (.int v') := atI_nat (j := 1) rfl
   refine gName_to (tTrue_if ?_)
   refine ⟨_, rfl, pa, _, _, _, rfl, rfl, s6.seqT hq, b0, _, rfl, pa, _, _, _, rfl, rfl, s6.seqT hq, b1, (by show 2 <= sizeLine; decide), fun p fp => ?_⟩
   have sp := same_upd (o := .tup [.int (u : Int), .int (v' : Int)]) fp
   have h6' := sp _ _ h6
   refine ⟨h6', kN _ _ _ ⟨⟨_, rfl⟩, (s6.trans sp).upd hD, upd_same, ?_⟩⟩
   rw [List.take_add_one, hk', List.map_append]
   exact Tups.updL h6' (Tups.append (sp.tups t6) (Tups.one (SqT.of upd_same)))
  ·rintro xs σ' H1 ⟨⟨v, rfl⟩, s1, g1, t1⟩
   rw [List.take_of_length_le (by omega)] at t1
   refine ⟨D, _, rfl, .inl ⟨SqL.of g1, fun l hl => ?_⟩⟩
   have sl := same_upd (o := .tup xs) hl
   refine ⟨(by show 2 <= sizeLine; decide), fun p fp => ?_⟩
   have sp := same_upd (o := .tup [.int os.length, .ref l]) fp
   have s3 := s1.trans (sl.trans sp)
   have T := tld_two tr pw
   have hw : WebAt K (upd (upd H1 l (.tup xs)) p (.tup [.int os.length, .ref l])) p os.length (ks.map two) := ⟨l, xs, SqT.of upd_same, SqT.of (sp _ _ upd_same), (sl.trans sp).tups t1⟩
   generalize upd (upd H1 l (.tup xs)) p (.tup [.int os.length, .ref l]) = H2 at s3 hw ⊢
   refine ⟨_, rfl, p, os.length, _, rfl, hw, ht.1, ht.2, T, fun H3 s4 => ⟨_, rfl, iteF ?_⟩⟩
   have s34 := s3.trans s4
   refine ⟨_, rfl, b, _, _, _, rfl, rfl, s34.seqT hb, a1, t, rfl, ⟨_, s34.seqT htt⟩, fun D2 hD2 => comp_tup (K := K) (a := t) (D := D2) (ys := zs) (fun i xs σ' H' => (∃ v, σ' = [v, some (.int M)]) /\ Same H3 H' /\ H' D2 = some (.lst xs) /\ xs = ((ks.take i).map fun k => decide (k.getD 2 0 <= (M : Int))).map V.bl)
    ⟨⟨none, rfl⟩, same_upd hD2, upd_same, by rw [List.take_zero]; rfl⟩ (by omega) (fun i xs σ' H' hi ⟨_, s6, h6, e6⟩ => ⟨(s34.trans s6).seqT htt, h6, by rw [e6, List.length_map, List.length_map, List.length_take]; omega⟩) ?_ ?_⟩
   ·rintro i xs x σ' H' N kN hx ⟨⟨v, rfl⟩, s6, h6, rfl⟩
    obtain ⟨pa, pk, rfl, hk', hq⟩ := h3.get hx
    obtain ⟨u, v', m, rfl, _, _, m1, m2⟩ := tr _ (List.mem_of_getElem? hk')
    have b2 : atI (([(u : Int), (v' : Int), m] : List Int).map V.int) 2 = some (.int m) := atI_nat (j := 2) rfl
    refine gName_to (tTrue_if ?_)
    refine ⟨_, rfl, pa, _, _, _, rfl, rfl, (s34.trans s6).seqT hq, b2, _, _, rfl, rfl, _, rfl, ?_⟩
    rw [decide_eq_true m1]
    refine iteT ⟨_, rfl, _, _, rfl, rfl, ?_⟩
    refine ⟨h6, kN _ _ _ ⟨⟨_, rfl⟩, s6.upd hD2, upd_same, ?_⟩⟩
    show _ ++ [V.bl (decide (m <= (M : Int)))] = _
    rw [List.take_add_one, hk', List.map_append, List.map_append]
    rfl
   ·rintro xs σ' H4 ⟨⟨v, rfl⟩, s5, g5, rfl⟩
    rw [List.take_of_length_le (by omega)] at g5
    refine ⟨D2, _, rfl, g5, ?_⟩
    have s45 := s34.trans s5
    have e : (ks.map fun k => decide (k.getD 2 0 <= (M : Int))).all id = allM M ks := by rw [List.all_map]; rfl
    rw [e]
    cases hab : allM M ks with
    | false =>
     rw [hab] at q
     exact ⟨_, rfl, iteT (q _ s45)⟩
    | true =>
    rw [hab] at q
    refine ⟨_, rfl, iteF ?_⟩
    refine ⟨_, rfl, b, t, os.length, zs, ks, rfl, ht.2, s45.seqT hb, s45.seqT htt, s45.tups h3, ⟨M0, tr⟩, fun l9 H9 s9 _ g9 => ?_⟩
    rw [cntL_eq rfl ct] at g9
    refine ⟨_, rfl, a, _, rfl, (hS.same (s45.trans s9)), fun l10 f10 => ?_⟩
    have s10 := same_upd (o := .lst (os.map V.int)) f10
    refine ⟨.list (os.map .int), .list (os.map .int), Dt.mkLi (SqL.of (s10 _ _ g9)), Dt.mkLi (SqL.of upd_same), lay_li _, lay_li _, ?_, ?_⟩
    ·refine un_lt hun (Nat.le_trans (Nat.min_le_left _ _) ?_)
     have := dep_li os
     omega
    ·have := q _ ((s45.trans s9).trans s10)
     rw [<- decide_eq_true (rfl : os = os), <- eqv_li] at this
     exact this
def spThS (K : W.Frag) : Sp := fun vs H Q _ => ∃ (a r : Addr) (os : List Int) (M : Nat), vs = [.ref a, .int M, .ref r] /\ Sq K H a os /\ isTl os /\ 1 <= M /\ M <= 1000000 /\ ((∃ (b : Addr) (x : Wz), SqT K H r [.str "wall", .ref b] /\ SqT K H b (wzT x) /\ ∀ H', Same H H' -> Q (.bl (shwM os M x)) H') \/ (∃ (b : Addr) (M0 : Nat) (ks : List (List Int)), SqT K H r [.str "web", .ref b] /\ ThW K H b os M0 ks /\ ∀ H', Same H H' -> Q (.bl (allM M ks)) H'))
theorem scThS : FnScope ["tally", "most", "told"] ["tally", "most", "told"] (defScope sThS) := ⟨rfl, rfl, rfl, by decide +kernel, rfl, by decide +kernel, by decide +kernel⟩
theorem ok_thS {f fK fO fσ CB CN : Addr} {fd fdK fdO fdσ : FuncData} (F : Fun K "thick_shows" "thick_shows" sThS f fd) (FK : Fun K "check_most" "check_most" sCkM fK fdK) (bK : Binds K fdK ["tally", "most"] []) (mK : mg "check_most" = some (.ref fK)) (GK : FnOk P w K mg base (CXE P w) 5 fK fdK ["tally", "most"] (spCkM K CB CN))
  (FO : Fun K "is_thick_web_of" "is_thick_web_of" sIsO fO fdO) (bO : Binds K fdO ["tally", "most", "web"] []) (mO : mg "is_thick_web_of" = some (.ref fO)) (GO : FnOk P w K mg base CX0 5 fO fdO ["tally", "most", "web"] (spIsO K))
  (Fσ : Fun K "wall_shows_with" "wall_shows_with" sShowsW fσ fdσ) (bσ : Binds K fdσ ["tally", "most", "wall"] []) (mσ : mg "wall_shows_with" = some (.ref fσ)) (Gσ : FnOk P w K mg base (CXE P w) 5 fσ fdσ ["tally", "most", "wall"] (spShowsW K CB)) : FnOk P w K mg base CX0 6 f fd ["tally", "most", "told"] (spThS K) := by
 refine F.ok scThS (fun vs H Q E h => ?_) (fun cdv A outer s H vs Q E hr h => ?_)
 ·obtain ⟨a, r, os, M, rfl, _⟩ := h
  rfl
 ·obtain ⟨a, r, os, M, rfl, hS, ht, m1, m2, ans⟩ := h
  refine ⟨_, pss_cons (ps_expr (pe_call GK hr (by rfl) mK FK.kp bK .nil (passN (P := P) (w := w)) (pa_cons (pv 0) (pa_cons (pv 1) pa_nil))))
   (pss_cons (ps_if (pt_cmpR op_eq (pe_ix ix_tup (pv 2) pe_int (fun _ _ => rfl)) pe_str (nomark _)) (pss_one (ps_ret (pe_call GO hr (by rfl) mO FO.kp bO .nil pass0 (pa_cons (pv 0) (pa_cons (pv 1) (pa_cons (pe_ix ix_tup (pv 2) pe_int (fun _ _ => rfl)) pa_nil)))))) pss_nil)
   (pss_one (ps_ret (pe_call Gσ hr (by rfl) mσ Fσ.kp bσ .nil (passN (P := P) (w := w)) (pa_cons (pv 0) (pa_cons (pv 1) (pa_cons (pe_ix ix_tup (pv 2) pe_int (fun _ _ => rfl)) pa_nil))))))), ?_⟩
  have hM : isM (M : Int) := ⟨by omega, by omega⟩
  refine ⟨_, rfl, _, rfl, a, os, (M : Int), rfl, hS, fun _ _ => ?_, fun _ h => absurd hM h, fun h => absurd ht h⟩
  rcases ans with ⟨b, x, hr1, k4, q⟩ | ⟨b, M0, ks, hr1, k2, q⟩
  ·refine ⟨_, rfl, r, _, _, _, rfl, rfl, hr1, at_st, rfl, _, rfl, ?_⟩
   rw [decide_eq_false (by decide +kernel)]
   refine iteF ?_
   exact ⟨_, rfl, _, rfl, _, rfl, r, _, _, _, rfl, rfl, hr1, at_nd, a, b, os, M, x, rfl, hS, m2, k4, fun _ H' s' => q _ s', fun h => absurd ht h⟩
  ·refine ⟨_, rfl, r, _, _, _, rfl, rfl, hr1, at_st, rfl, _, rfl, ?_⟩
   rw [decide_eq_true rfl]
   refine iteT ?_
   exact ⟨_, rfl, _, rfl, _, rfl, r, _, _, _, rfl, rfl, hr1, at_nd, a, b, os, M, M0, ks, rfl, hS, ht, k2, q⟩
end
end Web
namespace Web
open PySem L2
theorem lex2_of {k k' : List Int} (h : Tim.lexB (two k) (two k') = true) : lex2 k k' := by
 unfold two at h
 unfold lex2
 unfold Tim.lexB Tim.lexB at h
 by_cases e1 : k.getD 0 0 = k'.getD 0 0
 ·rw [if_pos e1] at h
  by_cases e2 : k.getD 1 0 = k'.getD 1 0
  ·rw [if_pos e2] at h
   exact Bool.noConfusion (show false = true from h)
  ·rw [if_neg e2] at h
   exact .inr ⟨e1, of_decide_eq_true h⟩
 ·rw [if_neg e1] at h
  exact .inl (of_decide_eq_true h)
theorem lex2_sub {n : Nat} {ks : List (List Int)} (h : (ks.map two).Sublist (pairsN n)) : ks.Pairwise lex2 := (List.pairwise_map.mp (asc_sub h (asc_pairs n))).imp lex2_of
theorem three_of (M : Nat) (hM : M <= 1000000) (z : Int) (h : 0 <= z /\ z < 3) : ∃ v : Int, atI ([.int 2, .int 4, .int ((M : Int) + 1)] : List V) z = some (.int v) /\ v <= 1000001 := by
 have : z = 0 \/ z = 1 \/ z = 2 := by omega
 rcases this with h | h | h
 ·rw [h]; exact ⟨_, atI_nat (j := 0) rfl, by omega⟩
 ·rw [h]; exact ⟨_, atI_nat (j := 1) rfl, by omega⟩
 ·rw [h]; exact ⟨_, atI_nat (j := 2) rfl, by omega⟩
seal L2.PE L2.PA L2.PS L2.PSs L2.PT
section
variable {P : Program} {w : World} {K : W.Frag} {mg : Str -> Option Value} {base : Heap}
def spThick (K : W.Frag) : Sp := fun vs H Q _ => ∃ (c : Int) (n M : Nat), vs = [.int c, .int n, .int M] /\ n <= 24 /\ 1 <= M /\ M <= 1000000 /\ ∀ (l : Addr) (zs : List V) (ks : List (List Int)) (H' : Hp), Same H H' -> H l = none -> H' l = some (.lst zs) -> Tups K H' zs ks -> (∀ k ∈ ks, tri n M k) -> ks.Pairwise lex2 -> ks.length <= 276 -> Q (.ref l) H'
theorem scThick : FnScope ["cell", "places", "most", "pairs", "one", "other", "size", "row", "triples", "k"] ["cell", "places", "most"] (defScope sThick) := ⟨rfl, rfl, rfl, by decide +kernel, rfl, by decide +kernel, by decide +kernel⟩
set_option maxHeartbeats 1000000 in
theorem ok_thick {f fR : Addr} {fd fdR : FuncData} (F : Fun K "_law_thick" "_law_thick" sThick f fd) (B : Bn mg) (FR : Fun K "_law_row" "_law_row" sRow fR fdR) (bR : Binds K fdR ["cell", "many", "size"] []) (mR : mg "_law_row" = some (.ref fR)) : FnOk P w K mg base CX0 2 f fd ["cell", "places", "most"] (spThick K) := by
 have GR : FnOk P w K mg base CX0 1 fR fdR ["cell", "many", "size"] (spRow K) := ok_row FR B
 refine F.ok scThick (fun vs H Q E h => ?_) (fun cdv A outer s H vs Q E hr h => ?_)
 ·obtain ⟨c, n, M, rfl, _⟩ := h
  rfl
 ·obtain ⟨c, n, M, rfl, hn, hM1, hM, q⟩ := h
  have hsl := sl1000
  have hlen := len_pairs n hn
  refine ⟨_, pss_cons (ps_set (i := 0) scThick.nd rfl (Or.inl rfl) (pe_op op_mod (pv 0) (pe_op op_pow pe_int pe_int)))
   (pss_cons (ps_set (i := 3) scThick.nd rfl (Or.inl rfl) (pe_lst pa_nil))
   (pss_cons (ps_for PassesOwn.never rfl (pi_range1 rfl B.range (pa_cons (pv 1) pa_nil)) (pg_name (i := 4) scThick.nd rfl (Or.inl rfl))
    (pss_one (ps_for PassesOwn.never rfl (pi_range2 rfl B.range (pa_cons (pe_op op_add (pv 4) pe_int) (pa_cons (pv 1) pa_nil))) (pg_name (i := 5) scThick.nd rfl (Or.inl rfl))
     (pss_one (ps_expr (pe_bm PySem.F.plainAttrs_list PySem.F.slot_list_append PySem.F.type_list_append mt_append (pv 3) (pa_cons (pe_tup (pa_cons (pv 4) (pa_cons (pv 5) pa_nil))) pa_nil)))))))
   (pss_cons (ps_set (i := 6) scThick.nd rfl (Or.inl rfl) (pe_ix ix_list (pe_lst (pa_cons pe_int (pa_cons pe_int (pa_cons (pe_op op_add (pv 2) pe_int) pa_nil)))) (pe_op op_mod (pv 0) pe_int) (fun _ _ => rfl)))
   (pss_cons (ps_set (i := 7) scThick.nd rfl (Or.inl rfl) (pe_call GR hr (by rfl) mR FR.kp bR .nil pass0 (pa_cons (pe_op op_fdiv (pv 0) pe_int) (pa_cons (pe_callB call_len_seq (by rfl) B.len PySem.boot_len (pa_cons (pv 3) pa_nil)) (pa_cons (pe_callB (call_max2 rfl) (by rfl) B.max (by rfl) (pa_cons (pv 6) (pa_cons pe_int pa_nil))) pa_nil)))))
   (pss_cons (ps_set (i := 8) scThick.nd rfl (Or.inl rfl) (pe_lst pa_nil))
   (pss_cons (ps_for PassesOwn.never rfl (pi_range1 rfl B.range (pa_cons (pe_callB call_len_seq (by rfl) B.len PySem.boot_len (pa_cons (pv 3) pa_nil)) pa_nil)) (pg_name (i := 9) scThick.nd rfl (Or.inl rfl))
    (pss_one (ps_if (pt_cmpR op_gt (pe_ix ix_list (pv 7) (pv 9) (fun _ _ => rfl)) pe_int (nomark _))
     (pss_one (ps_expr (pe_bm PySem.F.plainAttrs_list PySem.F.slot_list_append PySem.F.type_list_append mt_append (pv 8) (pa_cons (pe_op op_catT (pe_ix ix_list (pv 3) (pv 9) (fun _ _ => rfl)) (pe_tup (pa_cons (pe_callB (call_min2 rfl) (by rfl) B.min (by rfl) (pa_cons (pe_ix ix_list (pv 7) (pv 9) (fun _ _ => rfl)) (pa_cons (pv 2) pa_nil))) pa_nil))) pa_nil)))) pss_nil)))
   (pss_one (ps_ret (pv 8))))))))), ?_⟩
  refine ⟨_, rfl, _, _, rfl, rfl, ⟨by decide, by decide, by decide⟩, _, _, rfl, rfl, p60, ?_⟩
  refine gName_int fun c1 _ => ?_
  refine ⟨by show 0 <= sizeLine; omega, fun l hl => ?_⟩
  refine ⟨_, rfl, n, rfl, by omega, by omega, for_range (lo := 0) (n := n) (fun i σ H1 => ∃ a b zs, σ = [some (.int c1), some (.int n), some (.int M), some (.ref l), a, b, none, none, none, none] /\ Same H H1 /\ H1 l = some (.lst zs) /\ Tups K H1 zs ((List.range i).flatMap fun j => rowF j (n - (j + 1))))
   ⟨none, none, [], rfl, same_upd hl, upd_same, .nil⟩ ?_ ?_⟩
  ·rintro i σ H1 hi ⟨a, b, zs, rfl, s1, h1, t1⟩
   refine ⟨_, rfl, _, _, rfl, rfl, _, rfl, _, _, rfl, ⟨by omega, by omega, by omega, by omega⟩, for_range (lo := 0 + (i : Int) + 1) (fun d σ H2 => ∃ b zs, σ = [some (.int c1), some (.int n), some (.int M), some (.ref l), some (.int (0 + i)), b, none, none, none, none] /\ Same H H2 /\ H2 l = some (.lst zs) /\ Tups K H2 zs (((List.range i).flatMap fun j => rowF j (n - (j + 1))) ++ rowF i d))
    ⟨b, zs, rfl, s1, h1, by simpa [rowF] using t1⟩ ?_ ?_⟩
   ·rintro d σ H2 hd ⟨b, zs, rfl, s2, h2, t2⟩
    have hlz := t2.len
    have hpart := len_part n (i + 1) (by omega)
    rw [pairs_succ, List.length_append] at hpart
    have hrow : ∀ m, (rowF i m).length = m := fun m => by simp [rowF]
    rw [List.length_append, hrow] at hlz
    rw [hrow] at hpart
    refine ⟨_, rfl, .inl ⟨rfl, _, SqL.of h2⟩, _, rfl, _, rfl, (by show 2 <= sizeLine; decide), fun p hp => ?_⟩
    have hlp : l ≠ p := ne_of_none h2 hp
    have h2' : (upd H2 p (.tup [.int (0 + (i : Int)), .int (0 + (i : Int) + 1 + (d : Int))])) l = some (.lst zs) := by rw [upd_ne hlp]; exact h2
    refine ⟨l, zs, _, rfl, rfl, h2', by omega, ?_⟩
    refine ⟨_, _, rfl, (s2.trans (same_upd hp)).upd hl, upd_same, ?_⟩
    rw [rowF_succ, <- List.append_assoc]
    refine Tups.updL h2' (Tups.append (Same.tups (same_upd hp) t2) (Tups.one (SqT.of ?_)))
    rw [upd_same]
    simp
   ·rintro σ H2 ⟨b, zs, rfl, s2, h2, t2⟩
    refine ⟨_, _, zs, rfl, s2, h2, ?_⟩
    rw [pairs_succ]
    have e : ((n : Int) - (0 + (i : Int) + 1)).toNat = n - (i + 1) := by omega
    rw [e] at t2
    exact t2
  ·rintro σ H1 ⟨a, b, zs, rfl, s1, h1, t1⟩
   replace t1 : Tups K H1 zs (pairsN n) := t1
   have hzl := t1.len
   obtain ⟨v, hv, hv2⟩ := three_of M hM (c1 % 3) ⟨Int.emod_nonneg _ (by decide), Int.emod_lt_of_pos _ (by decide)⟩
   refine ⟨_, rfl, _, _, rfl, rfl, (by show 3 <= sizeLine; decide), fun l3 f3 => ?_⟩
   have s3 := same_upd (o := .lst [.int 2, .int 4, .int ((M : Int) + 1)]) f3
   refine ⟨_, rfl, _, _, rfl, rfl, (by show (0 : Int) < 3; decide), l3, _, _, _, rfl, rfl, SqL.of upd_same, hv, ?_⟩
   have g3 := s3 _ _ h1
   obtain ⟨z, hz, hz1, hz2⟩ : ∃ z : Nat, (if (2 : Int) > v then 2 else v) = (z : Int) /\ 1 <= z /\ z <= 100000000 := ⟨(if (2 : Int) > v then 2 else v).toNat, by split <;> omega, by split <;> omega, by split <;> omega⟩
   refine ⟨_, rfl, _, _, rfl, rfl, ⟨by decide, by decide⟩, _, rfl, l, _, rfl, .inl (SqL.of g3), _, rfl, _, _, rfl, c1 / 3, zs.length, z, congrArg (fun u : Int => [V.int (c1 / 3), .int zs.length, .int u]) hz, by omega, hz1, hz2, fun rl ts H4 htl s4 fr g4 => ?_⟩
   have t4 := (s3.trans s4).tups t1
   have g4l := s4 _ _ g3
   have s04 := s1.trans (s3.trans s4)
   refine ⟨by show 0 <= sizeLine; omega, fun tl ft => ?_⟩
   have s5 := same_upd (o := .lst []) ft
   have g5l := s5 _ _ g4l
   have g5r := s5 _ _ g4
   have t5 := s5.tups t4
   have ftH : H tl = none := s04.free ft
   have ntl : l ≠ tl := ne_of_none g4l ft
   have ntr : rl ≠ tl := ne_of_none g4 ft
   refine ⟨_, rfl, l, _, rfl, .inl (SqL.of g5l), (zs.length : Int), rfl, by omega, by omega, ?_⟩
   rw [Int.toNat_natCast]
   refine for_range (lo := 0) (n := zs.length) (fun i σ H2 => ∃ (us : List V) (ks : List (List Int)) (e9 : Option V), σ = [some (.int c1), some (.int n), some (.int M), some (.ref l), a, b, some (.int v), some (.ref rl), some (.ref tl), e9] /\ Same H H2 /\ H2 l = some (.lst zs) /\ H2 rl = some (.lst (ts.map V.int)) /\ H2 tl = some (.lst us) /\ Tups K H2 zs (pairsN n) /\ Tups K H2 us ks /\ (∀ k ∈ ks, tri n M k) /\ us.length <= i /\ (ks.map two).Sublist ((pairsN n).take i))
    ⟨[], [], none, rfl, s04.trans s5, g5l, g5r, upd_same, t5, .nil, (fun k hk => absurd hk List.not_mem_nil), Nat.le_refl _, List.Sublist.refl _⟩ ?_ ?_
   ·rintro i σ H2 hi ⟨us, ks, e9, rfl, sa, gl, gr, gt, tz, tu, htr, hul, hsb⟩
    have e0 : ((0 : Int) + (i : Int)) = (i : Int) := by omega
    rw [e0]
    refine gName_to ?_
    have hti : i < ts.length := by omega
    refine ⟨_, rfl, _, rfl, rl, _, _, _, rfl, rfl, SqL.of gr, at_int hti, _, _, rfl, rfl, _, rfl, ?_⟩
    refine ite2 (fun h => ?_) (fun h => ?_)
    ·obtain ⟨y, hy⟩ : ∃ y, zs[i]? = some y := ⟨_, List.getElem?_eq_getElem hi⟩
     obtain ⟨pa, pk, rfl, hk', hq⟩ := tz.get hy
     obtain ⟨u, v', huv, hvn, rfl⟩ := mem_pairs (List.mem_of_getElem? hk')
     refine ⟨_, rfl, .inl ⟨rfl, _, SqL.of gt⟩, _, rfl, _, rfl, l, _, _, _, rfl, rfl, SqL.of gl, atI_nat hy, _, rfl, _, rfl, rl, _, _, _, rfl, rfl, SqL.of gr, at_int hti, _, rfl, _, _, rfl, (by show 1 <= sizeLine; decide), fun t1' ft1 => ?_⟩
     have sb := same_upd (o := .tup [V.int (if (M : Int) < ts.getD i 0 then (M : Int) else ts.getD i 0)]) ft1
     refine ⟨pa, t1', _, _, rfl, rfl, sb.seqT hq, SqT.of upd_same, by simp, by simp; omega, fun h => absurd h (by simp), fun _ t2' ft2 => ?_⟩
     obtain ⟨m1, m2⟩ : 1 <= (if (M : Int) < ts.getD i 0 then (M : Int) else ts.getD i 0) /\ (if (M : Int) < ts.getD i 0 then (M : Int) else ts.getD i 0) <= M := by
      have := of_decide_eq_true h
      split <;> omega
     generalize (if (M : Int) < ts.getD i 0 then (M : Int) else ts.getD i 0) = m at sb ft2 m1 m2
     have sc := sb.trans (same_upd (o := .tup (([(u : Int), (v' : Int)] : List Int).map V.int ++ [V.int m])) ft2)
     have gtc := sc _ _ gt
     refine ⟨tl, us, _, rfl, rfl, gtc, by omega, ?_⟩
     refine ⟨us ++ [.ref t2'], ks ++ [[(u : Int), (v' : Int), m]], _, rfl, (sa.trans sc).upd ftH, by rw [upd_ne ntl]; exact sc _ _ gl, by rw [upd_ne ntr]; exact sc _ _ gr, upd_same, Tups.updL gtc (sc.tups tz), Tups.updL gtc (Tups.append (sc.tups tu) (Tups.one (SqT.of ?_))), fun k hk => ?_, by rw [List.length_append, List.length_singleton]; omega, ?_⟩
     ·rw [upd_same]; rfl
     ·rcases List.mem_append.mp hk with hk | hk
      ·exact htr k hk
      ·exact ⟨u, v', m, List.mem_singleton.mp hk, huv, hvn, m1, m2⟩
     ·rw [List.take_add_one, hk', List.map_append]
      exact hsb.append (List.Sublist.refl _)
    ·refine ⟨us, ks, _, rfl, sa, gl, gr, gt, tz, tu, htr, by omega, ?_⟩
     rw [List.take_add_one]
     exact hsb.trans (List.sublist_append_left _ _)
   ·rintro σ H2 ⟨us, ks, e9, rfl, sa, gl, gr, gt, tz, tu, htr, hul, hsb⟩
    have hsub := hsb.trans (List.take_sublist _ _)
    have hll := hsub.length_le
    rw [List.length_map] at hll
    exact ⟨_, rfl, q tl us ks H2 sa ftH gt tu htr (lex2_sub hsub) (by omega)⟩
def spThC (K : W.Frag) : Sp := fun vs H Q _ => ∃ (n : Nat) (a : Addr) (zs : List V) (ks : List (List Int)), vs = [.int n, .ref a] /\ n <= 24 /\ SqL K H a zs /\ Tups K H zs ks /\ (∃ M : Nat, ∀ k ∈ ks, tri n M k) /\ ∀ (l : Addr) (H' : Hp), Same H H' -> H l = none -> H' l = some (.lst ((cntL n ks).map V.int)) -> Q (.ref l) H'
theorem scThC : FnScope ["places", "triples", "counts", "one", "other", "many"] ["places", "triples"] (defScope sThC) := ⟨rfl, rfl, rfl, by decide +kernel, rfl, by decide +kernel, by decide +kernel⟩
theorem ok_thC {f : Addr} {fd : FuncData} (F : Fun K "_law_thick_counts" "_law_thick_counts" sThC f fd) (B : Bn mg) : FnOk P w K mg base CX0 1 f fd ["places", "triples"] (spThC K) := by
 refine F.ok scThC (fun vs H Q E h => ?_) (fun cdv A outer s H vs Q E hr h => ?_)
 ·obtain ⟨n, a, zs, ks, rfl, _⟩ := h
  rfl
 ·obtain ⟨n, a, zs, ks, rfl, hn, hS, hT, ⟨M, htr⟩, q⟩ := h
  have hsl := sl1000
  refine ⟨_, pss_cons (ps_set (i := 2) scThC.nd rfl (Or.inl rfl) (pe_op op_rep (pe_lst (pa_cons pe_int pa_nil)) (pv 0)))
   (pss_cons (ps_for PassesOwn.never rfl (pi_list (pv 1)) (pg_tup rfl (pgs_cons (pg_name (i := 3) scThC.nd rfl (Or.inl rfl)) (pgs_cons (pg_name (i := 4) scThC.nd rfl (Or.inl rfl)) (pgs_cons (pg_name (i := 5) scThC.nd rfl (Or.inl rfl)) pgs_nil))))
    (pss_cons (ps_asg (pe_op op_add (pe_ix ix_list (pv 2) (pv 3) (fun _ _ => rfl)) (pv 5)) (pg_sub (pv 2) (pv 3) set_list))
    (pss_one (ps_asg (pe_op op_add (pe_ix ix_list (pv 2) (pv 4) (fun _ _ => rfl)) (pv 5)) (pg_sub (pv 2) (pv 4) set_list)))))
   (pss_one (ps_ret (pv 2)))), ?_⟩
  have hk := fit63 (k := (n : Int)) (by omega) (by omega)
  refine ⟨(by show 1 <= sizeLine; decide), fun l0 f0 => ⟨_, rfl, l0, _, _, rfl, rfl, upd_same, hk.1, hk.2, by show 1 * _ <= sizeLine; omega, fun l hl => ?_⟩⟩
  have s0 := same_upd (o := .lst [.int 0]) f0
  have hlH : H l = none := s0.free hl
  rw [Int.toNat_natCast, rep0i]
  have e00 : List.replicate n (0 : Int) = cntL n [] := by
   refine list_getD (by unfold cntL; rw [List.length_replicate, List.length_map, List.length_range]) fun i hi => ?_
   unfold cntL at hi ⊢
   rw [List.length_map, List.length_range] at hi
   rw [getD_rmap hi, List.getD_eq_getElem?_getD, List.getElem?_replicate, if_pos hi]
   rfl
  rw [e00]
  have sA := s0.trans (same_upd (o := .lst ((cntL n []).map V.int)) hl)
  have gA : (upd (upd H l0 (.lst [.int 0])) l (.lst ((cntL n []).map V.int))) l = some (.lst ((cntL n []).map V.int)) := upd_same
  generalize upd (upd H l0 (.lst [.int 0])) l (.lst ((cntL n []).map V.int)) = HA at sA gA
  have hzl := hT.len
  have lC : ∀ qs, (cntL n qs).length = n := fun qs => by unfold cntL; rw [List.length_map, List.length_range]
  refine ⟨_, rfl, a, rfl, ⟨_, sA.seq hS⟩, ?_⟩
  refine for_list (K := K) (a := a) (xs := zs) (fun j σ H2 => ∃ (e3 e4 e5 : Option V), σ = [some (.int n), some (.ref a), some (.ref l), e3, e4, e5] /\ Same H H2 /\ H2 l = some (.lst ((cntL n (ks.take j)).map V.int)))
   ⟨none, none, none, rfl, sA, by rw [List.take_zero]; exact gA⟩ (fun i σ H2 _ ⟨_, _, _, _, s, _⟩ => s.seq hS) ?_ ?_
  ·rintro i x σ H2 hx ⟨e3, e4, e5, rfl, s2, g2⟩
   obtain ⟨pa, pk, rfl, hk', hq⟩ := hT.get hx
   obtain ⟨u, v, m, rfl, huv, hv, _⟩ := htr _ (List.mem_of_getElem? hk')
   have hu' : u < (cntL n (ks.take i)).length := by rw [lC]; omega
   refine ⟨pa, _, rfl, s2.seqT hq, rfl, _, _, rfl, _, _, rfl, _, _, rfl, rfl, ?_⟩
   refine ⟨_, rfl, _, rfl, l, _, _, _, rfl, rfl, SqL.of g2, at_int hu', _, rfl, _, _, rfl, rfl, _, rfl, _, rfl, l, _, _, u, rfl, rfl, g2, ixN_nat (by rw [List.length_map]; exact hu'), ?_⟩
   rw [set_map_int]
   have hv2 : v < ((cntL n (ks.take i)).set u ((cntL n (ks.take i)).getD u 0 + m)).length := by rw [List.length_set, lC]; omega
   refine ⟨_, rfl, _, rfl, l, _, _, _, rfl, rfl, SqL.of upd_same, at_int hv2, _, rfl, _, _, rfl, rfl, _, rfl, _, rfl, l, _, _, v, rfl, rfl, upd_same, ixN_nat (by rw [List.length_map]; exact hv2), ?_⟩
   rw [set_map_int, upd_upd, cntL_put (by omega) hv (by omega)]
   refine ⟨_, _, _, rfl, s2.upd hlH, ?_⟩
   rw [upd_same, List.take_add_one, hk']
   rfl
  ·rintro σ H2 ⟨e3, e4, e5, rfl, s2, g2⟩
   rw [List.take_of_length_le (by omega)] at g2
   exact ⟨_, rfl, q l H2 s2 hlH g2⟩
theorem five_M (x z : Int) (h : 0 <= z /\ z < 5) : ∃ M : Nat, atI ([.int 1, .int 2, .int 3, .int (1 + x / 5 % 7), .int (1 + x / 5 % 10 ^ (Int.toNat 6))] : List V) z = some (.int M) /\ 1 <= M /\ M <= 1000000 := by
 have : z = 0 \/ z = 1 \/ z = 2 \/ z = 3 \/ z = 4 := by omega
 rw [p6]
 rcases this with h | h | h | h | h
 ·rw [h]; exact ⟨1, atI_nat (j := 0) rfl, by decide, by decide⟩
 ·rw [h]; exact ⟨2, atI_nat (j := 1) rfl, by decide, by decide⟩
 ·rw [h]; exact ⟨3, atI_nat (j := 2) rfl, by decide, by decide⟩
 ·rw [h]
  have e : ((((1 + x / 5 % 7).toNat : Nat)) : Int) = 1 + x / 5 % 7 := by omega
  exact ⟨(1 + x / 5 % 7).toNat, by rw [e]; exact atI_nat (j := 3) rfl, by omega, by omega⟩
 ·rw [h]
  have e : ((((1 + x / 5 % 1000000).toNat : Nat)) : Int) = 1 + x / 5 % 1000000 := by omega
  exact ⟨(1 + x / 5 % 1000000).toNat, by rw [e]; exact atI_nat (j := 4) rfl, by omega, by omega⟩
def spMost : Sp := fun vs H Q _ => ∃ c : Int, vs = [.int c] /\ ∀ (M : Nat) (H' : Hp), 1 <= M -> M <= 1000000 -> Same H H' -> Q (.int M) H'
theorem scMost : FnScope ["cell"] ["cell"] (defScope sMost) := ⟨rfl, rfl, rfl, by decide +kernel, rfl, by decide +kernel, by decide +kernel⟩
set_option maxHeartbeats 4000000 in
theorem ok_most {f : Addr} {fd : FuncData} (F : Fun K "_law_most" "_law_most" sMost f fd) (B : Bn mg) : FnOk P w K mg base CX0 1 f fd ["cell"] spMost := by
 refine F.ok scMost (fun vs H Q E h => ?_) (fun cdv A outer s H vs Q E hr h => ?_)
 ·obtain ⟨c, rfl, _⟩ := h
  rfl
 ·obtain ⟨c, rfl, q⟩ := h
  refine ⟨_, pss_one (ps_ret (pe_ix ix_list (pe_lst (pa_cons pe_int (pa_cons pe_int (pa_cons pe_int (pa_cons (pe_op op_add pe_int (pe_op op_mod (pe_op op_fdiv (pv 0) pe_int) pe_int)) (pa_cons (pe_op op_add pe_int (pe_op op_mod (pe_op op_fdiv (pv 0) pe_int) (pe_op op_pow pe_int pe_int))) pa_nil)))))) (pe_op op_mod (pv 0) pe_int) (fun _ _ => rfl))), ?_⟩
  obtain ⟨M, hM, h1, h2⟩ := five_M c (c % 5) ⟨Int.emod_nonneg _ (by decide), Int.emod_lt_of_pos _ (by decide)⟩
  have pp : (0 : Int) < 10 ^ (Int.toNat 6) := Int.pow_pos (by decide)
  refine ⟨_, rfl, _, _, rfl, rfl, ⟨by decide, by decide⟩, ?_⟩
  refine ⟨_, _, rfl, rfl, (by show (0 : Int) < 7; decide), ?_⟩
  refine ⟨_, _, rfl, rfl, ?_⟩
  refine ⟨_, rfl, _, _, rfl, rfl, ⟨by decide, by decide⟩, ?_⟩
  refine ⟨_, _, rfl, rfl, ⟨by decide, by decide, by decide⟩, ?_⟩
  refine ⟨_, _, rfl, rfl, pp, ?_⟩
  refine ⟨_, _, rfl, rfl, ?_⟩
  refine ⟨(by show 5 <= sizeLine; decide), fun l hl => ?_⟩
  refine ⟨_, rfl, _, _, rfl, rfl, (by show (0 : Int) < 5; decide), l, _, _, _, rfl, rfl, SqL.of upd_same, hM, ?_⟩
  exact q M _ h1 h2 (same_upd hl)
end
end Web
namespace Web
open PySem L2
theorem mn_mono {t t' : Int} (h : t <= t') : ∀ xs : List Int, (xs.map (mn t)).sum <= (xs.map (mn t')).sum
 | [] => Int.le_refl _
 | x :: xs => by
  rw [List.map_cons, List.map_cons, List.sum_cons, List.sum_cons]
  have := mn_mono h xs
  have : mn t x <= mn t' x := by unfold mn; split <;> split <;> omega
  omega
theorem roomM_mono (ns : List Int) {M M' r : Nat} (h : M <= M') (hr : 1 <= r) : roomM ns M r <= roomM ns M' r := by
 unfold roomM part
 have h1 : (M : Int) * (r : Int) <= (M' : Int) * (r : Int) := Int.mul_le_mul_of_nonneg_right (by omega) (by omega)
 have h2 := Int.mul_le_mul_of_nonneg_right h1 (show (0 : Int) <= (r : Int) - 1 by omega)
 have h3 := mn_mono h1 ((up2 ns).take (ns.length - r))
 omega
theorem free_mono {ns : List Int} {M M' : Nat} (h : M <= M') (f : IsWlM ns M .free) : IsWlM ns M' .free := ⟨f.1, f.2.1, fun k k1 k2 => Int.le_trans (f.2.2 k k1 k2) (roomM_mono ns h k1)⟩
theorem not_free {ns : List Int} {M : Nat} {x : Wl} (h : IsWlM ns M x) (hx : x ≠ .free) : ¬ IsWlM ns M .free := fun f => by
 cases x with
 | below p =>
  obtain ⟨⟨y, h1, h2⟩, _⟩ := h
  have := f.1 p y h1
  omega
 | odd => exact f.2.1 h.2
 | wall r =>
  have := f.2.2 r h.2.2.1 h.2.2.2.1
  have := h.2.2.2.2.1
  omega
 | free => exact hx rfl
def Lst (ns : List Int) (v : V) : Prop := (v = .non /\ ¬ IsWlM ns 1000000 .free) \/ ∃ r : Nat, v = .int r /\ 1 <= r /\ r <= 1000000 /\ IsWlM ns r .free /\ (1 < r -> ¬ IsWlM ns (r - 1) .free)
seal L2.PE L2.PA L2.PS L2.PSs L2.PT
section
variable {P : Program} {w : World} {K : W.Frag} {mg : Str -> Option Value} {base : Heap}
def lamAt2 (st : Stmt) : Pos := match (defBody st).getD 1 (.Pass ⟨0, 0, 0, 0⟩) with
 | .Return (some (.Call _ [_, _, .Lambda _ _ _ p] _ _)) _ => p
 | _ => ⟨0, 0, 0, 0⟩
def lamP2 (st : Stmt) : Arguments × Expr × Scope := match (defBody st).getD 1 (.Pass ⟨0, 0, 0, 0⟩) with
 | .Return (some (.Call _ [_, _, .Lambda a b c _] _ _)) _ => (a, b, c)
 | _ => ({ posonlyargs := [], args := [], vararg := none, kwonlyargs := [], kw_defaults := [], kwarg := none, defaults := [] }, .Constant .none 0 ⟨0, 0, 0, 0⟩, { kind := .function, names := [], isGenerator := false, isCoroutine := false })
def lamQ2 : Str := (("least_most" : Str) ++ (".<locals>." : Str)) ++ ("<lambda>" : Str)
abbrev Tb2 (P : Addr) (H : Hp) : Prop := TabOk P (lamAt2 sLeast) lamQ2 H
def spLeast (K : W.Frag) (CB PT : Addr) : Sp := fun vs H Q E => ∃ (a : Addr) (ns : List Int), vs = [.ref a] /\ Sq K H a ns /\ (isTl ns -> Tb2 PT H /\ ∀ (v : V) (H' : Hp), Grow PT H H' -> Tb2 PT H' -> Lst ns v -> Q v H') /\ (¬ isTl ns -> E (.ref CB) none H)
theorem scLeast : FnScope ["tally"] ["tally"] (defScope sLeast) := ⟨rfl, rfl, rfl, by decide +kernel, rfl, by decide +kernel, by decide +kernel⟩
theorem ok_least {f fT fF fA fβ fω fW CB c PT : Addr} {fd fdT fdF fdA fdβ fdω fdW : FuncData} {tk tg : Tok} (F : Fun K "least_most" "least_most" sLeast f fd) (hc : fd.code = .ref c) (LB : LamB base mg c PT) (B : Bn mg) (FT : Fun K "check_tally" "check_tally" sChT fT fdT) (bT : Binds K fdT ["tally"] []) (mT : mg "check_tally" = some (.ref fT))
  (FF : Fun K "falling" "falling" sFall fF fdF) (bF : Binds K fdF ["tally"] []) (mF : mg "falling" = some (.ref fF)) (FA : Fun K "room_among" "room_among" sAmong fA fdA) (bA : Binds K fdA ["numbers", "most", "r"] []) (mA : mg "room_among" = some (.ref fA))
  (Fβ : Fun K "places_below" "places_below" sBelow fβ fdβ) (bβ : Binds K fdβ ["numbers"] []) (mβ : mg "places_below" = some (.ref fβ)) (Fω : Fun K "wall_with" "wall_with" sWallW fω fdω) (bω : Binds K fdω ["tally", "most"] []) (mω : mg "wall_with" = some (.ref fω))
  (FW : Fun K "least_where" "least_where" sWhere fW fdW) (bW : Binds K fdW ["low", "high", "holds"] []) (mW : mg "least_where" = some (.ref fW))
  (mM : mg "MOST_PLACES" = some (.int 24 tk)) (mG : mg "GREATEST_MOST" = some (.int 1000000 tg)) (mB : mg "BadTally" = some (.ref CB)) (cB : ExcC K CB) : FnOk P w K mg base (CXE P w) 5 f fd ["tally"] (spLeast K CB PT) := by
 have Gω : FnOk P w K mg base (CXE P w) 2 fω fdω ["tally", "most"] (spWallW K CB) := ok_wallW Fω B FT bT mT FF bF mF FA bA mA Fβ bβ mβ mM mB cB
 have GW : FnOk P w K mg base CX0 4 fW fdW ["low", "high", "holds"] (spWhere P w K mg base 3) := ok_where FW
 refine F.okXC hc scLeast (fun vs H Q E h => ?_) (fun A outer s H vs Q E hr h => ?_)
 ·obtain ⟨a, ns, rfl, _⟩ := h
  rfl
 ·obtain ⟨a, ns, rfl, hS, h1, h2⟩ := h
  have hsl := sl1000
  refine ⟨_, pss_cons (ps_if (pt_cmpR op_notN (pe_call (Gω.mono (show 2 <= 4 by decide)) hr (by rfl) mω Fω.kp bω .nil passE (pa_cons (pv 0) (pa_cons (pe_glob (v := .int 1000000) rfl mG ⟨_, rfl⟩) pa_nil))) pe_non (by rfl)) (pss_one (ps_ret pe_non)) pss_nil)
   (pss_one (ps_ret (pe_callC (js := [(0, s.heap.objs.size + 1)]) GW hr (by rfl) mW FW.kp bW (fun q hq => by rw [List.mem_singleton.mp hq]; exact ⟨Nat.le_succ _, "tally", rfl, rfl, rfl⟩) (pa_cons pe_int (pa_cons (pe_glob (v := .int 1000000) rfl mG ⟨_, rfl⟩) (pa_cons (pe_lam LB rfl (by rfl) (by rfl)) pa_nil)))))), ?_⟩
  refine ⟨_, rfl, a, ns, 1000000, rfl, hS, Nat.le_refl _, fun ht v x H1 s1 hx hv => ⟨rfl, _, rfl, ?_⟩, h2⟩
  obtain ⟨tb, q⟩ := h1 ht
  rcases hv with ⟨rfl, rfl⟩ | ⟨hne, a', rfl, _⟩
  ·refine iteF ⟨tb.same s1, fun fl c' ctv H2 g2 tb2 hfn hfo hco l hl hjv => ?_⟩
   obtain ⟨oc, u, hlc, hd, ru⟩ := hjv _ List.mem_cons_self (.ref a) rfl
   have hS2 : Sq K H2 a ns := (hS.same s1).grow g2 (tb.same s1)
   have st := same_trk hl
   refine ⟨1, 1000000, fl, PySem.W.kla_obj "<lambda>" lamQ2 (lamP2 sLeast).1 (lamP2 sLeast).2.1 (lamP2 sLeast).2.2 [("tally", s.heap.objs.size + 1)] ((mg "__name__").getD .none) c' ctv, PySem.W.kla_fn "<lambda>" lamQ2 (lamP2 sLeast).1 (lamP2 sLeast).2.1 (lamP2 sLeast).2.2 [("tally", s.heap.objs.size + 1)] ((mg "__name__").getD .none) (.ref c') ctv, "most", ?sp, ?J, ?p, rfl, by decide, rfl, ?F, ?b, ?h3, ?h4, ?h5, ?h6⟩
   case F =>
    refine lam_ok (k := 2) (p := "most") (qual := lamQ2) (params := (lamP2 sLeast).1) (body := (lamP2 sLeast).2.1) (scope := (lamP2 sLeast).2.2) (cl := [("tally", s.heap.objs.size + 1)]) (f := fl) (c' := c') (l := l) (cvs := [some (.ref a)]) (N' := ["tally"]) rfl rfl rfl (by rfl) rfl ?_ ?_ rfl ?_ (fun A' outer' s' H' hr' => pe_cmpR op_isN (pe_call Gω hr' (by rfl) mω Fω.kp bω .nil passN (pa_cons (pv 1) (pa_cons (pv 0) pa_nil))) pe_non (by rfl))
    ·intro x y c hx hy
     have ex : x = "tally" := by
      by_cases z : x = "tally"
      ·exact z
      ·have zz : (x == ("tally" : Str)) = false := by simpa using z
       simp [List.lookup, zz] at hx
     have ey : y = "tally" := by
      by_cases z : y = "tally"
      ·exact z
      ·have zz : (y == ("tally" : Str)) = false := by simpa using z
       simp [List.lookup, zz] at hy
     rw [ex, ey]
    ·intro x c hx
     by_cases z : x = "tally"
     ·rw [z] at hx
      have : some (s.heap.objs.size + 1) = some c := hx
      cases this
      exact ⟨oc, _, hlc, hd⟩
     ·have zz : (x == ("tally" : Str)) = false := by simpa using z
      simp [List.lookup, zz] at hx
    ·intro i x v e1 e2
     cases i with
     | zero =>
      have e1' : ("tally" : Str) = x := Option.some.inj e1
      have e2' : V.ref a = v := Option.some.inj (Option.some.inj e2)
      subst e1' e2'
      exact ⟨rfl, _, oc, u, rfl, hlc, hd, ru⟩
     | succ i => cases e1
   case b => exact .all fun us hl => match us, hl with | [_], _ => rfl
   case J => exact fun Hx => Hx fl = some (LamO fl (PySem.W.kla_obj "<lambda>" lamQ2 (lamP2 sLeast).1 (lamP2 sLeast).2.1 (lamP2 sLeast).2.2 [("tally", s.heap.objs.size + 1)] ((mg "__name__").getD .none) c' ctv)) /\ Hx c' = some (CodeO c' lamQ2) /\ (∀ b o, l b = some o -> Hx b = some (LamO b o)) /\ Sq K Hx a ns
   case p => exact fun m => @decide (IsWlM ns m.toNat .free) (Classical.propDecidable _)
   case h3 => exact fun Hx h => h.1
   case h4 =>
    rintro Hx m Qx ⟨j1, j2, j3, j4⟩ hm1 hm2 hq
    refine ⟨.int m, rfl, j1, j2, j3, ?_⟩
    obtain ⟨M, rfl⟩ : ∃ M : Nat, m = (M : Int) := ⟨m.toNat, by omega⟩
    refine ⟨_, rfl, _, rfl, a, ns, M, rfl, j4.rmv j3, by omega, fun _ v x H' s' hx hv => ⟨rfl, fun hfr => ?_⟩, fun h => absurd ht h⟩
    have sb := same_back j3 s'
    have jj : (trkL H' l) fl = some (LamO fl (PySem.W.kla_obj "<lambda>" lamQ2 (lamP2 sLeast).1 (lamP2 sLeast).2.1 (lamP2 sLeast).2.2 [("tally", s.heap.objs.size + 1)] ((mg "__name__").getD .none) c' ctv)) /\ (trkL H' l) c' = some (CodeO c' lamQ2) /\ (∀ b o, l b = some o -> (trkL H' l) b = some (LamO b o)) /\ Sq K (trkL H' l) a ns := ⟨sb _ _ j1, sb _ _ j2, fun b o e => trk_some e, j4.same sb⟩
    have := hq _ sb jj
    rw [Int.toNat_natCast] at this
    rcases hv with ⟨rfl, rfl⟩ | ⟨hne, a', rfl, _⟩
    ·rw [@decide_eq_true _ (Classical.propDecidable _) hx] at this
     exact this
    ·rw [@decide_eq_false _ (Classical.propDecidable _) (not_free hx hne)] at this
     exact this
   case h5 => exact ⟨st _ _ hfo, st _ _ hco, fun b o e => trk_some e, hS2.same st⟩
   case h6 =>
    rintro r H' hr1 hr2 hp1 hp2 ⟨j1, j2, j3, j4⟩ s'
    obtain ⟨M, rfl⟩ : ∃ M : Nat, r = (M : Int) := ⟨r.toNat, by omega⟩
    have so := same_out hl s'
    refine ⟨j3, q _ _ (((s1.grow PT).trans g2).trans (so.grow PT)) (tb2.same so) (.inr ⟨M, rfl, by omega, by omega, ?_, fun h => ?_⟩)⟩
    ·by_cases hM : M = 1000000
     ·rw [hM]; exact hx
     ·have := hp1 (by omega)
      rw [Int.toNat_natCast] at this
      exact @of_decide_eq_true _ (Classical.propDecidable _) this
    ·have := hp2 (by omega)
     rw [show ((M : Int) - 1).toNat = M - 1 by omega] at this
     exact @of_decide_eq_false _ (Classical.propDecidable _) this
  ·exact iteT (q .non H1 (s1.grow PT) (tb.same s1) (.inl ⟨rfl, not_free hx hne⟩))
end
end Web
namespace Web
open L2 Grf Thk
def dif (c xs : List Int) : List Int := (List.range c.length).map fun j => c.getD j 0 - xs.getD j 0
inductive ThE (M : Nat) : List Int -> Prop
 | nil : ThE M []
 | cons {a : Int} {c xs : List Int} : xs.length = c.length -> (∀ j, j < c.length -> 0 <= xs.getD j 0 /\ xs.getD j 0 <= M /\ xs.getD j 0 <= c.getD j 0) -> xs.sum = a -> ThE M (dif c xs) -> ThE M (a :: c)
def pm (k : List Int) (i j : Nat) : Prop := (k.getD 0 0 = (i : Int) /\ k.getD 1 0 = (j : Int)) \/ (k.getD 0 0 = (j : Int) /\ k.getD 1 0 = (i : Int))
instance (k : List Int) (i j : Nat) : Decidable (pm k i j) := by unfold pm; infer_instance
def gk : List (List Int) -> Nat -> Nat -> Int
 | [], _, _ => 0
 | k :: ks, i, j => (if pm k i j then k.getD 2 0 else 0) + gk ks i j
theorem gk_sym : ∀ (ks : List (List Int)) (i j : Nat), gk ks i j = gk ks j i
 | [], _, _ => rfl
 | k :: ks, i, j => by
  show (if pm k i j then _ else _) + gk ks i j = (if pm k j i then _ else _) + gk ks j i
  rw [gk_sym ks i j]
  by_cases h : pm k i j
  ·rw [if_pos h, if_pos (show pm k j i from Or.symm h)]
  ·rw [if_neg h, if_neg (show ¬ pm k j i from fun z => h (Or.symm z))]
theorem gk_lo {n M : Nat} : ∀ {ks : List (List Int)}, (∀ k ∈ ks, tri n M k) -> ∀ i j, 0 <= gk ks i j
 | [], _, _, _ => Int.le_refl 0
 | k :: ks, h, i, j => by
  have ih := gk_lo (fun q hq => h q (List.mem_cons_of_mem _ hq)) i j
  obtain ⟨u, v, m, rfl, _, _, m1, _⟩ := h k List.mem_cons_self
  show 0 <= (if pm _ i j then m else 0) + gk ks i j
  split <;> omega
theorem gk_irr {n M : Nat} : ∀ {ks : List (List Int)}, (∀ k ∈ ks, tri n M k) -> ∀ i, gk ks i i = 0
 | [], _, _ => rfl
 | k :: ks, h, i => by
  have ih := gk_irr (fun q hq => h q (List.mem_cons_of_mem _ hq)) i
  obtain ⟨u, v, m, rfl, huv, _, m1, _⟩ := h k List.mem_cons_self
  show (if pm _ i i then m else 0) + gk ks i i = 0
  rw [if_neg, ih]
  ·rfl
  ·rintro (⟨a, b⟩ | ⟨a, b⟩)
   ·have a' : (u : Int) = i := a
    have b' : (v : Int) = i := b
    omega
   ·have a' : (u : Int) = i := a
    have b' : (v : Int) = i := b
    omega
theorem gk_none {i j : Nat} : ∀ {ks : List (List Int)}, (∀ k ∈ ks, ¬ pm k i j) -> gk ks i j = 0
 | [], _ => rfl
 | k :: ks, h => by
  show (if pm k i j then _ else _) + gk ks i j = 0
  rw [if_neg (h k List.mem_cons_self), gk_none fun q hq => h q (List.mem_cons_of_mem _ hq)]
  rfl
theorem gk_hi {n M : Nat} : ∀ {ks : List (List Int)}, (∀ k ∈ ks, tri n M k) -> ks.Pairwise lex2 -> ∀ i j, gk ks i j <= M
 | [], _, _, _, _ => by show (0 : Int) <= M; omega
 | k :: ks, h, hp, i, j => by
  have ih := gk_hi (fun q hq => h q (List.mem_cons_of_mem _ hq)) (List.pairwise_cons.mp hp).2 i j
  obtain ⟨u, v, m, rfl, huv, _, m1, m2⟩ := h k List.mem_cons_self
  show (if pm _ i j then m else 0) + gk ks i j <= M
  by_cases c : pm [(u : Int), (v : Int), m] i j
  ·rw [if_pos c, gk_none fun q hq z => ?_]
   ·omega
   ·have l := (List.pairwise_cons.mp hp).1 q hq
    obtain ⟨u', v', m', rfl, huv', _⟩ := h q (List.mem_cons_of_mem _ hq)
    have l' : (u : Int) < u' \/ ((u : Int) = u' /\ (v : Int) < v') := l
    have c' : ((u : Int) = i /\ (v : Int) = j) \/ ((u : Int) = j /\ (v : Int) = i) := c
    have z' : ((u' : Int) = i /\ (v' : Int) = j) \/ ((u' : Int) = j /\ (v' : Int) = i) := z
    omega
  ·rw [if_neg c]
   omega
theorem gk_deg {n M : Nat} : ∀ {ks : List (List Int)}, (∀ k ∈ ks, tri n M k) -> ∀ i, i < n -> tdeg n (gk ks) i = cnt3 ks i
 | [], _, i, _ => by unfold tdeg; exact S_zero n
 | k :: ks, h, i, hi => by
  have ih := gk_deg (fun q hq => h q (List.mem_cons_of_mem _ hq)) i hi
  obtain ⟨u, v, m, rfl, huv, hv, m1, _⟩ := h k List.mem_cons_self
  unfold tdeg at ih ⊢
  show S n (fun j => (if pm [(u : Int), (v : Int), m] i j then m else 0) + gk ks i j) = (if (u : Int) = (i : Int) then m else 0) + (if (v : Int) = (i : Int) then m else 0) + cnt3 ks i
  rw [S_add, ih]
  congr 1
  have pmi : ∀ j : Nat, pm [(u : Int), (v : Int), m] i j ↔ (((u : Int) = i /\ (v : Int) = j) \/ ((u : Int) = j /\ (v : Int) = i)) := fun j => Iff.rfl
  by_cases c1 : u = i
  ·rw [if_pos (by omega), if_neg (by omega), Int.add_zero]
   refine Eq.trans (Grf.S_congr (g := fun j => if j = v then m else 0) fun j _ => ?_) (S_one (n := n) (j := v) m hv)
   by_cases e : j = v
   ·rw [if_pos e, if_pos ((pmi j).mpr (by omega))]
   ·rw [if_neg e, if_neg fun z => by have := (pmi j).mp z; omega]
  ·by_cases c2 : v = i
   ·rw [if_neg (by omega), if_pos (by omega), Int.zero_add]
    refine Eq.trans (Grf.S_congr (g := fun j => if j = u then m else 0) fun j _ => ?_) (S_one (n := n) (j := u) m (by omega))
    by_cases e : j = u
    ·rw [if_pos e, if_pos ((pmi j).mpr (by omega))]
    ·rw [if_neg e, if_neg fun z => by have := (pmi j).mp z; omega]
   ·rw [if_neg (by omega), if_neg (by omega), Int.add_zero]
    refine Eq.trans (Grf.S_congr (g := fun _ => 0) fun j _ => ?_) (S_zero n)
    rw [if_neg fun z => by have := (pmi j).mp z; omega]
end Web
namespace Web
open PySem L2
theorem told_free {M : Nat} {os : List Int} {ks : List (List Int)} (tr : ∀ k ∈ ks, tri os.length M k) (pw : ks.Pairwise lex2) (ct : ∀ i, i < os.length -> cnt3 ks i = os.getD i 0) : IsWlM os M .free :=
 tgr_free ⟨gk ks, ⟨gk_sym ks, gk_irr tr, gk_lo tr, gk_hi tr pw⟩, fun i hi => by rw [gk_deg tr i hi]; exact ct i hi⟩
theorem tri_le {n M M' : Nat} {ks : List (List Int)} (h : ∀ k ∈ ks, tri n M k) (g : ∀ k ∈ ks, k.getD 2 0 <= (M' : Int)) : ∀ k ∈ ks, tri n M' k := fun k hk => by
 obtain ⟨i, j, x, rfl, h1, h2, h3, h4⟩ := h k hk
 exact ⟨i, j, x, rfl, h1, h2, h3, g _ hk⟩
theorem allM_lt {M : Nat} {ks : List (List Int)} {k : List Int} (hk : k ∈ ks) (h : (M : Int) < k.getD 2 0) : allM M ks = false := by
 cases e : allM M ks with
 | false => rfl
 | true =>
  have := of_decide_eq_true (List.all_eq_true.mp e k hk)
  omega
def Gw (P P' : Addr) (H H' : Hp) : Prop := ∀ b o, b ≠ P -> b ≠ P' -> H b = some o -> H' b = some o
theorem Gw.trans {P P' : Addr} {H H1 H2 : Hp} (a : Gw P P' H H1) (b : Gw P P' H1 H2) : Gw P P' H H2 := fun c o n n' h => b c o n n' (a c o n n' h)
theorem tab_grow {P P' : Addr} {po po' : Pos} {qu qu' : Str} {H H' : Hp} (g : Grow P H H') (t : TabOk P po qu H) (t' : TabOk P' po' qu' H) (hne : P' ≠ P) : TabOk P' po' qu' H' := by
 obtain ⟨ps, hP, _⟩ := t
 obtain ⟨qs, h1, h2, h3⟩ := t'
 refine ⟨qs, g _ _ hne h1, h2, h3.imp id fun ⟨c, e, h⟩ => ⟨c, e, g _ _ (fun z => ?_) h⟩⟩
 rw [z, hP] at h
 unfold CodeO at h
 cases h
structure Drn (K : W.Frag) (H : Hp) (l tl wa wp : Addr) (ts : List Int) (M : Nat) (zs : List V) (ks : List (List Int)) : Prop where
 gl : H l = some (.lst (ts.map V.int))
 gt : H tl = some (.lst zs)
 tu : Tups K H zs ks
 ga : H wa = some (.tup [.str "web", .ref wp])
 wt : ThW K H wp ts M ks
theorem ThW.same {K : W.Frag} {b : Addr} {H H' : Hp} {ns : List Int} {M : Nat} {ks : List (List Int)} (h : ThW K H b ns M ks) (s : Same H H') : ThW K H' b ns M ks := by
 obtain ⟨⟨u, zs, h1, h2, h3⟩, a2, a3, a4, a5⟩ := h
 exact ⟨⟨u, zs, s _ _ h1, s _ _ h2, s.tups h3⟩, a2, a3, a4, a5⟩
theorem Drn.same {K : W.Frag} {H H' : Hp} {l tl wa wp : Addr} {ts : List Int} {M : Nat} {zs : List V} {ks : List (List Int)} (h : Drn K H l tl wa wp ts M zs ks) (s : Same H H') : Drn K H' l tl wa wp ts M zs ks :=
 ⟨s _ _ h.gl, s _ _ h.gt, s.tups h.tu, s _ _ h.ga, h.wt.same s⟩
theorem Drn.grow {K : W.Frag} {P : Addr} {po : Pos} {qu : Str} {H H' : Hp} {l tl wa wp : Addr} {ts : List Int} {M : Nat} {zs : List V} {ks : List (List Int)} (h : Drn K H l tl wa wp ts M zs ks) (g : Grow P H H') (t : TabOk P po qu H) : Drn K H' l tl wa wp ts M zs ks := by
 obtain ⟨⟨u, us, h1, h2, h3⟩, a2, a3, a4, a5⟩ := h.wt
 exact ⟨grow_lst g t h.gl, grow_lst g t h.gt, grow_tups g t h.tu, grow_tup g t h.ga, ⟨⟨u, us, grow_tup g t h1, grow_tup g t h2, grow_tups g t h3⟩, a2, a3, a4, a5⟩⟩
theorem mx_of (M : Nat) (h : M <= 1000000) : ∃ m : Nat, (if (10 : Int) ^ (Int.toNat 6) < (M : Int) + 1 then (10 : Int) ^ (Int.toNat 6) else (M : Int) + 1) = (m : Int) /\ M <= m /\ m <= 1000000 := by
 rw [p6]
 exact ⟨(if (1000000 : Int) < (M : Int) + 1 then 1000000 else (M : Int) + 1).toNat, by split <;> omega, by split <;> omega, by split <;> omega⟩
seal L2.PE L2.PA L2.PS L2.PSs L2.PT
section
variable {P : Program} {w : World} {K : W.Frag} {mg : Str -> Option Value} {base : Heap}
def spLaw (K : W.Frag) (PT PU : Addr) : Sp := fun vs H Q _ => ∃ (a : Addr) (ns : List Int), vs = [.ref a] /\ SqL K H a (ns.map V.int) /\ ns.length <= 63 /\ Tb PT H /\ Tb2 PU H /\ PT ≠ PU /\ ∀ H', Q (.bl true) H'
theorem scLaw : FnScope ["script", "head", "places", "most", "cell", "triples", "tally", "web", "told", "r", "greatest", "least"] ["script"] (defScope sLaw) := ⟨rfl, rfl, rfl, by decide +kernel, rfl, by decide +kernel, by decide +kernel⟩
set_option maxHeartbeats 4000000 in
theorem ok_law0 {f fC fM fT fD fA fX fL CB CN PT PU : Addr} {fd fdC fdM fdT fdD fdA fdX fdL : FuncData} (F : Fun K "law" "law" sLaw f fd) (B : Bn mg) (FC : Fun K "_law_cell_at" "_law_cell_at" sCell fC fdC) (bC : Binds K fdC ["script", "k"] []) (mC : mg "_law_cell_at" = some (.ref fC))
  (FM : Fun K "_law_most" "_law_most" sMost fM fdM) (bM : Binds K fdM ["cell"] []) (mM : mg "_law_most" = some (.ref fM))
  (FT : Fun K "_law_thick" "_law_thick" sThick fT fdT) (bT : Binds K fdT ["cell", "places", "most"] []) (mT : mg "_law_thick" = some (.ref fT)) (GT : FnOk P w K mg base CX0 6 fT fdT ["cell", "places", "most"] (spThick K))
  (FD : Fun K "_law_thick_counts" "_law_thick_counts" sThC fD fdD) (bD : Binds K fdD ["places", "triples"] []) (mD : mg "_law_thick_counts" = some (.ref fD))
  (FA : Fun K "thick_answered" "thick_answered" sThA fA fdA) (bA : Binds K fdA ["tally", "most"] []) (mA : mg "thick_answered" = some (.ref fA)) (GA : FnOk P w K mg base (CXE P w) 6 fA fdA ["tally", "most"] (spThA K CB CN PT))
  (FX : Fun K "thick_shows" "thick_shows" sThS fX fdX) (bX : Binds K fdX ["tally", "most", "told"] []) (mX : mg "thick_shows" = some (.ref fX)) (GX : FnOk P w K mg base CX0 6 fX fdX ["tally", "most", "told"] (spThS K))
  (FL : Fun K "least_most" "least_most" sLeast fL fdL) (bL : Binds K fdL ["tally"] []) (mL : mg "least_most" = some (.ref fL)) (GL : FnOk P w K mg base (CXE P w) 6 fL fdL ["tally"] (spLeast K CB PU)) : FnOk P w K mg base CX0 7 f fd ["script"] (spLaw K PT PU) := by
 have GC : FnOk P w K mg base CX0 6 fC fdC ["script", "k"] (spCell K) := (ok_cell FC B).mono (by decide)
 have GM : FnOk P w K mg base CX0 6 fM fdM ["cell"] spMost := (ok_most FM B).mono (by decide)
 have GD : FnOk P w K mg base CX0 6 fD fdD ["places", "triples"] (spThC K) := (ok_thC FD B).mono (by decide)
 refine F.ok scLaw (fun vs H Q E h => ?_) (fun cdv A outer s H vs Q E hr h => ?_)
 ·obtain ⟨a, ns, rfl, _⟩ := h
  rfl
 ·obtain ⟨sc, ns, rfl, hS, hlen, tb, tu, hne, q⟩ := h
  have hsl := sl1000
  have hun := hr.units
  have nd1 : (["triple"] : List Str).Nodup := by decide +kernel
  refine ⟨_, pss_cons (ps_set (i := 1) scLaw.nd rfl (Or.inl rfl) (pe_op op_mod (pe_call GC hr (by rfl) mC FC.kp bC .nil pass0 (pa_cons (pv 0) (pa_cons pe_int pa_nil))) (pe_op op_pow pe_int pe_int)))
   (pss_cons (ps_set (i := 2) scLaw.nd rfl (Or.inl rfl) (pe_op op_add pe_int (pe_op op_mod (pv 1) pe_int)))
   (pss_cut (ps_if (pt_cmpR op_eq (pe_op op_mod (pe_op op_fdiv (pv 1) pe_int) pe_int) pe_int (nomark _)) (pss_one (ps_set (i := 2) scLaw.nd rfl (Or.inl rfl) (pe_op op_add pe_int (pe_op op_mod (pe_op op_fdiv (pv 1) pe_int) pe_int)))) pss_nil)
   (pss_cons (ps_set (i := 3) scLaw.nd rfl (Or.inl rfl) (pe_call GM hr (by rfl) mM FM.kp bM .nil pass0 (pa_cons (pe_op op_fdiv (pv 1) pe_int) pa_nil)))
   (pss_cons (ps_for PassesOwn.never rfl (pi_list (pe_op op_cat (pe_lst (pa_cons (pe_op op_fdiv (pv 1) pe_int) pa_nil)) (pe_slice sl_list (pv 0) (po_some pe_int) (po_some pe_int)))) (pg_name (i := 4) scLaw.nd rfl (Or.inl rfl))
    (pss_cons (ps_set (i := 5) scLaw.nd rfl (Or.inl rfl) (pe_call GT hr (by rfl) mT FT.kp bT .nil pass0 (pa_cons (pv 4) (pa_cons (pv 2) (pa_cons (pv 3) pa_nil)))))
    (pss_cons (ps_set (i := 6) scLaw.nd rfl (Or.inl rfl) (pe_call GD hr (by rfl) mD FD.kp bD .nil pass0 (pa_cons (pv 2) (pa_cons (pv 5) pa_nil))))
    (pss_cons (ps_set (i := 7) scLaw.nd rfl (Or.inl rfl) (pe_tup (pa_cons pe_str (pa_cons (pe_tup (pa_cons (pv 2) (pa_cons (pe_callTy call_tuple_of (by rfl) B.tuple (by rfl) (pa_cons (pv 5) pa_nil)) pa_nil))) pa_nil))))
    (pss_cons (ps_set (i := 8) scLaw.nd rfl (Or.inl rfl) (pe_call GA hr (by rfl) mA FA.kp bA .nil (passN (P := P) (w := w)) (pa_cons (pv 6) (pa_cons (pv 3) pa_nil))))
    (pss_cons (ps_if (PW.pt (pw_or (pt_cmpR op_ne (pe_ix ix_tup (pv 8) pe_int (fun _ _ => rfl)) pe_str (nomark _))
      (pw_or (pt_not (pt_val (pe_call GX hr (by rfl) mX FX.kp bX .nil pass0 (pa_cons (pv 6) (pa_cons (pv 3) (pa_cons (pv 8) pa_nil))))))
      (pw_or1 (pt_not (pt_val (pe_call GX hr (by rfl) mX FX.kp bX .nil pass0 (pa_cons (pv 6) (pa_cons (pv 3) (pa_cons (pv 7) pa_nil)))))))))) pss_never pss_nil)
    (pss_cons (ps_for PassesOwn.never rfl (pi_range2 rfl B.range (pa_cons (pe_un un_neg pe_int) (pa_cons (pe_op op_add (pv 2) pe_int) pa_nil))) (pg_name (i := 9) scLaw.nd rfl (Or.inl rfl))
     (pss_one (ps_if (PW.pt (pw_or (pt_val (pe_call GX hr (by rfl) mX FX.kp bX .nil pass0 (pa_cons (pv 6) (pa_cons (pv 3) (pa_cons (pe_tup (pa_cons pe_str (pa_cons (pe_tup (pa_cons pe_str (pa_cons (pv 9) pa_nil))) pa_nil))) pa_nil)))))
      (pw_or1 (pt_val (pe_call GX hr (by rfl) mX FX.kp bX .nil pass0 (pa_cons (pv 6) (pa_cons (pv 3) (pa_cons (pe_tup (pa_cons pe_str (pa_cons (pe_tup (pa_cons pe_str (pa_cons (pv 9) pa_nil))) pa_nil))) pa_nil)))))))) pss_never pss_nil)))
    (pss_cons (ps_if (PW.pt (pw_or (pt_val (pe_call GX hr (by rfl) mX FX.kp bX .nil pass0 (pa_cons (pv 6) (pa_cons (pv 3) (pa_cons (pe_tup (pa_cons pe_str (pa_cons (pe_tup (pa_cons pe_str pa_nil)) pa_nil))) pa_nil)))))
      (pw_or1 (pt_not (pt_val (pe_call GX hr (by rfl) mX FX.kp bX .nil pass0 (pa_cons (pv 6) (pa_cons (pe_callB (call_min2 rfl) (by rfl) B.min (by rfl) (pa_cons (pe_op op_add (pv 3) pe_int) (pa_cons (pe_op op_pow pe_int pe_int) pa_nil))) (pa_cons (pv 7) pa_nil))))))))) pss_never pss_nil)
    (pss_cons (ps_set (i := 10) scLaw.nd rfl (Or.inl rfl) (pe_callB (call_maxL rfl) (by rfl) B.max (by rfl) (pa_cons (pe_op op_cat
     (pe_comp (N' := ["triple"]) (lk := [none]) rfl (pi_list (pv 5)) (by rfl) rfl (by decide +kernel) (by exact trivial) (by rfl) (by exact LkL.ok trivial) (fun _ _ _ => pg_name (i := 0) nd1 rfl (Or.inl rfl)) (fun _ _ _ => pts_nil) (fun _ _ _ => pe_ixTK K rfl (pv 0) pe_int (fun _ _ => rfl)))
     (pe_lst (pa_cons pe_int pa_nil))) pa_nil)))
    (pss_cut (ps_if (PW.pt (pw_and (pt_cmpR op_gt (pv 10) pe_int (nomark _)) (pw_and1 (pt_val (pe_call GX hr (by rfl) mX FX.kp bX .nil pass0 (pa_cons (pv 6) (pa_cons (pe_op op_sub (pv 10) pe_int) (pa_cons (pv 7) pa_nil)))))))) pss_never pss_nil)
    (pss_cons (ps_set (i := 11) scLaw.nd rfl (Or.inl rfl) (pe_call GL hr (by rfl) mL FL.kp bL .nil (passN (P := P) (w := w)) (pa_cons (pv 6) pa_nil)))
    (pss_one (ps_if (PW.pt (pw_or (pt_not (pt_val (pe_call GX hr (by rfl) mX FX.kp bX .nil pass0 (pa_cons (pv 6) (pa_cons (pe_op op_pow pe_int pe_int) (pa_cons (pv 7) pa_nil))))))
      (pw_or (pt_cmpR op_isN (pv 11) pe_non (by rfl)) (pw_or1 (pt_cmpR op_gt (pv 11) (pe_callB (call_max2 rfl) (by rfl) B.max (by rfl) (pa_cons pe_int (pa_cons (pv 10) pa_nil))) (nomark _)))))) pss_never pss_nil)))))))))))))
   (pss_one (ps_ret pe_bl)))))), ?_⟩
  refine ⟨_, rfl, sc, ns, 0, rfl, hS, fun c0 => ⟨_, _, rfl, rfl, ⟨by decide, by decide, by decide⟩, _, _, rfl, rfl, p60, ?_⟩⟩
  refine gName_int fun c1 _ => ?_
  refine ⟨_, rfl, _, _, rfl, rfl, (by show (0 : Int) < 8; decide), _, _, rfl, rfl, ?_⟩
  have hb1 : 0 <= c1 % 8 := Int.emod_nonneg _ (by decide)
  have hb2 : c1 % 8 < 8 := Int.emod_lt_of_pos _ (by decide)
  refine gName_eq (congrArg V.int (show 1 + c1 % 8 = (((1 + c1 % 8).toNat : Nat) : Int) by omega)) ?_
  refine ⟨fun σ H2 => H2 = H /\ ∃ n : Nat, 1 <= n /\ n <= 24 /\ σ = [some (.ref sc), some (.int c1), some (.int n), none, none, none, none, none, none, none, none, none], ?_, ?_⟩
  ·refine ⟨_, rfl, _, _, rfl, rfl, ⟨by decide, by decide⟩, _, _, rfl, rfl, (by show (0 : Int) < 8; decide), rfl, _, rfl, ?_⟩
   refine ite2 (fun h => ?_) (fun h => ?_)
   ·refine ⟨_, rfl, _, _, rfl, rfl, ⟨by decide, by decide⟩, _, _, rfl, rfl, (by show (0 : Int) < 16; decide), _, _, rfl, rfl, ?_⟩
    have hb3 : 0 <= c1 / 64 % 16 := Int.emod_nonneg _ (by decide)
    have hb4 : c1 / 64 % 16 < 16 := Int.emod_lt_of_pos _ (by decide)
    refine gName_eq (congrArg V.int (show 9 + c1 / 64 % 16 = (((9 + c1 / 64 % 16).toNat : Nat) : Int) by omega)) ?_
    exact ⟨rfl, _, by omega, by omega, rfl⟩
   ·exact ⟨rfl, _, by omega, by omega, rfl⟩
  rintro σ' H' ⟨rfl, n, hn1, hn2, rfl⟩
  refine ⟨_, rfl, _, _, rfl, rfl, ⟨by decide, by decide⟩, _, rfl, fun M H1 hM1 hM2 s1 => ?_⟩
  have hM : isM (M : Int) := ⟨by omega, by omega⟩
  refine gName_to ?_
  refine ⟨_, rfl, _, _, rfl, rfl, ⟨by decide, by decide⟩, (by show 1 <= sizeLine; decide), fun l0 f0 => ?_⟩
  generalize hq2 : (fun (i j : Int) => V.int (i / j)) c1 320 = v2 at f0 ⊢
  obtain ⟨c2, rfl⟩ : ∃ c2 : Int, v2 = V.int c2 := ⟨c1 / 320, hq2.symm⟩
  clear hq2
  have sl0 := same_upd (o := .lst [.int c2]) f0
  obtain ⟨ks0, hks, hkl⟩ := cutV_ints ns (some 1) (some 63)
  refine ⟨_, rfl, _, rfl, _, rfl, sc, ns.map V.int, rfl, (s1.trans sl0).seq hS, fun l1 f1 => ?_⟩
  rw [hks]
  have sl1 := same_upd (o := .lst (ks0.map V.int)) f1
  refine ⟨l0, l1, _, _, rfl, rfl, sl1 _ _ upd_same, upd_same, by rw [List.length_map]; show 1 + ks0.length <= sizeLine; omega, fun ld fld => ⟨ld, rfl, ⟨_, SqL.of upd_same⟩, ?_⟩⟩
  have sL := s1.trans ((sl0.trans sl1).trans (same_upd (o := .lst ([.int c2] ++ ks0.map V.int)) fld))
  have gld : (upd (upd (upd H1 l0 (.lst [.int c2])) l1 (.lst (ks0.map V.int))) ld (.lst ([.int c2] ++ ks0.map V.int))) ld = some (.lst (([c2] ++ ks0 : List Int).map V.int)) := by rw [upd_same, List.map_append]; rfl
  generalize upd (upd (upd H1 l0 (.lst [.int c2])) l1 (.lst (ks0.map V.int))) ld (.lst ([.int c2] ++ ks0.map V.int)) = HB at gld sL
  clear sl1 sl0 f0 f1 fld hks
  have tbL := tb.same sL
  have tuL := tu.same sL
  have gldS : ∀ H2, Gw PT PU HB H2 -> H2 ld = some (.lst (([c2] ++ ks0 : List Int).map V.int)) := fun H2 g => by
   obtain ⟨ps, hP, _⟩ := tbL
   obtain ⟨us, hU, _⟩ := tuL
   exact g ld _ (fun z => by rw [z, hP] at gld; cases gld) (fun z => by rw [z, hU] at gld; cases gld) gld
  refine for_list (K := K) (a := ld) (xs := ([c2] ++ ks0 : List Int).map V.int) (fun _ σ H2 => ∃ e4 e5 e6 e7 e8 e9 e10 e11, σ = [some (.ref sc), some (.int c1), some (.int n), some (.int M), e4, e5, e6, e7, e8, e9, e10, e11] /\ Gw PT PU HB H2 /\ Tb PT H2 /\ Tb2 PU H2) ⟨_, _, _, _, _, _, _, _, rfl, fun _ _ _ _ h => h, tbL, tuL⟩ (fun i σ H2 _ ⟨_, _, _, _, _, _, _, _, _, g, _⟩ => SqL.of (gldS _ g)) ?_ ?_
  ·rintro i x σ Ha hx ⟨e4, e5, e6, e7, e8, e9, e10, e11, rfl, ga, tba, tua⟩
   obtain ⟨z0, rfl⟩ := int_at hx
   refine gName_to ?_
   refine ⟨_, rfl, _, rfl, _, rfl, z0, n, M, rfl, hn2, hM1, hM2, fun tl zs ks H2 s2 f2 g2 t2 htr hpw hkl2 => ?_⟩
   refine gName_to ?_
   refine ⟨_, rfl, _, rfl, n, tl, zs, ks, rfl, hn2, SqL.of g2, t2, ⟨M, htr⟩, fun l H3 s3 f3 g3 => ?_⟩
   refine gName_to ?_
   have lC : (cntL n ks).length = n := by unfold cntL; rw [List.length_map, List.length_range]
   have hct : ∀ i, i < n -> cnt3 ks i = (cntL n ks).getD i 0 := fun i hi => (getD_rmap hi).symm
   generalize cntL n ks = ts at lC hct g3
   rw [<- lC] at hct
   have htr' : ∀ k ∈ ks, tri ts.length M k := by rw [lC]; exact htr
   have ht : isTl ts := ⟨by omega, by omega⟩
   have hF : IsWlM ts M .free := told_free htr' hpw hct
   refine ⟨_, rfl, _, rfl, tl, zs, rfl, .inl ⟨SqL.of (s3 _ _ g2), fun tt ftt => ⟨(by show 2 <= sizeLine; decide), fun wp fwp => ⟨(by show 2 <= sizeLine; decide), fun wa fwa => ?_⟩⟩⟩⟩
   refine gName_to ?_
   have sa1 := same_upd (o := .tup zs) ftt
   have sa2 := same_upd (o := .tup [.int n, .ref tt]) fwp
   have sa3 := same_upd (o := .tup [.str "web", .ref wp]) fwa
   have sW := s2.trans (s3.trans (sa1.trans (sa2.trans sa3)))
   have dW : Drn K (upd (upd (upd H3 tt (.tup zs)) wp (.tup [.int n, .ref tt])) wa (.tup [.str "web", .ref wp])) l tl wa wp ts M zs ks :=
    ⟨(sa1.trans (sa2.trans sa3)) _ _ g3, (s3.trans (sa1.trans (sa2.trans sa3))) _ _ g2, (s3.trans (sa1.trans (sa2.trans sa3))).tups t2, upd_same, ⟨⟨tt, zs, by rw [lC]; exact sa3 _ _ upd_same, (sa2.trans sa3) _ _ upd_same, (s3.trans (sa1.trans (sa2.trans sa3))).tups t2⟩, htr', hpw, hct, by omega⟩⟩
   generalize upd (upd (upd H3 tt (.tup zs)) wp (.tup [.int n, .ref tt])) wa (.tup [.str "web", .ref wp]) = HW at sW dW
   clear sa1 sa2 sa3 ftt fwp fwa f2 f3 g2 g3 t2 s2 s3
   have tbW := tba.same sW
   have tuW := tua.same sW
   refine ⟨_, rfl, _, rfl, l, ts, (M : Int), rfl, .inl (SqL.of dW.gl), fun _ _ => ⟨tbW, fun r H4 g4 tb4 ans => ?_⟩, fun _ h => absurd hM h, fun h => absurd ht h⟩
   rw [Int.toNat_natCast] at ans
   refine gName_to ?_
   rcases ans with ⟨x, b, k1, k2, k3, k4⟩ | ⟨_, b, kk, k1, k2⟩
   ·exact absurd hF (not_free k2 k1)
   have d4 := dW.grow g4 tbW
   have tu4 := tab_grow g4 tbW tuW (Ne.symm hne)
   have ga4 : Gw PT PU HB H4 := ga.trans fun b o n1 _ h => g4 b o n1 (sW b o h)
   clear dW tuW tbW sW g4
   have sh : ∀ (M' : Nat), M <= M' -> allM M' ks = true := fun M' h => allM_of htr h
   refine ⟨_, rfl, r, _, _, _, rfl, rfl, SqT.of k1, at_st, rfl, _, rfl, iteNS rfl ?_⟩
   refine ⟨_, rfl, _, rfl, _, rfl, l, r, ts, M, rfl, .inl (SqL.of d4.gl), ht, hM1, hM2, .inr ⟨b, M, kk, SqT.of k1, k2, fun H5 s5 => ?_⟩⟩
   rw [allM_of k2.tr (Nat.le_refl M)]
   refine ⟨_, rfl, iteF ?_⟩
   have d5 := d4.same s5
   refine ⟨_, rfl, _, rfl, _, rfl, l, wa, ts, M, rfl, .inl (SqL.of d5.gl), ht, hM1, hM2, .inr ⟨wp, M, ks, SqT.of d5.ga, d5.wt, fun H6 s6 => ?_⟩⟩
   rw [sh M (Nat.le_refl M)]
   refine ⟨_, rfl, iteF ?_⟩
   have d6 := d5.same s6
   have s46 := s5.trans s6
   clear d4 d5 s5 s6 k1 k2
   refine ⟨_, rfl, _, rfl, _, _, rfl, rfl, _, _, rfl, ⟨by decide, by decide, by omega, by omega⟩, for_range (lo := -1) (fun _ σ H7 => ∃ e9, σ = [some (.ref sc), some (.int c1), some (.int n), some (.int M), some (.int z0), some (.ref tl), some (.ref l), some (.ref wa), some (.ref r), e9, e10, e11] /\ Same H6 H7) ⟨_, rfl, Same.refl H6⟩ ?_ ?_⟩
   ·rintro j σ H7 hj ⟨e9, rfl, s7⟩
    refine gName_to ?_
    generalize (-1 : Int) + (j : Int) = z
    have d7 := d6.same s7
    refine ⟨_, rfl, _, rfl, _, rfl, (by show 2 <= sizeLine; decide), fun p1 fp1 => ⟨(by show 2 <= sizeLine; decide), fun p2 fp2 => ?_⟩⟩
    have sp1 := same_upd (o := .tup [.str "wall", .int z]) fp1
    have sp2 := same_upd (o := .tup [.str "wall", .ref p1]) fp2
    have sp := sp1.trans sp2
    refine ⟨l, p2, ts, M, rfl, .inl (SqL.of (sp _ _ d7.gl)), ht, hM1, hM2, .inl ⟨p1, .wall z, SqT.of upd_same, SqT.of (sp2 _ _ upd_same), fun H8 s8 => ?_⟩⟩
    rw [free_shw hF]
    refine ⟨_, rfl, iteF ?_⟩
    have s78 := sp.trans s8
    have d8 := d7.same s78
    refine ⟨_, rfl, _, rfl, _, rfl, (by show 2 <= sizeLine; decide), fun p3 fp3 => ⟨(by show 2 <= sizeLine; decide), fun p4 fp4 => ?_⟩⟩
    have sp3 := same_upd (o := .tup [.str "below", .int z]) fp3
    have sp4 := same_upd (o := .tup [.str "wall", .ref p3]) fp4
    refine ⟨l, p4, ts, M, rfl, .inl (SqL.of ((sp3.trans sp4) _ _ d8.gl)), ht, hM1, hM2, .inl ⟨p3, .below z, SqT.of upd_same, SqT.of (sp4 _ _ upd_same), fun H9 s9 => ?_⟩⟩
    rw [free_shw hF]
    exact ⟨_, rfl, iteF ⟨_, rfl, s7.trans (s78.trans ((sp3.trans sp4).trans s9))⟩⟩
   rintro σ H7 ⟨e9', rfl, s7⟩
   have d7 := d6.same s7
   refine ⟨_, rfl, _, rfl, (by show 1 <= sizeLine; decide), fun p1 fp1 => ⟨(by show 2 <= sizeLine; decide), fun p2 fp2 => ?_⟩⟩
   have sp1 := same_upd (o := .tup [.str "odd"]) fp1
   have sp2 := same_upd (o := .tup [.str "wall", .ref p1]) fp2
   have sp := sp1.trans sp2
   refine ⟨l, p2, ts, M, rfl, .inl (SqL.of (sp _ _ d7.gl)), ht, hM1, hM2, .inl ⟨p1, .odd, SqT.of upd_same, SqT.of (sp2 _ _ upd_same), fun H8 s8 => ?_⟩⟩
   rw [free_shw hF]
   refine ⟨_, rfl, iteF ?_⟩
   have s78 := sp.trans s8
   have d8 := d7.same s78
   obtain ⟨M', hM', hM'1, hM'2⟩ := mx_of M hM2
   refine ⟨_, rfl, _, rfl, _, _, rfl, rfl, _, _, rfl, rfl, ⟨by decide, by decide, by decide⟩, _, _, rfl, _, rfl, l, wa, ts, M', congrArg (fun u : Int => [V.ref l, .int u, .ref wa]) hM', .inl (SqL.of d8.gl), ht, by omega, hM'2, .inr ⟨wp, M, ks, SqT.of d8.ga, d8.wt, fun H9 s9 => ?_⟩⟩
   rw [sh M' hM'1]
   refine ⟨_, rfl, iteF ?_⟩
   have d9 := d8.same s9
   have s49 := s46.trans (s7.trans (s78.trans s9))
   clear d6 d7 d8 s46 s7 s78 s9 sp sp1 sp2 fp1 fp2 hM'
   have hzl := d9.tu.len
   refine ⟨_, rfl, tl, rfl, ⟨_, SqL.of d9.gt⟩, fun D hD => comp_list (K := K) (a := tl) (D := D) (ys := zs) (fun i xs σ' H' => (∃ v, σ' = [v]) /\ Same H9 H' /\ H' D = some (.lst xs) /\ xs = ((ks.take i).map fun k => k.getD 2 0).map V.int)
    ⟨⟨none, rfl⟩, same_upd hD, upd_same, by rw [List.take_zero]; rfl⟩ (by omega) (fun i xs σ' H' hi ⟨_, s6, h6, e6⟩ => ⟨SqL.of (s6 _ _ d9.gt), h6, by rw [e6, List.length_map, List.length_map, List.length_take]; omega⟩) ?_ ?_⟩
   ·rintro i xs x σ' H' N kN hx ⟨⟨v, rfl⟩, s6, h6, rfl⟩
    obtain ⟨pa, pk, rfl, hk', hq⟩ := d9.tu.get hx
    obtain ⟨u, v', m, rfl, _⟩ := htr _ (List.mem_of_getElem? hk')
    have b2 : atI (([(u : Int), (v' : Int), m] : List Int).map V.int) 2 = some (.int m) := atI_nat (j := 2) rfl
    refine gName_to (tTrue_if ?_)
    refine ⟨_, rfl, pa, _, _, _, rfl, rfl, s6.seqT hq, b2, ?_⟩
    refine ⟨h6, kN _ _ _ ⟨⟨_, rfl⟩, s6.upd hD, upd_same, ?_⟩⟩
    rw [List.take_add_one, hk', List.map_append, List.map_append]
    rfl
   rintro xs σ' Hc ⟨⟨v, rfl⟩, sc9, gD, rfl⟩
   rw [List.take_of_length_le (by omega)] at gD
   refine ⟨(by show 1 <= sizeLine; decide), fun l5 f5 => ?_⟩
   have s5 := same_upd (o := .lst [.int 0]) f5
   refine ⟨D, l5, _, _, rfl, rfl, s5 _ _ gD, upd_same, by rw [List.length_map, List.length_map]; show ks.length + 1 <= sizeLine; omega, fun l6 f6 => ?_⟩
   have s6 := same_upd (o := .lst (((ks.map fun k => k.getD 2 0).map V.int) ++ [.int 0])) f6
   refine ⟨l6, (ks.map fun k => k.getD 2 0) ++ [0], rfl, SqL.of (by rw [upd_same, List.map_append]; rfl), by rw [List.length_append]; exact Nat.succ_pos _, fun m hm hmx => ?_⟩
   refine gName_to ?_
   have sA := s49.trans (sc9.trans (s5.trans s6))
   have dA := d9.same (sc9.trans (s5.trans s6))
   generalize upd (upd Hc l5 (.lst [.int 0])) l6 (.lst (((ks.map fun k => k.getD 2 0).map V.int) ++ [.int 0])) = HA at sA dA
   clear d9 s49 s5 s6 sc9 f5 f6 gD
   have hm0 : 0 <= m := hmx 0 (List.mem_append_right _ List.mem_cons_self)
   have hmk : ∀ k ∈ ks, k.getD 2 0 <= m := fun k hk => hmx _ (List.mem_append_left _ (List.mem_map.mpr ⟨k, hk, rfl⟩))
   refine ⟨fun σ H2 => σ = [some (.ref sc), some (.int c1), some (.int n), some (.int M), some (.int z0), some (.ref tl), some (.ref l), some (.ref wa), some (.ref r), e9', some (.int m), e11] /\ Same HA H2, ?_, ?_⟩
   ·refine ⟨_, rfl, _, _, rfl, rfl, _, rfl, ?_⟩
    refine ite2 (fun h => ?_) (fun h => ?_)
    ·have h1 := of_decide_eq_true h
     obtain ⟨k, hk, hkm⟩ : ∃ k, k ∈ ks /\ k.getD 2 0 = m := by
      rcases List.mem_append.mp hm with hm | hm
      ·obtain ⟨k, hk, e⟩ := List.mem_map.mp hm
       exact ⟨k, hk, e⟩
      ·have := List.mem_singleton.mp hm
       omega
     have hmM : m <= M := by
      obtain ⟨_, _, y, rfl, _, _, _, h4⟩ := htr k hk
      rw [<- hkm]
      exact h4
     refine ⟨_, rfl, _, rfl, _, _, rfl, rfl, _, rfl, l, wa, ts, (m - 1).toNat, congrArg (fun u : Int => [V.ref l, .int u, .ref wa]) (show m - 1 = ((m - 1).toNat : Int) by omega), .inl (SqL.of dA.gl), ht, by omega, by omega, .inr ⟨wp, M, ks, SqT.of dA.ga, dA.wt, fun H9 s9 => ?_⟩⟩
     rw [allM_lt hk (by rw [hkm]; omega)]
     exact ⟨_, rfl, iteF ⟨rfl, s9⟩⟩
    ·exact ⟨rfl, Same.refl _⟩
   rintro σ Hd ⟨rfl, sd⟩
   have dd := dA.same sd
   have sAd := sA.trans sd
   have tbd := tb4.same sAd
   have tud := tu4.same sAd
   refine ⟨_, rfl, l, ts, rfl, .inl (SqL.of dd.gl), fun _ => ⟨tud, fun v He ge tue hle => ?_⟩, fun h => absurd ht h⟩
   refine gName_to ?_
   have de := dd.grow ge tud
   have tbe := tab_grow ge tud tbd hne
   have gae : Gw PT PU HB He := ga4.trans fun b o n1 n2 h => ge b o n2 (sAd b o h)
   refine ⟨_, rfl, _, _, rfl, rfl, ⟨by decide, by decide, by decide⟩, _, rfl, l, wa, ts, 1000000, congrArg (fun u : Int => [V.ref l, .int u, .ref wa]) p6, .inl (SqL.of de.gl), ht, by decide, Nat.le_refl _, .inr ⟨wp, M, ks, SqT.of de.ga, de.wt, fun Hf sf => ?_⟩⟩
   rw [sh 1000000 hM2]
   refine ⟨_, rfl, iteF ?_⟩
   rcases hle with ⟨_, hno⟩ | ⟨q0, rfl, q1, q2, q3, q4⟩
   ·exact absurd (free_mono hM2 hF) hno
   refine ⟨_, rfl, rfl, _, rfl, iteF ?_⟩
   refine ⟨_, rfl, _, rfl, _, _, rfl, _, _, rfl, rfl, _, rfl, ?_⟩
   have hle : ¬ ((if m > 1 then m else 1) < (q0 : Int)) := fun hlt => by
    have hx1 : 1 <= (if m > 1 then m else 1) := by split <;> omega
    have hx2 : m <= (if m > 1 then m else 1) := by split <;> omega
    generalize (if m > 1 then m else 1) = y at hlt hx1 hx2
    have hFm : IsWlM ts y.toNat .free := told_free (tri_le htr' fun k hk => by have := hmk k hk; omega) hpw hct
    exact q4 (by omega) (free_mono (by omega) hFm)
   rw [decide_eq_false hle]
   exact iteF ⟨_, _, _, _, _, _, _, _, rfl, gae.trans fun b o _ _ h => sf b o h, tbe.same sf, tue.same sf⟩
  ·rintro σ Ha ⟨e4, e5, e6, e7, e8, e9, e10, e11, rfl, ga, tba, tua⟩
   exact q _
theorem ok_law {f fH fV fS fI fU fN fD fT fF fA fρ fβ fω fG fQ fL fJ fY fO fX fE fC fR fP fW fK CW CB CN c PT d PU : Addr} {fd fdH fdV fdS fdI fdU fdN fdD fdT fdF fdA fdρ fdβ fdω fdG fdQ fdL fdJ fdY fdO fdX fdE fdC fdR fdP fdW fdK : FuncData} {tk tg : Tok} (F : Fun K "law" "law" sLaw f fd) (B : Bn mg) (mM : mg "MOST_PLACES" = some (.int 24 tk)) (mg' : mg "GREATEST_MOST" = some (.int 1000000 tg))
  (FH : Fun K "least_where" "least_where" sWhere fH fdH) (bH : Binds K fdH ["low", "high", "holds"] []) (mH : mg "least_where" = some (.ref fH))
  (FV : Fun K "above" "above" sAbv fV fdV) (bV : Binds K fdV ["numbers", "level", "most"] []) (mV : mg "above" = some (.ref fV))
  (FS : Fun K "shares" "shares" sShr fS fdS) (bS : Binds K fdS ["numbers", "much", "most"] []) (mS : mg "shares" = some (.ref fS))
  (FI : Fun K "is_place" "is_place" sIsP fI fdI) (bI : Binds K fdI ["places", "number"] []) (mI : mg "is_place" = some (.ref fI))
  (FU : Fun K "turned_up" "turned_up" sUp fU fdU) (bU : Binds K fdU ["places", "tie"] []) (mU : mg "turned_up" = some (.ref fU))
  (FN : Fun K "made" "made" sMade fN fdN) (bN : Binds K fdN ["places", "ties"] []) (mN : mg "made" = some (.ref fN))
  (FD : Fun K "is_told" "is_told" sIsTold fD fdD) (bD : Binds K fdD ["web"] []) (mD : mg "is_told" = some (.ref fD))
  (FT : Fun K "check_tally" "check_tally" sChT fT fdT) (bT : Binds K fdT ["tally"] []) (mT : mg "check_tally" = some (.ref fT))
  (FF : Fun K "falling" "falling" sFall fF fdF) (bF : Binds K fdF ["tally"] []) (mF : mg "falling" = some (.ref fF))
  (FA : Fun K "room_among" "room_among" sAmong fA fdA) (bA : Binds K fdA ["numbers", "most", "r"] []) (mA : mg "room_among" = some (.ref fA))
  (Fρ : Fun K "room_with" "room_with" sRoomW fρ fdρ) (bρ : Binds K fdρ ["tally", "most", "r"] []) (mρ : mg "room_with" = some (.ref fρ))
  (Fβ : Fun K "places_below" "places_below" sBelow fβ fdβ) (bβ : Binds K fdβ ["numbers"] []) (mβ : mg "places_below" = some (.ref fβ))
  (Fω : Fun K "wall_with" "wall_with" sWallW fω fdω) (bω : Binds K fdω ["tally", "most"] []) (mω : mg "wall_with" = some (.ref fω))
  (FG : Fun K "wall_shows_with" "wall_shows_with" sShowsW fG fdG) (bG : Binds K fdG ["tally", "most", "wall"] []) (mG : mg "wall_shows_with" = some (.ref fG))
  (FQ : Fun K "check_most" "check_most" sCkM fQ fdQ) (bQ : Binds K fdQ ["tally", "most"] []) (mQ : mg "check_most" = some (.ref fQ))
  (FL : Fun K "thick_laid" "thick_laid" sThL fL fdL) (bL : Binds K fdL ["tally", "most"] []) (mL : mg "thick_laid" = some (.ref fL))
  (FJ : Fun K "thick_answered" "thick_answered" sThA fJ fdJ) (bJ : Binds K fdJ ["tally", "most"] []) (mJ : mg "thick_answered" = some (.ref fJ))
  (FY : Fun K "thick_tally" "thick_tally" sTTl fY fdY) (bY : Binds K fdY ["web"] []) (mY : mg "thick_tally" = some (.ref fY))
  (FO : Fun K "is_thick_web_of" "is_thick_web_of" sIsO fO fdO) (bO : Binds K fdO ["tally", "most", "web"] []) (mO : mg "is_thick_web_of" = some (.ref fO))
  (FX : Fun K "thick_shows" "thick_shows" sThS fX fdX) (bX : Binds K fdX ["tally", "most", "told"] []) (mX : mg "thick_shows" = some (.ref fX))
  (FE : Fun K "least_most" "least_most" sLeast fE fdE) (bE : Binds K fdE ["tally"] []) (mE : mg "least_most" = some (.ref fE))
  (FC : Fun K "_law_cell_at" "_law_cell_at" sCell fC fdC) (bC : Binds K fdC ["script", "k"] []) (mC : mg "_law_cell_at" = some (.ref fC))
  (FR : Fun K "_law_row" "_law_row" sRow fR fdR) (bR : Binds K fdR ["cell", "many", "size"] []) (mR : mg "_law_row" = some (.ref fR))
  (FP : Fun K "_law_thick" "_law_thick" sThick fP fdP) (bP : Binds K fdP ["cell", "places", "most"] []) (mP : mg "_law_thick" = some (.ref fP))
  (FW : Fun K "_law_thick_counts" "_law_thick_counts" sThC fW fdW) (bW : Binds K fdW ["places", "triples"] []) (mW : mg "_law_thick_counts" = some (.ref fW))
  (FK : Fun K "_law_most" "_law_most" sMost fK fdK) (bK : Binds K fdK ["cell"] []) (mK : mg "_law_most" = some (.ref fK))
  (mBW : mg "BadWeb" = some (.ref CW)) (mBT : mg "BadTally" = some (.ref CB)) (cB : ExcC K CB) (mBN : mg "BadNumber" = some (.ref CN)) (cN : ExcC K CN) (hc : fdS.code = .ref c) (LB : LamB base mg c PT) (hd : fdE.code = .ref d) (LD : LamB base mg d PU) : FnOk P w K mg base CX0 7 f fd ["script"] (spLaw K PT PU) := by
 have GS : FnOk P w K mg base (CXE P w) 4 fS fdS ["numbers", "much", "most"] (spShr K PT) := ok_shr FS hc LB B FV bV mV FH bH mH
 have GL : FnOk P w K mg base CX0 5 fL fdL ["tally", "most"] (spThL K PT) := ok_thL FL B FS bS mS GS
 have GQ : FnOk P w K mg base (CXE P w) 2 fQ fdQ ["tally", "most"] (spCkM K CB CN) := ok_ckM FQ B FT bT mT mM mg' mBT cB mBN cN
 have Gω : FnOk P w K mg base (CXE P w) 2 fω fdω ["tally", "most"] (spWallW K CB) := ok_wallW Fω B FT bT mT FF bF mF FA bA mA Fβ bβ mβ mM mBT cB
 have GJ : FnOk P w K mg base (CXE P w) 6 fJ fdJ ["tally", "most"] (spThA K CB CN PT) := ok_thA FJ FQ bQ mQ (GQ.mono (by decide)) Fω bω mω (Gω.mono (by decide)) FL bL mL GL
 have GN : FnOk P w K mg base CX0 3 fN fdN ["places", "ties"] (spMade K) := ok_made FN B FI bI mI FU bU mU mM
 have GD : FnOk P w K mg base CX0 4 fD fdD ["web"] (spTold K) := ok_told FD FN bN mN GN mBW
 have GO : FnOk P w K mg base CX0 5 fO fdO ["tally", "most", "web"] (spIsO K) := ok_isO FO B FD bD mD GD FY bY mY
 have GG : FnOk P w K mg base (CXE P w) 3 fG fdG ["tally", "most", "wall"] (spShowsW K CB) := ok_showsW FG B FT bT mT FF bF mF FA bA mA Fρ bρ mρ Fβ bβ mβ mM mBT cB mBN cN
 have GX : FnOk P w K mg base CX0 6 fX fdX ["tally", "most", "told"] (spThS K) := ok_thS FX FQ bQ mQ (GQ.mono (by decide)) FO bO mO GO FG bG mG (GG.mono (by decide))
 have GE : FnOk P w K mg base (CXE P w) 5 fE fdE ["tally"] (spLeast K CB PU) := ok_least FE hd LD B FT bT mT FF bF mF FA bA mA Fβ bβ mβ Fω bω mω FH bH mH mM mg' mBT cB
 have GP : FnOk P w K mg base CX0 2 fP fdP ["cell", "places", "most"] (spThick K) := ok_thick FP B FR bR mR
 exact ok_law0 F B FC bC mC FK bK mK FP bP mP (GP.mono (by decide)) FW bW mW FJ bJ mJ GJ FX bX mX GX FE bE mE (GE.mono (by decide))
end
end Web
namespace Web
open PySem L2
def tsOf (K : W.Frag) : List (Addr × Addr) := match PySem.W.tabIn K "shares", PySem.W.tabIn K "least_most" with
 | some q, some r => [q, r]
 | _, _ => []
def ptOf (K : W.Frag) : Addr := ((PySem.W.tabIn K "shares").getD (0, 0)).2
def puOf (K : W.Frag) : Addr := ((PySem.W.tabIn K "least_most").getD (0, 0)).2
theorem all_mk {l : PySem.W.OpenLaw} {w : World} {K : W.Frag} {h : Heap} {mg : Str -> Option Value} {fa fH fV fS fI fU fN fD fT fF fA fρ fβ fω fG fQ fL fJ fY fO fX fE fC fR fP fW fK fZ CBadWeb CBadTally CBadNumber : Addr} {tk : Tok}{tg : Tok} (X : K.In h) (G : h.Ns mainGlobals mg) (hfa : mg "law" = some (.ref fa))
  {odH anH odV anV odS anS odI anI odU anU odN anN odD anD odT anT odF anF odA anA odρ anρ odβ anβ odω anω odG anG odQ anQ odL anL odJ anJ odY anY odO anO odX anX odE anE odC anC odR anR odP anP odW anW odK anK odZ anZ : Option Addr} {slH slV slS slI slU slN slD slT slF slA slρ slβ slω slG slQ slL slJ slY slO slX slE slC slR slP slW slK slZ : Array (Option Value)}
  {ocH kVH dcH pmH cdH ctH ocV kVV dcV pmV cdV ctV ocS kVS dcS pmS cdS ctS ocI kVI dcI pmI cdI ctI ocU kVU dcU pmU cdU ctU ocN kVN dcN pmN cdN ctN ocD kVD dcD pmD cdD ctD ocT kVT dcT pmT cdT ctT ocF kVF dcF pmF cdF ctF ocA kVA dcA pmA cdA ctA ocρ kVρ dcρ pmρ cdρ ctρ ocβ kVβ dcβ pmβ cdβ ctβ ocω kVω dcω pmω cdω ctω ocG kVG dcG pmG cdG ctG ocQ kVQ dcQ pmQ cdQ ctQ ocL kVL dcL pmL cdL ctL ocJ kVJ dcJ pmJ cdJ ctJ ocY kVY dcY pmY cdY ctY ocO kVO dcO pmO cdO ctO ocX kVX dcX pmX cdX ctX ocE kVE dcE pmE cdE ctE ocC kVC dcC pmC cdC ctC ocR kVR dcR pmR cdR ctR ocP kVP dcP pmP cdP ctP ocW kVW dcW pmW cdW ctW ocK kVK dcK pmK cdK ctK ocZ kVZ dcZ pmZ cdZ ctZ : Value}
  (aH : PySem.W.nsIn K mainGlobals "least_where" = some (some (.ref fH))) (lH : K.lookup fH = some ⟨ocH, odH, .func (PySem.W.fnOf "least_where" "least_where" (defArgs sWhere) (defBody sWhere) (defScope sWhere) .none kVH dcH pmH anH cdH ctH), slH⟩) (cH : PySem.W.codeIn K cdH "least_where" = true) (kH : PySem.W.keepIn K (.ref fH) = true)
  (aV : PySem.W.nsIn K mainGlobals "above" = some (some (.ref fV))) (lV : K.lookup fV = some ⟨ocV, odV, .func (PySem.W.fnOf "above" "above" (defArgs sAbv) (defBody sAbv) (defScope sAbv) .none kVV dcV pmV anV cdV ctV), slV⟩) (cV : PySem.W.codeIn K cdV "above" = true) (kV : PySem.W.keepIn K (.ref fV) = true)
  (aS : PySem.W.nsIn K mainGlobals "shares" = some (some (.ref fS))) (lS : K.lookup fS = some ⟨ocS, odS, .func (PySem.W.fnOf "shares" "shares" (defArgs sShr) (defBody sShr) (defScope sShr) .none kVS dcS pmS anS cdS ctS), slS⟩) (cS : PySem.W.codeIn K cdS "shares" = true) (kS : PySem.W.keepIn K (.ref fS) = true)
  (aI : PySem.W.nsIn K mainGlobals "is_place" = some (some (.ref fI))) (lI : K.lookup fI = some ⟨ocI, odI, .func (PySem.W.fnOf "is_place" "is_place" (defArgs sIsP) (defBody sIsP) (defScope sIsP) .none kVI dcI pmI anI cdI ctI), slI⟩) (cI : PySem.W.codeIn K cdI "is_place" = true) (kI : PySem.W.keepIn K (.ref fI) = true)
  (aU : PySem.W.nsIn K mainGlobals "turned_up" = some (some (.ref fU))) (lU : K.lookup fU = some ⟨ocU, odU, .func (PySem.W.fnOf "turned_up" "turned_up" (defArgs sUp) (defBody sUp) (defScope sUp) .none kVU dcU pmU anU cdU ctU), slU⟩) (cU : PySem.W.codeIn K cdU "turned_up" = true) (kU : PySem.W.keepIn K (.ref fU) = true)
  (aN : PySem.W.nsIn K mainGlobals "made" = some (some (.ref fN))) (lN : K.lookup fN = some ⟨ocN, odN, .func (PySem.W.fnOf "made" "made" (defArgs sMade) (defBody sMade) (defScope sMade) .none kVN dcN pmN anN cdN ctN), slN⟩) (cN : PySem.W.codeIn K cdN "made" = true) (kN : PySem.W.keepIn K (.ref fN) = true)
  (aD : PySem.W.nsIn K mainGlobals "is_told" = some (some (.ref fD))) (lD : K.lookup fD = some ⟨ocD, odD, .func (PySem.W.fnOf "is_told" "is_told" (defArgs sIsTold) (defBody sIsTold) (defScope sIsTold) .none kVD dcD pmD anD cdD ctD), slD⟩) (cD : PySem.W.codeIn K cdD "is_told" = true) (kD : PySem.W.keepIn K (.ref fD) = true)
  (aT : PySem.W.nsIn K mainGlobals "check_tally" = some (some (.ref fT))) (lT : K.lookup fT = some ⟨ocT, odT, .func (PySem.W.fnOf "check_tally" "check_tally" (defArgs sChT) (defBody sChT) (defScope sChT) .none kVT dcT pmT anT cdT ctT), slT⟩) (cT : PySem.W.codeIn K cdT "check_tally" = true) (kT : PySem.W.keepIn K (.ref fT) = true)
  (aF : PySem.W.nsIn K mainGlobals "falling" = some (some (.ref fF))) (lF : K.lookup fF = some ⟨ocF, odF, .func (PySem.W.fnOf "falling" "falling" (defArgs sFall) (defBody sFall) (defScope sFall) .none kVF dcF pmF anF cdF ctF), slF⟩) (cF : PySem.W.codeIn K cdF "falling" = true) (kF : PySem.W.keepIn K (.ref fF) = true)
  (aA : PySem.W.nsIn K mainGlobals "room_among" = some (some (.ref fA))) (lA : K.lookup fA = some ⟨ocA, odA, .func (PySem.W.fnOf "room_among" "room_among" (defArgs sAmong) (defBody sAmong) (defScope sAmong) .none kVA dcA pmA anA cdA ctA), slA⟩) (cA : PySem.W.codeIn K cdA "room_among" = true) (kA : PySem.W.keepIn K (.ref fA) = true)
  (aρ : PySem.W.nsIn K mainGlobals "room_with" = some (some (.ref fρ))) (lρ : K.lookup fρ = some ⟨ocρ, odρ, .func (PySem.W.fnOf "room_with" "room_with" (defArgs sRoomW) (defBody sRoomW) (defScope sRoomW) .none kVρ dcρ pmρ anρ cdρ ctρ), slρ⟩) (cρ : PySem.W.codeIn K cdρ "room_with" = true) (kρ : PySem.W.keepIn K (.ref fρ) = true)
  (aβ : PySem.W.nsIn K mainGlobals "places_below" = some (some (.ref fβ))) (lβ : K.lookup fβ = some ⟨ocβ, odβ, .func (PySem.W.fnOf "places_below" "places_below" (defArgs sBelow) (defBody sBelow) (defScope sBelow) .none kVβ dcβ pmβ anβ cdβ ctβ), slβ⟩) (cβ : PySem.W.codeIn K cdβ "places_below" = true) (kβ : PySem.W.keepIn K (.ref fβ) = true)
  (aω : PySem.W.nsIn K mainGlobals "wall_with" = some (some (.ref fω))) (lω : K.lookup fω = some ⟨ocω, odω, .func (PySem.W.fnOf "wall_with" "wall_with" (defArgs sWallW) (defBody sWallW) (defScope sWallW) .none kVω dcω pmω anω cdω ctω), slω⟩) (cω : PySem.W.codeIn K cdω "wall_with" = true) (kω : PySem.W.keepIn K (.ref fω) = true)
  (aG : PySem.W.nsIn K mainGlobals "wall_shows_with" = some (some (.ref fG))) (lG : K.lookup fG = some ⟨ocG, odG, .func (PySem.W.fnOf "wall_shows_with" "wall_shows_with" (defArgs sShowsW) (defBody sShowsW) (defScope sShowsW) .none kVG dcG pmG anG cdG ctG), slG⟩) (cG : PySem.W.codeIn K cdG "wall_shows_with" = true) (kG : PySem.W.keepIn K (.ref fG) = true)
  (aQ : PySem.W.nsIn K mainGlobals "check_most" = some (some (.ref fQ))) (lQ : K.lookup fQ = some ⟨ocQ, odQ, .func (PySem.W.fnOf "check_most" "check_most" (defArgs sCkM) (defBody sCkM) (defScope sCkM) .none kVQ dcQ pmQ anQ cdQ ctQ), slQ⟩) (cQ : PySem.W.codeIn K cdQ "check_most" = true) (kQ : PySem.W.keepIn K (.ref fQ) = true)
  (aL : PySem.W.nsIn K mainGlobals "thick_laid" = some (some (.ref fL))) (lL : K.lookup fL = some ⟨ocL, odL, .func (PySem.W.fnOf "thick_laid" "thick_laid" (defArgs sThL) (defBody sThL) (defScope sThL) .none kVL dcL pmL anL cdL ctL), slL⟩) (cL : PySem.W.codeIn K cdL "thick_laid" = true) (kL : PySem.W.keepIn K (.ref fL) = true)
  (aJ : PySem.W.nsIn K mainGlobals "thick_answered" = some (some (.ref fJ))) (lJ : K.lookup fJ = some ⟨ocJ, odJ, .func (PySem.W.fnOf "thick_answered" "thick_answered" (defArgs sThA) (defBody sThA) (defScope sThA) .none kVJ dcJ pmJ anJ cdJ ctJ), slJ⟩) (cJ : PySem.W.codeIn K cdJ "thick_answered" = true) (kJ : PySem.W.keepIn K (.ref fJ) = true)
  (aY : PySem.W.nsIn K mainGlobals "thick_tally" = some (some (.ref fY))) (lY : K.lookup fY = some ⟨ocY, odY, .func (PySem.W.fnOf "thick_tally" "thick_tally" (defArgs sTTl) (defBody sTTl) (defScope sTTl) .none kVY dcY pmY anY cdY ctY), slY⟩) (cY : PySem.W.codeIn K cdY "thick_tally" = true) (kY : PySem.W.keepIn K (.ref fY) = true)
  (aO : PySem.W.nsIn K mainGlobals "is_thick_web_of" = some (some (.ref fO))) (lO : K.lookup fO = some ⟨ocO, odO, .func (PySem.W.fnOf "is_thick_web_of" "is_thick_web_of" (defArgs sIsO) (defBody sIsO) (defScope sIsO) .none kVO dcO pmO anO cdO ctO), slO⟩) (cO : PySem.W.codeIn K cdO "is_thick_web_of" = true) (kO : PySem.W.keepIn K (.ref fO) = true)
  (aX : PySem.W.nsIn K mainGlobals "thick_shows" = some (some (.ref fX))) (lX : K.lookup fX = some ⟨ocX, odX, .func (PySem.W.fnOf "thick_shows" "thick_shows" (defArgs sThS) (defBody sThS) (defScope sThS) .none kVX dcX pmX anX cdX ctX), slX⟩) (cX : PySem.W.codeIn K cdX "thick_shows" = true) (kX : PySem.W.keepIn K (.ref fX) = true)
  (aE : PySem.W.nsIn K mainGlobals "least_most" = some (some (.ref fE))) (lE : K.lookup fE = some ⟨ocE, odE, .func (PySem.W.fnOf "least_most" "least_most" (defArgs sLeast) (defBody sLeast) (defScope sLeast) .none kVE dcE pmE anE cdE ctE), slE⟩) (cE : PySem.W.codeIn K cdE "least_most" = true) (kE : PySem.W.keepIn K (.ref fE) = true)
  (aC : PySem.W.nsIn K mainGlobals "_law_cell_at" = some (some (.ref fC))) (lC : K.lookup fC = some ⟨ocC, odC, .func (PySem.W.fnOf "_law_cell_at" "_law_cell_at" (defArgs sCell) (defBody sCell) (defScope sCell) .none kVC dcC pmC anC cdC ctC), slC⟩) (cC : PySem.W.codeIn K cdC "_law_cell_at" = true) (kC : PySem.W.keepIn K (.ref fC) = true)
  (aR : PySem.W.nsIn K mainGlobals "_law_row" = some (some (.ref fR))) (lR : K.lookup fR = some ⟨ocR, odR, .func (PySem.W.fnOf "_law_row" "_law_row" (defArgs sRow) (defBody sRow) (defScope sRow) .none kVR dcR pmR anR cdR ctR), slR⟩) (cR : PySem.W.codeIn K cdR "_law_row" = true) (kR : PySem.W.keepIn K (.ref fR) = true)
  (aP : PySem.W.nsIn K mainGlobals "_law_thick" = some (some (.ref fP))) (lP : K.lookup fP = some ⟨ocP, odP, .func (PySem.W.fnOf "_law_thick" "_law_thick" (defArgs sThick) (defBody sThick) (defScope sThick) .none kVP dcP pmP anP cdP ctP), slP⟩) (cP : PySem.W.codeIn K cdP "_law_thick" = true) (kP : PySem.W.keepIn K (.ref fP) = true)
  (aW : PySem.W.nsIn K mainGlobals "_law_thick_counts" = some (some (.ref fW))) (lW : K.lookup fW = some ⟨ocW, odW, .func (PySem.W.fnOf "_law_thick_counts" "_law_thick_counts" (defArgs sThC) (defBody sThC) (defScope sThC) .none kVW dcW pmW anW cdW ctW), slW⟩) (cW : PySem.W.codeIn K cdW "_law_thick_counts" = true) (kW : PySem.W.keepIn K (.ref fW) = true)
  (aK : PySem.W.nsIn K mainGlobals "_law_most" = some (some (.ref fK))) (lK : K.lookup fK = some ⟨ocK, odK, .func (PySem.W.fnOf "_law_most" "_law_most" (defArgs sMost) (defBody sMost) (defScope sMost) .none kVK dcK pmK anK cdK ctK), slK⟩) (cK : PySem.W.codeIn K cdK "_law_most" = true) (kK : PySem.W.keepIn K (.ref fK) = true)
  (aZ : PySem.W.nsIn K mainGlobals "law" = some (some (.ref fZ))) (lZ : K.lookup fZ = some ⟨ocZ, odZ, .func (PySem.W.fnOf "law" "law" (defArgs sLaw) (defBody sLaw) (defScope sLaw) .none kVZ dcZ pmZ anZ cdZ ctZ), slZ⟩) (cZ : PySem.W.codeIn K cdZ "law" = true) (kZ : PySem.W.keepIn K (.ref fZ) = true)
  (mo : PySem.W.nsIn K mainGlobals "MOST_PLACES" = some (some (.int 24 tk)))
  (gm : PySem.W.nsIn K mainGlobals "GREATEST_MOST" = some (some (.int 1000000 tg)))
  (aBadWeb : PySem.W.nsIn K mainGlobals "BadWeb" = some (some (.ref CBadWeb)))
  (aBadTally : PySem.W.nsIn K mainGlobals "BadTally" = some (some (.ref CBadTally)))
  (aBadNumber : PySem.W.nsIn K mainGlobals "BadNumber" = some (some (.ref CBadNumber)))
  (qBadTally : PySem.W.excIn K CBadTally [.type "ValueError", .type "Exception", .type "BaseException", .type "object"] "ValueError.__new__" = true)
  (xmBadTally : PySem.W.exmOne K (.ref CBadTally) (.ref CBadTally) = some true)
  (qBadNumber : PySem.W.excIn K CBadNumber [.type "ValueError", .type "Exception", .type "BaseException", .type "object"] "ValueError.__new__" = true)
  (xmBadNumber : PySem.W.exmOne K (.ref CBadNumber) (.ref CBadNumber) = some true)
  (tb : (PySem.W.tabIn K "shares").isSome = true)
  (tb2 : (PySem.W.tabIn K "least_most").isSome = true)
  (z1 : PySem.W.nsIn K mainGlobals "len" = some none)
  (z2 : PySem.W.nsIn K mainGlobals "range" = some none)
  (z3 : PySem.W.nsIn K mainGlobals "enumerate" = some none)
  (z4 : PySem.W.nsIn K mainGlobals "list" = some none)
  (z5 : PySem.W.nsIn K mainGlobals "tuple" = some none)
  (z6 : PySem.W.nsIn K mainGlobals "sorted" = some none)
  (z7 : PySem.W.nsIn K mainGlobals "set" = some none)
  (z8 : PySem.W.nsIn K mainGlobals "isinstance" = some none)
  (z9 : PySem.W.nsIn K mainGlobals "int" = some none)
  (z10 : PySem.W.nsIn K mainGlobals "bool" = some none)
  (z11 : PySem.W.nsIn K mainGlobals "min" = some none)
  (z12 : PySem.W.nsIn K mainGlobals "max" = some none)
  (z13 : PySem.W.nsIn K mainGlobals "sum" = some none)
  (z14 : PySem.W.nsIn K mainGlobals "str" = some none)
  (z15 : PySem.W.nsIn K mainGlobals "ValueError" = some none)
  (z16 : PySem.W.nsIn K mainGlobals "all" = some none)
  (z17 : PySem.W.nsIn K mainGlobals "zip" = some none) :
  ∃ fd : FuncData, (∀ (s : Shared) (v : Value), BindsTo s fd ⟨[v], []⟩ [("script", v)]) /\ ∀ base : Heap, K.In base -> base.Ns mainGlobals mg -> (∀ q ∈ tsOf K, LamB base mg q.1 q.2) -> FnOk l.prog w K mg base CX0 7 fa fd ["script"] (spLaw K (ptOf K) (puOf K)) := by
 have e := hfa.symm.trans (PySem.W.mg_of X G aZ)
 cases e
 have B : Bn mg := ⟨PySem.W.mg_none_of X G z1, PySem.W.mg_none_of X G z2, PySem.W.mg_none_of X G z3, PySem.W.mg_none_of X G z4, PySem.W.mg_none_of X G z5, PySem.W.mg_none_of X G z6, PySem.W.mg_none_of X G z7, PySem.W.mg_none_of X G z8, PySem.W.mg_none_of X G z9, PySem.W.mg_none_of X G z10, PySem.W.mg_none_of X G z11, PySem.W.mg_none_of X G z12, PySem.W.mg_none_of X G z13, PySem.W.mg_none_of X G z14, PySem.W.mg_none_of X G z15, PySem.W.mg_none_of X G z16, PySem.W.mg_none_of X G z17⟩
 have FH := fun_mk (st := sWhere) lH cH kH
 have bH := FH.binds (ps := ["low", "high", "holds"]) fun _ _ _ _ _ _ us hl => match us, hl with | [_, _, _], _ => rfl
 have FV := fun_mk (st := sAbv) lV cV kV
 have bV := FV.binds (ps := ["numbers", "level", "most"]) fun _ _ _ _ _ _ us hl => match us, hl with | [_, _, _], _ => rfl
 have FS := fun_mk (st := sShr) lS cS kS
 have bS := FS.binds (ps := ["numbers", "much", "most"]) fun _ _ _ _ _ _ us hl => match us, hl with | [_, _, _], _ => rfl
 have FI := fun_mk (st := sIsP) lI cI kI
 have bI := FI.binds (ps := ["places", "number"]) fun _ _ _ _ _ _ us hl => match us, hl with | [_, _], _ => rfl
 have FU := fun_mk (st := sUp) lU cU kU
 have bU := FU.binds (ps := ["places", "tie"]) fun _ _ _ _ _ _ us hl => match us, hl with | [_, _], _ => rfl
 have FN := fun_mk (st := sMade) lN cN kN
 have bN := FN.binds (ps := ["places", "ties"]) fun _ _ _ _ _ _ us hl => match us, hl with | [_, _], _ => rfl
 have FD := fun_mk (st := sIsTold) lD cD kD
 have bD := FD.binds (ps := ["web"]) fun _ _ _ _ _ _ us hl => match us, hl with | [_], _ => rfl
 have FT := fun_mk (st := sChT) lT cT kT
 have bT := FT.binds (ps := ["tally"]) fun _ _ _ _ _ _ us hl => match us, hl with | [_], _ => rfl
 have FF := fun_mk (st := sFall) lF cF kF
 have bF := FF.binds (ps := ["tally"]) fun _ _ _ _ _ _ us hl => match us, hl with | [_], _ => rfl
 have FA := fun_mk (st := sAmong) lA cA kA
 have bA := FA.binds (ps := ["numbers", "most", "r"]) fun _ _ _ _ _ _ us hl => match us, hl with | [_, _, _], _ => rfl
 have Fρ := fun_mk (st := sRoomW) lρ cρ kρ
 have bρ := Fρ.binds (ps := ["tally", "most", "r"]) fun _ _ _ _ _ _ us hl => match us, hl with | [_, _, _], _ => rfl
 have Fβ := fun_mk (st := sBelow) lβ cβ kβ
 have bβ := Fβ.binds (ps := ["numbers"]) fun _ _ _ _ _ _ us hl => match us, hl with | [_], _ => rfl
 have Fω := fun_mk (st := sWallW) lω cω kω
 have bω := Fω.binds (ps := ["tally", "most"]) fun _ _ _ _ _ _ us hl => match us, hl with | [_, _], _ => rfl
 have FG := fun_mk (st := sShowsW) lG cG kG
 have bG := FG.binds (ps := ["tally", "most", "wall"]) fun _ _ _ _ _ _ us hl => match us, hl with | [_, _, _], _ => rfl
 have FQ := fun_mk (st := sCkM) lQ cQ kQ
 have bQ := FQ.binds (ps := ["tally", "most"]) fun _ _ _ _ _ _ us hl => match us, hl with | [_, _], _ => rfl
 have FL := fun_mk (st := sThL) lL cL kL
 have bL := FL.binds (ps := ["tally", "most"]) fun _ _ _ _ _ _ us hl => match us, hl with | [_, _], _ => rfl
 have FJ := fun_mk (st := sThA) lJ cJ kJ
 have bJ := FJ.binds (ps := ["tally", "most"]) fun _ _ _ _ _ _ us hl => match us, hl with | [_, _], _ => rfl
 have FY := fun_mk (st := sTTl) lY cY kY
 have bY := FY.binds (ps := ["web"]) fun _ _ _ _ _ _ us hl => match us, hl with | [_], _ => rfl
 have FO := fun_mk (st := sIsO) lO cO kO
 have bO := FO.binds (ps := ["tally", "most", "web"]) fun _ _ _ _ _ _ us hl => match us, hl with | [_, _, _], _ => rfl
 have FX := fun_mk (st := sThS) lX cX kX
 have bX := FX.binds (ps := ["tally", "most", "told"]) fun _ _ _ _ _ _ us hl => match us, hl with | [_, _, _], _ => rfl
 have FE := fun_mk (st := sLeast) lE cE kE
 have bE := FE.binds (ps := ["tally"]) fun _ _ _ _ _ _ us hl => match us, hl with | [_], _ => rfl
 have FC := fun_mk (st := sCell) lC cC kC
 have bC := FC.binds (ps := ["script", "k"]) fun _ _ _ _ _ _ us hl => match us, hl with | [_, _], _ => rfl
 have FR := fun_mk (st := sRow) lR cR kR
 have bR := FR.binds (ps := ["cell", "many", "size"]) fun _ _ _ _ _ _ us hl => match us, hl with | [_, _, _], _ => rfl
 have FP := fun_mk (st := sThick) lP cP kP
 have bP := FP.binds (ps := ["cell", "places", "most"]) fun _ _ _ _ _ _ us hl => match us, hl with | [_, _, _], _ => rfl
 have FW := fun_mk (st := sThC) lW cW kW
 have bW := FW.binds (ps := ["places", "triples"]) fun _ _ _ _ _ _ us hl => match us, hl with | [_, _], _ => rfl
 have FK := fun_mk (st := sMost) lK cK kK
 have bK := FK.binds (ps := ["cell"]) fun _ _ _ _ _ _ us hl => match us, hl with | [_], _ => rfl
 have FZ := fun_mk (st := sLaw) lZ cZ kZ
 obtain ⟨⟨c, PT⟩, hcp⟩ := Option.isSome_iff_exists.mp tb
 obtain ⟨⟨d, PU⟩, hdp⟩ := Option.isSome_iff_exists.mp tb2
 have hc := tab_code hcp aS lS
 have hd := tab_code hdp aE lE
 have ept : ptOf K = PT := by unfold ptOf; rw [hcp]; rfl
 have epu : puOf K = PU := by unfold puOf; rw [hdp]; rfl
 have ets : tsOf K = [(c, PT), (d, PU)] := by unfold tsOf; rw [hcp, hdp]
 rw [ept, epu, ets]
 exact ⟨PySem.W.fnOf "law" "law" (defArgs sLaw) (defBody sLaw) (defScope sLaw) .none kVZ dcZ pmZ anZ cdZ ctZ, fun s v => .of_eq rfl, fun base _ _ hL => ok_law FZ B (PySem.W.mg_of X G mo) (PySem.W.mg_of X G gm) FH bH (PySem.W.mg_of X G aH) FV bV (PySem.W.mg_of X G aV) FS bS (PySem.W.mg_of X G aS) FI bI (PySem.W.mg_of X G aI) FU bU (PySem.W.mg_of X G aU) FN bN (PySem.W.mg_of X G aN) FD bD (PySem.W.mg_of X G aD) FT bT (PySem.W.mg_of X G aT) FF bF (PySem.W.mg_of X G aF) FA bA (PySem.W.mg_of X G aA) Fρ bρ (PySem.W.mg_of X G aρ) Fβ bβ (PySem.W.mg_of X G aβ) Fω bω (PySem.W.mg_of X G aω) FG bG (PySem.W.mg_of X G aG) FQ bQ (PySem.W.mg_of X G aQ) FL bL (PySem.W.mg_of X G aL) FJ bJ (PySem.W.mg_of X G aJ) FY bY (PySem.W.mg_of X G aY) FO bO (PySem.W.mg_of X G aO) FX bX (PySem.W.mg_of X G aX) FE bE (PySem.W.mg_of X G aE) FC bC (PySem.W.mg_of X G aC) FR bR (PySem.W.mg_of X G aR) FP bP (PySem.W.mg_of X G aP) FW bW (PySem.W.mg_of X G aW) FK bK (PySem.W.mg_of X G aK) (PySem.W.mg_of X G aBadWeb) (PySem.W.mg_of X G aBadTally) ⟨qBadTally⟩ (PySem.W.mg_of X G aBadNumber) ⟨qBadNumber⟩ hc (hL (c, PT) List.mem_cons_self) hd (hL (d, PU) (List.mem_cons_of_mem _ List.mem_cons_self))⟩
theorem walk {l : PySem.W.OpenLaw} {q : Program} {loose : List Str} {XP : (Str -> Option Value) -> Heap -> Prop} {YP : World -> Heap -> Prop} {d : DefRec} {K : Params -> PySem.W.Frag} (hn : l.most = some 63) (hdf : d.params.defaults = [])
  (hY : ∀ (w : World) (h : Heap), YP w h -> (K w.params).In h) (hK0 : ∀ w : World, PySem.W.noTabs (K w.params) = true) (hrec : ((PyProof.Rows.recsOf q).find? (fun e => e.name == ("shares" : Str))).isSome = true) (htb : ∀ w : World, (PySem.W.tabIn (K w.params) "shares").isSome = true) (hrec2 : ((PyProof.Rows.recsOf q).find? (fun e => e.name == ("least_most" : Str))).isSome = true) (htb2 : ∀ w : World, (PySem.W.tabIn (K w.params) "least_most").isSome = true) (hne : ∀ w : World, decide (ptOf (K w.params) = puOf (K w.params)) = false)
  (F : ∀ (w : World) (mg : Str -> Option Value) (fa : Addr) (h : Heap), (K w.params).In h -> h.Ns mainGlobals mg -> mg d.name = some (.ref fa) ->
   ∃ fd : FuncData, (∀ (s : Shared) (u : Value), BindsTo s fd ⟨[u], []⟩ [("script", u)]) /\ ∀ base : Heap, (K w.params).In base -> base.Ns mainGlobals mg -> (∀ q ∈ tsOf (K w.params), LamB base mg q.1 q.2) -> FnOk l.prog w (K w.params) mg base CX0 7 fa fd ["script"] (spLaw (K w.params) (ptOf (K w.params)) (puOf (K w.params)))) :
  PySem.W.WalkO q loose XP YP l.row.toRowW d [] (fun f vs => PySem.call f vs) := by
 refine L2.walk_ofT (n := 63) (k := 7) (x := "script") (CX := fun _ => CX0) (sp := fun w _ => spLaw (K w.params) (ptOf (K w.params)) (puOf (K w.params))) (ts := fun w => tsOf (K w.params)) hn (by decide) hdf ⟨rfl, by decide, by decide⟩ hY hK0 (fun w loose mean mg mb h T X => ?_) F (fun w H a ns hl hT hS => ?_) fun _ _ _ _ _ z => z
 ·obtain ⟨⟨c, PT⟩, hcp⟩ := Option.isSome_iff_exists.mp (htb w)
  obtain ⟨⟨e, PU⟩, hep⟩ := Option.isSome_iff_exists.mp (htb2 w)
  obtain ⟨d', hd'⟩ := Option.isSome_iff_exists.mp hrec
  obtain ⟨d2, hd2⟩ := Option.isSome_iff_exists.mp hrec2
  have ets : tsOf (K w.params) = [(c, PT), (e, PU)] := by unfold tsOf; rw [hcp, hep]
  show PySem.W.TabsAt (tsOf (K w.params)) h
  rw [ets]
  intro r hr
  rcases List.mem_cons.mp hr with hr | hr
  ·rw [hr]
   exact PySem.W.tab_of T X hd' hcp
  ·rw [List.mem_singleton.mp hr]
   exact PySem.W.tab_of T X hd2 hep
 ·obtain ⟨⟨c, PT⟩, hcp⟩ := Option.isSome_iff_exists.mp (htb w)
  obtain ⟨⟨e, PU⟩, hep⟩ := Option.isSome_iff_exists.mp (htb2 w)
  have ets : tsOf (K w.params) = [(c, PT), (e, PU)] := by unfold tsOf; rw [hcp, hep]
  have ept : ptOf (K w.params) = PT := by unfold ptOf; rw [hcp]; rfl
  have epu : puOf (K w.params) = PU := by unfold puOf; rw [hep]; rfl
  have hn := of_decide_eq_false (hne w)
  refine ⟨a, ns, rfl, hS, hl, ?_, ?_, hn, fun _ => rfl⟩
  ·rw [ept]
   exact ⟨#[], hT (c, PT) (by show (c, PT) ∈ tsOf (K w.params); rw [ets]; exact List.mem_cons_self), trivial, .inl rfl⟩
  ·rw [epu]
   exact ⟨#[], hT (e, PU) (by show (e, PU) ∈ tsOf (K w.params); rw [ets]; exact List.mem_cons_of_mem _ List.mem_cons_self), trivial, .inl rfl⟩
end Web
set_option Elab.async false
namespace PySem.W.Fast
def tw18222329571277950271 := 0
def tw11745848269352672385 := 0
def tw7541959334864842561 := 0
def tw4201093397033318046 := 0
def tw5444420047934088161 := 0
def tw3114488565068451233 := 0
def tw12417737726141673369 := 0
def tw11527863195705211935 := 0
def tw17001632774163571903 := 0
def tw8952287880518925762 := 0
def tw7902264165799532773 := 0
def tw829683123245115594 := 0
def tw16963153933093783287 := 0
def tw3090917659342813465 := 0
def tw7232967188907025499 := 0
def tw500410070597427357 := 0
def tw14769952982654546588 := 0
def tw12563013204442596433 := 0
def tw6675684144298926669 := 0
def tw16498400562814865552 := 0
def tw10451590591280316040 := 0
def tw5537720579849692474 := 0
def tw12782007169234451252 := 0
def tw10058383081036898811 := 0
def tw16683624716704952034 := 0
def tw7231516610682733208 := 0
def tw17221420887713602519 := 0
def tw5765218942675823538 := 0
def tw6953340940868603241 := 0
def tw5764400877442097258 := 0
def tw11714260590993826759 := 0
def tw11252766965826039680 := 0
def tw13959453319318664192 := 0
def tw16051938776493840515 := 0
def tw3313498365351598008 := 0
def tw15797360309680994871 := 0
def tw8771054088164793756 := 0
def tw13500430586991649745 := 0
def tw1570158286926263185 := 0
def tw7355033281398671860 := 0
def tw2964379831137886988 := 0
def tw12760103952629823483 := 0
def tw6245586583957724156 := 0
def tw9925797372367346843 := 0
end PySem.W.Fast
open PySem PySem.W PyProof.Rows
set_option maxRecDepth 100000 in
set_option maxHeartbeats 0 in
theorem PySem.Challenge.cw_tallyweb_k67_whole_thick_never_both_holds : PySem.Challenge.rw_tallyweb_k67_whole_thick_never_both.Holds := by
 w_on; o_law; k_head; (case hw => w_witness2)
 k_fill
 refine Web.walk (l := PySem.Challenge.rw_tallyweb_k67_whole_thick_never_both) rfl rfl (fun w h Y => PySem.W.km_in_of Y) ?hN0 ?hR0 ?hT0 ?hR1 ?hT1 ?hE0 ?F
 case hN0 => intro w; kernel_rfl
 case hR0 => kernel_rfl
 case hT0 => intro w; kernel_rfl
 case hR1 => kernel_rfl
 case hT1 => intro w; kernel_rfl
 case hE0 => intro w; kernel_rfl
 case F =>
  intro w mg fa h KX G hmg
  refine' Web.all_mk KX G hmg ?aH ?lH ?cH ?kH ?aV ?lV ?cV ?kV ?aS ?lS ?cS ?kS ?aI ?lI ?cI ?kI ?aU ?lU ?cU ?kU ?aN ?lN ?cN ?kN ?aD ?lD ?cD ?kD ?aT ?lT ?cT ?kT ?aF ?lF ?cF ?kF ?aA ?lA ?cA ?kA ?aρ ?lρ ?cρ ?kρ ?aβ ?lβ ?cβ ?kβ ?aω ?lω ?cω ?kω ?aG ?lG ?cG ?kG ?aQ ?lQ ?cQ ?kQ ?aL ?lL ?cL ?kL ?aJ ?lJ ?cJ ?kJ ?aY ?lY ?cY ?kY ?aO ?lO ?cO ?kO ?aX ?lX ?cX ?kX ?aE ?lE ?cE ?kE ?aC ?lC ?cC ?kC ?aR ?lR ?cR ?kR ?aP ?lP ?cP ?kP ?aW ?lW ?cW ?kW ?aK ?lK ?cK ?kK ?aZ ?lZ ?cZ ?kZ ?mo ?gm ?aBadWeb ?aBadTally ?aBadNumber ?qBadTally ?xmBadTally ?qBadNumber ?xmBadNumber ?tb ?tb2 ?z1 ?z2 ?z3 ?z4 ?z5 ?z6 ?z7 ?z8 ?z9 ?z10 ?z11 ?z12 ?z13 ?z14 ?z15 ?z16 ?z17
  (case aH => k_is); (case lH => k_is); (case cH => k_is); (case kH => k_is)
  (case aV => k_is); (case lV => k_is); (case cV => k_is); (case kV => k_is)
  (case aS => k_is); (case lS => k_is); (case cS => k_is); (case kS => k_is)
  (case aI => k_is); (case lI => k_is); (case cI => k_is); (case kI => k_is)
  (case aU => k_is); (case lU => k_is); (case cU => k_is); (case kU => k_is)
  (case aN => k_is); (case lN => k_is); (case cN => k_is); (case kN => k_is)
  (case aD => k_is); (case lD => k_is); (case cD => k_is); (case kD => k_is)
  (case aT => k_is); (case lT => k_is); (case cT => k_is); (case kT => k_is)
  (case aF => k_is); (case lF => k_is); (case cF => k_is); (case kF => k_is)
  (case aA => k_is); (case lA => k_is); (case cA => k_is); (case kA => k_is)
  (case aρ => k_is); (case lρ => k_is); (case cρ => k_is); (case kρ => k_is)
  (case aβ => k_is); (case lβ => k_is); (case cβ => k_is); (case kβ => k_is)
  (case aω => k_is); (case lω => k_is); (case cω => k_is); (case kω => k_is)
  (case aG => k_is); (case lG => k_is); (case cG => k_is); (case kG => k_is)
  (case aQ => k_is); (case lQ => k_is); (case cQ => k_is); (case kQ => k_is)
  (case aL => k_is); (case lL => k_is); (case cL => k_is); (case kL => k_is)
  (case aJ => k_is); (case lJ => k_is); (case cJ => k_is); (case kJ => k_is)
  (case aY => k_is); (case lY => k_is); (case cY => k_is); (case kY => k_is)
  (case aO => k_is); (case lO => k_is); (case cO => k_is); (case kO => k_is)
  (case aX => k_is); (case lX => k_is); (case cX => k_is); (case kX => k_is)
  (case aE => k_is); (case lE => k_is); (case cE => k_is); (case kE => k_is)
  (case aC => k_is); (case lC => k_is); (case cC => k_is); (case kC => k_is)
  (case aR => k_is); (case lR => k_is); (case cR => k_is); (case kR => k_is)
  (case aP => k_is); (case lP => k_is); (case cP => k_is); (case kP => k_is)
  (case aW => k_is); (case lW => k_is); (case cW => k_is); (case kW => k_is)
  (case aK => k_is); (case lK => k_is); (case cK => k_is); (case kK => k_is)
  (case aZ => k_is); (case lZ => k_is); (case cZ => k_is); (case kZ => k_is)
  (case mo => k_is); (case gm => k_is); (case aBadWeb => k_is); (case aBadTally => k_is)
  (case aBadNumber => k_is); (case qBadTally => k_exc); (case xmBadTally => kts_exm); (case qBadNumber => k_exc)
  (case xmBadNumber => kts_exm); (case tb => kernel_rfl); (case tb2 => kernel_rfl); (case z1 => k_is)
  (case z2 => k_is); (case z3 => k_is); (case z4 => k_is); (case z5 => k_is)
  (case z6 => k_is); (case z7 => k_is); (case z8 => k_is); (case z9 => k_is)
  (case z10 => k_is); (case z11 => k_is); (case z12 => k_is); (case z13 => k_is)
  (case z14 => k_is); (case z15 => k_is); (case z16 => k_is); (case z17 => k_is)
#print axioms PySem.Challenge.cw_tallyweb_k67_whole_thick_never_both_holds
