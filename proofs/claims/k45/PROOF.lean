import PyProof.Rows.All
import Wide.All
import OpenK.AllK
import Wide.FinOn
import Lean
import PyProof.EqAt
import PyProof.EqKinds
import PyProof.TupleCall
import PyProof.Rows.SortRunsK
import PyProof.Rows.SortShellK
import KE.KSortTup
import PyProof.TupleKey
import PySem.SetOps
import PyProof.Rows.SetFrom
import PyProof.EnumFor
import PyProof.EnumStmt
import PyProof.EnumMake
import PyProof.P3Eq
import PyProof.NeData
import PyProof.P3In
import PyProof.Rows.SumAny
import KE.KLam
import KE.KSortKey
import PyProof.ListRange
import KE.KTryMore
import PyProof.NsDelKeeps
import PyProof.RulesAs
import PyProof.ExcBaseAll.ValueError
import PyProof.ExcArgsOwn
import KE.KIsAll
import PyProof.Rows.SortRev
import PyProof.TupleOfSeq
import Wide.Txt2
import PyProof.Cells
import PyProof.Draws
import KE.KTupSum
import PyProof.Rows.TupAdd
import KE.KRevIter
import PyProof.ListNew
import PyProof.ZipIter
import KE.BitLaws
import PyProof.ListMulRoad
import KE.RegKIsAll
import KE.RegKTryMore
import PySem.Challenge.RW_tallyweb_k45_whole_swaps_led
set_option autoImplicit false
set_option linter.all false
set_option Elab.async false
set_option maxRecDepth 100000
namespace L2
open PySem PySem.Spec PyProof.Rows
abbrev Key := Sum Int Str
def keyIs : Key -> Value -> Bool
 | .inl k, v => Value.isInt k v
 | .inr x, v => Value.isStrOf x v
def keyH (w : World) : Key -> Int
 | .inl k => hashInt k
 | .inr x => hashStr w x
theorem keyIs_shape : ∀ {k : Key} {v : Value}, keyIs k v = true -> (∃ i t, k = Sum.inl i /\ v = Value.int i t) \/ (∃ x t, k = Sum.inr x /\ v = Value.str x t)
 | .inl i, v, h => by
  obtain ⟨t, e⟩ := Value.isInt_shape (k := i) (v := v) h
  exact .inl ⟨i, t, rfl, e⟩
 | .inr x, v, h => by
  obtain ⟨t, e⟩ := Value.isStrOf_shape (x := x) (v := v) h
  exact .inr ⟨x, t, rfl, e⟩
theorem key_ll (a b : Int) : decide ((Sum.inl a : Key) = Sum.inl b) = (a == b) := by
 by_cases e : a = b
 ·subst e; simp
 ·have h : ¬ (Sum.inl a : Key) = Sum.inl b := fun q => e (Sum.inl.inj q)
  rw [decide_eq_false h]
  exact (beq_eq_false_iff_ne.mpr e).symm
theorem key_rr (a b : Str) : decide ((Sum.inr a : Key) = Sum.inr b) = decide (a = b) := by
 by_cases e : a = b
 ·subst e; simp
 ·have h : ¬ (Sum.inr a : Key) = Sum.inr b := fun q => e (Sum.inr.inj q)
  rw [decide_eq_false h, decide_eq_false e]
theorem key_lr (a : Int) (b : Str) : decide ((Sum.inl a : Key) = Sum.inr b) = false := decide_eq_false (fun q => nomatch q)
theorem key_rl (a : Str) (b : Int) : decide ((Sum.inr a : Key) = Sum.inl b) = false := decide_eq_false (fun q => nomatch q)
def mixKind (prog : Program) (w : World) : PySem.KeyKind prog w Key where
  is := keyIs
  hash := keyH w
  inj := fun v a b ha hb => by
    rcases keyIs_shape ha with ⟨i, t, rfl, rfl⟩ | ⟨x, t, rfl, rfl⟩
    · rcases keyIs_shape hb with ⟨j, u, rfl, e⟩ | ⟨y, u, rfl, e⟩
      · injection e with e1 _; rw [e1]
      · exact nomatch e
    · rcases keyIs_shape hb with ⟨j, u, rfl, e⟩ | ⟨y, u, rfl, e⟩
      · exact nomatch e
      · injection e with e1 _; rw [e1]
  byValue := fun k v h => by
    rcases keyIs_shape h with ⟨i, t, rfl, rfl⟩ | ⟨x, t, rfl, rfl⟩ <;> rfl
  pyHash := fun hv h => by
    rcases keyIs_shape hv with ⟨i, t, rfl, rfl⟩ | ⟨x, t, rfl, rfl⟩
    · exact wpAny_pyHash_int h
    · exact wpAny_pyHash_str h
  eqBool := fun hu hv h => by
    rcases keyIs_shape hu with ⟨i, t, rfl, rfl⟩ | ⟨x, t, rfl, rfl⟩
    · rcases keyIs_shape hv with ⟨j, u, rfl, rfl⟩ | ⟨y, u, rfl, rfl⟩
      · rw [key_ll] at h; exact wpAny_eqBool_int h
      · rw [key_lr] at h; exact SeqAt.EqAt.int_str i t y u _ _ _ _ h
    · rcases keyIs_shape hv with ⟨j, u, rfl, rfl⟩ | ⟨y, u, rfl, rfl⟩
      · rw [key_rl] at h; exact SeqAt.EqAt.str_int x t j u _ _ _ _ h
      · rw [key_rr] at h; exact wpAny_eqBool_str h
  «strs» := fun k x t v h => by
    rcases keyIs_shape h with ⟨i, u, rfl, e⟩ | ⟨y, u, rfl, e⟩
    · exact nomatch e
    · injection e with e1 _
      subst e1
      cases v <;> rfl
inductive V where
 | non | bl (b : Bool) | int (i : Int) | str (x : Str) | byt (b : Array UInt8) | flt (b : UInt64) | ref (a : Addr) | ty (n : String)
 deriving DecidableEq
def RelV : V -> Value -> Prop
 | .non, u => u = Value.none
 | .bl b, u => u = Value.bool b
 | .int i, u => ∃ t, u = Value.int i t
 | .str x, u => ∃ t, u = Value.str x t
 | .byt b, u => ∃ t, u = Value.bytes b t
 | .flt b, u => ∃ t, u = Value.float b t
 | .ref a, u => u = Value.ref a
 | .ty n, u => u = Value.type n
abbrev Vals : List V -> List Value -> Prop := Paired RelV
theorem Vals.length {xs : List V} {us : List Value} (r : Vals xs us) : xs.length = us.length := Paired.length r
theorem Vals.get : ∀ {xs : List V} {us : List Value} {i : Nat} {x : V}, Vals xs us -> xs[i]? = some x -> ∃ u, us[i]? = some u /\ RelV x u
 | _, _, _, _, .nil, e => by simp at e
 | _, _, 0, _, .cons r _, e => by simp at e; subst e; exact ⟨_, rfl, r⟩
 | _, _, i + 1, x, .cons _ t, e => by
  obtain ⟨u, h1, h2⟩ := Vals.get (i := i) (x := x) t (by simpa using e)
  exact ⟨u, by simpa using h1, h2⟩
theorem Vals.set {x : V} {u : Value} (r : RelV x u) : ∀ {xs : List V} {us : List Value} (i : Nat), Vals xs us -> Vals (xs.set i x) (us.set i u)
 | _, _, _, .nil => .nil
 | _, _, 0, .cons _ t => .cons r t
 | _, _, i + 1, .cons q t => .cons q (Vals.set r i t)
theorem Vals.append : ∀ {xs ys : List V} {us ws : List Value}, Vals xs us -> Vals ys ws -> Vals (xs ++ ys) (us ++ ws)
 | _, _, _, _, .nil, s => s
 | _, _, _, _, .cons r t, s => .cons r (Vals.append t s)
theorem Vals.take : ∀ {xs : List V} {us : List Value} (n : Nat), Vals xs us -> Vals (xs.take n) (us.take n)
 | _, _, 0, _ => .nil
 | _, _, _ + 1, .nil => .nil
 | _, _, n + 1, .cons r t => .cons r (Vals.take n t)
theorem Vals.drop : ∀ {xs : List V} {us : List Value} (n : Nat), Vals xs us -> Vals (xs.drop n) (us.drop n)
 | _, _, 0, r => r
 | _, _, _ + 1, .nil => .nil
 | _, _, n + 1, .cons _ t => Vals.drop n t
def RelO : Option V -> Option Value -> Prop
 | some v, some u => RelV v u
 | none, none => True
 | _, _ => False
def KV {κ : Type} : List (κ × V) -> List (κ × Value) -> Prop := Paired fun (p : κ × V) (q : κ × Value) => p.1 = q.1 /\ RelV p.2 q.2
def kV : Key -> V
 | .inl i => .int i
 | .inr x => .str x
inductive HO where
  | lst (xs : List V)
  | tup (xs : List V)
  | dK (kvs : List (Key × V)) | dT (kvs : List (List Key × V))
  | set (S : Int -> Bool) (n : Nat)
  | ins (C dx : Addr) (fs : List (Str × V))
  | own (x : Addr)
  | xd (fs : List (Str × V))
  | met (f x : Addr)
  | rng (lo hi : Int)
  | frz (o : Obj) (u : HO)
  | tbl (ps : Array Value)
  | ext (φ : Heap -> Prop)
abbrev Hp := Addr -> Option HO
def upd (H : Hp) (a : Addr) (o : HO) : Hp := fun b => if b = a then some o else H b
theorem upd_same {H : Hp} {a : Addr} {o : HO} : upd H a o a = some o := by unfold upd; rw [if_pos rfl]
theorem upd_ne {H : Hp} {a b : Addr} {o : HO} (h : b ≠ a) : upd H a o b = H b := by unfold upd; rw [if_neg h]
theorem ne_of {H : Hp} {a b : Addr} {o u : HO} (h : H a = some o) (h' : H b = some u) (d : o ≠ u) : a ≠ b := by
 intro e; subst e; rw [h] at h'; exact d (Option.some.inj h')
theorem ne_of_none {H : Hp} {a b : Addr} {o : HO} (h : H a = some o) (h' : H b = none) : a ≠ b := by
 intro e; subst e; rw [h] at h'; cases h'
section
variable (P : Program) (w : World)
def ObjOk (H : Hp) (h : Heap) (a : Addr) : HO -> Prop
 | .lst xs => xs.length <= sizeLine /\ ∃ (its : List Value) (n : Nat), Vals xs its /\ h.get? a = some { cls := .type "list", data := .seq its.toArray n }
 | .tup xs => xs.length <= sizeLine /\ ∃ its : List Value, Vals xs its /\ IsTup h a its.toArray
 | .dK kvs => kvs.length <= sizeLine /\ (a == sysModules) = false /\ ∃ vs, KV kvs vs /\ h.DictOf (mixKind P w) a vs
 | .dT kvs => kvs.length <= sizeLine /\ (a == sysModules) = false /\ ∃ xs : List (List Key × Addr × Value),
   Paired (fun (p : List Key × V) (q : List Key × Addr × Value) => p.1 = q.1 /\ H q.2.1 = some (.tup (p.1.map kV)) /\ RelV p.2 q.2.2) kvs xs /\
   ∃ o es ep, h.get? a = some o /\ o.ExactDict /\ o.data = .dict es ep /\ es.toList = xs.map (entryOfKey (tupleKind (mixKind P w))) /\ (xs.map (·.1)).Nodup
 | .set S n => h.SetOf (intKind P w) a S n
 | .ins C dx fs => H dx = some (.own a) /\ fs.length <= 1000 /\ dx ≠ a /\ h.get? a = some (PySem.W.instObj C dx) /\
   ∃ mA, h.Ns1 dx mA /\ (∀ f, RelO (fs.lookup f) (mA f)) /\ PySem.Within mA (fs.map (·.1))
 | .own _ => ∃ o, h.get? a = some o
 | .xd fs => ∃ mA, h.Ns1 a mA /\ ∀ f, RelO (fs.lookup f) (mA f)
 | .rng lo hi => ∃ t u v, h.get? a = some { cls := .type "range", data := .fields #[.int lo t, .int hi u, .int 1 v] }
 | .frz o u => h.get? a = some o /\ ObjOk H h a u
 | .tbl ps => h.get? a = some { cls := .none, data := .fields ps }
 | .met f x => h.get? a = some (PySem.W.methodObj (.ref f) (.ref x))
 | .ext φ => φ h /\ (∃ o, h.get? a = some o) /\ ∀ h1 h2 : Heap, φ h1 -> (∀ o, h1.get? a = some o -> h2.get? a = some o) -> φ h2
def HOk (H : Hp) (h : Heap) : Prop := ∀ a o, H a = some o -> ObjOk P w H h a o
end
section
variable {P : Program} {w : World} {H H' : Hp} {h h' : Heap} {a : Addr} {o : HO}
theorem ObjOk.lt (x : ObjOk P w H h a o) : a < h.objs.size := by
 cases o with
 | lst xs => obtain ⟨_, _, _, _, e⟩ := x; exact Heap.lt_size e
 | tup xs => obtain ⟨_, _, _, p⟩ := x; exact p.lt
 | dK kvs => obtain ⟨_, _, _, _, o, _, _, e, _⟩ := x; exact Heap.lt_size e
 | dT kvs => obtain ⟨_, _, _, _, o, _, _, e, _⟩ := x; exact Heap.lt_size e
 | set S n => obtain ⟨o, _, _, _, e, _⟩ := x; exact Heap.lt_size e
 | ins C dx fs => obtain ⟨_, _, _, e, _⟩ := x; exact Heap.lt_size e
 | own y => obtain ⟨_, e⟩ := x; exact Heap.lt_size e
 | xd fs => obtain ⟨_, ⟨_, _, _, e, _⟩, _⟩ := x; exact Heap.lt_size e
 | rng lo hi => obtain ⟨_, _, _, e⟩ := x; exact Heap.lt_size e
 | frz ob u => obtain ⟨e, _⟩ := x; exact Heap.lt_size e
 | tbl ps => exact Heap.lt_size (show h.get? a = some _ from x)
 | met f y => exact Heap.lt_size (show h.get? a = some _ from x)
 | ext φ => obtain ⟨_, ⟨_, e⟩, _⟩ := x; exact Heap.lt_size e
theorem Paired.mapP {α β : Type} {F G : α -> β -> Prop} : ∀ {l₁ : List α} {l₂ : List β}, Paired F l₁ l₂ -> (∀ a b, F a b -> G a b) -> Paired G l₁ l₂
 | _, _, .nil, _ => .nil
 | _, _, .cons r t, f => .cons (f _ _ r) (Paired.mapP t f)
theorem ObjOk.stay (x : ObjOk P w H h a o) (k : ∀ b u, (b = a \/ H b = some (.own a)) -> h.get? b = some u -> h'.get? b = some u)
  (ho : ∀ b, H b = some (.own a) -> H' b = some (.own a)) (ht : ∀ b xs, H b = some (.tup xs) -> H' b = some (.tup xs)) : ObjOk P w H' h' a o := by
 induction o with
 | lst xs => obtain ⟨z, its, n, r, e⟩ := x; exact ⟨z, its, n, r, k _ _ (.inl rfl) e⟩
 | tup xs => obtain ⟨z, its, r, ob, e, c⟩ := x; exact ⟨z, its, r, ob, k _ _ (.inl rfl) e, c⟩
 | dK kvs => obtain ⟨z, y, vs, r, ob, es, ep, e, c⟩ := x; exact ⟨z, y, vs, r, ob, es, ep, k _ _ (.inl rfl) e, c⟩
 | dT kvs =>
  obtain ⟨z, y, xs, r, ob, es, ep, e, c⟩ := x
  exact ⟨z, y, xs, Paired.mapP r fun p q z => ⟨z.1, ht _ _ z.2.1, z.2.2⟩, ob, es, ep, k _ _ (.inl rfl) e, c⟩
 | set S n => obtain ⟨ob, es, ep, t, e, c⟩ := x; exact ⟨ob, es, ep, t, k _ _ (.inl rfl) e, c⟩
 | ins C dx fs =>
  obtain ⟨d, z, ne, e, mA, ⟨od, es, ep, e2, c⟩, r⟩ := x
  exact ⟨ho _ d, z, ne, k _ _ (.inl rfl) e, mA, ⟨od, es, ep, k _ _ (.inr d) e2, c⟩, r⟩
 | own y => obtain ⟨ob, e⟩ := x; exact ⟨ob, k _ _ (.inl rfl) e⟩
 | xd fs => obtain ⟨mA, ⟨od, es, ep, e, c⟩, r⟩ := x; exact ⟨mA, ⟨od, es, ep, k _ _ (.inl rfl) e, c⟩, r⟩
 | rng lo hi => obtain ⟨t, u, v, e⟩ := x; exact ⟨t, u, v, k _ _ (.inl rfl) e⟩
 | frz ob u ih => obtain ⟨e, q⟩ := x; exact ⟨k _ _ (.inl rfl) e, ih q⟩
 | tbl ps =>
  have e : h.get? a = some { cls := .none, data := .fields ps } := x
  show h'.get? a = some { cls := .none, data := .fields ps }
  exact k a _ (.inl rfl) e
 | met f y =>
  have e : h.get? a = some (PySem.W.methodObj (.ref f) (.ref y)) := x
  show h'.get? a = some (PySem.W.methodObj (.ref f) (.ref y))
  exact k a _ (.inl rfl) e
 | ext φ => obtain ⟨p, ⟨o, e⟩, st⟩ := x; exact ⟨st _ _ p fun o q => k _ _ (.inl rfl) q, ⟨o, k _ _ (.inl rfl) e⟩, st⟩
theorem HOk.lt (x : HOk P w H h) (e : H a = some o) : a < h.objs.size := (x a o e).lt
theorem HOk.fresh (x : HOk P w H h) (e : h.objs.size <= a) : H a = none := by
 cases q : H a with
 | none => rfl
 | some u => exact absurd (Nat.lt_of_lt_of_le (x.lt q) e) (Nat.lt_irrefl _)
theorem HOk.kept (x : HOk P w H h) (k : ∀ b u, h.get? b = some u -> h'.get? b = some u) : HOk P w H h' := fun a o e =>
 (x a o e).stay (fun b u _ q => k b u q) (fun _ q => q) fun _ _ q => q
theorem HOk.laid (x : HOk P w H h) (k : ∀ b u, h.get? b = some u -> h'.get? b = some u) (hp : h.objs.size <= a) (new : ObjOk P w (upd H a o) h' a o) : HOk P w (upd H a o) h' := fun b u e => by
 have hn := x.fresh hp
 by_cases hb : b = a
 ·subst hb; rw [upd_same] at e; cases e; exact new
 ·rw [upd_ne hb] at e
  exact (x b u e).stay (fun c v _ q => k c v q) (fun c q => by rw [upd_ne (ne_of_none q hn)]; exact q) fun c xs q => by rw [upd_ne (ne_of_none q hn)]; exact q
end
def Rd (H : Hp) (a : Addr) (u : HO) : Prop := H a = some u \/ ∃ o, H a = some (.frz o u)
theorem Rd.ok {P : Program} {w : World} {H : Hp} {h : Heap} {a : Addr} {u : HO} (r : Rd H a u) (x : HOk P w H h) : ObjOk P w H h a u := by
 rcases r with r | ⟨o, r⟩
 ·exact x a u r
 ·obtain ⟨_, q⟩ := x a _ r
  exact q
def Mut : Option HO -> Prop
 | some (.lst _) => True
 | some (.dK _) => True
 | some (.dT _) => True
 | some (.set _ _) => True
 | some (.ins _ _ _) => True
 | some (.ext _) => True
 | _ => False
section
variable {P : Program} {w : World} {H : Hp} {h h' : Heap} {x e : Addr} {o' : HO}
theorem HOk.write (ok : HOk P w H h) (mu : Mut (H x)) (he : e = x \/ H e = some (.own x)) (k : ∀ b u, b ≠ e -> h.get? b = some u -> h'.get? b = some u) (heo : ∃ u, h'.get? e = some u)
  (new : ObjOk P w (upd H x o') h' x o') : HOk P w (upd H x o') h' := fun b u q => by
 have nown : ∀ c y, H c = some (.own y) -> c ≠ x := fun c y r z => by subst z; rw [r] at mu; exact mu
 have ntup : ∀ c xs, H c = some (.tup xs) -> c ≠ x := fun c xs r z => by subst z; rw [r] at mu; exact mu
 by_cases hb : b = x
 ·subst hb; rw [upd_same] at q; cases q; exact new
 ·rw [upd_ne hb] at q
  by_cases hbe : b = e
  ·have q' : H b = some (.own x) := by
    rcases he with z | z
    ·exact absurd (hbe.trans z) hb
    ·rw [hbe]; exact z
   rw [q] at q'; cases q'
   obtain ⟨v, hv⟩ := heo
   exact ⟨v, by rw [hbe]; exact hv⟩
  ·refine (ok b u q).stay (fun c v hc r => k c v ?_ r) (fun c r => by rw [upd_ne (nown c b r)]; exact r) fun c xs r => by rw [upd_ne (ntup c xs r)]; exact r
   rcases hc with rfl | hc
   ·exact hbe
   ·rintro rfl
    rcases he with z | z
    ·exact nown c b hc z
    ·rw [hc] at z; cases z; exact hb rfl
end
structure Un (fs ex : List Addr) (H H' : Hp) (h h' : Heap) : Prop where
 keep : ∀ b o, h.get? b = some o -> H b = none -> b ∉ fs -> b ∉ ex -> h'.get? b = some o
 slot : ∀ b o, h.get? b = some o -> H b = none -> b ∈ fs -> b ∉ ex -> ∃ sl, h'.get? b = some { o with slots := sl }
 free : ∀ b o, h.get? b = some o -> H b = none -> b ∉ ex -> H' b = none
 there : ∀ b o, h.get? b = some o -> b ∉ ex -> ∃ o', h'.get? b = some o'
 tups : ∀ b xs, H b = some (.tup xs) -> H' b = some (.tup xs)
 frzs : ∀ b o u, H b = some (.frz o u) -> H' b = some (.frz o u)
 tbls : ∀ b ps, H b = some (.tbl ps) -> ∃ more, H' b = some (.tbl (ps ++ more))
section
variable {fs fs' ex ex' : List Addr} {H H1 H2 : Hp} {h h1 h2 h' : Heap} {a x e : Addr} {o : HO}
theorem Un.any (u : Un fs ex H H1 h h1) {b : Addr} {ob : Obj} (q : h.get? b = some ob) (n : H b = none) (hx : b ∉ ex) : ∃ sl, h1.get? b = some { ob with slots := sl } := by
 by_cases hb : b ∈ fs
 ·exact u.slot b ob q n hb hx
 ·exact ⟨ob.slots, u.keep b ob q n hb hx⟩
theorem Un.kept (k : ∀ b u, h.get? b = some u -> h'.get? b = some u) : Un fs ex H H h h' :=
 ⟨fun b ob q _ _ _ => k b ob q, fun b ob q _ _ _ => ⟨ob.slots, k b ob q⟩, fun _ _ _ n _ => n, fun b ob q _ => ⟨ob, k b ob q⟩, fun _ _ q => q, fun _ _ _ q => q, fun _ ps q => ⟨#[], by rw [q]; simp⟩⟩
theorem Un.refl : Un fs ex H H h h := Un.kept fun _ _ q => q
theorem Un.laid (k : ∀ b u, h.get? b = some u -> h'.get? b = some u) (hp : h.objs.size <= a) (hn : H a = none) : Un fs ex H (upd H a o) h h' where
 keep := fun b u q _ _ _ => k b u q
 slot := fun b u q _ _ _ => ⟨u.slots, k b u q⟩
 free := fun b u q n _ => by rw [upd_ne (Nat.ne_of_lt (Nat.lt_of_lt_of_le (Heap.lt_size q) hp))]; exact n
 there := fun b u q _ => ⟨u, k b u q⟩
 tups := fun b xs q => by rw [upd_ne (ne_of_none q hn)]; exact q
 frzs := fun b u xs q => by rw [upd_ne (ne_of_none q hn)]; exact q
 tbls := fun b ps q => ⟨#[], by rw [upd_ne (ne_of_none q hn), q]; simp⟩
theorem Un.write (mu : Mut (H x)) (he : e = x \/ H e = some (.own x)) (k : ∀ b u, b ≠ e -> h.get? b = some u -> h'.get? b = some u) (heo : ∃ u, h'.get? e = some u) : Un fs ex H (upd H x o) h h' := by
 have hx : ∀ b, H b = none -> b ≠ x := fun b n z => by subst z; rw [n] at mu; exact mu
 have hb : ∀ b, H b = none -> b ≠ e := fun b n z => by
  subst z
  rcases he with r | r
  ·exact hx b n r
  ·rw [n] at r; cases r
 have hm : ∀ b u, H b = some u -> ¬ Mut (some u) -> b ≠ x := fun b u q nm z => by subst z; rw [q] at mu; exact nm mu
 refine ⟨fun b u q n _ _ => k b u (hb b n) q, fun b u q n _ _ => ⟨u.slots, k b u (hb b n) q⟩, fun b u q n _ => by rw [upd_ne (hx b n)]; exact n, fun b u q _ => ?_,
  fun b xs q => by rw [upd_ne (hm b _ q fun z => z)]; exact q, fun b u xs q => by rw [upd_ne (hm b _ q fun z => z)]; exact q, fun b ps q => ⟨#[], by rw [upd_ne (hm b _ q fun z => z), q]; simp⟩⟩
 by_cases hbe : b = e
 ·subst hbe; exact heo
 ·exact ⟨u, k b u hbe q⟩
end
def trk (h : Heap) (H : Hp) : List Addr := (List.range h.objs.size).filter fun a => (H a).isSome
def hidT (h : Heap) (H : Hp) : Heap := PySem.W.hideAll h (trk h H)
theorem hidT_size (h : Heap) (H : Hp) : (hidT h H).objs.size = h.objs.size := PySem.W.hideAll_size _ _
theorem hidT_get {h : Heap} {H : Hp} {b : Addr} {o : Obj} (e : h.get? b = some o) (n : H b = none) : (hidT h H).get? b = some o :=
 PySem.W.hideAll_get _ e fun hm => by
  have q : (H b).isSome = true := (List.mem_filter.mp hm).2
  rw [n] at q; simp at q
theorem of_hidT {h : Heap} {H : Hp} {b : Addr} {o : Obj} (e : (hidT h H).get? b = some o) : h.get? b = some o /\ H b = none := by
 have e' : h.get? b = some o := PySem.W.of_hideAll (trk h H) e
 refine ⟨e', ?_⟩
 cases q : H b with
 | none => rfl
 | some x =>
  have hm : b ∈ trk h H := List.mem_filter.mpr ⟨List.mem_range.mpr (Heap.lt_size e'), by simp [q]⟩
  have z : (hidT h H).get? b = none := PySem.W.hideAll_none (trk h H) hm
  rw [z] at e; cases e
def allNews (g h : Heap) (L : Addr) : List (Addr × Obj) := (List.range h.objs.size).filterMap fun a => if a = L \/ (g.get? a).isSome = true then none else (h.get? a).map fun o => (a, o)
def rest (g h : Heap) (L d : Addr) : List (Addr × Obj) := (allNews g h L).filter fun p => decide (p.1 ≠ d)
structure Mod (K : W.Frag) (mg : Str -> Option Value) (base : Heap) : Prop where
 kin : K.In base
 glob : base.Ns mainGlobals mg
 blt : ∃ mb, base.Ns builtinsNs mb /\ ∀ x : Str, x ≠ "__name__" -> mb x = bootBuiltins x
 nolimit : base.NoLimit
structure Cx where
 prog : Program
 w : World
 K : W.Frag
 mg : Str -> Option Value
 base : Heap
 A : Around
 N : List Str
 s₀ : Shared
 H₀ : Hp
 env : Env
 outer : List Env
 stack : List Env
 ex : List Addr
 fn : Str -> Bool
 calm : Bool
 pn : List (Addr × Obj)
 xe : Value -> Shared -> Prop
def frs (l : List Env) : List Addr := l.filterMap (·.frame)
abbrev Cx.fs (X : Cx) : List Addr := frs X.outer
def Vis (sc : Scope) (x : Str) : Prop := sc.names.lookup x = some .local \/ sc.names.lookup x = some .cell \/ sc.names.lookup x = some .free
def Loc (sc : Scope) (x : Str) : Prop := sc.names.lookup x = some .local \/ sc.names.lookup x = some .cell
def Look (env : Env) (h : Heap) (m : Str -> Option Value) (x : Str) (u : Value) : Prop :=
 (env.kindOf x = some .local /\ m x = some u) \/ ((env.kindOf x = some .cell \/ env.kindOf x = some .free) /\ ∃ c, env.cells.lookup x = some c /\ h.IsCell c (some u))
structure Cx.Ok (X : Cx) : Prop where
 mod : Mod X.K X.mg X.base
 kind : X.env.scope.kind = .function
 glob : X.env.globals = mainGlobals
 blt : X.env.builtins = builtinsNs
 above : X.s₀.heap.objs.size <= X.env.locals
 inj : ∀ x y c, X.env.cells.lookup x = some c -> X.env.cells.lookup y = some c -> x = y
 has : ∀ x, (X.env.kindOf x = some .cell \/ X.env.kindOf x = some .free) -> ∃ c, X.env.cells.lookup x = some c
 cab : ∀ x c, X.fn x = true -> X.env.cells.lookup x = some c -> X.s₀.heap.objs.size <= c
 hd : X.calm = true -> X.A.handled = none
 frames : X.A.frames = some X.stack
 stk : X.stack = X.outer \/ (X.stack = X.env :: X.outer /\ X.env.frame = some X.env.locals)
 exf : ∀ b ∈ X.ex, b ≠ X.env.locals /\ ∀ x c, X.env.cells.lookup x = some c -> c ≠ b
 bs : ∀ b o, X.base.get? b = some o -> X.s₀.heap.get? b = some o /\ X.H₀ b = none
 bsz : X.base.objs.size <= X.s₀.heap.objs.size
 noex : ∀ b o, X.base.get? b = some o -> b ∉ X.ex
 exfs : ∀ b ∈ X.ex, b ∉ X.fs
 funs : X.s₀.heap.FunFrames X.base X.outer
 frf : ∀ b ∈ X.fs, X.H₀ b = none
structure Inv (X : Cx) (pins : List (Addr × Obj)) (σ : List (Option V)) (H : Hp) (s : Shared) : Prop where
 ok : X.Ok
 os : s.os = X.s₀.os
 bare : AllBare s.gens
 base : Un X.fs X.ex X.H₀ H X.s₀.heap s.heap
 loc : ∃ m, s.heap.Ns X.env.locals m /\ ∀ (i : Nat) (x : Str) (v : V), X.N[i]? = some x -> σ[i]? = some (some v) -> Vis X.env.scope x -> ∃ u, RelV v u /\ Look X.env s.heap m x u
 cell : ∀ x c, X.env.cells.lookup x = some c -> ∃ v, s.heap.IsCell c v
 free : H X.env.locals = none
 freeC : ∀ x c, X.env.cells.lookup x = some c -> H c = none
 pin : ∀ p ∈ X.pn ++ pins, s.heap.get? p.1 = some p.2 /\ H p.1 = none /\ p.1 ≠ X.env.locals /\ p.1 ∉ X.fs /\ ∀ v, p.2.data ≠ .cell v
 hok : HOk X.prog X.w H s.heap
 len : σ.length = X.N.length
section
variable {X : Cx} {pins : List (Addr × Obj)} {σ : List (Option V)} {H H' : Hp} {s : Shared} {h' : Heap}
theorem Cx.Ok.nofr (ok : X.Ok) {b : Addr} {o : Obj} (e : X.base.get? b = some o) : b ∉ X.fs := fun hb => by
 have := (ok.funs.mem hb).1
 rw [e] at this; cases this
theorem Inv.bs (I : Inv X pins σ H s) : ∀ b o, X.base.get? b = some o -> s.heap.get? b = some o /\ H b = none := fun b o e =>
 ⟨I.base.keep b o (I.ok.bs b o e).1 (I.ok.bs b o e).2 (I.ok.nofr e) (I.ok.noex b o e), I.base.free b o (I.ok.bs b o e).1 (I.ok.bs b o e).2 (I.ok.noex b o e)⟩
theorem Inv.bk (I : Inv X pins σ H s) : ∀ b o, X.base.get? b = some o -> s.heap.get? b = some o := fun b o e => (I.bs b o e).1
theorem Inv.mod (I : Inv X pins σ H s) : Mod X.K X.mg X.base := I.ok.mod
theorem Inv.kIn (I : Inv X pins σ H s) : X.K.In s.heap := I.ok.mod.kin.keeps I.bk
theorem Inv.lt (I : Inv X pins σ H s) : X.env.locals < s.heap.objs.size := let ⟨_, hn, _⟩ := I.loc; hn.lt
theorem Inv.sz (I : Inv X pins σ H s) : X.s₀.heap.objs.size <= s.heap.objs.size := Nat.le_trans I.ok.above (Nat.le_of_lt I.lt)
theorem Inv.nofs (I : Inv X pins σ H s) {a : Addr} (h : s.heap.objs.size <= a) : a ∉ X.fs := fun hb => by
 obtain ⟨_, o, ho, _⟩ := I.ok.funs.mem hb
 exact absurd (Nat.lt_of_lt_of_le (Heap.lt_size ho) (Nat.le_trans I.sz h)) (Nat.lt_irrefl _)
theorem Inv.cne (I : Inv X pins σ H s) : ∀ x c, X.env.cells.lookup x = some c -> c ≠ X.env.locals := fun x c e z => by
 obtain ⟨v, o, ho, hd⟩ := I.cell x c e
 obtain ⟨m, ⟨o', es, ep, ho', hd', _⟩, _⟩ := I.loc
 rw [z, ho'] at ho; cases ho; rw [hd'] at hd; cases hd
theorem Inv.funs (I : Inv X pins σ H s) : s.heap.FunFrames X.base X.outer := by
 have all : ∀ (l : List Env), (∀ b ∈ frs l, b ∈ X.fs) -> X.s₀.heap.FunFrames X.base l -> s.heap.FunFrames X.base l := by
  intro l
  induction l with
  | nil => intro _ _; trivial
  | cons env r ih =>
   intro hs hl
   obtain ⟨hk, ⟨L, o, hf, hn, ho, hd⟩, hr⟩ := hl
   have hL : L ∈ X.fs := hs L (by unfold frs; rw [List.filterMap_cons, hf]; exact List.mem_cons_self)
   obtain ⟨sl, e⟩ := I.base.slot L o ho (I.ok.frf L hL) hL fun z => I.ok.exfs L z hL
   exact ⟨hk, ⟨L, _, hf, hn, e, hd⟩, ih (fun b hb => hs b (by unfold frs; rw [List.filterMap_cons, hf]; exact List.mem_cons_of_mem _ hb)) hr⟩
 exact all X.outer (fun _ hb => hb) I.ok.funs
theorem Inv.stack (I : Inv X pins σ H s) : s.heap.FunFrames X.base X.stack := by
 rcases I.ok.stk with e | ⟨e, hf⟩
 ·rw [e]; exact I.funs
 ·rw [e]
  obtain ⟨m, hn, _⟩ := I.loc
  refine .cons (by rw [I.ok.kind]; decide) hf hn ?_ I.funs
  exact Heap.get?_none_of_le (Nat.le_trans I.ok.bsz I.ok.above)
theorem Inv.stkSub (I : Inv X pins σ H s) : ∀ b ∈ frs X.stack, b ∈ X.env.locals :: X.fs := fun b hb => by
 rcases I.ok.stk with e | ⟨e, hf⟩
 ·rw [e] at hb; exact List.mem_cons_of_mem _ hb
 ·rw [e] at hb
  unfold frs at hb
  rw [List.filterMap_cons, hf] at hb
  exact hb
theorem Inv.stkFree (I : Inv X pins σ H s) : ∀ b ∈ frs X.stack, H b = none := fun b hb => by
 rcases List.mem_cons.mp (I.stkSub b hb) with e | hb
 ·rw [e]; exact I.free
 ·obtain ⟨_, o, ho, _⟩ := I.ok.funs.mem hb
  exact I.base.free b o ho (I.ok.frf b hb) fun z => I.ok.exfs b z hb
theorem Inv.step {g' : Array GenState} {t' : Nat} {d' : Drawn} {ch : List Addr} (I : Inv X pins σ H s)
  (hch : ∀ b ∈ ch, (b ∈ X.ex \/ X.s₀.heap.objs.size <= b) /\ b ≠ X.env.locals /\ (∀ x c, X.env.cells.lookup x = some c -> c ≠ b) /\ ∀ p ∈ X.pn ++ pins, p.1 ≠ b)
  (keep : ∀ b o, b ≠ X.env.locals -> b ∉ X.fs -> b ∉ ch -> s.heap.get? b = some o -> H b = none -> h'.get? b = some o)
  (slot : ∀ b o, b ≠ X.env.locals -> b ∈ X.fs -> b ∉ ch -> s.heap.get? b = some o -> H b = none -> ∃ sl, h'.get? b = some { o with slots := sl }) (free : ∀ b o, b ∉ ch -> s.heap.get? b = some o -> H b = none -> H' b = none)
  (there : ∀ b o, b ∉ ch -> s.heap.get? b = some o -> ∃ o', h'.get? b = some o')
  (tups : ∀ b xs, H b = some (.tup xs) -> H' b = some (.tup xs)) (frzs : ∀ b o u, H b = some (.frz o u) -> H' b = some (.frz o u)) (tbls : ∀ b ps, H b = some (.tbl ps) -> ∃ more, H' b = some (.tbl (ps ++ more)))
  (ns : ∀ m, s.heap.Ns X.env.locals m -> h'.Ns X.env.locals m) (hok : HOk X.prog X.w H' h') (hg : AllBare g') :
  Inv X pins σ H' { s with heap := h', gens := g', drawn := d', toks := t' } := by
 have neL : ∀ b o, X.s₀.heap.get? b = some o -> b ≠ X.env.locals := fun b o e => Nat.ne_of_lt (Nat.lt_of_lt_of_le (Heap.lt_size e) I.ok.above)
 have neC : ∀ b o, X.s₀.heap.get? b = some o -> b ∉ X.ex -> b ∉ ch := fun b o e hx hb => by
  rcases (hch b hb).1 with z | z
  ·exact hx z
  ·exact absurd (Nat.lt_of_lt_of_le (Heap.lt_size e) z) (Nat.lt_irrefl _)
 have cellK : ∀ x c, X.env.cells.lookup x = some c -> ∀ v, s.heap.IsCell c v -> h'.IsCell c v := fun x c e v ⟨o, ho, hd⟩ => by
  have nch : c ∉ ch := fun z => (hch c z).2.2.1 x c e rfl
  by_cases hc : c ∈ X.fs
  ·obtain ⟨sl, q⟩ := slot c o (I.cne x c e) hc nch ho (I.freeC x c e)
   exact ⟨_, q, hd⟩
  ·exact ⟨o, keep c o (I.cne x c e) hc nch ho (I.freeC x c e), hd⟩
 refine ⟨I.ok, I.os, hg, ⟨fun b o e n hb hx => ?_, fun b o e n hb hx => ?_, fun b o e n hx => ?_, fun b o e hx => ?_, fun b xs e => tups b xs (I.base.tups b xs e), fun b o xs e => frzs b o xs (I.base.frzs b o xs e), fun b ps e => ?_⟩, ?_, fun x c e => ?_, ?_, fun x c e => ?_, fun p hp => ?_, hok, I.len⟩
 ·exact keep b o (neL b o e) hb (neC b o e hx) (I.base.keep b o e n hb hx) (I.base.free b o e n hx)
 ·obtain ⟨sl, e1⟩ := I.base.slot b o e n hb hx
  obtain ⟨sl', e2⟩ := slot b _ (neL b o e) hb (neC b o e hx) e1 (I.base.free b o e n hx)
  exact ⟨sl', e2⟩
 ·obtain ⟨o', e1⟩ := I.base.there b o e hx
  exact free b o' (neC b o e hx) e1 (I.base.free b o e n hx)
 ·obtain ⟨o', e1⟩ := I.base.there b o e hx
  exact there b o' (neC b o e hx) e1
 ·obtain ⟨m1, e1⟩ := I.base.tbls b ps e
  obtain ⟨m2, e2⟩ := tbls b _ e1
  exact ⟨m1 ++ m2, by rw [e2, Array.append_assoc]⟩
 ·obtain ⟨m, hn, hl⟩ := I.loc
  refine ⟨m, ns m hn, fun i x v e1 e2 e3 => ?_⟩
  obtain ⟨u, r, l⟩ := hl i x v e1 e2 e3
  refine ⟨u, r, ?_⟩
  rcases l with l | ⟨k, c, e, z⟩
  ·exact .inl l
  ·exact .inr ⟨k, c, e, cellK x c e _ z⟩
 ·obtain ⟨v, z⟩ := I.cell x c e
  exact ⟨v, cellK x c e v z⟩
 ·obtain ⟨m, ⟨o, _, _, ho, _⟩, _⟩ := I.loc
  exact free _ o (fun z => (hch _ z).2.1 rfl) ho I.free
 ·obtain ⟨v, o, ho, hd⟩ := I.cell x c e
  exact free c o (fun z => (hch c z).2.2.1 x c e rfl) ho (I.freeC x c e)
 ·obtain ⟨e, n, ne, nf, d⟩ := I.pin p hp
  have nch : p.1 ∉ ch := fun z => (hch p.1 z).2.2.2 p hp rfl
  exact ⟨keep p.1 p.2 ne nf nch e n, free p.1 p.2 nch e n, ne, nf, d⟩
theorem Inv.un {t' : Nat} (I : Inv X pins σ H s) (u : Un X.fs [] H H' s.heap h') (hok : HOk X.prog X.w H' h') : Inv X pins σ H' { s with heap := h', toks := t' } := by
 obtain ⟨m, ⟨o, es, ep, ho, r⟩, _⟩ := id I.loc
 obtain ⟨sl, hL⟩ := u.any ho I.free (by simp)
 exact I.step (g' := s.gens) (d' := s.drawn) (ch := []) (fun _ z => nomatch z) (fun b o _ hb _ e n => u.keep b o e n hb (by simp)) (fun b o _ hb _ e n => u.slot b o e n hb (by simp)) (fun b o _ e n => u.free b o e n (by simp)) (fun b o _ e => u.there b o e (by simp)) u.tups u.frzs u.tbls (fun m' hm => by
  obtain ⟨o', es', ep', ho', r'⟩ := hm
  rw [ho] at ho'; cases ho'
  exact ⟨_, es', ep', hL, r'⟩) hok I.bare
theorem Inv.call {g' : Array GenState} {t' : Nat} {d' : Drawn} {ch : List Addr} (I : Inv X pins σ H s) (u : Un (frs X.stack) ch H H' s.heap h') (hok : HOk X.prog X.w H' h') (hg : AllBare g')
  (hch : ∀ b ∈ ch, (b ∈ X.ex \/ X.s₀.heap.objs.size <= b) /\ b ≠ X.env.locals /\ (∀ x c, X.env.cells.lookup x = some c -> c ≠ b) /\ ∀ p ∈ X.pn ++ pins, p.1 ≠ b) :
  Inv X pins σ H' { s with heap := h', gens := g', drawn := d', toks := t' } := by
 obtain ⟨m, ⟨o, es, ep, ho, r⟩, _⟩ := id I.loc
 obtain ⟨sl, hL⟩ := u.any ho I.free fun z => (hch _ z).2.1 rfl
 exact I.step (ch := ch) hch (fun b o hL hb hc e n => u.keep b o e n (fun z => (List.mem_cons.mp (I.stkSub b z)).elim hL hb) hc) (fun b o _ _ hc e n => u.any e n hc) (fun b o hc e n => u.free b o e n hc) (fun b o hc e => u.there b o e hc) u.tups u.frzs u.tbls (fun m' hm => by
  obtain ⟨o', es', ep', ho', r'⟩ := hm
  rw [ho] at ho'; cases ho'
  exact ⟨_, es', ep', hL, r'⟩) hok hg
theorem Inv.turned {t' : Nat} {it : Addr} (I : Inv X pins σ H s) (k : ∀ b o, b ≠ it -> s.heap.get? b = some o -> h'.get? b = some o) (hn : H it = none) (hL : it ≠ X.env.locals)
  (h1 : it ∈ X.ex \/ X.s₀.heap.objs.size <= it) (h2 : ∀ x c, X.env.cells.lookup x = some c -> c ≠ it) (h3 : ∀ p ∈ X.pn ++ pins, p.1 ≠ it) : Inv X pins σ H { s with heap := h', toks := t' } := by
 have nit : ∀ b u, H b = some u -> b ≠ it := fun b u e z => by rw [z, hn] at e; cases e
 refine I.step (g' := s.gens) (d' := s.drawn) (ch := [it]) (fun b hb => ?_) (fun b o _ _ hc e _ => k b o (fun z => hc (by simp [z])) e) (fun b o _ _ hc e _ => ⟨o.slots, k b o (fun z => hc (by simp [z])) e⟩) (fun _ _ _ _ n => n)
  (fun b o hc e => ⟨o, k b o (fun z => hc (by simp [z])) e⟩) (fun _ _ e => e) (fun _ _ _ e => e) (fun b ps e => ⟨#[], by rw [e]; simp⟩) (fun m hm => ?_) (fun b u e => ?_) I.bare
 ·have e : b = it := by simpa using hb
  subst e
  exact ⟨h1, hL, h2, h3⟩
 ·obtain ⟨o, es, ep, ho, r⟩ := hm
  exact ⟨o, es, ep, k _ o (Ne.symm hL) ho, r⟩
 ·refine (I.hok b u e).stay (fun c v hc q => k c v ?_ q) (fun _ q => q) fun _ _ q => q
  rcases hc with z | z
  ·rw [z]; exact nit b u e
  ·exact nit c _ z
theorem Inv.tok (I : Inv X pins σ H s) (t : Nat) : Inv X pins σ H { s with toks := t } := I.un (h' := s.heap) (t' := t) Un.refl I.hok
theorem Inv.kept {t' : Nat} (I : Inv X pins σ H s) (k : ∀ b u, s.heap.get? b = some u -> h'.get? b = some u) : Inv X pins σ H { s with heap := h', toks := t' } := I.un (Un.kept k) (I.hok.kept k)
theorem Inv.laid {a : Addr} {o : HO} {t' : Nat} (I : Inv X pins σ H s) (k : ∀ b u, s.heap.get? b = some u -> h'.get? b = some u) (hp : s.heap.objs.size <= a) (new : ObjOk X.prog X.w (upd H a o) h' a o) :
  Inv X pins σ (upd H a o) { s with heap := h', toks := t' } := I.un (Un.laid k hp (I.hok.fresh hp)) (I.hok.laid k hp new)
theorem Inv.write {x e : Addr} {o : HO} {t' : Nat} (I : Inv X pins σ H s) (mu : Mut (H x)) (he : e = x \/ H e = some (.own x)) (k : ∀ b u, b ≠ e -> s.heap.get? b = some u -> h'.get? b = some u) (heo : ∃ u, h'.get? e = some u)
  (new : ObjOk X.prog X.w (upd H x o) h' x o) : Inv X pins σ (upd H x o) { s with heap := h', toks := t' } := I.un (Un.write mu he k heo) (I.hok.write mu he k heo new)
theorem Inv.pins_of {pins' : List (Addr × Obj)} (I : Inv X pins σ H s) (h : ∀ p ∈ pins', s.heap.get? p.1 = some p.2 /\ H p.1 = none /\ p.1 ≠ X.env.locals /\ p.1 ∉ X.fs /\ ∀ v, p.2.data ≠ .cell v) : Inv X pins' σ H s :=
 ⟨I.ok, I.os, I.bare, I.base, I.loc, I.cell, I.free, I.freeC, fun p hp => (List.mem_append.mp hp).elim (fun z => I.pin p (List.mem_append_left _ z)) (h p), I.hok, I.len⟩
theorem nodup_ix {N : List Str} (hN : N.Nodup) {i j : Nat} {x : Str} (a : N[i]? = some x) (b : N[j]? = some x) : i = j := by
 obtain ⟨h1, e1⟩ := List.getElem?_eq_some_iff.mp a
 obtain ⟨h2, e2⟩ := List.getElem?_eq_some_iff.mp b
 exact (List.getElem_inj hN).mp (e1.trans e2.symm)
theorem store_ok2 {M : Model} {A : Around} {E : Value -> Shared -> Prop} {i : Nat} {x : Str} {v : V} {u : Value} {Q : Unit -> Shared -> Prop} (I : Inv X pins σ H s) (hN : X.N.Nodup) (hi : X.N[i]? = some x) (hx : Loc X.env.scope x) (r : RelV v u)
  (h : ∀ s', Inv X pins (σ.set i (some v)) H s' -> (∃ a, Heap.SameBut a s.heap s'.heap /\ (a = X.env.locals \/ X.env.cells.lookup x = some a)) -> Q () s') (hf : X.fn x = true \/ X.env.scope.names.lookup x = some .local := by first | exact .inl rfl | exact .inr rfl | assumption) : wpAny M A (storeName X.env x u) Q E s := by
 obtain ⟨m, hn, hl⟩ := id I.loc
 have hcls : (X.env.scope.kind == .class || (X.env.scope.kind == .module && X.env.locals != X.env.globals)) = false := by rw [I.ok.kind]; rfl
 have hiσ : i < σ.length := by rw [I.len]; exact (List.getElem?_eq_some_iff.mp hi).1
 have cne := I.cne
 have tracked : ∀ {a : Addr} {h' : Heap}, (∃ o, s.heap.get? a = some o /\ H a = none) -> Heap.SameBut a s.heap h' -> HOk X.prog X.w H h' := fun {a h'} ha hs b ob e => by
  obtain ⟨_, _, hfree⟩ := ha
  refine (I.hok b ob e).stay (fun c w' hc q => (hs.2 c ?_).trans q) (fun _ q => q) fun _ _ q => q
  rintro rfl
  rcases hc with rfl | hc
  ·rw [hfree] at e; cases e
  ·rw [hfree] at hc; cases hc
 rcases hx with hk | hk
 ·refine wpAny_storeName_local hk hn (fun h' hn' hs => ?_) hcls
  obtain ⟨oL, _, _, hoL, _⟩ := id hn
  refine h _ ⟨I.ok, I.os, I.bare, ⟨fun b o e n hb hx => ?_, fun b o e n hb hx => ?_, I.base.free, fun b o e hx => ?_, I.base.tups, I.base.frzs, I.base.tbls⟩, ⟨_, hn', fun j y v' e1 e2 e3 => ?_⟩, fun y c e => ?_, I.free, I.freeC, fun p hp => ?_, tracked ⟨oL, hoL, I.free⟩ hs, by simpa using I.len⟩ ⟨_, hs, .inl rfl⟩
  ·exact (hs.2 b (Nat.ne_of_lt (Nat.lt_of_lt_of_le (Heap.lt_size e) I.ok.above))).trans (I.base.keep b o e n hb hx)
  ·obtain ⟨sl, e1⟩ := I.base.slot b o e n hb hx
   exact ⟨sl, (hs.2 b (Nat.ne_of_lt (Nat.lt_of_lt_of_le (Heap.lt_size e) I.ok.above))).trans e1⟩
  ·obtain ⟨o', e1⟩ := I.base.there b o e hx
   exact ⟨o', (hs.2 b (Nat.ne_of_lt (Nat.lt_of_lt_of_le (Heap.lt_size e) I.ok.above))).trans e1⟩
  ·by_cases hj : j = i
   ·subst hj
    rw [hi] at e1; cases e1
    rw [List.getElem?_set_self hiσ] at e2
    cases e2
    exact ⟨u, r, .inl ⟨hk, by simp⟩⟩
   ·rw [List.getElem?_set_ne (Ne.symm hj)] at e2
    obtain ⟨u', r', q⟩ := hl j y v' e1 e2 e3
    refine ⟨u', r', ?_⟩
    rcases q with ⟨k, e⟩ | ⟨k, c, e, z⟩
    ·refine .inl ⟨k, ?_⟩
     have : y ≠ x := fun e => hj (nodup_ix hN e1 (e ▸ hi))
     simp [this, e]
    ·exact .inr ⟨k, c, e, z.sameBut hs (cne y c e)⟩
  ·obtain ⟨w', z⟩ := I.cell y c e
   exact ⟨w', z.sameBut hs (cne y c e)⟩
  ·obtain ⟨e, n, ne, nf, d⟩ := I.pin p hp
   exact ⟨(hs.2 p.1 ne).trans e, n, ne, nf, d⟩
 ·have hfn : X.fn x = true := by
   rcases hf with z | z
   ·exact z
   ·rw [z] at hk; cases hk
  obtain ⟨c, hc⟩ := I.ok.has x (.inl hk)
  obtain ⟨w', z⟩ := I.cell x c hc
  refine wpAny_storeName_cell I.ok.kind hk hc z (fun h' hc' hs => ?_)
  obtain ⟨oc, hoc, hocd⟩ := id z
  refine h { s with heap := h' } ⟨I.ok, I.os, I.bare, ⟨fun b o e n hb hx => ?_, fun b o e n hb hx => ?_, I.base.free, fun b o e hx => ?_, I.base.tups, I.base.frzs, I.base.tbls⟩, ⟨m, hn.sameBut hs (Ne.symm (cne x c hc)), fun j y v' e1 e2 e3 => ?_⟩, fun y c' e => ?_, I.free, I.freeC, fun p hp => ?_, tracked ⟨oc, hoc, I.freeC x c hc⟩ hs, by simpa using I.len⟩ ⟨c, hs, .inr hc⟩
  ·exact (hs.2 b (Nat.ne_of_lt (Nat.lt_of_lt_of_le (Heap.lt_size e) (I.ok.cab x c hfn hc)))).trans (I.base.keep b o e n hb hx)
  ·obtain ⟨sl, e1⟩ := I.base.slot b o e n hb hx
   exact ⟨sl, (hs.2 b (Nat.ne_of_lt (Nat.lt_of_lt_of_le (Heap.lt_size e) (I.ok.cab x c hfn hc)))).trans e1⟩
  ·obtain ⟨o', e1⟩ := I.base.there b o e hx
   exact ⟨o', (hs.2 b (Nat.ne_of_lt (Nat.lt_of_lt_of_le (Heap.lt_size e) (I.ok.cab x c hfn hc)))).trans e1⟩
  ·by_cases hj : j = i
   ·subst hj
    rw [hi] at e1; cases e1
    rw [List.getElem?_set_self hiσ] at e2
    cases e2
    exact ⟨u, r, .inr ⟨.inl hk, c, hc, hc'⟩⟩
   ·rw [List.getElem?_set_ne (Ne.symm hj)] at e2
    obtain ⟨u', r', q⟩ := hl j y v' e1 e2 e3
    refine ⟨u', r', ?_⟩
    rcases q with q | ⟨k, c', e, z'⟩
    ·exact .inl q
    ·refine .inr ⟨k, c', e, z'.sameBut hs ?_⟩
     rintro rfl
     exact hj (nodup_ix hN e1 (I.ok.inj _ _ _ e hc ▸ hi))
  ·by_cases hcc : c' = c
   ·subst hcc; exact ⟨_, hc'⟩
   ·obtain ⟨w2, z2⟩ := I.cell y c' e
    exact ⟨w2, z2.sameBut hs hcc⟩
  ·obtain ⟨e, n, ne, nf, d⟩ := I.pin p hp
   refine ⟨(hs.2 p.1 ?_).trans e, n, ne, nf, d⟩
   intro q
   rw [q, hoc] at e
   have q' : oc = p.2 := Option.some.inj e
   exact d w' (by rw [<- q']; exact hocd)
theorem store_ok {M : Model} {A : Around} {E : Value -> Shared -> Prop} {i : Nat} {x : Str} {v : V} {u : Value} {Q : Unit -> Shared -> Prop} (I : Inv X pins σ H s) (hN : X.N.Nodup) (hi : X.N[i]? = some x) (hx : Loc X.env.scope x) (r : RelV v u)
  (h : ∀ s', Inv X pins (σ.set i (some v)) H s' -> Q () s') (hf : X.fn x = true \/ X.env.scope.names.lookup x = some .local := by first | exact .inl rfl | exact .inr rfl | assumption) : wpAny M A (storeName X.env x u) Q E s :=
 store_ok2 I hN hi hx r (fun s' I' _ => h s' I') hf
theorem Inv.call' {s' : Shared} {ch : List Addr} (I : Inv X pins σ H s) (ho : s'.os = s.os) (u : Un (frs X.stack) ch H H' s.heap s'.heap) (hok : HOk X.prog X.w H' s'.heap) (hg : AllBare s'.gens)
  (hch : ∀ b ∈ ch, (b ∈ X.ex \/ X.s₀.heap.objs.size <= b) /\ b ≠ X.env.locals /\ (∀ x c, X.env.cells.lookup x = some c -> c ≠ b) /\ ∀ p ∈ X.pn ++ pins, p.1 ≠ b) : Inv X pins σ H' s' := by
 obtain ⟨h', g', d', t', o'⟩ := s'
 have e : o' = s.os := ho
 subst e
 exact I.call (g' := g') (t' := t') (d' := d') u hok hg hch
end
abbrev XK := Value -> Option Addr -> Hp -> Prop
abbrev St := List (Option V)
abbrev VK := V -> Hp -> Prop
abbrev TE := St -> Hp -> VK -> Prop
abbrev TT := St -> Hp -> (Bool -> Hp -> Prop) -> Prop
abbrev TA := St -> Hp -> (List V -> Hp -> Prop) -> Prop
structure Ends where
 nx : St -> Hp -> Prop
 rt : VK
 bk : St -> Hp -> Prop := fun _ _ => False
 ct : St -> Hp -> Prop := fun _ _ => False
abbrev TS := Ends -> St -> Hp -> Prop
def EP (X : Cx) (pins : List (Addr × Obj)) (σ : St) (Q : VK) (u : Value) (s' : Shared) : Prop := ∃ v H', Inv X pins σ H' s' /\ RelV v u /\ Q v H'
def TP (X : Cx) (pins : List (Addr × Obj)) (σ : St) (Q : Bool -> Hp -> Prop) (b : Bool) (s' : Shared) : Prop := ∃ H', Inv X pins σ H' s' /\ Q b H'
def AP (X : Cx) (pins : List (Addr × Obj)) (σ : St) (Q : List V -> Hp -> Prop) (us : List Value) (s' : Shared) : Prop := ∃ vs H', Inv X pins σ H' s' /\ Vals vs us /\ Q vs H'
def SP (X : Cx) (pins : List (Addr × Obj)) (D : Ends) (f : Flow) (s' : Shared) : Prop :=
 match f with
 | .next => ∃ σ' H', Inv X pins σ' H' s' /\ D.nx σ' H'
 | .brk => ∃ σ' H', Inv X pins σ' H' s' /\ D.bk σ' H'
 | .cont => ∃ σ' H', Inv X pins σ' H' s' /\ D.ct σ' H'
 | .ret u => ∃ v σ' H', Inv X pins σ' H' s' /\ RelV v u /\ D.rt v H'
def PE (X : Cx) (e : Expr) (t : TE) : Prop :=
 ∀ (pins : List (Addr × Obj)) (s : Shared) (σ : St) (H : Hp) (Q : VK), Inv X pins σ H s -> t σ H Q -> wpAny (model X.prog X.w) X.A (eval e X.env) (EP X pins σ Q) X.xe s
def PT (X : Cx) (e : Expr) (t : TT) : Prop :=
 ∀ (pins : List (Addr × Obj)) (s : Shared) (σ : St) (H : Hp) (Q : Bool -> Hp -> Prop), Inv X pins σ H s -> t σ H Q -> wpAny (model X.prog X.w) X.A (isTrue e X.env (eval e X.env)) (TP X pins σ Q) X.xe s
def PW (X : Cx) (e : Expr) (t : TT) : Prop :=
 ∀ (whole : Sem Value) (pins : List (Addr × Obj)) (s : Shared) (σ : St) (H : Hp) (Q : Bool -> Hp -> Prop), Inv X pins σ H s -> t σ H Q -> wpAny (model X.prog X.w) X.A (isTrue e X.env whole) (TP X pins σ Q) X.xe s
theorem PW.pt {X : Cx} {e : Expr} {t : TT} (h : PW X e t) : PT X e t := h _
def PA (X : Cx) (es : List Expr) (t : TA) : Prop :=
 ∀ (pos : Pos) (pins : List (Addr × Obj)) (s : Shared) (σ : St) (H : Hp) (Q : List V -> Hp -> Prop), Inv X pins σ H s -> t σ H Q -> wpAny (model X.prog X.w) X.A (spliced (backTo pos (starEach es X.env))) (AP X pins σ Q) X.xe s
def PS (X : Cx) (st : Stmt) (t : TS) : Prop :=
 ∀ (pins : List (Addr × Obj)) (s : Shared) (σ : St) (H : Hp) (D : Ends), Inv X pins σ H s -> t D σ H -> wpAny (model X.prog X.w) X.A (exec st X.env) (SP X pins D) X.xe s
def PSs (X : Cx) (st : List Stmt) (t : TS) : Prop :=
 ∀ (pins : List (Addr × Obj)) (s : Shared) (σ : St) (H : Hp) (D : Ends), Inv X pins σ H s -> t D σ H -> wpAny (model X.prog X.w) X.A (execs st X.env) (SP X pins D) X.xe s
theorem thn {α : Type} {t : Sem α} {Q Q' : α -> Shared -> Prop} {M : Model} {A : Around} {E : Value -> Shared -> Prop} {s : Shared} (h : wpAny M A t Q E s) (hQ : ∀ a s, Q a s -> Q' a s) : wpAny M A t Q' E s := wpAny_mono h hQ fun _ _ x => x
section
variable {X : Cx}
def tVar (i : Nat) : TE := fun σ H Q => ∃ v, σ[i]? = some (some v) /\ Q v H
def tC (v : V) : TE := fun _ H Q => Q v H
theorem pe_var {i : Nat} {x : Str} {pos : Pos} (hN : X.N[i]? = some x) (hv : Vis X.env.scope x) (hd : (x == ("__debug__" : Str)) = false := by decide) (hcd : (x == ("__classdict__" : Str)) = false := by decide) : PE X (.Name x pos) (tVar i) := by
 intro pins s σ H Q I h
 obtain ⟨v, e, h⟩ := h
 obtain ⟨m, hn, hl⟩ := I.loc
 obtain ⟨u, r, l⟩ := hl i x v hN e hv
 have fin : EP X pins σ Q u s := ⟨v, H, I, r, h⟩
 rcases l with ⟨hk, hm⟩ | ⟨hk, c, hc, hcell⟩
 ·exact wpAny_Name (wpAny_loadName_local I.ok.kind hk hn hm fin) hd
 ·rcases hk with hk | hk
  ·exact wpAny_Name (wpAny_loadName_cell I.ok.kind hk hc hcell fin) hd
  ·exact wpAny_Name (wpAny_loadName_free I.ok.kind hk hc hcell fin hcd) hd
theorem pe_int {i j pos} : PE X (.Constant (.int i) j pos) (tC (.int i)) := fun _ _ _ H _ I h => wpAny_Constant_int ⟨.int i, H, I.tok _, ⟨_, rfl⟩, h⟩
theorem pe_bl {b j pos} : PE X (.Constant (.bool b) j pos) (tC (.bl b)) := fun _ _ _ H _ I h => Constant_bool ⟨.bl b, H, I, rfl, h⟩
def Gl (X : Cx) (x : Str) : Prop := X.env.kindOf x = some .globalImplicit
theorem ld_glob {E : Value -> Shared -> Prop} {pins : List (Addr × Obj)} {s : Shared} {σ : St} {H : Hp} {x : Str} {u : Value} {pos : Pos} {Q : Value -> Shared -> Prop} (I : Inv X pins σ H s) (hg : Gl X x) (hm : X.mg x = some u) (h : Q u s)
  (hd : (x == ("__debug__" : Str)) = false := by decide) : wpAny (model X.prog X.w) X.A (eval (.Name x pos) X.env) Q E s :=
 Calls.Name_function_global I.ok.kind hg (Calls.loadGlobal_global (by rw [I.ok.glob]; exact I.mod.glob.keeps I.bk) hm h) hd
theorem ld_blt {E : Value -> Shared -> Prop} {pins : List (Addr × Obj)} {s : Shared} {σ : St} {H : Hp} {x : Str} {u : Value} {pos : Pos} {Q : Value -> Shared -> Prop} (I : Inv X pins σ H s) (hg : Gl X x) (hm : X.mg x = none) (hv : bootBuiltins x = some u) (h : Q u s)
  (hn : x ≠ "__name__" := by decide) (hd : (x == ("__debug__" : Str)) = false := by decide) : wpAny (model X.prog X.w) X.A (eval (.Name x pos) X.env) Q E s := by
 obtain ⟨mb, h1, h2⟩ := I.mod.blt
 exact Calls.Name_function_global I.ok.kind hg (Calls.loadGlobal_builtin (by rw [I.ok.glob]; exact I.mod.glob.keeps I.bk) hm (by rw [I.ok.blt]; exact h1.keeps I.bk) ((h2 x hn).trans hv) h) hd
theorem pe_glob {x : Str} {v : V} {u : Value} {pos : Pos} (hg : Gl X x) (hm : X.mg x = some u) (r : RelV v u) (hd : (x == ("__debug__" : Str)) = false := by decide) : PE X (.Name x pos) (tC v) :=
 fun _ _ _ H _ I h => ld_glob I hg hm ⟨v, H, I, r, h⟩ hd
theorem pe_bltn {x : Str} {v : V} {u : Value} {pos : Pos} (hg : Gl X x) (hm : X.mg x = none) (hv : bootBuiltins x = some u) (r : RelV v u) (hn : x ≠ "__name__" := by decide) (hd : (x == ("__debug__" : Str)) = false := by decide) : PE X (.Name x pos) (tC v) :=
 fun _ _ _ H _ I h => ld_blt I hg hm hv ⟨v, H, I, r, h⟩ hn hd
variable {a b : Expr} {ta tb : TE} {pos : Pos}
def tB (t : TE) : TT := fun σ H Q => t σ H fun x H1 => ∃ c, x = .bl c /\ Q c H1
theorem pt_val {e : Expr} {t : TE} (h : PE X e t) (he : ∀ whole, isTrue e X.env whole = (do let v <- whole; standAt e.pos; holding [v] (truthy v)) := by intro _; rfl) : PT X e (tB t) := by
 intro pins s σ H Q I hw
 refine isTrue_plain (thn (h pins s σ H _ I hw) fun v s1 ⟨x, H1, I1, r1, q1⟩ => ?_) (he _)
 obtain ⟨d, rfl, q⟩ := q1
 cases r1
 exact wpAny_truthy_bool ⟨H1, I1, q⟩
variable {tA tB' : TT} {rest : List Expr}
def tAnd (t u : TT) : TT := fun σ H Q => t σ H fun c H1 => if c = true then u σ H1 Q else Q false H1
def tOr (t u : TT) : TT := fun σ H Q => t σ H fun c H1 => if c = true then Q true H1 else u σ H1 Q
def tNot (t : TT) : TT := fun σ H Q => t σ H fun c H1 => Q (!c) H1
theorem pw_and1 (ha : PT X a tA) : PW X (.BoolOp .And [a] pos) tA := by
 intro wh pins s σ H Q I h
 refine isTrue_and (thn (ha pins s σ H Q I h) fun c s1 e => ?_)
 cases c with
 | true => exact isTrue_and_nil e
 | false => exact e
theorem pw_or1 (ha : PT X a tA) : PW X (.BoolOp .Or [a] pos) tA := by
 intro wh pins s σ H Q I h
 refine isTrue_or (thn (ha pins s σ H Q I h) fun c s1 e => ?_)
 cases c with
 | false => exact isTrue_or_nil e
 | true => exact e
theorem pw_and (ha : PT X a tA) (hb : PW X (.BoolOp .And (b :: rest) pos) tB') : PW X (.BoolOp .And (a :: b :: rest) pos) (tAnd tA tB') := by
 intro wh pins s σ H Q I h
 refine isTrue_and (thn (ha pins s σ H _ I h) fun c s1 ⟨H1, I1, q1⟩ => ?_)
 cases c with
 | true => exact hb wh pins s1 σ H1 Q I1 q1
 | false => exact ⟨H1, I1, q1⟩
theorem pw_or (ha : PT X a tA) (hb : PW X (.BoolOp .Or (b :: rest) pos) tB') : PW X (.BoolOp .Or (a :: b :: rest) pos) (tOr tA tB') := by
 intro wh pins s σ H Q I h
 refine isTrue_or (thn (ha pins s σ H _ I h) fun c s1 ⟨H1, I1, q1⟩ => ?_)
 cases c with
 | true => exact ⟨H1, I1, q1⟩
 | false => exact hb wh pins s1 σ H1 Q I1 q1
theorem pt_not (ha : PT X a tA) : PT X (.UnaryOp .Not a pos) (tNot tA) := by
 intro pins s σ H Q I h
 exact isTrue_not (ha pins s σ H (fun c H1 => Q (!c) H1) I h)
def tAndV (ta tb : TE) : TE := fun σ H Q => ta σ H fun x H1 => ∃ c, x = .bl c /\ if c = true then tb σ H1 Q else Q (.bl false) H1
def tNotV (ta : TE) : TE := fun σ H Q => ta σ H fun x H1 => ∃ c, x = .bl c /\ Q (.bl (!c)) H1
theorem pe_one {op} {t : TE} (h : PE X a t) : PE X (.BoolOp op [a] pos) t := fun pins s σ H Q I hw => BoolOp_one (h pins s σ H Q I hw)
theorem pe_and (ha : PE X a ta) (hb : PE X (.BoolOp .And (b :: rest) pos) tb) : PE X (.BoolOp .And (a :: b :: rest) pos) (tAndV ta tb) := by
 intro pins s σ H Q I h
 refine BoolOp_and (thn (ha pins s σ H _ I h) fun v s1 ⟨x, H1, I1, r1, q1⟩ => ?_)
 obtain ⟨c, rfl, q1⟩ := q1
 cases r1
 refine wpAny_truthy_bool ?_
 cases c with
 | true => exact hb pins s1 σ H1 Q I1 q1
 | false => exact ⟨.bl false, H1, I1, rfl, q1⟩
theorem pe_not (ha : PE X a ta) : PE X (.UnaryOp .Not a pos) (tNotV ta) := by
 intro pins s σ H Q I h
 refine UnaryOp_ (thn (ha pins s σ H _ I h) fun v s1 ⟨x, H1, I1, r1, q1⟩ => ?_)
 obtain ⟨c, rfl, q1⟩ := q1
 cases r1
 exact not_of (wpAny_truthy_bool ⟨.bl (!c), H1, I1, rfl, q1⟩)
end
def SqL (K : W.Frag) (H : Hp) (a : Addr) (xs : List V) : Prop :=
 Rd H a (.lst xs) \/
  ∃ (o : Obj) (its : Array Value) (n : Nat), K.lookup a = some o /\ o.cls = .type "list" /\ o.dict = none /\ o.data = .seq its n /\ its.size <= sizeLine /\ Vals xs its.toList
def SqT (K : W.Frag) (H : Hp) (a : Addr) (xs : List V) : Prop :=
 Rd H a (.tup xs) \/
  ∃ (o : Obj) (its : Array Value) (n : Nat), K.lookup a = some o /\ o.cls = .type "tuple" /\ o.data = .seq its n /\ its.size <= sizeLine /\ Vals xs its.toList
def absV : Value -> Option V
 | .none => some .non
 | .bool b => some (.bl b)
 | .int i _ => some (.int i)
 | .str x _ => some (.str x)
 | .bytes b _ => some (.byt b)
 | .float b _ => some (.flt b)
 | .ref a => some (.ref a)
 | .type n => some (.ty n)
 | _ => none
theorem RelV.abs {x : V} {u : Value} (r : RelV x u) : absV u = some x := by
 cases x with
 | non => cases r; rfl
 | bl _ => cases r; rfl
 | int _ => obtain ⟨t, rfl⟩ := r; rfl
 | str _ => obtain ⟨t, rfl⟩ := r; rfl
 | byt _ => obtain ⟨t, rfl⟩ := r; rfl
 | flt _ => obtain ⟨t, rfl⟩ := r; rfl
 | ref _ => cases r; rfl
 | ty _ => cases r; rfl
theorem RelV.inj {x y : V} {u : Value} (r : RelV x u) (q : RelV y u) : x = y := Option.some.inj (r.abs.symm.trans q.abs)
theorem Vals.inj : ∀ {xs ys : List V} {us : List Value}, Vals xs us -> Vals ys us -> xs = ys
 | _, _, _, .nil, .nil => rfl
 | _, _, _, .cons r t, .cons r' t' => by rw [r.inj r', Vals.inj t t']
section
variable {X : Cx} {pins : List (Addr × Obj)} {σ : St} {H : Hp} {s : Shared} {a : Addr} {xs ys : List V}
theorem SqL.of {K : W.Frag} (h : H a = some (.lst xs)) : SqL K H a xs := .inl (.inl h)
theorem SqT.of {K : W.Frag} (h : H a = some (.tup xs)) : SqT K H a xs := .inl (.inl h)
theorem Inv.list (I : Inv X pins σ H s) (h : SqL X.K H a xs) : ∃ its : List Value, Vals xs its /\ PlainL s.heap a its.toArray /\ xs.length <= sizeLine := by
 rcases h with h | ⟨o, its, n, hk, hc, hd, hs, hz, r⟩
 ·obtain ⟨z, its, n, r, e⟩ := h.ok I.hok
  exact ⟨its, r, ⟨_, n, e, rfl, rfl, rfl⟩, z⟩
 ·refine ⟨its.toList, r, ⟨o, n, I.kIn a o hk, hc, hd, by simpa using hs⟩, ?_⟩
  have e := r.length
  simp only [Array.length_toList] at e
  omega
theorem Inv.tuple (I : Inv X pins σ H s) (h : SqT X.K H a xs) : ∃ its : List Value, Vals xs its /\ IsTup s.heap a its.toArray /\ xs.length <= sizeLine := by
 rcases h with h | ⟨o, its, n, hk, hc, hs, hz, r⟩
 ·obtain ⟨z, its, r, p⟩ := h.ok I.hok
  exact ⟨its, r, p, z⟩
 ·refine ⟨its.toList, r, ⟨o, I.kIn a o hk, hc, n, by simpa using hs⟩, ?_⟩
  have e := r.length
  simp only [Array.length_toList] at e
  omega
theorem Inv.list_inj (I : Inv X pins σ H s) (h : SqL X.K H a xs) (h' : SqL X.K H a ys) : xs = ys := by
 obtain ⟨its, r, ⟨o, n, e, _, _, d⟩, _⟩ := I.list h
 obtain ⟨its', r', ⟨o', n', e', _, _, d'⟩, _⟩ := I.list h'
 rw [e] at e'; cases e'
 rw [d] at d'
 injection d' with d1 _
 have : its = its' := by simpa using congrArg Array.toList d1
 subst this
 exact r.inj r'
theorem Inv.tuple_inj (I : Inv X pins σ H s) (h : SqT X.K H a xs) (h' : SqT X.K H a ys) : xs = ys := by
 obtain ⟨its, r, ⟨o, e, _, n, d⟩, _⟩ := I.tuple h
 obtain ⟨its', r', ⟨o', e', _, n', d'⟩, _⟩ := I.tuple h'
 rw [e] at e'; cases e'
 rw [d] at d'
 injection d' with d1 _
 have : its = its' := by simpa using congrArg Array.toList d1
 subst this
 exact r.inj r'
end
abbrev Cx.wish (X : Cx) (E : Value -> Shared -> Prop) : Cx := { X with xe := E }
abbrev Cx.nox (X : Cx) : Cx := X.wish fun _ _ => False
theorem Cx.Ok.wish {X : Cx} (ok : X.Ok) (E : Value -> Shared -> Prop) : (X.wish E).Ok :=
 ⟨ok.mod, ok.kind, ok.glob, ok.blt, ok.above, ok.inj, ok.has, ok.cab, ok.hd, ok.frames, ok.stk, ok.exf, ok.bs, ok.bsz, ok.noex, ok.exfs, ok.funs, ok.frf⟩
theorem Cx.Ok.unwish {X : Cx} {E : Value -> Shared -> Prop} (ok : (X.wish E).Ok) : X.Ok :=
 ⟨ok.mod, ok.kind, ok.glob, ok.blt, ok.above, ok.inj, ok.has, ok.cab, ok.hd, ok.frames, ok.stk, ok.exf, ok.bs, ok.bsz, ok.noex, ok.exfs, ok.funs, ok.frf⟩
section
variable {X : Cx} {pins : List (Addr × Obj)} {σ : St} {H : Hp} {s : Shared} {E : Value -> Shared -> Prop}
theorem Inv.wish (I : Inv X pins σ H s) (E : Value -> Shared -> Prop) : Inv (X.wish E) pins σ H s := ⟨I.ok.wish E, I.os, I.bare, I.base, I.loc, I.cell, I.free, I.freeC, I.pin, I.hok, I.len⟩
theorem Inv.unwish (I : Inv (X.wish E) pins σ H s) : Inv X pins σ H s := ⟨I.ok.unwish, I.os, I.bare, I.base, I.loc, I.cell, I.free, I.freeC, I.pin, I.hok, I.len⟩
theorem SP.unwish {D : Ends} {f : Flow} {s' : Shared} (h : SP (X.wish E) pins D f s') : SP X pins D f s' := by
 cases f with
 | next => obtain ⟨σ', H', I, q⟩ := h; exact ⟨σ', H', I.unwish, q⟩
 | brk => obtain ⟨σ', H', I, q⟩ := h; exact ⟨σ', H', I.unwish, q⟩
 | cont => obtain ⟨σ', H', I, q⟩ := h; exact ⟨σ', H', I.unwish, q⟩
 | ret u => obtain ⟨v, σ', H', I, r, q⟩ := h; exact ⟨v, σ', H', I.unwish, r, q⟩
theorem PSs.nox {st : List Stmt} {t : TS} (h : PSs X.nox st t) : PSs X st t := fun pins s σ H D I hw =>
 wpAny_mono (h pins s σ H D (I.wish _) hw) (fun _ _ q => q.unwish) fun _ _ z => False.elim z
end
section
variable {X : Cx} {st : Stmt} {rest : List Stmt} {t u : TS} {e : Expr} {te : TE} {pos : Pos}
def tNext : TS := fun D σ H => D.nx σ H
def tSeq (t u : TS) : TS := fun D σ H => t { D with nx := u D } σ H
theorem pss_nil : PSs X [] tNext := fun _ _ σ H _ I h => wpAny_execs_nil ⟨σ, H, I, h⟩
theorem pss_cons (h1 : PS X st t) (h2 : PSs X rest u) : PSs X (st :: rest) (tSeq t u) := by
 intro pins s σ H D I h
 refine wpAny_execs_cons (thn (h1 pins s σ H { D with nx := u D } I h) fun f s1 q => ?_)
 cases f with
 | next =>
  obtain ⟨σ', H', I', q⟩ := q
  exact h2 pins s1 σ' H' D I' q
 | ret v => exact q
 | brk => exact q
 | cont => exact q
theorem pss_one (h1 : PS X st t) : PSs X [st] t := by
 intro pins s σ H D I h
 refine wpAny_execs_cons (thn (h1 pins s σ H D I h) fun f s1 q => ?_)
 cases f with
 | next => exact wpAny_execs_nil q
 | ret v => exact q
 | brk => exact q
 | cont => exact q
theorem Inv.quiet {pins : List (Addr × Obj)} {σ : St} {H : Hp} {s : Shared} (I : Inv X pins σ H s) : interactive X.env = false := by simp [interactive, I.ok.kind]
def tDrop (te : TE) : TS := fun D σ H => te σ H fun _ H1 => D.nx σ H1
theorem ps_expr (he : PE X e te) (hs : swapsWith e none pos.line X.env = pure false := by rfl) : PS X (.Expr e pos) (tDrop te) := by
 intro pins s σ H D I h
 exact wpAny_Expr_any (thn (he pins s σ H _ I h) fun v s1 ⟨x, H1, I1, r1, q1⟩ => ⟨σ, H1, I1, q1⟩) I.quiet hs
def tRet (te : TE) : TS := fun D σ H => te σ H D.rt
theorem ps_ret (he : PE X e te) : PS X (.Return (some e) pos) (tRet te) := by
 intro pins s σ H D I h
 exact wpAny_Return_some (thn (he pins s σ H _ I h) fun v s1 ⟨x, H1, I1, r1, q1⟩ => ⟨x, σ, H1, I1, r1, q1⟩)
def tIfS (c : TT) (t u : TS) : TS := fun D σ H => c σ H fun b H1 => if b = true then t D σ H1 else u D σ H1
theorem ps_if {c : Expr} {a b : List Stmt} {tc : TT} (hc : PT X c tc) (ha : PSs X a t) (hb : PSs X b u) : PS X (.If c a b pos) (tIfS tc t u) := by
 intro pins s σ H D I h
 refine wpAny_If (thn (hc pins s σ H _ I h) fun d s1 ⟨H1, I1, q1⟩ => ?_)
 cases d with
 | true => exact ha pins s1 σ H1 D I1 q1
 | false => exact hb pins s1 σ H1 D I1 q1
def tNever : TS := fun _ _ _ => False
theorem pss_never {sts : List Stmt} : PSs X sts tNever := fun _ _ _ _ _ _ h => h.elim
end
abbrev TG := V -> St -> Hp -> (St -> Hp -> Prop) -> Prop
abbrev TGs := List V -> St -> Hp -> (St -> Hp -> Prop) -> Prop
def PG (X : Cx) (target : Expr) (t : TG) : Prop :=
 ∀ (pins : List (Addr × Obj)) (s : Shared) (σ : St) (H : Hp) (v : V) (u : Value) (Q : St -> Hp -> Prop), Inv X pins σ H s -> RelV v u -> t v σ H Q ->
  wpAny (model X.prog X.w) X.A (assign target X.env u) (fun _ s' => ∃ σ' H', Inv X pins σ' H' s' /\ Q σ' H') X.xe s
def PGs (X : Cx) (ts : List Expr) (t : TGs) : Prop :=
 ∀ (pins : List (Addr × Obj)) (s : Shared) (σ : St) (H : Hp) (vs : List V) (us : List Value) (Q : St -> Hp -> Prop), Inv X pins σ H s -> Vals vs us -> t vs σ H Q ->
  wpAny (model X.prog X.w) X.A (assignInOrder ((assignEach ts X.env).map (·.2)) us) (fun _ s' => ∃ σ' H', Inv X pins σ' H' s' /\ Q σ' H') X.xe s
abbrev TSet := V -> V -> V -> Hp -> (Hp -> Prop) -> Prop
def PSet (X : Cx) (t : TSet) : Prop :=
 ∀ (pins : List (Addr × Obj)) (s : Shared) (σ : St) (H : Hp) (o i v : V) (ov iv u : Value) (Q : Hp -> Prop), Inv X pins σ H s -> RelV o ov -> RelV i iv -> RelV v u -> t o i v H Q ->
  wpAny (model X.prog X.w) X.A (setItem ov iv u) (fun _ s' => ∃ H', Inv X pins σ H' s' /\ Q H') X.xe s
section
variable {X : Cx} {pos : Pos}
def gName (i : Nat) : TG := fun v σ H Q => Q (σ.set i (some v)) H
theorem pg_name {i : Nat} {x : Str} (hN : X.N.Nodup) (hi : X.N[i]? = some x) (hx : Loc X.env.scope x) (hf : X.fn x = true \/ X.env.scope.names.lookup x = some .local := by first | exact .inl rfl | exact .inr rfl | assumption) : PG X (.Name x pos) (gName i) := by
 intro pins s σ H v u Q I r h
 exact wpAny_assign_Name (store_ok I hN hi hx r (fun s' I' => ⟨_, H, I', h⟩) hf)
def gNil : TGs := fun vs σ H Q => vs = [] /\ Q σ H
def gCons (t : TG) (u : TGs) : TGs := fun vs σ H Q => ∃ v r, vs = v :: r /\ t v σ H fun σ' H' => u r σ' H' Q
theorem pgs_nil : PGs X [] gNil := by
 intro pins s σ H vs us Q I r h
 obtain ⟨e, h⟩ := h
 subst e
 cases r
 exact assignInOrder_nil ⟨σ, H, I, h⟩
theorem pgs_cons {e : Expr} {es : List Expr} {t : TG} {u : TGs} (h1 : PG X e t) (h2 : PGs X es u)
  (hs : (assignEach (e :: es) X.env).map (·.2) = assign e X.env :: (assignEach es X.env).map (·.2) := by rfl) : PGs X (e :: es) (gCons t u) := by
 intro pins s σ H vs us Q I r h
 obtain ⟨v, vr, e1, h⟩ := h
 subst e1
 cases r with
 | cons r rr =>
  rw [hs]
  refine assignInOrder_cons (thn (h1 pins s σ H _ _ _ I r h) fun _ s1 ⟨σ1, H1, I1, q1⟩ => ?_)
  exact h2 pins s1 σ1 H1 _ _ Q I1 rr q1
def gTup (K : W.Frag) (n : Nat) (t : TGs) : TG := fun v σ H Q => ∃ a xs, v = .ref a /\ SqT K H a xs /\ xs.length = n /\ t xs σ H Q
theorem pg_tup {es : List Expr} {k : Nat} {t : TGs} {n : Nat} (hc : X.calm = true) (h : PGs X es t)
  (hn : (assignEach es X.env).length = n := by rfl) (hst : (assignEach es X.env).findIdx? (·.1) = none := by rfl) : PG X (.Tuple es k pos) (gTup X.K n t) := by
 intro pins s σ H v u Q I r hw
 obtain ⟨a, xs, e1, hq, hl, hw⟩ := hw
 subst e1
 cases r
 obtain ⟨its, rv, ht, hz⟩ := I.tuple hq
 refine assign_Tuple_tuple (I.ok.hd hc) ht (by simp [hn, <- hl, rv.length]) hst fun h' hx => ?_
 have I1 : Inv X pins σ H { s with heap := h' } := I.kept (t' := s.toks) fun b o e => hx b o (Nat.ne_of_lt (Heap.lt_size e)) e
 exact h pins _ σ H xs _ Q I1 (by simpa using rv) hw
def gSub (to ti : TE) (t : TSet) : TG := fun v σ H Q => to σ H fun o H1 => ti σ H1 fun i H2 => t o i v H2 fun H3 => Q σ H3
theorem pg_sub {o i : Expr} {to ti : TE} {t : TSet} (ho : PE X o to) (hi : PE X i ti) (hs : PSet X t)
  (ha : ∀ v, assign (.Subscript o i pos) X.env v = (do
   let ov <- holding [v] (eval o X.env)
   let iv <- holding [v, ov] (eval i X.env)
   standAt pos
   holding [v, ov, iv] (setItem ov iv v)
   release [v, ov, iv] []) := by intro _; rfl) : PG X (.Subscript o i pos) (gSub to ti t) := by
 intro pins s σ H v u Q I r h
 rw [ha]
 refine wpAny_bind (wpAny_holding (thn (ho pins s σ H _ I h) fun ov s1 ⟨x, H1, I1, r1, q1⟩ => ?_))
 refine wpAny_bind (wpAny_holding (thn (hi pins s1 σ H1 _ I1 q1) fun iv s2 ⟨y, H2, I2, r2, q2⟩ => ?_))
 refine wpAny_bind (wpAny_standAt (wpAny_bind (wpAny_holding (thn (hs pins s2 σ H2 x y v ov iv u _ I2 r1 r2 r q2) fun _ s3 ⟨H3, I3, q3⟩ => ?_))))
 exact wpAny_release ⟨σ, H3, I3, q3⟩
def tAsg (te : TE) (g : TG) : TS := fun D σ H => te σ H fun x H1 => g x σ H1 D.nx
theorem ps_asg {tg e : Expr} {te : TE} {g : TG} (he : PE X e te) (hg : PG X tg g) (hs : swapsWithSole [tg] e pos.line X.env = pure false := by rfl) (hw : swappedStores [tg] e X.env = pure none := by rfl)
  (h1 : (assignEach [tg] X.env).map (·.2) = [assign tg X.env] := by rfl) : PS X (.Assign [tg] e pos) (tAsg te g) := by
 intro pins s σ H D I h
 refine wpAny_Assign_stores (thn (he pins s σ H _ I h) fun v s1 ⟨x, H1, I1, r1, q1⟩ => ?_) hs hw
 rw [h1]
 exact thn (hg pins s1 σ H1 x v _ I1 r1 q1) fun _ s2 q => q
theorem ps_set {i : Nat} {x : Str} {e : Expr} {te : TE} {pos' : Pos} (hN : X.N.Nodup) (hi : X.N[i]? = some x) (hx : Loc X.env.scope x) (he : PE X e te) (hs : swapsWith e (some (.Name x pos')) pos.line X.env = pure false := by rfl) (hf : X.fn x = true \/ X.env.scope.names.lookup x = some .local := by first | exact .inl rfl | exact .inr rfl | assumption) :
  PS X (.Assign [.Name x pos'] e pos) (tAsg te (gName i)) := by
 intro pins s σ H D I h
 refine wpAny_Assign_Name (thn (he pins s σ H _ I h) fun v s1 ⟨y, H1, I1, r1, q1⟩ => ?_) hs
 exact store_ok I1 hN hi hx r1 (fun s2 I2 => ⟨_, H1, I2, q1⟩) hf
end
section
variable {X : Cx} {pos : Pos}
def tWhile (c : TT) (tb : TS) : TS := fun D σ H => ∃ W : Nat -> St -> Hp -> Prop, (∃ m, W m σ H) /\ ∀ m σ H, W m σ H ->
 c σ H fun b H1 => if b = true then ∃ N : St -> Hp -> Prop, (∀ σ' H', N σ' H' -> ∃ m', m' < m /\ W m' σ' H') /\ tb { D with nx := N, ct := N, bk := D.nx } σ H1 else D.nx σ H1
theorem ps_while {c : Expr} {body : List Stmt} {tc : TT} {tb : TS} (hp : PassesOwn (model X.prog X.w) X.A X.env X.xe) (hc : PT X c tc) (hb : PSs X body tb) : PS X (.While c body [] pos) (tWhile tc tb) := by
 intro pins s σ H D I h
 obtain ⟨W, ⟨m0, w0⟩, turn⟩ := h
 refine wpAny_While (codeAny_whileLoop (fun n s' => ∃ σ' H', Inv X pins σ' H' s' /\ W n σ' H') ?_ m0 ⟨σ, H, I, w0⟩)
 rintro n s1 ⟨σ1, H1, I1, w1⟩
 refine wpAny_passesOwn hp (thn (hc pins s1 σ1 H1 _ I1 (turn n σ1 H1 w1)) fun b s2 ⟨H2, I2, q2⟩ => ?_)
 cases b with
 | true =>
  obtain ⟨N, hN, q2⟩ := q2
  rw [if_pos rfl]
  refine wpAny_passesOwn hp (thn (hb pins s2 σ1 H2 _ I2 q2) fun f s3 q3 => ?_)
  cases f with
  | next =>
   obtain ⟨σ3, H3, I3, n3⟩ := q3
   obtain ⟨m', hm, w3⟩ := hN σ3 H3 n3
   exact ⟨m', hm, σ3, H3, I3, w3⟩
  | cont =>
   obtain ⟨σ3, H3, I3, n3⟩ := q3
   obtain ⟨m', hm, w3⟩ := hN σ3 H3 n3
   exact ⟨m', hm, σ3, H3, I3, w3⟩
  | brk => exact q3
  | ret v => exact q3
 | false =>
  rw [if_neg Bool.false_ne_true]
  exact wpAny_execs_nil ⟨σ1, H2, I2, q2⟩
end
structure It where
 go : Nat -> Hp -> Prop
 yld : Nat -> Hp -> V -> Hp -> Prop
 stop : Nat -> Hp -> Prop
def FpOk (X : Cx) (pins : List (Addr × Obj)) (H : Hp) (b : Addr) : Prop :=
 H b = none /\ b ≠ X.env.locals /\ b ∉ X.fs /\ (b ∈ X.ex \/ X.s₀.heap.objs.size <= b) /\ (∀ x c, X.env.cells.lookup x = some c -> c ≠ b) /\ ∀ p ∈ X.pn ++ pins, p.1 ≠ b
theorem Inv.fpOk {X : Cx} {pins : List (Addr × Obj)} {σ : St} {H H' : Hp} {s : Shared} {b : Addr} (I : Inv X pins σ H s) (hb : s.heap.objs.size <= b) (hn : H' b = none) : FpOk X pins H' b := by
 refine ⟨hn, Nat.ne_of_gt (Nat.lt_of_lt_of_le I.lt hb), I.nofs hb, .inr (Nat.le_trans I.sz hb), fun x c e z => ?_, fun p hp z => ?_⟩
 ·obtain ⟨v, q⟩ := I.cell x c e
  exact absurd (Nat.lt_of_lt_of_le q.lt (by rw [z]; exact hb)) (Nat.lt_irrefl _)
 ·exact absurd (Nat.lt_of_lt_of_le (Heap.lt_size (I.pin p hp).1) (by rw [z]; exact hb)) (Nat.lt_irrefl _)
structure Turn (P : Program) (w : World) (K : W.Frag) (tg : Expr) (J : It) (fp : List Addr) (it : Addr) (tn : Nat -> Heap -> Prop) : Prop where
 mem : it ∈ fp
 obj : ∀ i h, tn i h -> ∀ b ∈ fp, ∃ o, h.get? b = some o /\ ∀ v, o.data ≠ .cell v
 keep : ∀ i h h', tn i h -> (∀ b ∈ fp, ∀ o, h.get? b = some o -> h'.get? b = some o) -> tn i h'
 item : ∀ (X : Cx), X.prog = P -> X.w = w -> X.K = K -> X.calm = true -> ∀ (i : Nat) (pins : List (Addr × Obj)) (s : Shared) (σ : St) (H : Hp) (E : Value -> Shared -> Prop), Inv X pins σ H s -> (∀ b ∈ fp, FpOk X pins H b) -> tn i s.heap -> J.go i H ->
  wpAny (model P w) X.A (pyNext (.ref it)) (fun r s1 => ∃ u, r = some u /\
   wpAny (model P w) X.A (letOwnedTupleGo tg (.ref it) u) (fun _ s2 => ∃ x H', Inv X pins σ H' s2 /\ RelV x u /\ J.yld i H x H' /\ tn (i + 1) s2.heap /\ ∀ b ∈ fp, H' b = none) E s1) E s
 done : ∀ (X : Cx), X.prog = P -> X.w = w -> X.K = K -> X.calm = true -> ∀ (i : Nat) (pins : List (Addr × Obj)) (s : Shared) (σ : St) (H : Hp) (E : Value -> Shared -> Prop), Inv X pins σ H s -> (∀ b ∈ fp, FpOk X pins H b) -> tn i s.heap -> J.stop i H ->
  wpAny (model P w) X.A (pyNext (.ref it)) (fun r s1 => r = none /\ Inv X pins σ H s1) E s
 self : ∀ (A : Around) (i : Nat) (s : Shared) (Q : Value -> Shared -> Prop) (E : Value -> Shared -> Prop), tn i s.heap -> Q (.ref it) s -> wpAny (model P w) A (pyIter (.ref it)) Q E s
abbrev TI := St -> Hp -> (It -> Hp -> Prop) -> Prop
def PIE (X : Cx) (pins : List (Addr × Obj)) (σ : St) (tg : Expr) (R : It -> Hp -> Prop) (itv : Value) (s2 : Shared) : Prop :=
 ∃ (it : Addr) (fp : List Addr) (tn : Nat -> Heap -> Prop) (J : It) (H' : Hp), itv = .ref it /\ Inv X pins σ H' s2 /\ Turn X.prog X.w X.K tg J fp it tn /\ tn 0 s2.heap /\ (∀ b ∈ fp, FpOk X pins H' b) /\ R J H'
def PI (X : Cx) (tg iter : Expr) (wi : TI) : Prop :=
 ∀ (pins : List (Addr × Obj)) (s : Shared) (σ : St) (H : Hp) (R : It -> Hp -> Prop), Inv X pins σ H s -> wi σ H R ->
  wpAny (model X.prog X.w) X.A (eval iter X.env) (fun v s1 => wpAny (model X.prog X.w) X.A (pyIter v) (PIE X pins σ tg R) X.xe s1) X.xe s
theorem go_of {M : Model} {A : Around} {E : Value -> Shared -> Prop} {s : Shared} {tg : Expr} {it : Addr} {u : Value} {o : Obj} {n : String} {vs : Array Value} {Q : Unit -> Shared -> Prop} (ho : s.heap.get? it = some o) (hc : o.cls = .type n) (hd : o.data = .fields vs)
    (hn : ["enumerate", "zip", "dict_itemiterator", "dict_reverseitemiterator", "odict_iterator", "itertools.zip_longest", "itertools.pairwise"].contains n = false) (hQ : Q () s) : wpAny M A (letOwnedTupleGo tg (.ref it) u) Q E s := by
  unfold letOwnedTupleGo
  cases tg <;> first
    | exact wpAny_pure hQ
    | (cases u <;> first
        | exact wpAny_pure hQ
        | (refine wpAny_bind (wpAny_load ho ?_)
           rw [hc, hd]
           show wpAny M A (if (["enumerate", "zip", "dict_itemiterator", "dict_reverseitemiterator", "odict_iterator", "itertools.zip_longest", "itertools.pairwise"].contains n && vs[0]? == some (rawInt _)) = true then _ else _) Q E s
           rw [if_neg (by intro h; rw [hn, Bool.false_and] at h; cases h)]
           exact wpAny_pure hQ))
def Itl (K : W.Frag) (a : Addr) : It :=
 ⟨fun i H => ∃ xs x, SqL K H a xs /\ xs[i]? = some x, fun i H x H' => H' = H /\ ∀ xs, SqL K H a xs -> xs[i]? = some x, fun i H => ∃ xs, SqL K H a xs /\ xs.length <= i⟩
def Itt (K : W.Frag) (a : Addr) : It :=
 ⟨fun i H => ∃ xs x, SqT K H a xs /\ xs[i]? = some x, fun i H x H' => H' = H /\ ∀ xs, SqT K H a xs -> xs[i]? = some x, fun i H => ∃ xs, SqT K H a xs /\ xs.length <= i⟩
def Itr (lo : Int) (n : Nat) : It := ⟨fun i _ => i < n, fun i H x H' => H' = H /\ x = .int (lo + i), fun i _ => n <= i⟩
theorem turn_list {P : Program} {w : World} {K : W.Frag} {tg : Expr} (a it : Addr) : Turn P w K tg (Itl K a) [it] it (fun i h => h.IsListIter it a i) where
 mem := by simp
 obj := fun i h st b hb => by
  have e : b = it := by simpa using hb
  subst e
  obtain ⟨o, e, c, d⟩ := st
  exact ⟨o, e, fun v z => by rw [d] at z; cases z⟩
 keep := fun i h h' st k => st.at fun o e => k it (by simp) o e
 item := by
  intro X hP hw hK hc i pins s σ H E I hf st hg
  subst hP hw hK
  obtain ⟨xs, x, hq, hx⟩ := hg
  obtain ⟨its, rv, p, hz⟩ := I.list hq
  obtain ⟨u, hu, ru⟩ := rv.get hx
  obtain ⟨f0, f1, f2, f3, f4, f5⟩ := hf it (by simp)
  refine wpAny_pyNext_list_item st p.isList (x := u) (by simpa using hu) fun h' st' sb => ?_
  have I1 : Inv X pins σ H { s with heap := h' } := I.turned (t' := s.toks) (fun b o hb e => (sb.2 b hb).trans e) f0 f1 f3 f4 f5
  obtain ⟨o, e, c, d⟩ := id st'
  exact ⟨u, rfl, go_of (s := { s with heap := h' }) e c d (by decide) ⟨x, H, I1, ru, ⟨rfl, fun ys hy => by rw [I.list_inj hy hq]; exact hx⟩, st', fun b hb => (hf b hb).1⟩⟩
 done := by
  intro X hP hw hK hc i pins s σ H E I hf st hg
  subst hP hw hK
  obtain ⟨xs, hq, hx⟩ := hg
  obtain ⟨its, rv, p, hz⟩ := I.list hq
  obtain ⟨f0, f1, f2, f3, f4, f5⟩ := hf it (by simp)
  have hl := rv.length
  exact wpAny_pyNext_list_end (I.ok.hd hc) st p.isList (by simp; omega) fun h' eb => ⟨rfl, I.turned (t' := s.toks) (fun b o hb e => eb b o hb e) f0 f1 f3 f4 f5⟩
 self := fun _ _ _ _ _ st h => wpAny_pyIter_listiter st h
theorem turn_tuple {P : Program} {w : World} {K : W.Frag} {tg : Expr} (a it : Addr) : Turn P w K tg (Itt K a) [it] it (fun i h => h.IsTupleIter it a i) where
 mem := by simp
 obj := fun i h st b hb => by
  have e : b = it := by simpa using hb
  subst e
  obtain ⟨o, e, c, d⟩ := st
  exact ⟨o, e, fun v z => by rw [d] at z; cases z⟩
 keep := fun i h h' st k => st.at fun o e => k it (by simp) o e
 item := by
  intro X hP hw hK hc i pins s σ H E I hf st hg
  subst hP hw hK
  obtain ⟨xs, x, hq, hx⟩ := hg
  obtain ⟨its, rv, p, hz⟩ := I.tuple hq
  obtain ⟨u, hu, ru⟩ := rv.get hx
  obtain ⟨f0, f1, f2, f3, f4, f5⟩ := hf it (by simp)
  refine wpAny_pyNext_tuple_item st (show s.heap.IsTuple a its.toArray from p) (x := u) (by simpa using hu) fun h' st' sb => ?_
  have I1 : Inv X pins σ H { s with heap := h' } := I.turned (t' := s.toks) (fun b o hb e => (sb.2 b hb).trans e) f0 f1 f3 f4 f5
  obtain ⟨o, e, c, d⟩ := id st'
  exact ⟨u, rfl, go_of (s := { s with heap := h' }) e c d (by decide) ⟨x, H, I1, ru, ⟨rfl, fun ys hy => by rw [I.tuple_inj hy hq]; exact hx⟩, st', fun b hb => (hf b hb).1⟩⟩
 done := by
  intro X hP hw hK hc i pins s σ H E I hf st hg
  subst hP hw hK
  obtain ⟨xs, hq, hx⟩ := hg
  obtain ⟨its, rv, p, hz⟩ := I.tuple hq
  obtain ⟨f0, f1, f2, f3, f4, f5⟩ := hf it (by simp)
  have hl := rv.length
  exact wpAny_pyNext_tuple_end (I.ok.hd hc) st (show s.heap.IsTuple a its.toArray from p) (by simp; omega) fun h' eb => ⟨rfl, I.turned (t' := s.toks) (fun b o hb e => eb b o hb e) f0 f1 f3 f4 f5⟩
 self := fun _ _ _ _ _ st h => wpAny_pyIter_tupleiter st h
theorem turn_range {P : Program} {w : World} {K : W.Frag} {tg : Expr} (it : Addr) (lo : Int) (n : Nat) : Turn P w K tg (Itr lo n) [it] it (fun i h => IsRangeIter h it (lo + (i : Nat) * 1) ((n : Int) - (i : Nat)) 1) where
 mem := by simp
 obj := fun i h st b hb => by
  have e : b = it := by simpa using hb
  subst e
  exact ⟨_, st, fun v z => by
   have z' : Data.fields _ = Data.cell v := z
   cases z'⟩
 keep := fun i h h' st k => k it (by simp) _ st
 item := by
  intro X hP hw hK hc i pins s σ H E I hf st hg
  subst hP hw hK
  obtain ⟨f0, f1, f2, f3, f4, f5⟩ := hf it (by simp)
  have W := Walks.range (prog := X.prog) (w := X.w) (I.ok.hd hc) it lo 1 n
  refine W.item i s _ _ hg st fun v h' tk hv st' kk => ?_
  obtain ⟨t, rfl⟩ := hv
  have I1 : Inv X pins σ H { s with heap := h', toks := tk } := I.turned (fun b o hb e => kk b o (by simpa using hb) e) f0 f1 f3 f4 f5
  refine ⟨_, rfl, go_of (s := { s with heap := h', toks := tk }) (n := "range_iterator") st' rfl rfl (by decide) ⟨.int (lo + i), H, I1, ⟨t, ?_⟩, ⟨rfl, rfl⟩, st', fun b hb => (hf b hb).1⟩⟩
  rw [Int.mul_one]
 done := by
  intro X hP hw hK hc i pins s σ H E I hf st hg
  subst hP hw hK
  obtain ⟨f0, f1, f2, f3, f4, f5⟩ := hf it (by simp)
  exact wpAny_pyNext_range_end (I.ok.hd hc) st (by have : n <= i := hg; omega) fun h' eb => ⟨rfl, I.turned (t' := s.toks) (fun b o hb e => eb b o hb e) f0 f1 f3 f4 f5⟩
 self := fun _ _ _ _ _ st h => wpAny_pyIter_rangeiter st h
section
variable {X : Cx} {tg : Expr}
def iList (K : W.Frag) (tl : TE) : TI := fun σ H R => tl σ H fun x H1 => ∃ a, x = .ref a /\ (∃ xs, SqL K H1 a xs) /\ R (Itl K a) H1
def iTup (K : W.Frag) (tl : TE) : TI := fun σ H R => tl σ H fun x H1 => ∃ a, x = .ref a /\ (∃ xs, SqT K H1 a xs) /\ R (Itt K a) H1
theorem pi_list {l : Expr} {tl : TE} (hl : PE X l tl) : PI X tg l (iList X.K tl) := by
 intro pins s σ H R I h
 refine thn (hl pins s σ H _ I h) fun v s1 ⟨x, H1, I1, r1, q1⟩ => ?_
 obtain ⟨a, e, ⟨xs, hq⟩, q⟩ := q1
 subst e
 cases r1
 obtain ⟨its, rv, p, hz⟩ := I1.list hq
 refine wpAny_pyIter_list p.isList ?_
 refine ⟨s1.heap.objs.size, [s1.heap.objs.size], _, _, H1, rfl, I1.kept (t' := s1.toks) fun b o e => Heap.get?_push_of_some _ e, turn_list a _, ⟨_, Heap.get?_push_size _ rfl, rfl, rfl⟩, fun b hb => ?_, q⟩
 have e : b = s1.heap.objs.size := by simpa using hb
 subst e
 exact I1.fpOk (Nat.le_refl _) (I1.hok.fresh (Nat.le_refl _))
theorem pi_tup {l : Expr} {tl : TE} (hl : PE X l tl) : PI X tg l (iTup X.K tl) := by
 intro pins s σ H R I h
 refine thn (hl pins s σ H _ I h) fun v s1 ⟨x, H1, I1, r1, q1⟩ => ?_
 obtain ⟨a, e, ⟨xs, hq⟩, q⟩ := q1
 subst e
 cases r1
 obtain ⟨its, rv, p, hz⟩ := I1.tuple hq
 refine wpAny_pyIter_tuple (show s1.heap.IsTuple a its.toArray from p) ?_
 refine ⟨s1.heap.objs.size, [s1.heap.objs.size], _, _, H1, rfl, I1.kept (t' := s1.toks) fun b o e => Heap.get?_push_of_some _ e, turn_tuple a _, ⟨_, Heap.get?_push_size _ rfl, rfl, rfl⟩, fun b hb => ?_, q⟩
 have e : b = s1.heap.objs.size := by simpa using hb
 subst e
 exact I1.fpOk (Nat.le_refl _) (I1.hok.fresh (Nat.le_refl _))
theorem range_it {pins : List (Addr × Obj)} {σ : St} {H : Hp} {s : Shared} {R : It -> Hp -> Prop} {E : Value -> Shared -> Prop} {lo hi : Int} {t u v : Tok} {tk : Nat} (I : Inv X pins σ H s) (h1 : -(2 ^ 62) <= lo) (h2 : lo < 2 ^ 62) (h3 : -(2 ^ 62) <= hi) (h4 : hi < 2 ^ 62)
  (q : R (Itr lo (hi - lo).toNat) H) : wpAny (model X.prog X.w) X.A (pyIter (.ref s.heap.objs.size)) (PIE X pins σ tg R) E { s with heap := s.heap.push { cls := .type "range", data := .fields #[.int lo t, .int hi u, .int 1 v] }, toks := tk } := by
 refine wpAny_pyIter_range (IsRange.new ..) (small_one h1 h2 h3 h4) ?_
 have I1 : Inv X pins σ H { s with heap := s.heap.push { cls := .type "range", data := .fields #[.int lo t, .int hi u, .int 1 v] }, toks := tk } := I.kept fun b o e => Heap.get?_push_of_some _ e
 refine ⟨(s.heap.push { cls := .type "range", data := .fields #[.int lo t, .int hi u, .int 1 v] }).objs.size, [(s.heap.push { cls := .type "range", data := .fields #[.int lo t, .int hi u, .int 1 v] }).objs.size], _, _, H, rfl,
  I1.kept (t' := tk) fun b o e => Heap.get?_push_of_some _ e, turn_range _ lo (hi - lo).toNat, ?_, fun b hb => ?_, q⟩
 ·have e1 : lo + ((0 : Nat) : Int) * 1 = lo := by simp
  have e2 : (((hi - lo).toNat : Nat) : Int) - ((0 : Nat) : Int) = Builtin.Range.rangeSize lo hi 1 := by rw [rangeSize_one]; split <;> omega
  show IsRangeIter _ _ (lo + ((0 : Nat) : Int) * 1) ((((hi - lo).toNat : Nat) : Int) - ((0 : Nat) : Int)) 1
  rw [e1, e2]
  exact Heap.get?_push_size _ rfl
 ·have e : b = (s.heap.push { cls := .type "range", data := .fields #[.int lo t, .int hi u, .int 1 v] }).objs.size := by simpa using hb
  subst e
  exact I1.fpOk (Nat.le_refl _) (I1.hok.fresh (Nat.le_refl _))
def iRng1 (ta : TA) : TI := fun σ H R => ta σ H fun vs H1 => ∃ j : Int, vs = [.int j] /\ -(2 ^ 62) <= j /\ j < 2 ^ 62 /\ R (Itr 0 j.toNat) H1
def iRng2 (ta : TA) : TI := fun σ H R => ta σ H fun vs H1 => ∃ i j : Int, vs = [.int i, .int j] /\ (-(2 ^ 62) <= i /\ i < 2 ^ 62 /\ -(2 ^ 62) <= j /\ j < 2 ^ 62) /\ R (Itr i (j - i).toNat) H1
theorem pi_range1 {a : Expr} {ta : TA} {p pos : Pos} (hg : Gl X "range") (hm : X.mg "range" = none) (ha : PA X [a] ta) (hs : starEach [a] X.env = [(false, eval a X.env)] := by rfl) : PI X tg (.Call (.Name "range" p) [a] [] pos) (iRng1 ta) := by
 intro pins s σ H R I h
 refine Call_ (ld_blt I hg hm boot_range (PyProof.Rows.callWith_type1 (thn (ha pos pins s σ H _ I h) fun us s1 ⟨vs, H1, I1, r1, q1⟩ => ?_) hs rfl))
 obtain ⟨j, e, q1, q2, q⟩ := q1
 subst e
 cases r1 with
 | cons r rr =>
  cases rr
  obtain ⟨t, rfl⟩ := r
  exact call_range_1 (range_it I1 (by omega) (by omega) q1 q2 (by simpa using q))
theorem pi_range2 {a b : Expr} {ta : TA} {p pos : Pos} (hg : Gl X "range") (hm : X.mg "range" = none) (ha : PA X [a, b] ta) (hs : starEach [a, b] X.env = [(false, eval a X.env), (false, eval b X.env)] := by rfl) (hs2 : starEach [b] X.env = [(false, eval b X.env)] := by rfl) :
  PI X tg (.Call (.Name "range" p) [a, b] [] pos) (iRng2 ta) := by
 intro pins s σ H R I h
 refine Call_ (ld_blt I hg hm boot_range (PyProof.Rows.callWith_type1 (thn (ha pos pins s σ H _ I h) fun us s1 ⟨vs, H1, I1, r1, q1⟩ => ?_) (by rw [hs, hs2]) (by rw [hs2]; rfl)))
 obtain ⟨i, j, e, ⟨q1, q2, q3, q4⟩, q⟩ := q1
 subst e
 cases r1 with
 | cons r rr =>
  cases rr with
  | cons r' rr =>
   cases rr
   obtain ⟨t, rfl⟩ := r
   obtain ⟨t', rfl⟩ := r'
   exact call_range_2 (range_it I1 q1 q2 q3 q4 q)
def tFor (wi : TI) (g : TG) (tb : TS) : TS := fun D σ H => wi σ H fun J H1 => ∃ W : Nat -> Nat -> St -> Hp -> Prop, (∃ m, W 0 m σ H1) /\ ∀ i m σ H, W i m σ H ->
 (J.stop i H /\ D.nx σ H) \/ (J.go i H /\ ∃ N : St -> Hp -> Prop, (∀ σ' H', N σ' H' -> ∃ m', m' < m /\ W (i + 1) m' σ' H') /\ ∀ x H', J.yld i H x H' -> g x σ H' fun σ2 H2 => tb { D with nx := N, ct := N, bk := D.nx } σ2 H2)
def pinsAt (fp : List Addr) (h : Heap) : List (Addr × Obj) := fp.filterMap fun b => (h.get? b).map fun o => (b, o)
theorem mem_pinsAt {fp : List Addr} {h : Heap} {b : Addr} {o : Obj} (hb : b ∈ fp) (e : h.get? b = some o) : (b, o) ∈ pinsAt fp h := List.mem_filterMap.mpr ⟨b, hb, by rw [e]; rfl⟩
theorem of_pinsAt {fp : List Addr} {h : Heap} {p : Addr × Obj} (hp : p ∈ pinsAt fp h) : p.1 ∈ fp /\ h.get? p.1 = some p.2 := by
 obtain ⟨b, hb, e⟩ := List.mem_filterMap.mp hp
 cases q : h.get? b with
 | none => rw [q] at e; cases e
 | some o =>
  rw [q] at e
  have e' : (b, o) = p := Option.some.inj e
  subst e'
  exact ⟨hb, q⟩
theorem Inv.pinned {pins : List (Addr × Obj)} {σ : St} {H : Hp} {s : Shared} {fp : List Addr} (I : Inv X pins σ H s) (hf : ∀ b ∈ fp, FpOk X pins H b) (ho : ∀ b ∈ fp, ∃ o, s.heap.get? b = some o /\ ∀ v, o.data ≠ .cell v) : Inv X (pins ++ pinsAt fp s.heap) σ H s :=
 I.pins_of fun p hp => (List.mem_append.mp hp).elim (fun z => I.pin p (List.mem_append_right _ z)) fun z => by
  obtain ⟨hb, e⟩ := of_pinsAt z
  obtain ⟨f0, f1, f2, _⟩ := hf p.1 hb
  obtain ⟨o, e', d⟩ := ho p.1 hb
  rw [e] at e'; cases e'
  exact ⟨e, f0, f1, f2, d⟩
theorem Inv.unpinned {pins pl : List (Addr × Obj)} {σ : St} {H : Hp} {s : Shared} (I : Inv X (pins ++ pl) σ H s) : Inv X pins σ H s := I.pins_of fun p hp => I.pin p (List.mem_append_right _ (List.mem_append_left _ hp))
theorem ps_for {iter : Expr} {body : List Stmt} {wi : TI} {g : TG} {tb : TS} {pos : Pos} (hp : PassesOwn (model X.prog X.w) X.A X.env X.xe) (hc : X.calm = true) (hi : PI X tg iter wi) (hg : PG X tg g) (hb : PSs X body tb)
  (hs : ∀ x, foldedSetIterable iter X.env x = pure x := by intro _; rfl) : PS X (.For tg iter body [] pos) (tFor wi g tb) := by
 intro pins s σ H D I h
 refine wpAny_For (thn (hi pins s σ H _ I h) fun v s1 h1 => thn h1 fun itv s2 h2 => ?_) hs
 obtain ⟨it, fp, tn, J, H2, e, I2, T, st2, f2, W, ⟨m0, w0⟩, turn⟩ := h2
 subst e
 -- what stays true of the iterator's objects through the loop
 have stat : ∀ {H' : Hp}, (∀ b ∈ fp, H' b = none) -> ∀ b ∈ fp, FpOk X pins H' b := fun hn b hb => ⟨hn b hb, (f2 b hb).2⟩
 refine codeAny_forLoop_any (fun n s' => ∃ i σ' H', Inv X pins σ' H' s' /\ tn i s'.heap /\ (∀ b ∈ fp, H' b = none) /\ W i n σ' H') ?_ m0 ⟨0, σ, H2, I2, st2, fun b hb => (f2 b hb).1, w0⟩
 rintro n s3 ⟨i, σ3, H3, I3, st3, fr3, w3⟩
 rcases turn i n σ3 H3 w3 with ⟨stop, qn⟩ | ⟨go, N, hN, step⟩
 ·refine wpAny_passesOwn hp (thn (T.done X rfl rfl rfl hc i pins s3 σ3 H3 X.xe I3 (stat fr3) st3 stop) fun r s4 ⟨hr, I4⟩ => ?_)
  subst hr
  exact wpAny_execs_nil ⟨σ3, H3, I4, qn⟩
 ·refine wpAny_passesOwn hp (thn (T.item X rfl rfl rfl hc i pins s3 σ3 H3 X.xe I3 (stat fr3) st3 go) fun r s4 ⟨u, hr, h4⟩ => ?_)
  subst hr
  refine wpAny_passesOwn hp (thn h4 fun _ s5 ⟨x, H5, I5, r5, y5, st5, fr5⟩ => ?_)
  have I5' := I5.pinned (stat fr5) (T.obj _ _ st5)
  refine wpAny_passesOwn hp (thn (hg _ s5 σ3 H5 x u _ I5' r5 (step x H5 y5)) fun _ s6 ⟨σ6, H6, I6, q6⟩ => ?_)
  refine wpAny_passesOwn hp (thn (hb _ s6 σ6 H6 _ I6 q6) fun f s7 q7 => ?_)
  have again : ∀ {σ7 : St} {H7 : Hp}, Inv X (pins ++ pinsAt fp s5.heap) σ7 H7 s7 -> N σ7 H7 -> ∃ m, m < n /\ ∃ i σ' H', Inv X pins σ' H' s7 /\ tn i s7.heap /\ (∀ b ∈ fp, H' b = none) /\ W i m σ' H' := fun {σ7 H7} I7 n7 => by
   obtain ⟨m', hm, w7⟩ := hN σ7 H7 n7
   refine ⟨m', hm, i + 1, σ7, H7, I7.unpinned, T.keep _ _ _ st5 fun b hb o e => (I7.pin (b, o) (List.mem_append_right _ (List.mem_append_right _ (mem_pinsAt hb e)))).1, fun b hb => ?_, w7⟩
   obtain ⟨o, e, d⟩ := T.obj _ _ st5 b hb
   exact (I7.pin (b, o) (List.mem_append_right _ (List.mem_append_right _ (mem_pinsAt hb e)))).2.1
  cases f with
  | next => obtain ⟨σ7, H7, I7, n7⟩ := q7; exact again I7 n7
  | cont => obtain ⟨σ7, H7, I7, n7⟩ := q7; exact again I7 n7
  | brk => obtain ⟨σ7, H7, I7, q7⟩ := q7; exact ⟨σ7, H7, I7.unpinned, q7⟩
  | ret v => obtain ⟨x7, σ7, H7, I7, r7, q7⟩ := q7; exact ⟨x7, σ7, H7, I7.unpinned, r7, q7⟩
end
theorem for_list {K : W.Frag} {a : Addr} {xs : List V} {g : TG} {tb : TS} {D : Ends} {σ : St} {H : Hp} (Pv : Nat -> St -> Hp -> Prop) (h0 : Pv 0 σ H) (hl : ∀ i σ H, i <= xs.length -> Pv i σ H -> SqL K H a xs)
  (hs : ∀ i x σ H, xs[i]? = some x -> Pv i σ H -> g x σ H fun σ2 H2 => tb { D with nx := Pv (i + 1), ct := Pv (i + 1), bk := D.nx } σ2 H2) (hd : ∀ σ H, Pv xs.length σ H -> D.nx σ H) :
  ∃ W : Nat -> Nat -> St -> Hp -> Prop, (∃ m, W 0 m σ H) /\ ∀ i m σ H, W i m σ H ->
   ((Itl K a).stop i H /\ D.nx σ H) \/ ((Itl K a).go i H /\ ∃ N : St -> Hp -> Prop, (∀ σ' H', N σ' H' -> ∃ m', m' < m /\ W (i + 1) m' σ' H') /\ ∀ x H', (Itl K a).yld i H x H' -> g x σ H' fun σ2 H2 => tb { D with nx := N, ct := N, bk := D.nx } σ2 H2) := by
 refine ⟨fun i m σ H => m = xs.length - i /\ i <= xs.length /\ Pv i σ H, ⟨xs.length, by simp, Nat.zero_le _, h0⟩, ?_⟩
 rintro i m σ H ⟨rfl, hi, p⟩
 have q := hl i σ H hi p
 by_cases hlt : i < xs.length
 ·refine .inr ⟨⟨xs, xs[i], q, by simp [hlt]⟩, Pv (i + 1), fun σ' H' p' => ⟨xs.length - (i + 1), by omega, rfl, hlt, p'⟩, fun x H' y => ?_⟩
  obtain ⟨e, y⟩ := y
  subst e
  exact hs i x σ _ (y xs q) p
 ·have e : i = xs.length := by omega
  subst e
  exact .inl ⟨⟨xs, q, Nat.le_refl _⟩, hd σ H p⟩
theorem for_tup {K : W.Frag} {a : Addr} {xs : List V} {g : TG} {tb : TS} {D : Ends} {σ : St} {H : Hp} (Pv : Nat -> St -> Hp -> Prop) (h0 : Pv 0 σ H) (hl : ∀ i σ H, i <= xs.length -> Pv i σ H -> SqT K H a xs)
  (hs : ∀ i x σ H, xs[i]? = some x -> Pv i σ H -> g x σ H fun σ2 H2 => tb { D with nx := Pv (i + 1), ct := Pv (i + 1), bk := D.nx } σ2 H2) (hd : ∀ σ H, Pv xs.length σ H -> D.nx σ H) :
  ∃ W : Nat -> Nat -> St -> Hp -> Prop, (∃ m, W 0 m σ H) /\ ∀ i m σ H, W i m σ H ->
   ((Itt K a).stop i H /\ D.nx σ H) \/ ((Itt K a).go i H /\ ∃ N : St -> Hp -> Prop, (∀ σ' H', N σ' H' -> ∃ m', m' < m /\ W (i + 1) m' σ' H') /\ ∀ x H', (Itt K a).yld i H x H' -> g x σ H' fun σ2 H2 => tb { D with nx := N, ct := N, bk := D.nx } σ2 H2) := by
 refine ⟨fun i m σ H => m = xs.length - i /\ i <= xs.length /\ Pv i σ H, ⟨xs.length, by simp, Nat.zero_le _, h0⟩, ?_⟩
 rintro i m σ H ⟨rfl, hi, p⟩
 have q := hl i σ H hi p
 by_cases hlt : i < xs.length
 ·refine .inr ⟨⟨xs, xs[i], q, by simp [hlt]⟩, Pv (i + 1), fun σ' H' p' => ⟨xs.length - (i + 1), by omega, rfl, hlt, p'⟩, fun x H' y => ?_⟩
  obtain ⟨e, y⟩ := y
  subst e
  exact hs i x σ _ (y xs q) p
 ·have e : i = xs.length := by omega
  subst e
  exact .inl ⟨⟨xs, q, Nat.le_refl _⟩, hd σ H p⟩
theorem for_range {lo : Int} {n : Nat} {g : TG} {tb : TS} {D : Ends} {σ : St} {H : Hp} (Pv : Nat -> St -> Hp -> Prop) (h0 : Pv 0 σ H)
  (hs : ∀ i σ H, i < n -> Pv i σ H -> g (.int (lo + i)) σ H fun σ2 H2 => tb { D with nx := Pv (i + 1), ct := Pv (i + 1), bk := D.nx } σ2 H2) (hd : ∀ σ H, Pv n σ H -> D.nx σ H) :
  ∃ W : Nat -> Nat -> St -> Hp -> Prop, (∃ m, W 0 m σ H) /\ ∀ i m σ H, W i m σ H ->
   ((Itr lo n).stop i H /\ D.nx σ H) \/ ((Itr lo n).go i H /\ ∃ N : St -> Hp -> Prop, (∀ σ' H', N σ' H' -> ∃ m', m' < m /\ W (i + 1) m' σ' H') /\ ∀ x H', (Itr lo n).yld i H x H' -> g x σ H' fun σ2 H2 => tb { D with nx := N, ct := N, bk := D.nx } σ2 H2) := by
 refine ⟨fun i m σ H => m = n - i /\ i <= n /\ Pv i σ H, ⟨n, by simp, Nat.zero_le _, h0⟩, ?_⟩
 rintro i m σ H ⟨rfl, hi, p⟩
 by_cases hlt : i < n
 ·refine .inr ⟨hlt, Pv (i + 1), fun σ' H' p' => ⟨n - (i + 1), by omega, rfl, hlt, p'⟩, fun x H' y => ?_⟩
  obtain ⟨e, y⟩ := y
  subst e y
  exact hs i σ _ hlt p
 ·have e : i = n := by omega
  subst e
  exact .inl ⟨Nat.le_refl _, hd σ H p⟩
abbrev R2 := V -> V -> Hp -> VK -> Prop
def OpR (X : Cx) (f : Value -> Value -> Sem Value) (r : R2) : Prop :=
 ∀ (pins : List (Addr × Obj)) (s : Shared) (σ : St) (H : Hp) (x y : V) (v u : Value) (Q : VK), Inv X pins σ H s -> RelV x v -> RelV y u -> r x y H Q ->
  wpAny (model X.prog X.w) X.A (f v u) (EP X pins σ Q) X.xe s
def UnR (X : Cx) (f : Value -> Sem Value) (r : V -> Hp -> VK -> Prop) : Prop :=
 ∀ (pins : List (Addr × Obj)) (s : Shared) (σ : St) (H : Hp) (x : V) (v : Value) (Q : VK), Inv X pins σ H s -> RelV x v -> r x H Q ->
  wpAny (model X.prog X.w) X.A (f v) (EP X pins σ Q) X.xe s
def CallR (X : Cx) (f : Value) (r : List V -> Hp -> VK -> Prop) : Prop :=
 ∀ (pins : List (Addr × Obj)) (s : Shared) (σ : St) (H : Hp) (xs : List V) (us : List Value) (Q : VK), Inv X pins σ H s -> Vals xs us -> r xs H Q ->
  wpAny (model X.prog X.w) X.A (call f us) (EP X pins σ Q) X.xe s
def tOp (r : R2) (ta tb : TE) : TE := fun σ H Q => ta σ H fun x H1 => tb σ H1 fun y H2 => r x y H2 Q
def tUn (r : V -> Hp -> VK -> Prop) (ta : TE) : TE := fun σ H Q => ta σ H fun x H1 => r x H1 Q
def rI (C : Int -> Int -> Prop) (g : Int -> Int -> V) : R2 := fun x y H Q => ∃ i j, x = .int i /\ y = .int j /\ C i j /\ Q (g i j) H
def rI0 (g : Int -> Int -> V) : R2 := fun x y H Q => ∃ i j, x = .int i /\ y = .int j /\ Q (g i j) H
def rU (g : Int -> V) : V -> Hp -> VK -> Prop := fun x H Q => ∃ i, x = .int i /\ Q (g i) H
section
variable {X : Cx} {a b c : Expr} {ta tb tc : TE} {pos : Pos}
theorem binT (ha : PE X a ta) (hb : PE X b tb) {pins : List (Addr × Obj)} {s : Shared} {σ : St} {H : Hp} {R : V -> V -> Hp -> Prop} (I : Inv X pins σ H s)
  (h : ta σ H fun x H1 => tb σ H1 fun y H2 => R x y H2) {Q : Value -> Shared -> Prop} {f : Value -> Value -> Sem Value}
  (hf : ∀ v u s2 x y H2, Inv X pins σ H2 s2 -> RelV x v -> RelV y u -> R x y H2 -> wpAny (model X.prog X.w) X.A (f v u) Q X.xe s2) :
  wpAny (model X.prog X.w) X.A (eval a X.env) (fun v s₁ => wpAny (model X.prog X.w) X.A (eval b X.env) (fun u s₂ => wpAny (model X.prog X.w) X.A (f v u) Q X.xe s₂) X.xe s₁) X.xe s := by
 refine thn (ha pins s σ H _ I h) fun v s1 ⟨x, H1, I1, r1, q1⟩ => ?_
 refine thn (hb pins s1 σ H1 _ I1 q1) fun u s2 ⟨y, H2, I2, r2, q2⟩ => ?_
 exact hf v u s2 x y H2 I2 r1 r2 q2
theorem pe_op {op : Operator} {r : R2} (ho : OpR X (binaryOp op) r) (ha : PE X a ta) (hb : PE X b tb) : PE X (.BinOp a op b pos) (tOp r ta tb) := by
 intro pins s σ H Q I h
 exact wpAny_BinOp (binT ha hb I h fun v u s2 x y H2 I2 rx ry q => ho pins s2 σ H2 x y v u Q I2 rx ry q)
theorem pe_un {op : UnaryOp} {r : V -> Hp -> VK -> Prop} (ho : UnR X (unaryOp op) r) (ha : PE X a ta) : PE X (.UnaryOp op a pos) (tUn r ta) := by
 intro pins s σ H Q I h
 exact UnaryOp_ (thn (ha pins s σ H _ I h) fun v s1 ⟨x, H1, I1, r1, q1⟩ => ho pins s1 σ H1 x v Q I1 r1 q1)
theorem opI {f : Value -> Value -> Sem Value} {C : Int -> Int -> Prop} {g : Int -> Int -> Int}
  (rule : ∀ (i j : Int) (t u : Tok) (s : Shared) (Q : Value -> Shared -> Prop) (E : Value -> Shared -> Prop), C i j -> Q (.int (g i j) s.toks) { s with toks := s.toks + 1 } -> wpAny (model X.prog X.w) X.A (f (.int i t) (.int j u)) Q E s) :
  OpR X f (rI C fun i j => .int (g i j)) := by
 intro pins s σ H x y v u Q I rx ry h
 obtain ⟨i, j, rfl, rfl, hc, q⟩ := h
 obtain ⟨t, rfl⟩ := rx
 obtain ⟨t', rfl⟩ := ry
 exact rule i j t t' s _ _ hc ⟨.int (g i j), H, I.tok _, ⟨_, rfl⟩, q⟩
theorem opI0 {f : Value -> Value -> Sem Value} {g : Int -> Int -> Int}
  (rule : ∀ (i j : Int) (t u : Tok) (s : Shared) (Q : Value -> Shared -> Prop) (E : Value -> Shared -> Prop), Q (.int (g i j) s.toks) { s with toks := s.toks + 1 } -> wpAny (model X.prog X.w) X.A (f (.int i t) (.int j u)) Q E s) :
  OpR X f (rI0 fun i j => .int (g i j)) := by
 intro pins s σ H x y v u Q I rx ry h
 obtain ⟨i, j, rfl, rfl, q⟩ := h
 obtain ⟨t, rfl⟩ := rx
 obtain ⟨t', rfl⟩ := ry
 exact rule i j t t' s _ _ ⟨.int (g i j), H, I.tok _, ⟨_, rfl⟩, q⟩
theorem opB0 {f : Value -> Value -> Sem Value} {g : Int -> Int -> Bool}
  (rule : ∀ (i j : Int) (t u : Tok) (s : Shared) (Q : Value -> Shared -> Prop) (E : Value -> Shared -> Prop), Q (.bool (g i j)) s -> wpAny (model X.prog X.w) X.A (f (.int i t) (.int j u)) Q E s) :
  OpR X f (rI0 fun i j => .bl (g i j)) := by
 intro pins s σ H x y v u Q I rx ry h
 obtain ⟨i, j, rfl, rfl, q⟩ := h
 obtain ⟨t, rfl⟩ := rx
 obtain ⟨t', rfl⟩ := ry
 exact rule i j t t' s _ _ ⟨.bl (g i j), H, I, rfl, q⟩
def CDiv (i j : Int) : Prop := 0 < j /\ j < 1073741824
def CMul (i j : Int) : Prop := (-(2 ^ 64) < i /\ i < 2 ^ 64) \/ (-(2 ^ 64) < j /\ j < 2 ^ 64)
theorem CMul.ok {i j : Int} (h : CMul i j) : IntMulOk i j := by
 rcases h with ⟨h1, h2⟩ | ⟨h1, h2⟩
 ·exact .of_left (intBits_le_64 h1 h2)
 ·exact .of_right (intBits_le_64 h1 h2)
theorem two_pow_nn (k : Nat) : (0 : Int) <= 2 ^ k := by
 rw [two_pow_cast]
 exact Int.natCast_nonneg _
theorem op_add : OpR X (binaryOp .Add) (rI0 fun i j => .int (i + j)) := opI0 fun _ _ _ _ _ _ _ q => add_int q
theorem op_sub : OpR X (binaryOp .Sub) (rI0 fun i j => .int (i - j)) := opI0 fun _ _ _ _ _ _ _ q => sub_int q
theorem op_mul : OpR X (binaryOp .Mult) (rI CMul fun i j => .int (i * j)) := opI fun _ _ _ _ _ _ _ hc q => mul_int q hc.ok
theorem op_fdiv : OpR X (binaryOp .FloorDiv) (rI CDiv fun i j => .int (i / j)) := opI fun i j _ _ _ _ _ hc q => by
 have h1 : (0 : Int) < j := hc.1
 have h2 : j < 1073741824 := hc.2
 exact floordiv_int (by omega) (by rw [Int.fdiv_eq_ediv_of_nonneg i (by omega)]; exact q) (.inl (PyProof.noPylong_small (by omega)))
theorem op_mod : OpR X (binaryOp .Mod) (rI (fun _ j => 0 < j) fun i j => .int (i % j)) := opI fun i j _ _ _ _ _ hc q => by
 have h1 : (0 : Int) < j := hc
 exact mod_int' (by omega) (by rw [Int.fmod_eq_emod_of_nonneg i (by omega)]; exact q)
theorem op_shr : OpR X (binaryOp .RShift) (rI (fun _ j => 0 <= j) fun i j => .int (i / 2 ^ j.toNat)) := opI fun i j _ _ _ _ _ hc q =>
 rshift_int hc (by rw [Int.fdiv_eq_ediv_of_nonneg i (two_pow_nn _)]; exact q)
theorem op_and : OpR X (binaryOp .BitAnd) (rI0 fun i j => .int (Builtin.bitAnd i j)) := opI0 fun _ _ _ _ _ _ _ q => and_int q
theorem unI {f : Value -> Sem Value} {g : Int -> Int}
  (rule : ∀ (i : Int) (t : Tok) (s : Shared) (Q : Value -> Shared -> Prop) (E : Value -> Shared -> Prop), Q (.int (g i) s.toks) { s with toks := s.toks + 1 } -> wpAny (model X.prog X.w) X.A (f (.int i t)) Q E s) :
  UnR X f (rU fun i => .int (g i)) := by
 intro pins s σ H x v Q I rx h
 obtain ⟨i, rfl, q⟩ := h
 obtain ⟨t, rfl⟩ := rx
 exact rule i t s _ _ ⟨.int (g i), H, I.tok _, ⟨_, rfl⟩, q⟩
theorem un_neg : UnR X (unaryOp .USub) (rU fun i => .int (-i)) := unI fun _ _ _ _ _ q => neg_int q
end
def scal : V -> V -> Bool
 | .non, .non => true | .non, .int _ => true | .int _, .non => true | .non, .bl _ => true | .bl _, .non => true | .non, .str _ => true | .str _, .non => true
 | .int _, .int _ => true | .bl _, .bl _ => true | .str _, .str _ => true | .byt _, .byt _ => true
 | .int _, .str _ => true | .str _, .int _ => true | .bl _, .str _ => true | .str _, .bl _ => true
 | _, _ => false
def rEq : R2 := fun x y H Q => scal x y = true /\ Q (.bl (decide (x = y))) H
def rNe : R2 := fun x y H Q => scal x y = true /\ Q (.bl (!decide (x = y))) H
theorem dec_int {i j : Int} : decide (V.int i = V.int j) = (i == j) := by
 rw [Bool.eq_iff_iff]
 simp
theorem dec_bl {i j : Bool} : decide (V.bl i = V.bl j) = (i == j) := by
 rw [Bool.eq_iff_iff]
 simp
theorem dec_str {i j : Str} : decide (V.str i = V.str j) = (i == j) := by
 rw [Bool.eq_iff_iff]
 simp
theorem dec_byt {i j : Array UInt8} : decide (V.byt i = V.byt j) = (i.toList == j.toList) := by
 rw [Bool.eq_iff_iff]
 cases i
 cases j
 simp
section
variable {X : Cx} {a b c : Expr} {ta tb tc : TE} {pos : Pos}
theorem fin_bl {pins : List (Addr × Obj)} {σ : St} {H : Hp} {s : Shared} {Q : VK} {k k' : Bool} (I : Inv X pins σ H s) (q : Q (.bl k) H) (e : k = k') : EP X pins σ Q (.bool k') s := by
 subst e
 exact ⟨.bl k, H, I, rfl, q⟩
theorem op_eq : OpR X (compareOp .Eq) rEq := by
 intro pins s σ H x y v u Q I rx ry h
 obtain ⟨hs, q⟩ := h
 cases x with
 | non =>
  cases rx
  cases y with
  | non => cases ry; exact PySem.EqNone.eq_none_none (fin_bl I q (by simp))
  | bl j => cases ry; exact PySem.EqNone.eq_none_bool (fin_bl I q (by simp))
  | int j => obtain ⟨t', rfl⟩ := ry; exact PySem.EqNone.eq_none_int (fin_bl I q (by simp))
  | str j => obtain ⟨t', rfl⟩ := ry; exact PySem.EqNone.eq_none_str (fin_bl I q (by simp))
  | _ => exact absurd (show false = true from hs) Bool.false_ne_true
 | bl i =>
  cases rx
  cases y with
  | non => cases ry; exact PySem.EqNone.eq_bool_none (fin_bl I q (by simp))
  | bl j => cases ry; exact eq_bool (fin_bl I q dec_bl)
  | str j => obtain ⟨t', rfl⟩ := ry; exact PySem.EqMixed.eq_bool_str (fin_bl I q (by simp))
  | _ => exact absurd (show false = true from hs) Bool.false_ne_true
 | int i =>
  obtain ⟨t, rfl⟩ := rx
  cases y with
  | non => cases ry; exact PySem.EqNone.eq_int_none (fin_bl I q (by simp))
  | int j => obtain ⟨t', rfl⟩ := ry; exact eq_int (fin_bl I q dec_int)
  | str j => obtain ⟨t', rfl⟩ := ry; exact PySem.EqMixed.eq_int_str (fin_bl I q (by simp))
  | _ => exact absurd (show false = true from hs) Bool.false_ne_true
 | str i =>
  obtain ⟨t, rfl⟩ := rx
  cases y with
  | non => cases ry; exact PySem.EqNone.eq_str_none (fin_bl I q (by simp))
  | bl j => cases ry; exact PySem.EqMixed.eq_str_bool (fin_bl I q (by simp))
  | int j => obtain ⟨t', rfl⟩ := ry; exact PySem.EqMixed.eq_str_int (fin_bl I q (by simp))
  | str j => obtain ⟨t', rfl⟩ := ry; exact eq_str (fin_bl I q dec_str)
  | _ => exact absurd (show false = true from hs) Bool.false_ne_true
 | byt i =>
  obtain ⟨t, rfl⟩ := rx
  cases y with
  | byt j => obtain ⟨t', rfl⟩ := ry; exact PySem.W.eq_bytes (fin_bl I q dec_byt)
  | _ => exact absurd (show false = true from hs) Bool.false_ne_true
 | _ => cases y <;> exact absurd (show false = true from hs) Bool.false_ne_true
theorem op_ne : OpR X (compareOp .NotEq) rNe := by
 intro pins s σ H x y v u Q I rx ry h
 obtain ⟨hs, q⟩ := h
 cases x with
 | non =>
  cases rx
  cases y with
  | non => cases ry; exact PySem.EqNone.ne_none_none (fin_bl I q (by simp))
  | bl j => cases ry; exact PySem.EqNone.ne_none_bool (fin_bl I q (by simp))
  | int j => obtain ⟨t', rfl⟩ := ry; exact PySem.EqNone.ne_none_int (fin_bl I q (by simp))
  | str j => obtain ⟨t', rfl⟩ := ry; exact PySem.EqNone.ne_none_str (fin_bl I q (by simp))
  | _ => exact absurd (show false = true from hs) Bool.false_ne_true
 | bl i =>
  cases rx
  cases y with
  | non => cases ry; exact PySem.EqNone.ne_bool_none (fin_bl I q (by simp))
  | bl j => cases ry; exact ne_bool (fin_bl I q (congrArg not dec_bl))
  | str j => obtain ⟨t', rfl⟩ := ry; exact PySem.EqMixed.ne_bool_str (fin_bl I q (by simp))
  | _ => exact absurd (show false = true from hs) Bool.false_ne_true
 | int i =>
  obtain ⟨t, rfl⟩ := rx
  cases y with
  | non => cases ry; exact PySem.EqNone.ne_int_none (fin_bl I q (by simp))
  | int j => obtain ⟨t', rfl⟩ := ry; exact ne_int (fin_bl I q (congrArg not dec_int))
  | str j => obtain ⟨t', rfl⟩ := ry; exact PySem.EqMixed.ne_int_str (fin_bl I q (by simp))
  | _ => exact absurd (show false = true from hs) Bool.false_ne_true
 | str i =>
  obtain ⟨t, rfl⟩ := rx
  cases y with
  | non => cases ry; exact PySem.EqNone.ne_str_none (fin_bl I q (by simp))
  | bl j => cases ry; exact PySem.EqMixed.ne_str_bool (fin_bl I q (by simp))
  | int j => obtain ⟨t', rfl⟩ := ry; exact PySem.EqMixed.ne_str_int (fin_bl I q (by simp))
  | str j => obtain ⟨t', rfl⟩ := ry; exact ne_str (fin_bl I q (congrArg not dec_str))
  | _ => exact absurd (show false = true from hs) Bool.false_ne_true
 | byt i =>
  obtain ⟨t, rfl⟩ := rx
  cases y with
  | byt j => obtain ⟨t', rfl⟩ := ry; exact PySem.W.ne_bytes (fin_bl I q (congrArg not dec_byt))
  | _ => exact absurd (show false = true from hs) Bool.false_ne_true
 | _ => cases y <;> exact absurd (show false = true from hs) Bool.false_ne_true
theorem op_lt : OpR X (compareOp .Lt) (rI0 fun i j => .bl (decide (i < j))) := opB0 fun _ _ _ _ _ _ _ q => lt_int q
theorem op_le : OpR X (compareOp .LtE) (rI0 fun i j => .bl (decide (i <= j))) := opB0 fun _ _ _ _ _ _ _ q => le_int q
theorem op_ge : OpR X (compareOp .GtE) (rI0 fun i j => .bl (decide (j <= i))) := opB0 fun _ _ _ _ _ _ _ q => ge_int q
theorem nomark (b : Expr) {op : CmpOp} (h : op ≠ .In := by decide) (h2 : op ≠ .NotIn := by decide) : behindInMarks op b = false := by
 have e1 : (op == CmpOp.In) = false := by cases op <;> first | rfl | exact absurd rfl h
 have e2 : (op == CmpOp.NotIn) = false := by cases op <;> first | rfl | exact absurd rfl h2
 cases b <;> simp [behindInMarks, e1, e2]
theorem pe_cmpR {op : CmpOp} {r : R2} (ho : OpR X (compareOp op) r) (ha : PE X a ta) (hb : PE X b tb) (hm : behindInMarks op b = false) : PE X (.Compare a [op] [b] pos) (tOp r ta tb) := by
 intro pins s σ H Q I h
 exact wpAny_Compare1 (binT ha hb I h fun v u s2 x y H2 I2 rx ry q => ho pins s2 σ H2 x y v u Q I2 rx ry q) hm
def tTest (t : TE) : TT := fun σ H Q => t σ H fun x H' => ∃ k, x = .bl k /\ Q k H'
theorem pt_cmpR {op : CmpOp} {r : R2} (ho : OpR X (compareOp op) r) (ha : PE X a ta) (hb : PE X b tb) (hm : behindInMarks op b = false) : PT X (.Compare a [op] [b] pos) (tTest (tOp r ta tb)) := by
 intro pins s σ H Q I h
 refine wpAny_isTrue_Compare1 (thn (ha pins s σ H _ I h) fun v s1 ⟨x, H1, I1, r1, q1⟩ => thn (hb pins s1 σ H1 _ I1 q1) fun u s2 ⟨y, H2, I2, r2, q2⟩ =>
  thn (ho pins s2 σ H2 x y v u _ I2 r1 r2 q2) fun c s3 ⟨z, H3, I3, r3, k, e, q3⟩ => ?_) hm
 subst e
 cases r3
 exact wpAny_truthy_bool ⟨H3, I3, q3⟩
def tChain (r r' : R2) (ta tb tc : TE) : TE := fun σ H Q => ta σ H fun x H1 => tb σ H1 fun y H2 => r x y H2 fun z H3 => ∃ k, z = .bl k /\
 (if k = true then tc σ H3 fun w' H4 => r' y w' H4 Q else Q (.bl false) H3)
theorem pe_chain {op op' : CmpOp} {r r' : R2} (ho : OpR X (compareOp op) r) (ho' : OpR X (compareOp op') r') (ha : PE X a ta) (hb : PE X b tb) (hc : PE X c tc)
  (hm : lastMarks [op, op'] [b, c] = false := by with_unfolding_all rfl) : PE X (.Compare a [op, op'] [b, c] pos) (tChain r r' ta tb tc) := by
 intro pins s σ H Q I h
 refine Compare_chain (thn (ha pins s σ H _ I h) fun v s1 ⟨x, H1, I1, r1, q1⟩ => chain_link (thn (hb pins s1 σ H1 _ I1 q1) fun u s2 ⟨y, H2, I2, r2, q2⟩ =>
  thn (ho pins s2 σ H2 x y v u _ I2 r1 r2 q2) fun d s3 ⟨z, H3, I3, r3, k, e, q3⟩ => ?_)) hm
 subst e
 cases r3
 refine wpAny_truthy_bool ?_
 cases k with
 | false => exact ite_ff ⟨.bl false, H3, I3, rfl, q3⟩
 | true => exact ite_tt (chain_last (thn (hc pins s3 σ H3 _ I3 q3) fun w' s4 ⟨z', H4, I4, r4, q4⟩ => ho' pins s4 σ H4 y z' u w' Q I4 r2 r4 q4))
theorem line63 : (sizeLine : Nat) < 2 ^ 63 := by rw [sizeLine_eq]; decide
theorem vals1 {x : V} {us : List Value} (r : Vals [x] us) : ∃ u, us = [u] /\ RelV x u := by
 cases r with
 | cons r1 r2 => cases r2; exact ⟨_, rfl, r1⟩
theorem vals2 {x y : V} {us : List Value} (r : Vals [x, y] us) : ∃ u w', us = [u, w'] /\ RelV x u /\ RelV y w' := by
 cases r with
 | cons r1 r2 =>
  cases r2 with
  | cons r3 r4 => cases r4; exact ⟨_, _, rfl, r1, r3⟩
theorem call_max2 (hc : X.calm = true) : CallR X (.builtin "max") (fun xs H Q => ∃ i j, xs = [.int i, .int j] /\ Q (.int (if j > i then j else i)) H) := by
 intro pins s σ H xs us Q I r h
 obtain ⟨i, j, rfl, q⟩ := h
 obtain ⟨u, w', rfl, ⟨t, rfl⟩, ⟨t', rfl⟩⟩ := vals2 r
 refine max_two_ints (I.ok.hd hc) fun h' tk k => ⟨_, H, I.kept k, ?_, q⟩
 by_cases hj : j > i
 ·rw [if_pos hj, if_pos hj]; exact ⟨_, rfl⟩
 ·rw [if_neg hj, if_neg hj]; exact ⟨_, rfl⟩
theorem call_int1 : CallR X (.type "int") (fun xs H Q => (∃ i, xs = [.int i] /\ Q (.int i) H) \/ ∃ k, xs = [.bl k] /\ Q (.int (if k then 1 else 0)) H) := by
 intro pins s σ H xs us Q I r h
 rcases h with ⟨i, rfl, q⟩ | ⟨k, rfl, q⟩
 ·obtain ⟨u, rfl, t, rfl⟩ := vals1 r
  exact call_int_int ⟨.int i, H, I, ⟨_, rfl⟩, q⟩
 ·obtain ⟨u, rfl, r1⟩ := vals1 r
  cases r1
  exact call_int_bool ⟨.int (if k then 1 else 0), H, I.tok _, ⟨_, rfl⟩, q⟩
end
structure ObjM (h : Heap) (x dx C : Addr) (mA : Str -> Option Value) : Prop where
 obj : h.get? x = some (PySem.W.instObj C dx)
 ns : h.Ns1 dx mA
 ne : dx ≠ x
theorem lookIn_ns {h : Heap} {dx : Addr} {mA : Str -> Option Value} (n : h.Ns1 dx mA) : ∃ od, h.get? dx = some od /\ ∀ name, PySem.W.lookIn name od = some (mA name) := by
 obtain ⟨o, es, ep, ho, hd, hk, _, hm⟩ := n
 refine ⟨o, ho, fun name => ?_⟩
 have e := hm name
 unfold nsFind findBy at e
 rw [<- Array.find?_toList] at e
 unfold PySem.W.lookIn
 rw [hd]
 dsimp only
 split
 ·rename_i y q
  rw [q] at e
  exact congrArg some e
 ·rename_i q
  rw [q] at e
  have a : es.toList.any (·.refKey) = false := by
   rw [List.any_eq_false]
   intro y hy
   obtain ⟨z, t, hkey⟩ := hk y (Array.mem_toList_iff.mp hy)
   simp [DictEntry.refKey, hkey]
  have a' : ¬ es.toList.any (·.refKey) = true := by rw [a]; exact Bool.false_ne_true
  rw [if_neg a']
  exact congrArg some e
theorem ObjM.look {h : Heap} {x dx C : Addr} {mA : Str -> Option Value} (I : ObjM h x dx C mA) : ∃ od, PySem.W.InstAt h x (PySem.W.instObj C dx) C (some od) /\ ∀ name, PySem.W.lookIn name od = some (mA name) :=
 let ⟨od, ho, hl⟩ := lookIn_ns I.ns
 ⟨od, ⟨I.obj, rfl, rfl, ho⟩, hl⟩
section
variable {prog : Program} {w : World} {A : Around} {E : Value -> Shared -> Prop} {s : Shared} {K : W.Frag} {x dx C f : Addr} {mA : Str -> Option Value} {name : Str} {v : Value}
end
section
variable {P : Program} {w : World} {H H' : Hp} {h h' : Heap} {a C dx : Addr} {fs fs' : List (Str × V)}
theorem ins_get (hok : HOk P w H h) (e : H a = some (.ins C dx fs)) : ∃ mA, ObjM h a dx C mA /\ (∀ f, RelO (fs.lookup f) (mA f)) /\ PySem.Within mA (fs.map (·.1)) /\ fs.length <= 1000 /\ H dx = some (.own a) := by
 obtain ⟨d, z, ne, ob, mA, n, r, q⟩ := (show ObjOk P w H h a (.ins C dx fs) from hok a _ e)
 exact ⟨mA, ⟨ob, n, ne⟩, r, q, z, d⟩
end
structure Cls (K : W.Frag) (C : Addr) : Prop where
 pg : PySem.W.plainGet K C Str.empty = true
 hd : PySem.W.hasDictIn K C = true
 po : PySem.W.plainOver K C = true
 sa : PySem.W.findIn K (.ref C) "__setattr__" = some (some (.builtin "object.__setattr__"))
theorem Cls.get {K : W.Frag} {C : Addr} (c : Cls K C) (f : Str) : PySem.W.plainGet K C f = true := c.pg
structure Con (K : W.Frag) (C : Addr) (f : Str) (v : V) (u : Value) : Prop where
 at_ : PySem.W.findIn K (.ref C) f = some (some u)
 rel : RelV v u
 get : PySem.W.specialIn K u "__get__" = some none
 cp : PySem.W.copiedNames.contains f = false
structure Meth (K : W.Frag) (C : Addr) (m : Str) (f : Addr) : Prop where
 at_ : PySem.W.findIn K (.ref C) m = some (some (.ref f))
 fn : PySem.W.isFn K (.ref f) = true
 kp : PySem.W.keepIn K (.ref f) = true
section
variable {X : Cx} {pins : List (Addr × Obj)} {σ : St} {H : Hp} {s : Shared} {a C dx : Addr} {fs : List (Str × V)} {f : Str} {v : V} {A : Around} {E : Value -> Shared -> Prop}
end
section
variable {X : Cx} {o e value : Expr} {f : Str} {pos pos' tpos : Pos} {ta tv : TE}
end
section
variable {X : Cx} {pins : List (Addr × Obj)} {σ : St} {H : Hp} {s : Shared} {A : Around} {E : Value -> Shared -> Prop} {Q : Value -> Shared -> Prop} {c : Value} {b : Bool}
inductive TyOf (K : W.Frag) (H : Hp) : V -> Value -> Prop where
 | non : TyOf K H .non (.type "NoneType")
 | bl (x : Bool) : TyOf K H (.bl x) (.type "bool")
 | int (i : Int) : TyOf K H (.int i) (.type "int")
 | str (x : Str) : TyOf K H (.str x) (.type "str")
 | flt (x : UInt64) : TyOf K H (.flt x) (.type "float")
 | lst {a : Addr} {xs : List V} (e : H a = some (.lst xs)) : TyOf K H (.ref a) (.type "list")
 | frz {a : Addr} {o : Obj} {xs : List V} (e : H a = some (.frz o (.lst xs))) : TyOf K H (.ref a) (.type "list")
 | tup {a : Addr} {xs : List V} (e : H a = some (.tup xs)) : TyOf K H (.ref a) (.type "tuple")
 | dK {a : Addr} {kvs : List (Key × V)} (e : H a = some (.dK kvs)) : TyOf K H (.ref a) (.type "dict")
 | dT {a : Addr} {kvs : List (List Key × V)} (e : H a = some (.dT kvs)) : TyOf K H (.ref a) (.type "dict")
 | ins {a C dx : Addr} {fs : List (Str × V)} (e : H a = some (.ins C dx fs)) (cl : Cls K C) (ha : PySem.W.findIn K (.ref C) "__class__" = some (some (.builtin "object.__class__")))
   (hn : PySem.W.specialIn K (.builtin "object.__class__") "__get__" = some (some (.builtin "getset_descriptor.__get__"))) (htk : PySem.W.takesIn K (.builtin "object.__class__") = some true)
   (hm : PySem.W.mroIn K C (.type "object") = some true) : TyOf K H (.ref a) (.ref C)
theorem isinst_ok {x : V} {u t : Value} (I : Inv X pins σ H s) (rx : RelV x u) (ty : TyOf X.K H x t) (e : PySem.W.kitOne X.K t c = some b) (h : ∀ tk, Q (.bool b) { s with toks := tk }) :
  wpAny (model X.prog X.w) A (call (.builtin "isinstance") [u, c]) Q E s := by
 cases ty with
 | non => cases (show u = Value.none from rx); exact PySem.W.kia_one PySem.W.kitx_none I.kIn True.intro e (fun z => nomatch z) h
 | bl y => cases (show u = Value.bool y from rx); exact PySem.W.kia_one PySem.W.kitx_bool I.kIn True.intro e (fun z => nomatch z) h
 | int i => obtain ⟨t, q⟩ := (show ∃ t, u = Value.int i t from rx); cases q; exact PySem.W.kia_one PySem.W.kitx_int I.kIn True.intro e (fun z => nomatch z) h
 | str y => obtain ⟨t, q⟩ := (show ∃ t, u = Value.str y t from rx); cases q; exact PySem.W.kia_one PySem.W.kitx_str I.kIn True.intro e (fun z => nomatch z) h
 | flt y => obtain ⟨t, q⟩ := (show ∃ t, u = Value.float y t from rx); cases q; exact PySem.W.kia_one PySem.W.kitx_float I.kIn True.intro e (fun z => nomatch z) h
 | @lst a xs ea =>
  cases (show u = Value.ref a from rx)
  obtain ⟨_, _, n, _, h1⟩ := (show ObjOk X.prog X.w H s.heap a (.lst xs) from I.hok a _ ea)
  exact PySem.W.kia_one PySem.W.kitx_list I.kIn ⟨_, h1, rfl⟩ e (fun z => nomatch z) h
 | @frz a ob xs ea =>
  cases (show u = Value.ref a from rx)
  obtain ⟨_, _, _, n, _, h1⟩ := (show ObjOk X.prog X.w H s.heap a (.frz ob (.lst xs)) from I.hok a _ ea)
  exact PySem.W.kia_one PySem.W.kitx_list I.kIn ⟨_, h1, rfl⟩ e (fun z => nomatch z) h
 | @tup a xs ea =>
  cases (show u = Value.ref a from rx)
  obtain ⟨_, _, _, p⟩ := (show ObjOk X.prog X.w H s.heap a (.tup xs) from I.hok a _ ea)
  obtain ⟨o, h1, h2, _⟩ := p
  exact PySem.W.kia_one PySem.W.kitx_tuple I.kIn ⟨o, h1, h2⟩ e (fun z => nomatch z) h
 | @dK a kvs ea =>
  cases (show u = Value.ref a from rx)
  obtain ⟨_, _, vs, _, p⟩ := (show ObjOk X.prog X.w H s.heap a (.dK kvs) from I.hok a _ ea)
  obtain ⟨o, es, ep, h1, h2, _⟩ := p
  exact PySem.W.kia_one PySem.W.kitx_dict I.kIn ⟨o, h1, h2.1⟩ e (fun z => nomatch z) h
 | @dT a kvs ea =>
  cases (show u = Value.ref a from rx)
  obtain ⟨_, _, xs, _, o, es, ep, h1, h2, _⟩ := (show ObjOk X.prog X.w H s.heap a (.dT kvs) from I.hok a _ ea)
  exact PySem.W.kia_one PySem.W.kitx_dict I.kIn ⟨o, h1, h2.1⟩ e (fun z => nomatch z) h
 | @ins a C dx fs ea cl ha hn htk hm =>
  cases (show u = Value.ref a from rx)
  obtain ⟨mA, O, _⟩ := ins_get I.hok ea
  obtain ⟨od, J, _⟩ := O.look
  exact PySem.W.kia_one (PySem.W.kitx_own (cl.get _) cl.hd ha hn htk hm) I.kIn J e (fun z => nomatch z) h
end
structure Room (k : Nat) (A : Around) : Prop where
 hd : A.handled = none
 dp : A.depth + 3 * k + 5 < recursionLimit
 un : A.units + 16 * k + 200 < cLine
theorem Room.mono {j k : Nat} {A : Around} (r : Room k A) (h : j <= k) : Room j A := ⟨r.hd, by have := r.dp; omega, by have := r.un; omega⟩
theorem Room.deeper {k : Nat} {A : Around} (r : Room (k + 1) A) (env : Env) : Room k (A.deeper env) :=
 ⟨r.hd, by have := r.dp; show A.depth + 1 + 3 * k + 5 < _; omega, by have := r.un; show A.units + 3 + 16 * k + 200 < _; omega⟩
theorem Room.depth {k : Nat} {A : Around} (r : Room k A) : A.depth < recursionLimit := by have := r.dp; omega
theorem Room.units {k : Nat} {A : Around} (r : Room k A) : A.units + 64 < cLine := by have := r.un; omega
def tNil : TA := fun _ H Q => Q [] H
def tCons (ta : TE) (tr : TA) : TA := fun σ H Q => ta σ H fun x H1 => tr σ H1 fun xs H2 => Q (x :: xs) H2
section
variable {X : Cx} {e : Expr} {es : List Expr} {te : TE} {t : TA} {pos : Pos}
theorem pa_nil : PA X [] tNil := fun _ _ _ _ H Q I h => Calls.spliced_nil ⟨[], H, I, .nil, h⟩
theorem pa_cons (ha : PE X e te) (hr : PA X es t) (hs : starEach (e :: es) X.env = (false, eval e X.env) :: starEach es X.env := by rfl) : PA X (e :: es) (tCons te t) := by
 intro pos pins s σ H Q I h
 rw [hs]
 show wpAny _ _ (spliced ((false, eval e X.env) :: backTo pos (starEach es X.env))) _ _ s
 refine Calls.spliced_cons (thn (ha pins s σ H _ I h) fun u s1 ⟨x, H1, I1, r1, q1⟩ => ?_)
 exact thn (hr pos pins s1 σ H1 _ I1 q1) fun us s2 ⟨xs, H2, I2, r2, q2⟩ => ⟨x :: xs, H2, I2, .cons r1 r2, q2⟩
def tTup (t : TA) : TE := fun σ H Q => t σ H fun xs H1 => xs.length <= sizeLine /\ ∀ p, H1 p = none -> Q (.ref p) (upd H1 p (.tup xs))
def tLst (t : TA) : TE := fun σ H Q => t σ H fun xs H1 => xs.length <= sizeLine /\ ∀ p, H1 p = none -> Q (.ref p) (upd H1 p (.lst xs))
theorem pe_tup {x1} (h : PA X es t) : PE X (.Tuple es x1 pos) (tTup t) := by
 intro pins s σ H Q I hq
 refine wpAny_Tuple_spliced (thn (h pos pins s σ H _ I hq) fun us s1 ⟨xs, H1, I1, r, z, q⟩ => ⟨by rw [<- r.length]; exact z, ?_⟩)
 have hf : H1 s1.heap.objs.size = none := I1.hok.fresh (Nat.le_refl _)
 refine ⟨.ref s1.heap.objs.size, upd H1 s1.heap.objs.size (.tup xs), I1.laid (t' := s1.toks) (fun b u e => Heap.get?_push_of_some _ e) (Nat.le_refl _) ?_, rfl, q _ hf⟩
 exact ⟨z, us, r, ⟨_, Heap.get?_push_size _ rfl, rfl, _, rfl⟩⟩
theorem pe_lst (h : PA X es t) : PE X (.List es pos) (tLst t) := by
 intro pins s σ H Q I hq
 refine wpAny_List_spliced (thn (h pos pins s σ H _ I hq) fun us s1 ⟨xs, H1, I1, r, z, q⟩ => ⟨by rw [<- r.length]; exact z, ?_⟩)
 have hf : H1 s1.heap.objs.size = none := I1.hok.fresh (Nat.le_refl _)
 refine ⟨.ref s1.heap.objs.size, upd H1 s1.heap.objs.size (.lst xs), I1.laid (t' := s1.toks) (fun b u e => Heap.get?_push_of_some _ e) (Nat.le_refl _) ?_, rfl, q _ hf⟩
 exact ⟨z, us, 0, r, Heap.get?_push_size _ rfl⟩
end
abbrev Sp := List V -> Hp -> VK -> XK -> Prop
abbrev CXT := List Env -> Hp -> Shared -> XK -> Value -> Shared -> Prop
structure Env0 (P : Program) (w : World) (K : W.Frag) (mg : Str -> Option Value) (base : Heap) (A : Around) (outer : List Env) (s : Shared) (H : Hp) : Prop where
 frames : A.frames = some outer
 mod : Mod K mg base
 bs : ∀ b o, base.get? b = some o -> s.heap.get? b = some o /\ H b = none
 bsz : base.objs.size <= s.heap.objs.size
 funs : s.heap.FunFrames base outer
 frf : ∀ b ∈ frs outer, H b = none
 hok : HOk P w H s.heap
 bare : AllBare s.gens
def CE (outer : List Env) (P : Program) (w : World) (H : Hp) (s : Shared) (Q : VK) (u : Value) (s' : Shared) : Prop :=
 ∃ v H', s'.os = s.os /\ AllBare s'.gens /\ Un (frs outer) [] H H' s.heap s'.heap /\ HOk P w H' s'.heap /\ RelV v u /\ Q v H'
def CR (CX : CXT) (outer : List Env) (P : Program) (w : World) (H : Hp) (s : Shared) (Q : VK) (E : XK) (r : Result) (s' : Shared) : Prop :=
 match r with
 | .ok (.ret u) => CE outer P w H s Q u s'
 | .ok _ => False
 | .error e => CX outer H s E e s'
structure FnOk (P : Program) (w : World) (K : W.Frag) (mg : Str -> Option Value) (base : Heap) (CX : CXT) (k : Nat) (f : Addr) (fd : FuncData) (ps : List Str) (sp : Sp) : Prop where
 len : ∀ vs H Q E, sp vs H Q E -> vs.length = ps.length
 run : ∀ (A : Around) (outer : List Env) (s : Shared) (H : Hp) (args : Args) (us : List Value) (vs : List V) (Q : VK) (E : XK), Room k A -> Env0 P w K mg base A outer s H -> BindsTo s fd args (ps.zip us) -> Vals vs us -> sp vs H Q E ->
  codeAny (model P w) A (.call (.ref f) args) (CR CX outer P w H s Q E) s
theorem FnOk.mono {P : Program} {w : World} {K : W.Frag} {mg : Str -> Option Value} {base : Heap} {CX : CXT} {j k : Nat} {f : Addr} {fd : FuncData} {ps : List Str} {sp : Sp} (F : FnOk P w K mg base CX j f fd ps sp) (h : j <= k) :
  FnOk P w K mg base CX k f fd ps sp := ⟨F.len, fun A outer s H args us vs Q E hr => F.run A outer s H args us vs Q E (hr.mono h)⟩
section
variable {X : Cx} {pins : List (Addr × Obj)} {σ : St} {H : Hp} {s s' : Shared}
theorem Inv.env0 (I : Inv X pins σ H s) : Env0 X.prog X.w X.K X.mg X.base X.A X.stack s H :=
 ⟨I.ok.frames, I.ok.mod, I.bs, Nat.le_trans I.ok.bsz I.sz, I.stack, I.stkFree, I.hok, I.bare⟩
theorem Inv.after {Q : VK} {u : Value} (I : Inv X pins σ H s) (h : CE X.stack X.prog X.w H s Q u s') : EP X pins σ Q u s' := by
 obtain ⟨v, H', os, bare, un, hok, r, q⟩ := h
 obtain ⟨hh, g, d, t, os'⟩ := s'
 obtain rfl : os' = s.os := os
 exact ⟨v, H', I.call (h' := hh) (g' := g) (d' := d) (t' := t) (ch := []) un hok bare (fun b z => absurd z (by simp)), r, q⟩
end
def tCall (sp : Sp) (dvs : List V) (E : XK) (t : TA) : TE := fun σ H Q => t σ H fun vs H1 => sp (vs ++ dvs) H1 Q E
def Binds (K : W.Frag) (fd : FuncData) (ps : List Str) (ds : List Value) : Prop :=
 ∀ (s : Shared) (us : List Value), K.In s.heap -> (us ++ ds).length = ps.length -> BindsTo s fd ⟨us, []⟩ (ps.zip (us ++ ds))
theorem Binds.all {K : W.Frag} {fd : FuncData} {ps : List Str} (h : ∀ us : List Value, us.length = ps.length -> bindArgs fd ⟨us, []⟩ = pure (ps.zip us)) : Binds K fd ps [] := fun s us _ hl => by
 rw [List.append_nil] at hl ⊢
 exact .of_eq (h us hl)
def Passes (CX : CXT) (X : Cx) (E : XK) : Prop := ∀ (pins : List (Addr × Obj)) (σ : St) (H : Hp) (s : Shared) (e : Value) (s' : Shared), Inv X pins σ H s -> CX X.stack H s E e s' -> X.xe e s'
section
variable {X : Cx} {CX : CXT} {k : Nat} {f C : Addr} {fd : FuncData} {ps : List Str} {sp : Sp} {dvs : List V} {ds : List Value} {E : XK} {x m : Str} {p pos apos : Pos} {e o : Expr} {es : List Expr} {ta : TE} {t : TA}
theorem run_fn {pins : List (Addr × Obj)} {σ : St} {H : Hp} {s : Shared} {Q : VK} {us : List Value} {vs : List V} (F : FnOk X.prog X.w X.K X.mg X.base CX k f fd ps sp) (hr : Room k X.A) (hb : Binds X.K fd ps ds) (hd : Vals dvs ds) (hx : Passes CX X E)
  (I : Inv X pins σ H s) (r : Vals vs us) (h : sp (vs ++ dvs) H Q E) : wpAny (model X.prog X.w) X.A (call (.ref f) us) (EP X pins σ Q) X.xe s := by
 have r2 : Vals (vs ++ dvs) (us ++ ds) := r.append hd
 have hl : (us ++ ds).length = ps.length := by rw [<- r2.length]; exact F.len _ _ _ _ h
 refine wpAny_call (codeAny_mono (F.run X.A X.stack s H ⟨us, []⟩ (us ++ ds) (vs ++ dvs) Q E hr I.env0 (hb s us I.kIn hl) r2 h) fun r s' hq => ?_)
 cases r with
 | error e => exact hx pins σ H s e s' I hq
 | ok fl =>
  cases fl with
  | ret u => exact I.after hq
  | next => exact False.elim hq
  | brk => exact False.elim hq
  | cont => exact False.elim hq
theorem pe_call (F : FnOk X.prog X.w X.K X.mg X.base CX k f fd ps sp) (hr : Room k X.A) (hg : Gl X x) (hm : X.mg x = some (.ref f)) (hk : PySem.W.keepIn X.K (.ref f) = true) (hb : Binds X.K fd ps ds) (hd : Vals dvs ds) (hx : Passes CX X E)
  (ha : PA X (e :: es) t) (hdb : (x == ("__debug__" : Str)) = false := by decide) (he : starEach (e :: es) X.env = (false, eval e X.env) :: starEach es X.env := by rfl) (hpl : (backTo pos (starEach es X.env)).any (·.1) = false := by rfl) :
  PE X (.Call (.Name x p) (e :: es) [] pos) (tCall sp dvs E t) := by
 intro pins s σ H Q I h
 refine wpAny_Call_Name_kw (ld_glob I hg hm ?_ hdb)
 refine PySem.W.callWith_K (h₀ := X.base) I.ok.mod.kin hk (thn (ha pos pins s σ H _ I h) fun us s1 ⟨vs, H1, I1, r, q⟩ => ⟨I1.kIn, ?_⟩) he hpl
 exact run_fn F hr hb hd hx I1 r q
structure Mk (K : W.Frag) (C f : Addr) : Prop where
 makes : PySem.W.makesIn K C = true
 init : PySem.W.findIn K (.ref C) "__init__" = some (some (.ref f))
 fn : PySem.W.isFn K (.ref f) = true
 kp : PySem.W.keepIn K (.ref C) = true
end
section
variable {X : Cx} {CX : CXT} {k : Nat} {f C : Addr} {fd : FuncData} {ps ks : List Str} {sp : Sp} {E : XK} {x m : Str} {p pos apos kpos : Pos} {e o : Expr} {es : List Expr} {kws : List Keyword} {te ta : TE} {t tk : TA} {nm : Option Str}
structure KBinds (K : W.Frag) (fd : FuncData) (ps ks : List Str) (g : List Value -> List Value -> List Value) (gV : List V -> List V -> List V) : Prop where
 to : ∀ (s : Shared) (us ws : List Value), K.In s.heap -> (g us ws).length = ps.length -> BindsTo s fd ⟨us, ks.zip ws⟩ (ps.zip (g us ws))
 rel : ∀ {vs : List V} {us : List Value} {zs : List V} {ws : List Value}, Vals vs us -> Vals zs ws -> Vals (gV vs zs) (g us ws)
variable {g : List Value -> List Value -> List Value} {gV : List V -> List V -> List V}
end
structure FnScope (N P : List Str) (sc : Scope) : Prop where
 kind : sc.kind = .function
 co : sc.isCoroutine = false
 gen : sc.isGenerator = false
 nd : N.Nodup
 pre : N.take P.length = P
 par : ∀ x ∈ P, sc.names.lookup x = some .local \/ sc.names.lookup x = some .cell
 nofree : ∀ y ∈ sc.names, y.2 ≠ .free
theorem bindL_out {kindOf : Str -> Option NameKind} {x : Str} : ∀ {binds : List (Str × Value)} {m : Str -> Option Value}, (∀ v, (x, v) ∉ binds) -> bindL kindOf binds m x = m x
 | [], _, _ => rfl
 | (n, v) :: r, m, h => by
  unfold bindL
  rw [bindL_out fun w hw => h w (List.mem_cons_of_mem _ hw)]
  split
  ·have : x ≠ n := by rintro rfl; exact h v List.mem_cons_self
   simp [this]
  ·rfl
theorem bindC_out {kindOf : Str -> Option NameKind} {x : Str} : ∀ {binds : List (Str × Value)} {m : Str -> Option Value}, (∀ v, (x, v) ∉ binds) -> bindC kindOf binds m x = m x
 | [], _, _ => rfl
 | (n, v) :: r, m, h => by
  unfold bindC
  rw [bindC_out fun w hw => h w (List.mem_cons_of_mem _ hw)]
  split
  ·rfl
  ·have : x ≠ n := by rintro rfl; exact h v List.mem_cons_self
   simp [this]
theorem bindL_get {kindOf : Str -> Option NameKind} {x : Str} {v : Value} : ∀ {P : List Str} {vs : List Value} {i : Nat} {m : Str -> Option Value}, P.Nodup -> P[i]? = some x -> vs[i]? = some v -> kindOf x = some .local ->
  bindL kindOf (P.zip vs) m x = some v
 | [], _, _, _, _, h, _, _ => by simp at h
 | _ :: _, [], _, _, _, _, h, _ => by simp at h
 | p :: P, w :: vs, 0, m, nd, h1, h2, hk => by
  simp at h1 h2; subst h1; subst h2
  show bindL kindOf ((p, w) :: P.zip vs) m p = _
  unfold bindL
  rw [bindL_out fun v hv => (List.nodup_cons.mp nd).1 (List.of_mem_zip hv).1, if_pos hk]
  simp
 | p :: P, w :: vs, i + 1, m, nd, h1, h2, hk => by
  show bindL kindOf ((p, w) :: P.zip vs) m x = _
  unfold bindL
  exact bindL_get (i := i) (List.nodup_cons.mp nd).2 (by simpa using h1) (by simpa using h2) hk
theorem bindC_get {kindOf : Str -> Option NameKind} {x : Str} {v : Value} : ∀ {P : List Str} {vs : List Value} {i : Nat} {m : Str -> Option Value}, P.Nodup -> P[i]? = some x -> vs[i]? = some v -> kindOf x ≠ some .local ->
  bindC kindOf (P.zip vs) m x = some v
 | [], _, _, _, _, h, _, _ => by simp at h
 | _ :: _, [], _, _, _, _, h, _ => by simp at h
 | p :: P, w :: vs, 0, m, nd, h1, h2, hk => by
  simp at h1 h2; subst h1; subst h2
  show bindC kindOf ((p, w) :: P.zip vs) m p = _
  unfold bindC
  rw [bindC_out fun v hv => (List.nodup_cons.mp nd).1 (List.of_mem_zip hv).1, if_neg hk]
  simp
 | p :: P, w :: vs, i + 1, m, nd, h1, h2, hk => by
  show bindC kindOf ((p, w) :: P.zip vs) m x = _
  unfold bindC
  exact bindC_get (i := i) (List.nodup_cons.mp nd).2 (by simpa using h1) (by simpa using h2) hk
def start (N : List Str) (vs : List V) : St := vs.map some ++ List.replicate (N.length - vs.length) none
def cxOf (CX : CXT) (P : Program) (w : World) (K : W.Frag) (mg : Str -> Option Value) (base : Heap) (N : List Str) (qual : Str) (scope : Scope) (f : Addr) (cd : Value) (A : Around) (outer : List Env) (s : Shared) (H : Hp) (E : XK) : Cx where
 prog := P
 w := w
 K := K
 mg := mg
 base := base
 A := A.deeper (envOfC qual scope s.heap.objs.size f cd)
 N := N
 s₀ := s
 H₀ := H
 env := envOfC qual scope s.heap.objs.size f cd
 outer := outer
 stack := envOfC qual scope s.heap.objs.size f cd :: outer
 ex := []
 calm := true
 fn := fun _ => true
 pn := []
 xe := fun e s' => wpAny (model P w) (A.deeper (envOfC qual scope s.heap.objs.size f cd)) (leaving (envOfC qual scope s.heap.objs.size f cd) e) (fun _ s'' => CX outer H s E e s'') (fun e' s'' => CX outer H s E e' s'') s'
theorem cell_has {sc : Scope} {n : Nat} {x : Str} (h : sc.names.lookup x = some .cell) : ∃ c, (cellsFrom n sc.names []).lookup x = some c := by
 have q := PySem.W.cellsFrom_some sc.names n [] (.inl h)
 exact Option.isSome_iff_exists.mp q
theorem inv_start {CX : CXT} {P : Program} {w : World} {K : W.Frag} {mg : Str -> Option Value} {base : Heap} {N ps : List Str} {qual : Str} {scope : Scope} {f : Addr} {cd : Value} {A : Around} {outer : List Env} {s s1 : Shared} {H : Hp} {E : XK} {us : List Value} {vs : List V}
  (S : FnScope N ps scope) (hd : A.handled = none) (e0 : Env0 P w K mg base A outer s H) (hl : vs.length = ps.length) (r : Vals vs us)
  (x : InCallC s s.heap.objs.size (bindL (envOfC qual scope s.heap.objs.size f cd).kindOf (ps.zip us) fun _ => none) (cellsFrom (s.heap.objs.size + 1) scope.names []) (bindC (envOfC qual scope s.heap.objs.size f cd).kindOf (ps.zip us) fun _ => none) s1) :
  Inv (cxOf CX P w K mg base N qual scope f cd A outer s H E) [] (start N vs) H s1 := by
 have hpl : ps.length <= N.length := by have := congrArg List.length S.pre; rw [List.length_take] at this; omega
 obtain ⟨h1, tk, rfl, hk⟩ := x.done
 have noA : ∀ b : Addr, b ∉ (cxOf CX P w K mg base N qual scope f cd A outer s H E).ex := fun b z => absurd (show b ∈ ([] : List Addr) from z) (by simp)
 refine ⟨⟨e0.mod, S.kind, rfl, rfl, Nat.le_refl _, fun y z c h1 h2 => ?_, fun y hy => ?_, fun y c _ h => ?_, fun _ => hd, Around.frames_deeper e0.frames, .inr ⟨rfl, rfl⟩, fun b z => absurd z (noA b), e0.bs, e0.bsz, fun b _ _ => noA b, fun b z => absurd z (noA b), e0.funs, e0.frf⟩,
  rfl, e0.bare, Un.kept hk, ⟨_, x.toInCall.ns, fun i y v h1 h2 h3 => ?_⟩, fun y c h => ⟨_, x.cell y c h⟩, e0.hok.fresh (Nat.le_refl _), fun y c h => ?_, fun p hp => absurd (show p ∈ ([] : List (Addr × Obj)) from hp) (by simp), e0.hok.kept hk, ?_⟩
 ·exact name_of_addr x.apart (PySem.mem_of_lookup h1) (PySem.mem_of_lookup h2)
 ·have hy : scope.names.lookup y = some .cell \/ scope.names.lookup y = some .free := hy
  rcases hy with hy | hy
  ·exact cell_has hy
  ·exact absurd rfl (S.nofree _ (PySem.mem_of_lookup hy))
 ·exact Nat.le_of_lt (x.above y c (PySem.mem_of_lookup h))
 ·have hi : i < vs.length := by
   unfold start at h2
   by_cases hi : i < vs.length
   ·exact hi
   ·rw [List.getElem?_append_right (by simpa using hi)] at h2
    rw [List.getElem?_replicate] at h2
    split at h2 <;> cases h2
  have ha : vs[i]? = some v := by
   unfold start at h2
   rw [List.getElem?_append_left (by simpa using hi), List.getElem?_map] at h2
   cases e : vs[i]? with
   | none => rw [e] at h2; cases h2
   | some a => rw [e] at h2; cases h2; rfl
  obtain ⟨u, hu, rv⟩ := r.get ha
  have hp : ps[i]? = some y := by
   rw [<- S.pre, List.getElem?_take_of_lt (by omega)]; exact h1
  have ndP : ps.Nodup := by rw [<- S.pre]; exact S.nd.sublist (List.take_sublist _ _)
  refine ⟨u, rv, ?_⟩
  rcases S.par y (List.mem_of_getElem? hp) with k | k
  ·exact .inl ⟨k, bindL_get ndP hp hu k⟩
  ·obtain ⟨c, e⟩ := cell_has (n := s.heap.objs.size + 1) k
   refine .inr ⟨.inl k, c, e, ?_⟩
   have q := x.cell y c e
   rw [bindC_get ndP hp hu (by show scope.names.lookup y ≠ _; rw [k]; decide)] at q
   exact q
 ·exact e0.hok.fresh (Nat.le_of_lt (x.above y c (PySem.mem_of_lookup h)))
 ·unfold start
  show _ = N.length
  rw [List.length_append, List.length_map, List.length_replicate]
  omega
theorem fn_of {CX : CXT} {P : Program} {w : World} {K : W.Frag} {mg : Str -> Option Value} {base : Heap} {k : Nat} {f : Addr} {name qual : Str} {params : Arguments} {body : List Stmt} {scope : Scope} {dV kV doc pm cdv ct oc : Value} {an od : Option Addr}
  {osl : Array (Option Value)} {N ps : List Str} {sp : Sp} (lk : K.lookup f = some ⟨oc, od, .func (PySem.W.fnOf name qual params body scope dV kV doc pm an cdv ct), osl⟩) (hcd : PySem.W.codeIn K cdv qual = true) (S : FnScope N ps scope)
  (len : ∀ vs H Q E, sp vs H Q E -> vs.length = ps.length)
  (hbody : ∀ (A : Around) (outer : List Env) (s : Shared) (H : Hp) (vs : List V) (Q : VK) (E : XK), Room k (A.deeper (envOfC qual scope s.heap.objs.size f cdv)) -> sp vs H Q E ->
   ∃ t, PSs (cxOf CX P w K mg base N qual scope f cdv A outer s H E) body t /\ t { nx := fun _ H' => Q .non H', rt := Q } (start N vs) H) :
  FnOk P w K mg base CX (k + 1) f (PySem.W.fnOf name qual params body scope dV kV doc pm an cdv ct) ps sp := by
 refine ⟨len, fun A outer s H args us vs Q E hr e0 hb r hsp => ?_⟩
 have hl := len _ _ _ _ hsp
 have KX : K.In s.heap := e0.mod.kin.keeps fun b o e => (e0.bs b o e).1
 have lim : s.heap.NoLimit := e0.mod.nolimit.keeps fun b o e => (e0.bs b o e).1
 have hkind : ∀ y ∈ ps.zip us, scope.names.lookup y.1 = some .local \/ (scope.names.lookup y.1 = some .cell /\ ((cellsFrom (s.heap.objs.size + 1) scope.names []).lookup y.1).isSome = true) := fun ⟨n, v⟩ hy => by
  rcases S.par n (List.of_mem_zip hy).1 with q | q
  ·exact .inl q
  ·exact .inr ⟨q, PySem.W.cellsFrom_some _ _ _ (.inl q)⟩
 refine codeAny_call_function hr.depth (KX _ _ lk) rfl S.co S.gen rfl (PySem.W.codeRec_of KX hcd) (hb _ _ _ _ ?_)
 refine wpAny_newFunctionEnv_cells S.kind hkind fun env he s1 x => ?_
 subst he
 refine ⟨lim.keeps x.toInCall.keep, codeAny_func ?_⟩
 obtain ⟨t, ht, hq⟩ := hbody A outer s H vs Q E (hr.deeper _) hsp
 have I : Inv (cxOf CX P w K mg base N qual scope f cdv A outer s H E) [] (start N vs) H s1 := inv_start S hr.hd e0 hl r x
 refine wpAny_mono (ht [] s1 (start N vs) H _ I hq) (fun fl s' hs => ?_) fun e s' hs => hs
 have fin : ∀ {σ' : St} {H' : Hp} {v : V} {u : Value}, Inv (cxOf CX P w K mg base N qual scope f cdv A outer s H E) [] σ' H' s' -> RelV v u -> Q v H' -> CE outer P w H s Q u s' :=
  fun {σ' H' v u} J rv q => ⟨v, H', J.os, J.bare, J.base, J.hok, rv, q⟩
 cases fl with
 | ret u =>
  obtain ⟨v, σ', H', J, rv, q⟩ := hs
  exact fin J rv q
 | next =>
  obtain ⟨σ', H', J, q⟩ := hs
  exact fin (v := V.non) (u := Value.none) J rfl q
 | brk =>
  obtain ⟨_, _, _, q⟩ := hs
  exact False.elim q
 | cont =>
  obtain ⟨_, _, _, q⟩ := hs
  exact False.elim q
section
variable {X : Cx} {x : Str} {p pos : Pos} {e : Expr} {es : List Expr} {t : TA} {id T : String} {r : List V -> Hp -> VK -> Prop}
def tCB (r : List V -> Hp -> VK -> Prop) (t : TA) : TE := fun σ H Q => t σ H fun vs H1 => r vs H1 Q
theorem pe_callB (hc : CallR X (.builtin id) r) (hg : Gl X x) (hm : X.mg x = none) (hv : bootBuiltins x = some (.builtin id)) (ha : PA X (e :: es) t) (hn : x ≠ "__name__" := by decide) (hdb : (x == ("__debug__" : Str)) = false := by decide)
  (he : starEach (e :: es) X.env = (false, eval e X.env) :: starEach es X.env := by rfl) (hpl : (backTo pos (starEach es X.env)).any (·.1) = false := by rfl) : PE X (.Call (.Name x p) (e :: es) [] pos) (tCB r t) := by
 intro pins s σ H Q I h
 refine wpAny_Call_Name_kw (ld_blt I hg hm hv ?_ hn hdb)
 exact PyProof.Rows.callWith_builtin1 (thn (ha pos pins s σ H _ I h) fun us s1 ⟨vs, H1, I1, r1, q1⟩ => hc pins s1 σ H1 vs us Q I1 r1 q1) he hpl
theorem pe_callTy (hc : CallR X (.type T) r) (hg : Gl X x) (hm : X.mg x = none) (hv : bootBuiltins x = some (.type T)) (ha : PA X (e :: es) t) (hn : x ≠ "__name__" := by decide) (hdb : (x == ("__debug__" : Str)) = false := by decide)
  (he : starEach (e :: es) X.env = (false, eval e X.env) :: starEach es X.env := by rfl) (hpl : (backTo pos (starEach es X.env)).any (·.1) = false := by rfl) : PE X (.Call (.Name x p) (e :: es) [] pos) (tCB r t) := by
 intro pins s σ H Q I h
 refine wpAny_Call_Name_kw (ld_blt I hg hm hv ?_ hn hdb)
 exact PyProof.Rows.callWith_type1 (thn (ha pos pins s σ H _ I h) fun us s1 ⟨vs, H1, I1, r1, q1⟩ => hc pins s1 σ H1 vs us Q I1 r1 q1) he hpl
end
end L2
namespace HT
open PySem PyProof.Rows
section
open PySem.SeqAt
open PySem.AutoSeq1 (wpAny_loadPart')
open PySem.MeetsSeq PySem.MeetsSeq2 PySem.MeetsSeq3
end
section
variable {prog : Program} {w : World} {A : Around} {E : Value -> Shared -> Prop} {s : Shared}
theorem cat_tup {t b : Addr} {vs ws : List Value} {Q : Value -> Shared -> Prop} (ht : IsTup s.heap t vs.toArray) (hb : IsTup s.heap b ws.toArray) (hv : vs ≠ [])
  (h1 : ws = [] -> Q (.ref t) s) (h2 : ws ≠ [] -> Q (.ref s.heap.objs.size) { s with heap := s.heap.push { cls := .type "tuple", data := .seq (vs ++ ws).toArray } })
  (hsz : vs.length + ws.length <= sizeLine) : wpAny (model prog w) A (binaryOp .Add (.ref t) (.ref b)) Q E s := by
 obtain ⟨⟨cls, dd, data, sl⟩, ho, hc, n, hd⟩ := id ht
 obtain ⟨⟨cls2, dd2, data2, sl2⟩, ho2, hc2, n2, hd2⟩ := id hb
 simp only at hc hd hc2 hd2
 subst hc hd hc2 hd2
 have e : vs.toArray ++ ws.toArray = (vs ++ ws).toArray := by simp
 by_cases hw : ws = []
 ·exact concat_meets ⟨_, ho, rfl⟩ ⟨_, ho2, rfl⟩ noFill_tuple_add seq_tuple_add PySem.F.slot_tuple_add PySem.F.entry_tuple_add (PySem.F.args_tuple_add_2 _ _)
   (tuple_addW1 t b vs.toArray ws.toArray n n2 dd dd2 sl sl2 (by simpa using hv) (by simp [hw])) ⟨ho, ho2, h1 hw⟩
 ·refine concat_meets ⟨_, ho, rfl⟩ ⟨_, ho2, rfl⟩ noFill_tuple_add seq_tuple_add PySem.F.slot_tuple_add PySem.F.entry_tuple_add (PySem.F.args_tuple_add_2 _ _)
   (tuple_addW2 t b vs.toArray ws.toArray n n2 dd dd2 sl sl2 (by simpa using hv) (by simpa using hw) (by rw [List.size_toArray, List.size_toArray]; exact hsz)) ⟨ho, ho2, ?_⟩
  rw [e]
  exact h2 hw
def sIx (n d : Nat) : Option Int -> Nat
 | none => d
 | some v => if v < 0 then (v + (n : Int)).toNat else min v.toNat n
end
end HT
namespace L2
open PySem PySem.Spec PyProof.Rows
abbrev TO := St -> Hp -> (Option Int -> Hp -> Prop) -> Prop
def PO (X : Cx) (e : Option Expr) (t : TO) : Prop :=
 ∀ (pins : List (Addr × Obj)) (s : Shared) (σ : St) (H : Hp) (Q : Option Int -> Hp -> Prop), Inv X pins σ H s -> t σ H Q ->
  wpAny (model X.prog X.w) X.A (evalPart e X.env) (fun u s' => ∃ o H', Inv X pins σ H' s' /\ IsPart u o /\ Q o H') X.xe s
def tPart (t : TE) : TO := fun σ H Q => t σ H fun x H1 => ∃ i, x = .int i /\ Q (some i) H1
theorem intsAre_of {ns : List Int} : ∀ {us : List Value}, Vals (ns.map V.int) us -> IntsAre us ns := by
 induction ns with
 | nil => intro us r; rw [List.map_nil] at r; cases r; exact .nil
 | cons n ns ih =>
  intro us r
  rw [List.map_cons] at r
  cases r with
  | cons r1 r2 =>
   obtain ⟨t, e⟩ := r1
   subst e
   exact .cons n t (ih r2)
section
variable {X : Cx} {e : Expr} {te : TE} {lo hi : Option Expr} {tl th : TO} {pos p2 : Pos}
theorem po_some (h : PE X e te) : PO X (some e) (tPart te) := by
 intro pins s σ H Q I hw
 rw [evalPart_some]
 refine thn (h pins s σ H _ I hw) fun u s1 ⟨x, H1, I1, r1, q1⟩ => ?_
 obtain ⟨i, rfl, q⟩ := q1
 obtain ⟨t, rfl⟩ := r1
 exact ⟨some i, H1, I1, .int i t, q⟩
def SlR (X : Cx) (r : V -> Option Int -> Option Int -> Hp -> VK -> Prop) : Prop :=
 ∀ (pins : List (Addr × Obj)) (s : Shared) (σ : St) (H : Hp) (x : V) (v vl vu : Value) (lo hi : Option Int) (sl : Addr) (Q : VK), Inv X pins σ H s -> RelV x v -> s.heap.IsSliceOf sl vl vu .none -> IsPart vl lo -> IsPart vu hi -> r x lo hi H Q ->
  ∃ T id, typeLookup (.type T) "__getitem__" = pure (some (.builtin id)) /\ s.TypeIs v T /\ wpAny (model X.prog X.w) X.A (getItem v (.ref sl)) (EP X pins σ Q) X.xe s
def tSl (r : V -> Option Int -> Option Int -> Hp -> VK -> Prop) (te : TE) (tl th : TO) : TE := fun σ H Q => te σ H fun x H1 => tl σ H1 fun l H2 => th σ H2 fun u H3 => r x l u H3 Q
theorem pe_slice {r : V -> Option Int -> Option Int -> Hp -> VK -> Prop} (hr : SlR X r) (he : PE X e te) (hl : PO X lo tl) (hu : PO X hi th) : PE X (.Subscript e (.Slice lo hi none p2) pos) (tSl r te tl th) := by
 intro pins s σ H Q I h
 refine Subscript_ (thn (he pins s σ H _ I h) fun v s1 ⟨x, H1, I1, r1, q1⟩ => ?_)
 refine wpAny_Slice (thn (hl pins s1 σ H1 _ I1 q1) fun vl s2 ⟨l, H2, I2, pl, q2⟩ => thn (hu pins s2 σ H2 _ I2 q2) fun vu s3 ⟨u, H3, I3, pu, q3⟩ => ?_)
 rw [evalPart_none]
 refine wpAny_pure ?_
 have I4 : Inv X pins σ H3 { s3 with heap := s3.heap.push { cls := .type "slice", data := .fields #[vl, vu, .none] } } := I3.kept (t' := s3.toks) fun b ob q => Heap.get?_push_of_some _ q
 obtain ⟨T, id, hT, ht, hg⟩ := hr pins { s3 with heap := s3.heap.push { cls := .type "slice", data := .fields #[vl, vu, .none] } } σ H3 x v vl vu l u s3.heap.objs.size Q I4 r1 (Heap.IsSliceOf.new ..) pl pu q3
 show wpAny (model X.prog X.w) X.A (subscriptTail e (.Slice lo hi none p2) v (.ref s3.heap.objs.size)) (EP X pins σ Q) X.xe { s3 with heap := s3.heap.push { cls := .type "slice", data := .fields #[vl, vu, .none] } }
 exact tail_any (ops := [.ref s3.heap.objs.size, v]) ht hT hg (by with_unfolding_all rfl)
def cutV (xs : List V) (lo hi : Option Int) : List V := (xs.drop (HT.sIx xs.length 0 lo)).take (HT.sIx xs.length xs.length hi - HT.sIx xs.length 0 lo)
theorem cutV_length (xs : List V) (lo hi : Option Int) : (cutV xs lo hi).length <= xs.length := by
 unfold cutV
 rw [List.length_take, List.length_drop]
 omega
def rCatT (K : W.Frag) : R2 := fun x y H Q => ∃ a b xs ys, x = .ref a /\ y = .ref b /\ SqT K H a xs /\ SqT K H b ys /\ xs ≠ [] /\ xs.length + ys.length <= sizeLine /\
 (ys = [] -> Q (.ref a) H) /\ (ys ≠ [] -> ∀ p, H p = none -> Q (.ref p) (upd H p (.tup (xs ++ ys))))
theorem Vals.nil_iff {xs : List V} {us : List Value} (r : Vals xs us) : us = [] ↔ xs = [] := by
 cases r with
 | nil => simp
 | cons _ _ => simp
theorem op_catT : OpR X (binaryOp .Add) (rCatT X.K) := by
 intro pins s σ H x y v u Q I rx ry h
 obtain ⟨a, b, xs, ys, rfl, rfl, ha, hb, hx, hz, q1, q2⟩ := h
 cases rx
 cases ry
 obtain ⟨its, r1, p1, _⟩ := I.tuple ha
 obtain ⟨its2, r2, p2, _⟩ := I.tuple hb
 refine HT.cat_tup p1 p2 (fun z => hx (r1.nil_iff.mp z)) (fun z => ⟨.ref a, H, I, rfl, q1 (r2.nil_iff.mp z)⟩) (fun z => ?_) (by rw [<- r1.length, <- r2.length]; exact hz)
 refine ⟨.ref s.heap.objs.size, _, I.laid (t' := s.toks) (o := .tup (xs ++ ys)) (fun b ob q => Heap.get?_push_of_some _ q) (Nat.le_refl _) ?_, rfl, q2 (fun w => z (r2.nil_iff.mpr w)) _ (I.hok.fresh (Nat.le_refl _))⟩
 exact ⟨by rw [List.length_append]; exact hz, _, r1.append r2, IsTup.new _ _⟩
end
def ixN (n : Nat) (i : Int) : Option Nat := if 0 <= i then (if i < n then some i.toNat else none) else if -(n : Int) <= i then some (i + n).toNat else none
def atI {α : Type} (xs : List α) (i : Int) : Option α := (ixN xs.length i).bind fun j => xs[j]?
theorem ixN_seq {n : Nat} {i : Int} {j : Nat} (h : ixN n i = some j) : seqIndex? i n = some j /\ j < n /\ -(n : Int) <= i /\ i < n := by
 unfold ixN at h
 by_cases h0 : 0 <= i
 ·rw [if_pos h0] at h
  by_cases h1 : i < n
  ·rw [if_pos h1] at h
   have e : i.toNat = j := Option.some.inj h
   exact ⟨by rw [seqIndex_of h0 h1, e], by omega, by omega, h1⟩
  ·rw [if_neg h1] at h; cases h
 ·rw [if_neg h0] at h
  by_cases h1 : -(n : Int) <= i
  ·rw [if_pos h1] at h
   have e : (i + n).toNat = j := Option.some.inj h
   exact ⟨by rw [seqIndex_neg (by omega) h1, e], by omega, h1, by omega⟩
  ·rw [if_neg h1] at h; cases h
theorem atI_get {α : Type} {xs : List α} {i : Int} {v : α} (h : atI xs i = some v) : ∃ j, seqIndex? i xs.length = some j /\ xs[j]? = some v /\ j < xs.length /\ -(xs.length : Int) <= i /\ i < xs.length := by
 unfold atI at h
 cases e : ixN xs.length i with
 | none => rw [e] at h; cases h
 | some j =>
  rw [e] at h
  obtain ⟨h1, h2, h3, h4⟩ := ixN_seq e
  exact ⟨j, h1, h, h2, h3, h4⟩
theorem atI_nat {α : Type} {xs : List α} {j : Nat} {v : α} (h : xs[j]? = some v) : atI xs (j : Int) = some v := by
 have hj : j < xs.length := (List.getElem?_eq_some_iff.mp h).1
 have e : ixN xs.length (j : Int) = some j := by
  unfold ixN
  rw [if_pos (by omega), if_pos (by omega)]; simp
 unfold atI; rw [e]; exact h
def PlainIx (b : Expr) : Prop := ∀ o i, subscripted b false o i = operate [o, i] (getItem o i)
def IxR (X : Cx) (r : R2) : Prop :=
 ∀ (value slice : Expr) (pins : List (Addr × Obj)) (s : Shared) (σ : St) (H : Hp) (x y : V) (v u : Value) (Q : VK), Inv X pins σ H s -> RelV x v -> RelV y u -> r x y H Q ->
  subscripted slice false v u = operate [v, u] (getItem v u) -> wpAny (model X.prog X.w) X.A (subscriptTail value slice v u) (EP X pins σ Q) X.xe s
def MtR (X : Cx) (id : String) (r : V -> List V -> Hp -> VK -> Prop) : Prop :=
 ∀ (pins : List (Addr × Obj)) (s : Shared) (σ : St) (H : Hp) (x : V) (xs : List V) (v : Value) (us : List Value) (Q : VK), Inv X pins σ H s -> RelV x v -> Vals xs us -> r x xs H Q ->
  wpAny (model X.prog X.w) X.A (call (.builtin id) (v :: us)) (EP X pins σ Q) X.xe s
section
variable {X : Cx} {a b : Expr} {ta tb : TE} {pos : Pos}
theorem IxR.or {r r' : R2} (h : IxR X r) (h' : IxR X r') : IxR X (fun x y H Q => r x y H Q \/ r' x y H Q) := by
 intro value slice pins s σ H x y v u Q I rx ry q hs
 rcases q with q | q
 ·exact h value slice pins s σ H x y v u Q I rx ry q hs
 ·exact h' value slice pins s σ H x y v u Q I rx ry q hs
theorem pe_ix {r : R2} (hr : IxR X r) (ha : PE X a ta) (hb : PE X b tb) (hs : PlainIx b) : PE X (.Subscript a b pos) (tOp r ta tb) := by
 intro pins s σ H Q I h
 exact Subscript_ (binT ha hb I h fun v u s2 x y H2 I2 rx ry q => hr a b pins s2 σ H2 x y v u Q I2 rx ry q (hs _ _))
def rIxL (K : W.Frag) : R2 := fun x y H Q => ∃ p xs i v, x = .ref p /\ y = .int i /\ SqL K H p xs /\ atI xs i = some v /\ Q v H
def rIxT (K : W.Frag) : R2 := fun x y H Q => ∃ p xs i v, x = .ref p /\ y = .int i /\ SqT K H p xs /\ atI xs i = some v /\ Q v H
def rIxS : R2 := fun x y H Q => ∃ z i c, x = .str z /\ y = .int i /\ z.length <= sizeLine /\ atI z.cps.toList i = some c /\ Q (.str ⟨#[c]⟩) H
theorem ix_list : IxR X (rIxL X.K) := by
 intro value slice pins s σ H x y v u Q I rx ry h hs
 obtain ⟨p, xs, i, z, rfl, rfl, hq, he, q⟩ := h
 cases rx
 obtain ⟨t, rfl⟩ := ry
 obtain ⟨its, r, pl, hz⟩ := I.list hq
 obtain ⟨j, h1, h2, h3, h4, h5⟩ := atI_get he
 obtain ⟨w, ew, rw'⟩ := r.get h2
 have hl := r.length
 have hn := line63
 have fin : EP X pins σ Q w s := ⟨z, H, I, rw', q⟩
 by_cases h0 : 0 <= i
 ·have hj : i.toNat = j := by
   rw [seqIndex_of h0 h5] at h1
   exact Option.some.inj h1
  exact item_listR pl.isList h0 (by omega) (by rw [hj]; simpa using ew) fin hs
 ·have hj : (i + (its.toArray.size : Int)).toNat = j := by
   rw [seqIndex_neg (by omega) h4] at h1
   rw [List.size_toArray, <- hl]
   exact Option.some.inj h1
  exact subscriptTail_builtinR (x := w) pl.isList.typeIs slot_list_getitem.lookup
   (wpAny_getItem_list_neg (Q := fun r s' => r = w /\ EP X pins σ Q r s') pl.isList (by omega) (by rw [List.size_toArray] <;> omega) (by omega) (by rw [hj]; simpa using ew) ⟨rfl, fin⟩) hs
theorem ix_tup : IxR X (rIxT X.K) := by
 intro value slice pins s σ H x y v u Q I rx ry h hs
 obtain ⟨p, xs, i, z, rfl, rfl, hq, he, q⟩ := h
 cases rx
 obtain ⟨t, rfl⟩ := ry
 obtain ⟨its, r, pl, hz⟩ := I.tuple hq
 obtain ⟨j, h1, h2, h3, h4, h5⟩ := atI_get he
 obtain ⟨w, ew, rw'⟩ := r.get h2
 have hl := r.length
 have hn := line63
 have fin : EP X pins σ Q w s := ⟨z, H, I, rw', q⟩
 exact subscriptTail_builtinR (x := w) pl.typeIs slot_tuple_getitem.lookup
  (getItem_tuple (j := j) (Q := fun r s' => r = w /\ EP X pins σ Q r s') pl (by omega) (by omega) (by rw [List.size_toArray, <- hl]; exact h1) (by simpa using ew) ⟨rfl, fin⟩) hs
theorem ix_str : IxR X rIxS := by
 intro value slice pins s σ H x y v u Q I rx ry h hs
 obtain ⟨z, i, c, rfl, rfl, hz, he, q⟩ := h
 obtain ⟨t, rfl⟩ := rx
 obtain ⟨t', rfl⟩ := ry
 obtain ⟨j, h1, h2, h3, h4, h5⟩ := atI_get he
 have hl : z.cps.toList.length = z.length := by simp [Str.length]
 rw [hl] at h1 h4 h5
 have hn := line63
 exact tail_any (typeIs_str s z t) slot_str_getitem.lookup (getItem_str (c := c) (by
  have e1 : decide (i < -(2 ^ 63 : Int)) = false := decide_eq_false (by omega)
  have e2 : decide (i ≥ 2 ^ 63) = false := decide_eq_false (by omega)
  rw [e1, e2, Bool.or_false]) (by rw [h1]; simpa using h2) ⟨.str ⟨#[c]⟩, H, I.tok _, ⟨_, rfl⟩, q⟩) hs
def rIx (K : W.Frag) : R2 := fun x y H Q => rIxL K x y H Q \/ rIxT K x y H Q \/ rIxS x y H Q
theorem ix_seq : IxR X (rIx X.K) := ix_list.or (ix_tup.or ix_str)
theorem mapSeq_set (its : List Value) (n j : Nat) (u : Value) : Obj.mapSeq (·.setIfInBounds j u) { cls := .type "list", data := .seq its.toArray n } = { cls := .type "list", data := .seq (its.set j u).toArray n } := by
 simp [Obj.mapSeq]
theorem Inv.lst {pins : List (Addr × Obj)} {σ : St} {H : Hp} {s : Shared} {p : Addr} {xs : List V} (I : Inv X pins σ H s) (h : H p = some (.lst xs)) :
  ∃ (its : List Value) (n : Nat), Vals xs its /\ s.heap.get? p = some { cls := .type "list", data := .seq its.toArray n } /\ xs.length <= sizeLine := by
 obtain ⟨z, its, n, r, e⟩ := I.hok p _ h
 exact ⟨its, n, r, e, z⟩
theorem Inv.lstUpd {pins : List (Addr × Obj)} {σ : St} {H : Hp} {s : Shared} {p : Addr} {xs ys : List V} {its its' : List Value} {n n' : Nat} {f : Obj -> Obj} (I : Inv X pins σ H s) (h : H p = some (.lst xs))
  (ho : s.heap.get? p = some { cls := .type "list", data := .seq its.toArray n }) (hf : f { cls := .type "list", data := .seq its.toArray n } = { cls := .type "list", data := .seq its'.toArray n' }) (r : Vals ys its') (hz : ys.length <= sizeLine) (t : Nat) :
  Inv X pins σ (upd H p (.lst ys)) { s with heap := s.heap.update p f, toks := t } := by
 have e : (s.heap.update p f).get? p = some { cls := .type "list", data := .seq its'.toArray n' } := by
  rw [Heap.get?_update_self f ho (by rw [hf] <;> rfl), hf]
 refine I.write (x := p) (e := p) (by rw [h]; trivial) (.inl rfl) (fun b u hb q => (Heap.get?_update_other _ _ (Ne.symm hb)).trans q) ⟨_, e⟩ ?_
 exact ⟨hz, its', n', r, e⟩
def rSetL : V -> V -> V -> Hp -> (Hp -> Prop) -> Prop := fun o i v H Q => ∃ p xs k j, o = .ref p /\ i = .int k /\ H p = some (.lst xs) /\ ixN xs.length k = some j /\ Q (upd H p (.lst (xs.set j v)))
theorem set_list : PSet X rSetL := by
 intro pins s σ H o i v ov iv u Q I ro ri rv h
 obtain ⟨p, xs, k, j, rfl, rfl, hp, hj, q⟩ := h
 cases ro
 obtain ⟨t, rfl⟩ := ri
 obtain ⟨its, n, r, ho, hz⟩ := I.lst hp
 obtain ⟨h1, h2, h3, h4⟩ := ixN_seq hj
 have hl := r.length
 have hn := line63
 have I' : Inv X pins σ (upd H p (.lst (xs.set j v))) { s with heap := s.heap.update p (Obj.mapSeq (·.setIfInBounds j u)) } :=
  I.lstUpd hp ho (mapSeq_set its n j u) (r.set rv j) (by rw [List.length_set]; exact hz) s.toks
 by_cases h0 : 0 <= k
 ·have hk : k.toNat = j := by
   rw [seqIndex_of h0 h4] at h1
   exact Option.some.inj h1
  exact PySem.W.ki_setAt ho h0 (by omega) (by rw [List.size_toArray, <- hl]; exact h4) (by rw [hk]; exact ⟨_, I', q⟩)
 ·have hk : (k + (its.toArray.size : Int)).toNat = j := by
   rw [seqIndex_neg (by omega) h3] at h1
   rw [List.size_toArray, <- hl]
   exact Option.some.inj h1
  exact PySem.W.ki_setBack ho (by omega) (by rw [List.size_toArray, <- hl]; exact h3) (by omega) (by rw [hk]; exact ⟨_, I', q⟩)
theorem slice_bounds (lo hi : Option Int) (n : Nat) : (sliceBounds lo hi none n).1 = ((HT.sIx n 0 lo : Nat) : Int) /\ (sliceBounds lo hi none n).2.1 = ((HT.sIx n n hi : Nat) : Int) /\ (sliceBounds lo hi none n).2.2 = 1 := by
 refine ⟨?_, ?_, rfl⟩
 ·cases lo with
  | none => simp [sliceBounds, HT.sIx]
  | some i =>
   simp only [sliceBounds, HT.sIx, Option.getD_none, show (1 : Int) > 0 by decide, if_true]
   by_cases h : i < 0
   ·simp only [h, if_true] <;> omega
   ·simp only [h, if_false] <;> omega
 ·cases hi with
  | none => simp [sliceBounds, HT.sIx]
  | some i =>
   simp only [sliceBounds, HT.sIx, Option.getD_none, show (1 : Int) > 0 by decide, if_true]
   by_cases h : i < 0
   ·simp only [h, if_true] <;> omega
   ·simp only [h, if_false] <;> omega
theorem slicePick_cut (its : List Value) (lo hi : Option Int) : slicePick its.toArray lo hi none = ((its.drop (HT.sIx its.length 0 lo)).take (HT.sIx its.length its.length hi - HT.sIx its.length 0 lo)).toArray := by
 obtain ⟨h1, h2, h3⟩ := slice_bounds lo hi its.toArray.size
 unfold slicePick
 rw [h1, h2, h3]
 simp only [sliceRange_one, pick_run, List.size_toArray] <;> rfl
def rSlL (K : W.Frag) : V -> Option Int -> Option Int -> Hp -> VK -> Prop := fun x lo hi H Q => ∃ a xs, x = .ref a /\ SqL K H a xs /\ ∀ p, H p = none -> Q (.ref p) (upd H p (.lst (cutV xs lo hi)))
theorem sl_list : SlR X (rSlL X.K) := by
 intro pins s σ H x v vl vu lo hi sl Q I rx hs pl pu h
 obtain ⟨a, xs, rfl, hx, q⟩ := h
 cases rx
 obtain ⟨its, r, ht, hz⟩ := I.list hx
 have hlen := r.length
 refine ⟨"list", _, slot_list_getitem.lookup, ht.isList.typeIs, ?_⟩
 refine wpAny_getItem_list_slice ht.isList hs pl pu .none (by simp) ?_ (by rw [List.size_toArray] <;> omega)
 rw [slicePick_cut, <- hlen]
 refine ⟨.ref s.heap.objs.size, _, I.laid (t' := s.toks) (o := .lst (cutV xs lo hi)) (fun b ob q => Heap.get?_push_of_some _ q) (Nat.le_refl _) ?_, rfl, q _ (I.hok.fresh (Nat.le_refl _))⟩
 exact ⟨Nat.le_trans (cutV_length xs lo hi) hz, _, 0, (r.drop (HT.sIx xs.length 0 lo)).take (HT.sIx xs.length xs.length hi - HT.sIx xs.length 0 lo), Heap.get?_push_size _ rfl⟩
theorem call_len_seq : CallR X (.builtin "len") (fun xs H Q => ∃ p ys, xs = [.ref p] /\ (SqL X.K H p ys \/ SqT X.K H p ys) /\ Q (.int ys.length) H) := by
 intro pins s σ H xs us Q I r h
 obtain ⟨p, ys, rfl, hq, q⟩ := h
 obtain ⟨u, rfl, rx⟩ := vals1 r
 cases rx
 have hn := line63
 rcases hq with hq | hq
 ·obtain ⟨its, r', pl, hz⟩ := I.list hq
  have hlen := r'.length
  exact Calls.call_len_list pl.isList (by simp only [List.size_toArray] <;> omega) ⟨.int ys.length, H, I.tok _, ⟨s.toks + 1, by rw [List.size_toArray, hlen]⟩, q⟩
 ·obtain ⟨its, r', pl, hz⟩ := I.tuple hq
  have hlen := r'.length
  exact len_tuple pl (by simp only [List.size_toArray] <;> omega) ⟨.int ys.length, H, I.tok _, ⟨s.toks + 1, by rw [List.size_toArray, hlen]⟩, q⟩
theorem call_list_of : CallR X (.type "list") (fun xs H Q => ∃ p ys, xs = [.ref p] /\ (SqL X.K H p ys \/ SqT X.K H p ys) /\ ∀ l, H l = none -> Q (.ref l) (upd H l (.lst ys))) := by
 intro pins s σ H xs us Q I r h
 obtain ⟨p, ys, rfl, hq, q⟩ := h
 obtain ⟨u, rfl, rx⟩ := vals1 r
 cases rx
 have fin : ∀ (its : List Value), Vals ys its -> ys.length <= sizeLine -> ∀ (h' : Heap) (c' : Nat), (∀ b o', s.heap.get? b = some o' -> h'.get? b = some o') ->
   h'.get? s.heap.objs.size = some { cls := .type "list", dict := none, data := .seq its.toArray c', slots := #[] } -> EP X pins σ Q (.ref s.heap.objs.size) { s with heap := h' } := fun its r' hz h' c' kp e =>
  ⟨.ref s.heap.objs.size, _, I.laid (t' := s.toks) kp (Nat.le_refl _) (show ObjOk X.prog X.w _ h' _ (.lst ys) from ⟨hz, its, c', r', e⟩), rfl, q _ (I.hok.fresh (Nat.le_refl _))⟩
 rcases hq with hq | hq
 ·obtain ⟨its, r', pl, hz⟩ := I.list hq
  have hlen := r'.length
  obtain ⟨o, ho, hc, n, hd⟩ := pl.isList
  exact call_list_seq p (.inl rfl) ho hc hd (fun h' c' kp e => fin its r' hz h' c' kp e) (by simp only [List.size_toArray] <;> omega)
 ·obtain ⟨its, r', pl, hz⟩ := I.tuple hq
  have hlen := r'.length
  obtain ⟨o, ho, hc, n, hd⟩ := pl
  exact call_list_seq p (.inr rfl) ho hc hd (fun h' c' kp e => fin its r' hz h' c' kp e) (by simp only [List.size_toArray] <;> omega)
theorem call_tuple_of : CallR X (.type "tuple") (fun xs H Q => ∃ p ys, xs = [.ref p] /\ ((SqL X.K H p ys /\ ∀ l, H l = none -> Q (.ref l) (upd H l (.tup ys))) \/ (SqT X.K H p ys /\ Q (.ref p) H))) := by
 intro pins s σ H xs us Q I r h
 obtain ⟨p, ys, rfl, h⟩ := h
 obtain ⟨u, rfl, rx⟩ := vals1 r
 cases rx
 rcases h with ⟨hq, q⟩ | ⟨hq, q⟩
 ·obtain ⟨its, r', pl, hz⟩ := I.list hq
  have hlen := r'.length
  refine call_tuple_list pl.isList (fun h' kp => ?_) (by simp only [List.size_toArray] <;> omega)
  have I1 : Inv X pins σ H { s with heap := h' } := I.kept (t' := s.toks) kp
  have I2 : Inv X pins σ (upd H h'.objs.size (.tup ys)) { s with heap := h'.push { cls := .type "tuple", data := .seq its.toArray } } :=
   I1.laid (t' := s.toks) (fun b o e => Heap.get?_push_of_some _ e) (Nat.le_refl _) (show ObjOk X.prog X.w _ _ _ (.tup ys) from ⟨hz, its, r', IsTup.new _ _⟩)
  exact ⟨.ref h'.objs.size, _, I2, rfl, q _ (I1.hok.fresh (Nat.le_refl _))⟩
 ·obtain ⟨its, r', pl, hz⟩ := I.tuple hq
  exact call_tuple_same pl ⟨.ref p, H, I, rfl, q⟩
def tyV (K : W.Frag) (T : String) (x : V) (H : Hp) : Prop := match x with
 | .str _ => T = "str"
 | .int _ => T = "int"
 | .ref p => (T = "list" /\ ∃ xs, SqL K H p xs) \/ (T = "tuple" /\ ∃ o, K.lookup p = some o /\ o.cls = .type "tuple" /\ o.dict = none) \/
   (T = "dict" /\ ((∃ kvs, H p = some (.dK kvs)) \/ ∃ kvs, H p = some (.dT kvs))) \/ (T = "set" /\ ∃ S n, H p = some (.set S n))
 | _ => False
theorem tyV_is {pins : List (Addr × Obj)} {σ : St} {H : Hp} {s : Shared} {T : String} {x : V} {v : Value} (I : Inv X pins σ H s) (r : RelV x v) (ty : tyV X.K T x H) :
  s.TypeIs v T /\ ∀ a, v = .ref a -> ∃ ob, s.heap.get? a = some ob /\ ob.dict = none := by
 cases x with
 | str z =>
  obtain ⟨t, rfl⟩ := r
  cases (show T = "str" from ty)
  exact ⟨typeIs_str s z t, fun _ e => nomatch e⟩
 | int i =>
  obtain ⟨t, rfl⟩ := r
  cases (show T = "int" from ty)
  exact ⟨typeIs_int s i t, fun _ e => nomatch e⟩
 | ref p =>
  cases r
  rcases ty with ⟨rfl, xs, hq⟩ | ⟨rfl, o, hk, hc, hd⟩ | ⟨rfl, hk⟩ | ⟨rfl, S, n, hk⟩
  ·obtain ⟨its, _, pl, _⟩ := I.list hq
   refine ⟨pl.isList.typeIs, fun a e => ?_⟩
   cases e
   obtain ⟨o, n, e, c, hd, _⟩ := pl
   exact ⟨o, e, hd⟩
  ·refine ⟨⟨o, I.kIn p o hk, hc⟩, fun a e => ?_⟩
   cases e
   exact ⟨o, I.kIn _ o hk, hd⟩
  ·have z : ∃ o, s.heap.get? p = some o /\ o.ExactDict := by
    rcases hk with ⟨kvs, hk⟩ | ⟨kvs, hk⟩
    ·obtain ⟨_, _, _, _, o, _, _, e, ex, _⟩ := I.hok p _ hk
     exact ⟨o, e, ex⟩
    ·obtain ⟨_, _, _, _, o, _, _, e, ex, _⟩ := I.hok p _ hk
     exact ⟨o, e, ex⟩
   obtain ⟨o, e, ex⟩ := z
   refine ⟨⟨o, e, ex.1⟩, fun a e2 => ?_⟩
   cases e2
   exact ⟨o, e, ex.2.1⟩
  ·obtain ⟨o, _, _, _, e, ex, _⟩ := I.hok p _ hk
   refine ⟨⟨o, e, ex.1⟩, fun a e2 => ?_⟩
   cases e2
   exact ⟨o, e, ex.2.1⟩
 | _ => exact False.elim ty
def tBM (K : W.Frag) (T : String) (r : V -> List V -> Hp -> VK -> Prop) (to : TE) (t : TA) : TE := fun σ H Q => to σ H fun x H1 => tyV K T x H1 /\ t σ H1 fun xs H2 => r x xs H2 Q
variable {o e : Expr} {es : List Expr} {to : TE} {t : TA} {name : Str} {apos cpos : Pos} {T id : String} {r : V -> List V -> Hp -> VK -> Prop}
theorem pe_bm (pa : PlainAttrs T) (slot : Slot T name id) (hty : typeOf (.builtin id) = pure (.type "method_descriptor")) (hm : MtR X id r) (ho : PE X o to) (ha : PA X (e :: es) t)
  (hbase : attributeBase o name X.env (eval o X.env) = eval o X.env := by rfl)
  (hfew : ((backTo cpos (starEach (e :: es) X.env)).all (fun x => !x.1) && (backToKw cpos (keywordEach [] X.env)).all (fun x => x.1.isSome)
   && decide ((e :: es).length + ([] : List Keyword).length + (if ([] : List Keyword).isEmpty then 0 else 1) < 30)) = true := by rfl)
  (hline : (apos.endLine == cpos.line) = true := by rfl) (hs : starEach (e :: es) X.env = (false, eval e X.env) :: starEach es X.env := by rfl) (hplain : (backTo cpos (starEach es X.env)).any (·.1) = false := by rfl) :
  PE X (.Call (.Attribute o name apos) (e :: es) [] cpos) (tBM X.K T r to t) := by
 intro pins s σ H Q I h
 refine wpAny_Call_method_late hbase hfew hline rfl (thn (ho pins s σ H _ I h) fun v s1 ⟨x, H1, I1, r1, ty, q1⟩ => ?_)
 obtain ⟨h1, h2⟩ := tyV_is I1 r1 ty
 refine ⟨T, id, pa, slot, hty, h1, h2, ?_⟩
 have hA := ha cpos pins s1 σ H1 _ I1 q1
 rw [hs] at hA ⊢
 refine Calls.callWith_builtin (by show (false || (backTo cpos (starEach es X.env)).any (·.1)) = false; rw [hplain] <;> rfl) (Calls.evalArgs_plain ?_)
 exact thn hA fun us s2 ⟨vs, H2, I2, r2, q2⟩ => hm pins s2 σ H2 x vs v us Q I2 r1 r2 q2
/- xs.append(e), list.index on a module's tuple .. are MtR facts of 06m -/
end
def MtM (X : Cx) (id : String) (r : V -> List V -> Hp -> VK -> Prop) : Prop :=
 ∀ (pins : List (Addr × Obj)) (s : Shared) (σ : St) (H : Hp) (x : V) (xs : List V) (v : Value) (us : List Value) (Q : VK), Inv X pins σ H s -> RelV x v -> Vals xs us -> r x xs H Q ->
  wpAny (model X.prog X.w) X.A (call (.builtin id) (v :: us)) (EP X pins σ Q) X.xe s
theorem Vals.one : ∀ {x : V} {us : List Value}, Vals [x] us -> ∃ u, us = [u] /\ RelV x u
 | _, _, .cons r .nil => ⟨_, rfl, r⟩
theorem Vals.two : ∀ {x y : V} {us : List Value}, Vals [x, y] us -> ∃ u v, us = [u, v] /\ RelV x u /\ RelV y v
 | _, _, _, .cons r (.cons q .nil) => ⟨_, _, rfl, r, q⟩
theorem Vals.reverse {xs : List V} {us : List Value} (h : Vals xs us) : Vals xs.reverse us.reverse := by
 induction h with
 | nil => exact .nil
 | cons r t ih => rw [List.reverse_cons, List.reverse_cons]; exact Vals.append ih (.cons r .nil)
theorem foldl_rep (its : List Value) : ∀ (k : Nat) (acc : List Value),
  List.foldl (fun x1 x2 => x1 ++ x2) acc.toArray (List.replicate k its.toArray) = (acc ++ (List.replicate k its).flatten).toArray
 | 0, acc => by simp
 | k + 1, acc => by
  have e : acc.toArray ++ its.toArray = (acc ++ its).toArray := by simp
  have e2 : (acc ++ its) ++ (List.replicate k its).flatten = acc ++ (List.replicate (k + 1) its).flatten := by
   rw [List.replicate_succ, List.flatten_cons, List.append_assoc]
  rw [<- e2, <- foldl_rep its k (acc ++ its), <- e, List.replicate_succ, List.foldl_cons]
section
variable {X : Cx} {pins : List (Addr × Obj)} {σ : St} {H : Hp} {s : Shared} {l b : Addr} {xs ys zs : List V}
theorem Inv.lset {its its' : List Value} {n : Nat} {f : Array Value -> Array Value} {t' : Nat} (I : Inv X pins σ H s) (hH : H l = some (.lst xs))
  (e : s.heap.get? l = some { cls := .type "list", data := .seq its.toArray n }) (hf : f its.toArray = its'.toArray) (hv : Vals ys its') (hz : ys.length <= sizeLine) :
  Inv X pins σ (upd H l (.lst ys)) { s with heap := s.heap.update l (Obj.mapSeq f), toks := t' } := by
 have q := PySem.IsL.update e f
 rw [hf] at q
 refine I.write (x := l) (e := l) (by rw [hH]; exact trivial) (.inl rfl) (fun b' u hb hu => (Heap.get?_update_other s.heap (Obj.mapSeq f) (Ne.symm hb)).trans hu) ⟨_, q⟩ ?_
 exact ⟨hz, its', _, hv, q⟩
theorem Inv.lnew {its : List Value} {t' : Nat} (I : Inv X pins σ H s) (hv : Vals ys its) (hz : ys.length <= sizeLine) :
  Inv X pins σ (upd H s.heap.objs.size (.lst ys)) { s with heap := s.heap.push { cls := .type "list", data := .seq its.toArray }, toks := t' } :=
 I.laid (fun _ _ q => Heap.get?_push_of_some _ q) (Nat.le_refl _) ⟨hz, its, 0, hv, Heap.get?_push_size _ rfl⟩
theorem Inv.fresh (I : Inv X pins σ H s) : H s.heap.objs.size = none := I.hok.fresh (Nat.le_refl _)
theorem Inv.lstM (I : Inv X pins σ H s) (hH : H l = some (.lst xs)) : xs.length <= sizeLine /\ ∃ (its : List Value) (n : Nat), Vals xs its /\ xs.length = its.length /\ s.heap.get? l = some { cls := .type "list", data := .seq its.toArray n } := by
 obtain ⟨z, its, n, r, e⟩ := I.hok l _ hH
 exact ⟨z, its, n, r, r.length, e⟩
theorem notLongL {n : Nat} (h : n <= sizeLine) : Builtin.List.listTooLong n = false := by
 unfold Builtin.List.listTooLong
 exact decide_eq_false (by omega)
end
section
variable {X : Cx}
def rAppend : V -> List V -> Hp -> VK -> Prop := fun x vs H Q => ∃ l xs y, x = .ref l /\ vs = [y] /\ H l = some (.lst xs) /\ xs.length < sizeLine /\ Q .non (upd H l (.lst (xs ++ [y])))
theorem mt_append : MtM X "list.append" rAppend := by
 intro pins s σ H x vs v us Q I rx rv h
 obtain ⟨l, xs, y, rfl, rfl, hH, hz, q⟩ := h
 cases rx
 obtain ⟨u, rfl, ru⟩ := rv.one
 obtain ⟨z, its, n, r, hl, e⟩ := I.lstM hH
 refine call_meets F.slot_list_append ⟨_, e, rfl⟩ F.entry_list_append (F.args_list_append_2 _ _) (PySem.list_append l its.toArray n u (by rw [List.size_toArray]; omega)) ⟨e, ?_⟩
 refine ⟨.non, _, I.lset (its' := its ++ [u]) hH e (by simp) (r.append (.cons ru .nil)) ?_, rfl, q⟩
 rw [List.length_append, List.length_singleton]
 omega
def rExtend : V -> List V -> Hp -> VK -> Prop := fun x vs H Q => ∃ l b xs zs, x = .ref l /\ vs = [.ref b] /\ H l = some (.lst xs) /\ H b = some (.lst zs) /\ xs.length + zs.length <= sizeLine /\ Q .non (upd H l (.lst (xs ++ zs)))
theorem mt_extend : MtM X "list.extend" rExtend := by
 intro pins s σ H x vs v us Q I rx rv h
 obtain ⟨l, b, xs, zs, rfl, rfl, hH, hB, hz, q⟩ := h
 cases rx
 obtain ⟨u, rfl, ru⟩ := rv.one
 cases ru
 obtain ⟨z, its, n, r, hl, e⟩ := I.lstM hH
 obtain ⟨z2, its2, n2, r2, hl2, e2⟩ := I.lstM hB
 have hsz : its.toArray.size + its2.toArray.size <= sizeLine := by rw [List.size_toArray, List.size_toArray]; omega
 have hlong : ¬ (!its.toArray.isEmpty && Builtin.List.listTooLong (its.toArray.size + its2.toArray.size)) = true := by
  rw [notLongL hsz, Bool.and_false]
  exact Bool.false_ne_true
 refine call_meets F.slot_list_extend ⟨_, e, rfl⟩ F.entry_list_extend (F.args_list_extend_2 _ _)
  (AutoSeq1.list_extend_list_list_0 l its.toArray n b its2.toArray n2 hlong (by rw [List.size_toArray]; omega) (by omega)) ⟨e, e2, ?_⟩
 refine ⟨.non, _, I.lset (its' := its ++ its2) hH e (by simp) (r.append r2) ?_, rfl, q⟩
 rw [List.length_append]
 omega
def rCat : R2 := fun x y H Q => ∃ l b xs zs, x = .ref l /\ y = .ref b /\ H l = some (.lst xs) /\ H b = some (.lst zs) /\ xs.length + zs.length <= sizeLine /\ ∀ p, H p = none -> Q (.ref p) (upd H p (.lst (xs ++ zs)))
theorem op_cat : OpR X (binaryOp .Add) rCat := by
 intro pins s σ H x y v u Q I rx ry h
 obtain ⟨l, b, xs, zs, rfl, rfl, hH, hB, hz, q⟩ := h
 cases rx
 cases ry
 obtain ⟨z, its, n, r, hl, e⟩ := I.lstM hH
 obtain ⟨z2, its2, n2, r2, hl2, e2⟩ := I.lstM hB
 refine PySem.P.add_list e e2 ?_ (by rw [List.size_toArray, List.size_toArray]; omega)
 have ea : its.toArray ++ its2.toArray = (its ++ its2).toArray := by simp
 rw [ea]
 exact ⟨.ref _, _, I.lnew (t' := s.toks) (r.append r2) (by rw [List.length_append]; omega), rfl, q _ I.fresh⟩
theorem len_rep {α : Type} (xs : List α) (k : Nat) : (List.replicate k xs).flatten.length = k * xs.length := by
 induction k with
 | zero => simp
 | succ k ih => rw [List.replicate_succ, List.flatten_cons, List.length_append, ih, Nat.succ_mul, Nat.add_comm]
end
section
variable {prog : Program} {w : World} {A : Around} {E : Value -> Shared -> Prop} {s : Shared}
end
section
variable {X : Cx}
end
end L2
namespace Att
open PySem PySem.W PySem.Calls PyProof.Rows
theorem ints_of_wellAll {P : Params} {h : Heap} : ∀ (ns : List Int) (vs : List Value), WellAll P h vs (ns.map WData.int) -> IntsAre vs ns := by
 intro ns
 induction ns with
 | nil =>
  intro vs w
  rw [List.map_nil] at w
  cases w
  exact .nil
 | cons n ns ih =>
  intro vs w
  rw [List.map_cons] at w
  cases w with
  | cons a b =>
   cases a
   exact .cons _ _ (ih _ b)
theorem script_of {l : OpenLaw} {n : Nat} (hn : l.most = some n) {P : Params} {h : Heap} {args : List WData} {vals : List Value}
  (hpre : l.row.toRowW.claim.pre args = true) (hwl : WellAll P h vals args) :
  ∃ a vs ns, vals = [Value.ref a] /\ args = [WData.list (ns.map WData.int)] /\ h.get? a = some { cls := .type "list", data := .seq vs.toArray } /\ IntsAre vs ns /\ ns.length <= n := by
 have hsh : WShape.hasAll [] args [.list .int] = true := (pre_splitW hpre).1
 have hc : l.pre.holds [] { args := args } = true := (pre_splitW hpre).2
 obtain ⟨d, r, rfl, h1, h2⟩ := hasAllW_cons hsh
 obtain rfl := hasAllW_nil h2
 obtain ⟨xs, rfl, h3⟩ := hasW_list h1
 obtain ⟨ns, rfl⟩ := items_int h3
 have hlen : ns.length <= n := by
  unfold OpenLaw.pre at hc
  have h4 : (WTm.not (.lt (.lit (.int (n : Int))) (.len (.arg 0)))).holds [] { args := [.list (ns.map .int)] } = true := by
   have h4 := (holds_andW hc).1
   rw [hn] at h4
   exact h4
  have h5 := condW_of h4 (w_not (w_lt w_lit (w_len_list (w_arg rfl))))
  rw [List.length_map] at h5
  refine Nat.le_of_not_lt fun q => ?_
  have q' : (n : Int) < ((ns.length : Nat) : Int) := by omega
  first
   | (rw [decide_eq_true q'] at h5; exact absurd h5 (by decide))
   | (simp at h5; omega)
 cases hwl with
 | cons w1 w2 =>
  cases w2
  cases w1 with
  | list ho hall => exact ⟨_, _, ns, rfl, rfl, ho, ints_of_wellAll ns _ hall, hlen⟩
theorem post_true (l : OpenLaw) (args : List WData) : l.row.toRowW.claim.post args (.bool true) args = true :=
 postW_of (r := l.row.toRowW) (X := (true == true))
  (show WShape.has [] (.bool true) .bool = true by first | rfl | decide | simp [WShape.has, WShape.arms, WShape.armsAll])
  (show (WTm.eq .res (.lit (.bool true))).value [] { args := args, res := some (.bool true), after := args } = some (.bool (true == true)) from w_eq_bool (w_res rfl) w_lit) rfl
theorem attach_call {l : OpenLaw} {n : Nat} {q : Program} {loose : List Str} {XP : (Str -> Option Value) -> Heap -> Prop} {YP : World -> Heap -> Prop} {d : DefRec}
  (hn : l.most = some n) (hdf : d.params.defaults = [])
  (call : ∀ (w : World) (s₀ s₁ : Shared) (mg mb : Str -> Option Value) (fa : Addr) (o : Obj) (pm cd doc : Value) (a : Addr) (vs : List Value) (ns : List Int),
   Ground q loose [] XP w s₀ mg mb s₁.heap -> YP w s₁.heap ->
   s₁.heap.get? fa = some o -> o.data = .func (docDef d.name d.params d.body d.scope pm cd doc) -> s₁.heap.CodeRec cd d.name -> mg d.name = some (.ref fa) ->
   s₁.heap.get? a = some { cls := .type "list", data := .seq vs.toArray } -> IntsAre vs ns -> ns.length <= n -> s₁.gens = #[] ->
   codeAny (model l.prog w) callerA (.call (.ref fa) ⟨[.ref a], []⟩) (fun r s' => r = .ok (.ret (.bool true)) /\ OldK s₁.heap s'.heap /\ s'.os = s₁.os /\ AllBare s'.gens) s₁) :
  WalkO q loose XP YP l.row.toRowW d [] (fun f vs => PySem.call f vs) := by
 intro w s₀ s₁ mg mb G Y fa o pm cd doc dV kV ho hd hcd hD hmg hg args vals as hpre hlay hrd hwl hlo
 obtain rfl : dV = .none := Dflts.none hD hdf
 obtain rfl : kV = .none := Dflts.noKw hD
 obtain ⟨a, vs, ns, rfl, rfl, hobj, hints, hlen⟩ := script_of hn hpre hwl
 refine enter_call (codeAny_mono (call w s₀ s₁ mg mb fa o pm cd doc a vs ns G Y ho (fd_plain hd) hcd hmg hobj hints hlen hg) fun r s' hq => ?_)
 obtain ⟨rfl, h2, h3, h4⟩ := hq
 exact ⟨.inl ⟨.bool true, .bool true, [], rfl, fun _ => rfl, .bool true, post_true l _, fun _ => ⟨List.Pairwise.nil, fun _ hm => (nomatch hm)⟩⟩, h2, h3, h4⟩
section
variable {prog : Program} {w : World} {A : Around} {E : Value -> Shared -> Prop} {s : Shared} {K : Frag}
end
end Att
namespace L2
open PySem PySem.Spec PyProof.Rows
theorem vals_ints : ∀ {vs : List Value} {ns : List Int}, IntsAre vs ns -> Vals (ns.map V.int) vs
 | _, _, .nil => .nil
 | _, _, .cons n t h => .cons ⟨t, rfl⟩ (vals_ints h)
def Only (H : Hp) : Prop := ∀ b, H b = none \/ ∃ o xs, H b = some (.frz o (.lst xs))
theorem law_call {P : Program} {w : World} {K : W.Frag} {mg mb : Str -> Option Value} {CX : CXT} {k : Nat} {fa a : Addr} {fd : FuncData} {x : Str} {sp : Sp} {s₁ : Shared} {vs : List Value} {ns : List Int}
  (KX : K.In s₁.heap) (hns : s₁.heap.Ns mainGlobals mg) (hb : s₁.heap.Ns builtinsNs mb) (hbb : ∀ x : Str, x ≠ "__name__" -> mb x = bootBuiltins x) (hlim : s₁.heap.NoLimit) (hg : s₁.gens = #[])
  (ha : s₁.heap.get? a = some { cls := .type "list", data := .seq vs.toArray }) (hi : IntsAre vs ns) (hl : ns.length <= sizeLine) (hr : Room k callerA)
  (F : ∀ base : Heap, K.In base -> base.Ns mainGlobals mg -> FnOk P w K mg base CX k fa fd [x] sp) (hbind : ∀ (s : Shared) (u : Value), BindsTo s fd ⟨[u], []⟩ [(x, u)])
  (hsp : ∀ H : Hp, Only H -> SqL K H a (ns.map V.int) -> sp [.ref a] H (fun v _ => v = .bl true) fun _ _ _ => False)
  (hCX : ∀ H e s', CX [] H s₁ (fun _ _ _ => False) e s' -> False) :
  codeAny (model P w) callerA (.call (.ref fa) ⟨[.ref a], []⟩) (fun r s' => r = .ok (.ret (.bool true)) /\ OldK s₁.heap s'.heap /\ s'.os = s₁.os /\ AllBare s'.gens) s₁ := by
 have rv := vals_ints hi
 have lenV := hi.length
 -- from an abstract heap in which nothing but the script may be tracked
 have core : ∀ H : Hp, Only H -> SqL K H a (ns.map V.int) -> HOk P w H s₁.heap -> (∀ b, H b ≠ none -> b = a) -> (H a ≠ none -> K.lookup a = none) ->
   codeAny (model P w) callerA (.call (.ref fa) ⟨[.ref a], []⟩) (fun r s' => r = .ok (.ret (.bool true)) /\ OldK s₁.heap s'.heap /\ s'.os = s₁.os /\ AllBare s'.gens) s₁ := by
  intro H hO hS hok hA hK
  have base_of : ∀ {b : Addr} {o : Obj}, s₁.heap.get? b = some o -> H b = none -> (hidT s₁.heap H).get? b = some o := fun e n => hidT_get e n
  have noA : ∀ {b : Addr} {o : Obj} {es : Array DictEntry} {ep : Nat}, s₁.heap.get? b = some o -> o.data = .dict es ep -> H b = none := fun {b o es ep} e d => by
   cases q : H b with
   | none => rfl
   | some u =>
    have e' : b = a := hA b (by rw [q]; simp)
    subst e'
    rw [ha] at e; cases e
    have d' : Data.seq vs.toArray _ = Data.dict es ep := d
    cases d'
  have nsK : ∀ {b : Addr} {m : Str -> Option Value}, s₁.heap.Ns b m -> (hidT s₁.heap H).Ns b m := fun {b m} ⟨o, es, ep, e, d, r⟩ => ⟨o, es, ep, base_of e (noA e d), d, r⟩
  have hKb : K.In (hidT s₁.heap H) := fun b o e => base_of (KX b o e) (by
   cases q : H b with
   | none => rfl
   | some u =>
    have e' : b = a := hA b (by rw [q]; simp)
    subst e'
    rw [hK (by rw [q]; simp)] at e; cases e)
  have hM : Mod K mg (hidT s₁.heap H) := ⟨hKb, nsK hns, ⟨mb, nsK hb, hbb⟩, let ⟨mc, h1, h2⟩ := hlim; ⟨mc, nsK h1, h2⟩⟩
  have e0 : Env0 P w K mg (hidT s₁.heap H) callerA [] s₁ H := ⟨rfl, hM, fun b o e => of_hidT e, Nat.le_of_eq (hidT_size _ _), trivial, fun b hb => absurd (show b ∈ ([] : List Addr) from hb) (by simp), hok, .of_eq hg⟩
  refine codeAny_mono ((F _ hKb (nsK hns)).run callerA [] s₁ H ⟨[.ref a], []⟩ [.ref a] [.ref a] _ _ hr e0 (hbind s₁ (.ref a)) (.cons rfl .nil) (hsp H hO hS)) fun r s' h => ?_
  cases r with
  | error e => exact (hCX H e s' h).elim
  | ok fl =>
   cases fl with
   | next => exact False.elim h
   | brk => exact False.elim h
   | cont => exact False.elim h
   | ret u =>
    obtain ⟨v, H', os, bare, un, hok', r', q⟩ := h
    have q' : v = .bl true := q
    subst q'
    obtain rfl : u = Value.bool true := r'
    refine ⟨rfl, OldK.of_keep fun b o e => ?_, os, bare⟩
    cases q : H b with
    | none => exact un.keep b o e q (by intro z; exact absurd (show b ∈ ([] : List Addr) from z) (by simp)) (by simp)
    | some u =>
     rcases hO b with z | ⟨ob, xs, z⟩
     ·rw [q] at z; cases z
     ·have z2 := un.frzs b ob _ z
      obtain ⟨e1, _⟩ := hok b _ z
      obtain ⟨e2, _⟩ := hok' b _ z2
      rw [e] at e1; cases e1
      exact e2
 cases hk : K.lookup a with
 | some o =>
  -- the script is one of the module's own objects
  have e := KX a o hk
  rw [ha] at e
  cases e
  refine core (fun _ => none) (fun _ => .inl rfl) (.inr ⟨_, vs.toArray, _, hk, rfl, rfl, rfl, by rw [List.size_toArray, lenV]; exact hl, by simpa using rv⟩) (fun b u z => by have z' : (none : Option HO) = some u := z; cases z') (fun b z => absurd rfl z) fun z => absurd rfl z
 | none =>
  refine core (fun b => if b = a then some (.frz { cls := .type "list", data := .seq vs.toArray } (.lst (ns.map V.int))) else none) (fun b => ?_) (.inl (.inr ⟨{ cls := .type "list", data := .seq vs.toArray }, if_pos rfl⟩)) (fun b u z => ?_) (fun b z => ?_) fun _ => hk
  ·by_cases hb : b = a
   ·exact .inr ⟨_, _, if_pos hb⟩
   ·exact .inl (if_neg hb)
  ·by_cases hb : b = a
   ·have z' := (if_pos hb).symm.trans z
    cases z'
    subst hb
    exact ⟨ha, by rw [List.length_map]; exact hl, vs, _, rv, ha⟩
   ·have z' := (if_neg hb).symm.trans z
    cases z'
  ·by_cases hb : b = a
   ·exact hb
   ·exact absurd (if_neg hb) z
theorem walk_of {l : PySem.W.OpenLaw} {n k : Nat} {q : Program} {loose : List Str} {XP : (Str -> Option Value) -> Heap -> Prop} {YP : World -> Heap -> Prop} {d : DefRec} {K : Params -> PySem.W.Frag} {CX : World -> CXT} {sp : World -> Sp} {x : Str}
  (hn : l.most = some n) (hn2 : n <= sizeLine) (hdf : d.params.defaults = []) (hr : Room k callerA)
  (hY : ∀ (w : World) (h : Heap), YP w h -> (K w.params).In h)
  (F : ∀ (w : World) (mg : Str -> Option Value) (fa : Addr) (h : Heap), (K w.params).In h -> h.Ns mainGlobals mg -> mg d.name = some (.ref fa) ->
   ∃ fd : FuncData, (∀ (s : Shared) (u : Value), BindsTo s fd ⟨[u], []⟩ [(x, u)]) /\
    ∀ base : Heap, (K w.params).In base -> base.Ns mainGlobals mg -> FnOk l.prog w (K w.params) mg base (CX w) k fa fd [x] (sp w))
  (hsp : ∀ (w : World) (H : Hp) (a : Addr) (ns : List Int), ns.length <= n -> Only H -> SqL (K w.params) H a (ns.map V.int) -> sp w [.ref a] H (fun v _ => v = .bl true) fun _ _ _ => False)
  (hCX : ∀ (w : World) (H : Hp) (s : Shared) (e : Value) (s' : Shared), CX w [] H s (fun _ _ _ => False) e s' -> False) :
  PySem.W.WalkO q loose XP YP l.row.toRowW d [] (fun f vs => PySem.call f vs) := by
 refine Att.attach_call hn hdf fun w s₀ s₁ mg mb fa o pm cd doc a vs ns G Y ho hd hcd hmg hobj hints hlen hg => ?_
 have KX := hY w _ Y
 obtain ⟨fd, hb, hF⟩ := F w mg fa _ KX G.T.g hmg
 exact law_call KX G.T.g G.T.b G.T.builtins G.T.nolimit hg hobj hints (Nat.le_trans hlen hn2) hr hF hb (fun H hO hS => hsp w H a ns hlen hO hS) fun H e s' => hCX w H s₁ e s'
end L2
namespace L2
open PySem PySem.Spec PyProof.Rows
def defArgs (s : Stmt) : Arguments := match s with
 | .FunctionDef _ a _ _ _ _ _ _ _ _ => a
 | _ => { posonlyargs := [], args := [], vararg := none, kwonlyargs := [], kw_defaults := [], kwarg := none, defaults := [] }
def defBody (s : Stmt) : List Stmt := match s with
 | .FunctionDef _ _ b _ _ _ _ _ _ _ => b
 | _ => []
def defScope (s : Stmt) : Scope := match s with
 | .FunctionDef _ _ _ _ _ _ sc _ _ _ => sc
 | _ => { kind := .function, names := [], isGenerator := false, isCoroutine := false }
abbrev CX0 : CXT := fun _ _ _ _ _ _ => False
abbrev E0 : XK := fun _ _ _ => False
theorem pass0 {X : Cx} : Passes CX0 X E0 := fun _ _ _ _ _ _ _ h => h.elim
structure Fun (K : W.Frag) (x qual : Str) (st : Stmt) (f : Addr) (fd : FuncData) : Prop where
 ex : ∃ (oc : Value) (od : Option Addr) (kV doc pm : Value) (an : Option Addr) (cdv ct : Value) (osl : Array (Option Value)),
  fd = PySem.W.fnOf x qual (defArgs st) (defBody st) (defScope st) .none kV doc pm an cdv ct /\ K.lookup f = some ⟨oc, od, .func fd, osl⟩ /\ PySem.W.codeIn K cdv qual = true
 kp : PySem.W.keepIn K (.ref f) = true
section
variable {P : Program} {w : World} {K : W.Frag} {mg : Str -> Option Value} {base : Heap}
theorem Fun.ok {x qual : Str} {st : Stmt} {f : Addr} {fd : FuncData} {N ps : List Str} {k : Nat} {sp : Sp} (F : Fun K x qual st f fd) (S : FnScope N ps (defScope st)) (len : ∀ vs H Q E, sp vs H Q E -> vs.length = ps.length)
  (hbody : ∀ (cdv : Value) (A : Around) (outer : List Env) (s : Shared) (H : Hp) (vs : List V) (Q : VK) (E : XK), Room k (A.deeper (envOfC qual (defScope st) s.heap.objs.size f cdv)) -> sp vs H Q E ->
   ∃ t, PSs (cxOf CX0 P w K mg base N qual (defScope st) f cdv A outer s H E).nox (defBody st) t /\ t { nx := fun _ H' => Q .non H', rt := Q } (start N vs) H) : FnOk P w K mg base CX0 (k + 1) f fd ps sp := by
 obtain ⟨oc, od, kV, doc, pm, an, cdv, ct, osl, rfl, lk, hcd⟩ := F.ex
 refine fn_of lk hcd S len fun A outer s H vs Q E hr hsp => ?_
 obtain ⟨t, h, q⟩ := hbody cdv A outer s H vs Q E hr hsp
 exact ⟨t, h.nox, q⟩
theorem Fun.binds {x qual : Str} {st : Stmt} {f : Addr} {fd : FuncData} {ps : List Str} (F : Fun K x qual st f fd)
  (h : ∀ (kV doc pm : Value) (an : Option Addr) (cdv ct : Value) (us : List Value), us.length = ps.length -> bindArgs (PySem.W.fnOf x qual (defArgs st) (defBody st) (defScope st) .none kV doc pm an cdv ct) ⟨us, []⟩ = pure (ps.zip us)) : Binds K fd ps [] := by
 obtain ⟨oc, od, kV, doc, pm, an, cdv, ct, osl, rfl, lk, hcd⟩ := F.ex
 exact .all (h kV doc pm an cdv ct)
theorem fun_mk {x qual : Str} {st : Stmt} {f : Addr} {oc : Value} {od an : Option Addr} {osl : Array (Option Value)} {kV doc pm cdv ct : Value} (l : K.lookup f = some ⟨oc, od, .func (PySem.W.fnOf x qual (defArgs st) (defBody st) (defScope st) .none kV doc pm an cdv ct), osl⟩)
  (c : PySem.W.codeIn K cdv qual = true) (k : PySem.W.keepIn K (.ref f) = true) : Fun K x qual st f (PySem.W.fnOf x qual (defArgs st) (defBody st) (defScope st) .none kV doc pm an cdv ct) := ⟨⟨oc, od, kV, doc, pm, an, cdv, ct, osl, rfl, l, c⟩, k⟩
end
section
variable {X : Cx}
theorem pv (i : Nat) {x : Str} {pos : Pos} (hN : X.N[i]? = some x := by rfl) (hv : Vis X.env.scope x := by first | exact Or.inl rfl | exact Or.inr (Or.inl rfl) | exact Or.inr (Or.inr rfl)) (hd : (x == ("__debug__" : Str)) = false := by decide)
  (hcd : (x == ("__classdict__" : Str)) = false := by decide) : PE X (.Name x pos) (tVar i) := pe_var hN hv hd hcd
end
theorem iteF {A B : Prop} (h : B) : if false = true then A else B := by
 rw [if_neg Bool.false_ne_true]
 exact h
theorem iteT {A B : Prop} (h : A) : if true = true then A else B := by
 rw [if_pos rfl]
 exact h
theorem ite2 {c A B : Prop} [Decidable c] (h1 : c -> A) (h2 : ¬ c -> B) : if c then A else B := by
 by_cases h : c
 ·rw [if_pos h]
  exact h1 h
 ·rw [if_neg h]
  exact h2 h
theorem iteNS {c A B : Prop} [Decidable c] (hc : c) (h : B) : if (!decide c) = true then A else B := by
 rw [decide_eq_true hc]
 exact iteF h
def Same (H H' : Hp) : Prop := ∀ b o, H b = some o -> H' b = some o
theorem Same.refl (H : Hp) : Same H H := fun _ _ h => h
theorem Same.trans {H H1 H2 : Hp} (a : Same H H1) (b : Same H1 H2) : Same H H2 := fun c o h => b c o (a c o h)
theorem Same.free {H H' : Hp} (e : Same H H') {l : Addr} (h : H' l = Option.none) : H l = Option.none := by
 cases q : H l with
 | none => rfl
 | some o =>
  rw [e l o q] at h
  cases h
theorem Same.seq {K : W.Frag} {H H' : Hp} {a : Addr} {xs : List V} (e : Same H H') (h : SqL K H a xs) : SqL K H' a xs := by
 rcases h with (h | ⟨o, h⟩) | h
 ·exact .inl (.inl (e _ _ h))
 ·exact .inl (.inr ⟨o, e _ _ h⟩)
 ·exact .inr h
end L2
namespace Tim
open PySem PyProof.Rows
structure Ord (B : Keyed -> Keyed -> Bool) : Prop where
 irr : ∀ x, B x x = false
 tr : ∀ x y z, B x y = true -> B y z = true -> B x z = true
 ng : ∀ x y z, B x z = true -> B x y = true \/ B y z = true
def le (B : Keyed -> Keyed -> Bool) (x y : Keyed) : Prop := B y x = false
section
variable {prog : Program} {w : World} {A : Around} {E : Value -> Shared -> Prop} {s : Shared} {κ : SortKind} {S : Keyed -> Prop} {B : Keyed -> Keyed -> Bool}
end
structure MI (R : Keyed -> Keyed -> Prop) (out ra rb all : List Keyed) : Prop where
 so : out.Pairwise R
 oa : ∀ x ∈ out, ∀ y ∈ ra, R x y
 ob : ∀ x ∈ out, ∀ y ∈ rb, R x y
 sa : ra.Pairwise R
 sb : rb.Pairwise R
 pm : (out ++ (ra ++ rb)).Perm all
structure Sm (st st' : SortSt) : Prop where
 k : kindOf st' = kindOf st
 a : arrOf st' = arrOf st
 p : pendingOf st' = pendingOf st
 f : failedOf st' = failedOf st
section
variable {prog : Program} {w : World} {A : Around} {E : Value -> Shared -> Prop} {s : Shared} {κ : SortKind} {S : Keyed -> Prop} {B : Keyed -> Keyed -> Bool}
structure LoI (B : Keyed -> Keyed -> Bool) (a b out : Array Keyed) (ia ib : Nat) : Prop where
 m : MI (le B) out.toList (a.toList.drop ia) (b.toList.drop ib) (a.toList ++ b.toList)
 ha : ia + 1 < a.size
 hb : ib < b.size
 sz : out.size = ia + ib
def Good (B : Keyed -> Keyed -> Bool) (a b r : Array Keyed) : Prop := r.toList.Pairwise (le B) /\ r.toList.Perm (a.toList ++ b.toList)
end
section
variable {prog : Program} {w : World} {A : Around} {E : Value -> Shared -> Prop} {s : Shared} {κ : SortKind} {S : Keyed -> Prop} {B : Keyed -> Keyed -> Bool}
abbrev HM (B : Keyed -> Keyed -> Bool) (a b out : Array Keyed) (na nb : Nat) : Prop := MI (fun x y => le B y x) out.toList (a.toList.take na).reverse (b.toList.take nb).reverse (a.toList ++ b.toList)
structure HiI (B : Keyed -> Keyed -> Bool) (a b out : Array Keyed) (na nb : Nat) : Prop where
 m : HM B a b out na nb
 ha : 0 < na
 ha' : na <= a.size
 hb : 1 < nb
 hb' : nb <= b.size
 sz : out.size + na + nb = a.size + b.size
end
section
variable {O : KeyOrd} {f : Keyed -> O.α} {d : O.α}
end
structure SI (a₀ : Array Keyed) (κ : SortKind) (p : Array (Nat × Nat × Nat)) (st : SortSt) : Prop where
 perm : (arrOf st).Perm a₀
 kind : kindOf st = κ
 failed : failedOf st = none
 pend : pendingOf st = p
section
variable {prog : Program} {w : World} {A : Around} {E : Value -> Shared -> Prop} {s : Shared} {κ : SortKind} {a₀ : Array Keyed} {p : Array (Nat × Nat × Nat)} {O : KeyOrd} {f : Keyed -> O.α} {d : O.α}
end
def shape (ps : List (Nat × Nat × Nat)) : List (Nat × Nat) := ps.map fun x => (x.1, x.2.1)
def offs : Nat -> List (List Keyed) -> List (Nat × Nat)
 | _, [] => []
 | k, r :: rs => (k, r.length) :: offs (k + r.length) rs
structure SR (a₀ : Array Keyed) (κ : SortKind) (B : Keyed -> Keyed -> Bool) (runs : List (List Keyed)) (suf : List Keyed) (st : SortSt) : Prop where
 perm : (arrOf st).Perm a₀
 kind : kindOf st = κ
 failed : failedOf st = none
 sh : shape (pendingOf st).toList = offs 0 runs
 ok : ∀ r ∈ runs, r ≠ [] /\ r.Pairwise (le B)
 arr : (arrOf st).toList = runs.flatten ++ suf
section
variable {prog : Program} {w : World} {A : Around} {E : Value -> Shared -> Prop} {s : Shared} {κ : SortKind} {a₀ : Array Keyed} {B : Keyed -> Keyed -> Bool}
end
section
variable {prog : Program} {w : World} {A : Around} {E : Value -> Shared -> Prop} {s : Shared} {κ : SortKind} {a₀ : Array Keyed} {O : KeyOrd} {f : Keyed -> O.α}
end
end Tim
namespace Tim
open PySem PyProof.Rows PySem.W
def lexB : List Int -> List Int -> Bool
 | [], [] => false
 | [], _ :: _ => true
 | _ :: _, [] => false
 | a :: x, b :: y => if a = b then lexB x y else decide (a < b)
section
variable {prog : Program} {w : World}
variable {A : Around} {E : Value -> Shared -> Prop} {s : Shared}
end
end Tim
namespace Sett
open PySem PySem.SetTable
def st (m i pt : Nat) : Probe := { j := i, more := runEnd m i - i, i := i, perturb := pt, dummy := none }
def it (t : SetTable) : Nat -> Probe -> Probe
 | 0, p => p
 | n + 1, p => it t n (t.advance p)
def f5 (m i : Nat) : Nat := (i * 5 + 1) % (m + 1)
def Good (m : Nat) : Prop := m = 7 \/ m = 31 \/ m = 127 \/ m = 511
def Asc (xs : Array Nat) : Prop := ∀ (i j a b : Nat), i < j -> xs[i]? = some a -> xs[j]? = some b -> a < b
abbrev En := Int × Value
structure Tb (t : SetTable) (es : Array En) : Prop where
 dum : t.dummies = #[]
 len : t.place.size = es.size
 asc : Asc t.place
 bnd : ∀ (i j : Nat), t.place[i]? = some j -> j <= t.mask
 good : Good t.mask
 nf : es.size * 5 < t.mask * 3
 path : ∀ (i : Nat) (e : En), es[i]? = some e -> ∃ n, n < 10 * turns t.mask /\ t.place[i]? = some (it t n (t.probeStart e.1)).j /\ ∀ k, k < n -> ∃ i' : Nat, t.place[i']? = some (it t k (t.probeStart e.1)).j
structure Tb' (t : SetTable) (es : Array En) : Prop where
 dum : t.dummies = #[]
 len : t.place.size = es.size
 asc : Asc t.place
 bnd : ∀ (i j : Nat), t.place[i]? = some j -> j <= t.mask
 good : Good t.mask
 fil : es.size <= t.mask
 path : ∀ (i : Nat) (e : En), es[i]? = some e -> ∃ n, n < 10 * turns t.mask /\ t.place[i]? = some (it t n (t.probeStart e.1)).j /\ ∀ k, k < n -> ∃ i' : Nat, t.place[i']? = some (it t k (t.probeStart e.1)).j
structure LI (t : SetTable) (hs : Array Int) (owner : Array (Option Nat)) (k : Nat) : Prop where
 size : owner.size = t.mask + 1
 lt : ∀ (j i : Nat), owner[j]? = some (some i) -> i < k
 inj : ∀ (j j' i : Nat), owner[j]? = some (some i) -> owner[j']? = some (some i) -> j = j'
 has : ∀ (i : Nat) (h : Int), i < k -> hs[i]? = some h -> ∃ n, n < 10 * turns t.mask /\ owner[(it t n (t.probeStart h)).j]? = some (some i) /\ ∀ c, c < n -> ∃ i' : Nat, owner[(it t c (t.probeStart h)).j]? = some (some i')
end Sett
namespace Sett
open PySem PySem.SetTable PyProof.Rows
def hp (n : Nat) : Nat := bits (reduceHash (Builtin.Tuple.tupleHashOf [hashInt ((n / 24 : Nat) : Int), hashInt ((n % 24 : Nat) : Int)])) % 3708
section
variable {prog : Program} {w : World}
variable {A : Around} {E : Value -> Shared -> Prop} {s : Shared}
end
section
variable {prog : Program} {w : World} {A : Around} {E : Value -> Shared -> Prop} {s : Shared}
end
section
variable {prog : Program} {w : World} {A : Around} {E : Value -> Shared -> Prop} {s : Shared}
end
section
variable {prog : Program} {w : World}
variable {A : Around} {E : Value -> Shared -> Prop} {s : Shared}
end
end Sett
namespace L2
open PySem PySem.Spec PyProof.Rows
def Tups (K : W.Frag) (H : Hp) (ys : List V) (ks : List (List Int)) : Prop := Paired (fun y k => ∃ a, y = V.ref a /\ SqT K H a (k.map V.int)) ys ks
theorem Tups.len {K : W.Frag} {H : Hp} {ys : List V} {ks : List (List Int)} (t : Tups K H ys ks) : ys.length = ks.length := Paired.length t
theorem Tups.get {K : W.Frag} {H : Hp} : ∀ {ys : List V} {ks : List (List Int)} {i : Nat} {y : V}, Tups K H ys ks -> ys[i]? = some y -> ∃ a k, y = V.ref a /\ ks[i]? = some k /\ SqT K H a (k.map V.int)
 | _, _, _, _, .nil, e => by simp at e
 | _, _, 0, _, .cons r _, e => by
  simp at e
  subst e
  obtain ⟨a, h1, h2⟩ := r
  exact ⟨a, _, h1, rfl, h2⟩
 | _, _, i + 1, y, .cons _ t, e => by
  obtain ⟨a, k, h1, h2, h3⟩ := Tups.get (i := i) (y := y) t (by simpa using e)
  exact ⟨a, k, h1, by simpa using h2, h3⟩
theorem Tups.same {K : W.Frag} {H H' : Hp} (hs : ∀ b o, H b = some o -> H' b = some o) : ∀ {ys : List V} {ks : List (List Int)}, Tups K H ys ks -> Tups K H' ys ks
 | _, _, .nil => .nil
 | _, _, .cons r t => by
  obtain ⟨a, h1, h2⟩ := r
  refine .cons ⟨a, h1, ?_⟩ (Tups.same hs t)
  rcases h2 with (h | ⟨o, h⟩) | h
  ·exact .inl (.inl (hs _ _ h))
  ·exact .inl (.inr ⟨o, hs _ _ h⟩)
  ·exact .inr h
theorem Tups.append {K : W.Frag} {H : Hp} : ∀ {ys zs : List V} {ks ls : List (List Int)}, Tups K H ys ks -> Tups K H zs ls -> Tups K H (ys ++ zs) (ks ++ ls)
 | _, _, _, _, .nil, s => s
 | _, _, _, _, .cons r t, s => .cons r (Tups.append t s)
theorem Tups.reverse {K : W.Frag} {H : Hp} : ∀ {ys : List V} {ks : List (List Int)}, Tups K H ys ks -> Tups K H ys.reverse ks.reverse
 | _, _, .nil => .nil
 | _, _, .cons r t => by
  rw [List.reverse_cons, List.reverse_cons]
  exact Tups.append (Tups.reverse t) (.cons r .nil)
section
variable {X : Cx} {pins : List (Addr × Obj)} {σ : St} {H : Hp} {s : Shared}
end
section
variable {X : Cx}
end
def compCx (X : Cx) (scope : Scope) (cl : List (Str × Addr)) (N' : List Str) (s₃ : Shared) (H₃ : Hp) (fp : List Addr) (xe' : Value -> Shared -> Prop) : Cx :=
 { X with N := N', s₀ := s₃, H₀ := H₃, env := compEnvC scope cl s₃.heap.objs.size X.env, outer := X.stack, ex := fp, fn := fun _ => false, pn := [], xe := xe' }
def ClOk (env : Env) : List (Str × Addr) -> Prop
 | [] => True
 | (x, c) :: r => env.cells.lookup x = some c /\ ClOk env r
theorem ClOk.get {env : Env} : ∀ {cl : List (Str × Addr)} {x : Str} {c : Addr}, ClOk env cl -> cl.lookup x = some c -> env.cells.lookup x = some c
 | [], _, _, _, h => by cases h
 | (y, d) :: r, x, c, ⟨h1, h2⟩, h => by
  rw [List.lookup_cons] at h
  cases e : x == y with
  | true =>
   rw [e] at h
   cases h
   rw [eq_of_beq e]
   exact h1
  | false =>
   rw [e] at h
   exact ClOk.get h2 h
def FrOk (names : List (Str × NameKind)) (cl : List (Str × Addr)) : Bool := names.all fun y => y.2 != .cell && (y.2 != .free || (cl.lookup y.1).isSome)
theorem lookup_relabel {env : Env} : ∀ {names : List (Str × NameKind)} {x : Str} {k : NameKind}, (names.map fun (n, k) => if (k == NameKind.free && env.scope.kind == .function && env.kindOf n == some .cell) then (n, NameKind.cell) else (n, k)).lookup x = some k ->
  ∃ k', (x, k') ∈ names /\ (k' = k \/ (k' = .free /\ k = .cell))
 | [], _, _, h => by cases h
 | (n, k0) :: r, x, k, h => by
  rw [List.map_cons] at h
  have hn : ∀ k1, (List.lookup x ((n, k1) :: r.map fun (n, k) => if (k == NameKind.free && env.scope.kind == .function && env.kindOf n == some .cell) then (n, NameKind.cell) else (n, k))) = some k -> (x = n /\ k1 = k) \/ ∃ k', (x, k') ∈ r /\ (k' = k \/ (k' = .free /\ k = .cell)) := fun k1 h => by
   rw [List.lookup_cons] at h
   cases e : x == n with
   | true => rw [e] at h; cases h; exact .inl ⟨eq_of_beq e, rfl⟩
   | false => rw [e] at h; exact .inr (lookup_relabel h)
  dsimp only at h
  by_cases hc : (k0 == NameKind.free && env.scope.kind == .function && env.kindOf n == some .cell) = true
  ·rw [if_pos hc] at h
   rcases hn _ h with ⟨rfl, rfl⟩ | ⟨k', h1, h2⟩
   ·simp only [Bool.and_eq_true] at hc
    have e0 : k0 = .free := eq_of_beq hc.1.1
    exact ⟨k0, List.mem_cons_self, .inr ⟨e0, rfl⟩⟩
   ·exact ⟨k', List.mem_cons_of_mem _ h1, h2⟩
  ·rw [if_neg hc] at h
   rcases hn _ h with ⟨rfl, rfl⟩ | ⟨k', h1, h2⟩
   ·exact ⟨k0, List.mem_cons_self, .inl rfl⟩
   ·exact ⟨k', List.mem_cons_of_mem _ h1, h2⟩
def capt (lk : List (Option Nat)) (σ : St) : St := lk.map fun o => o.bind fun j => (σ[j]?).join
def LkOk (X : Cx) (N' : List Str) (lk : List (Option Nat)) (scope : Scope) (cl : List (Str × Addr)) : Prop :=
 lk.length = N'.length /\ ∀ (i j : Nat) (x : Str), N'[i]? = some x -> lk[i]? = some (some j) -> X.N[j]? = some x /\ (X.env.scope.names.lookup x = some .cell \/ X.env.scope.names.lookup x = some .free) /\ (cl.lookup x).isSome = true /\
  ((compEnvC scope cl 0 X.env).kindOf x = some .cell \/ (compEnvC scope cl 0 X.env).kindOf x = some .free)
section
variable {X : Cx}
theorem comp_start {pins : List (Addr × Obj)} {σ : St} {H3 : Hp} {s3 : Shared} {h1 : Heap} {tk : Nat} {scope : Scope} {cl : List (Str × Addr)} {N' : List Str} {lk : List (Option Nat)} {fp : List Addr} {xe' : Value -> Shared -> Prop} {m0 : Str -> Option Value}
  (I : Inv X pins σ H3 s3) (hf : ∀ b ∈ fp, FpOk X pins H3 b) (hkind : scope.kind = .function) (hcl : ClOk X.env cl) (hfr : FrOk scope.names cl = true) (hlk : LkOk X N' lk scope cl)
  (hn : h1.Ns s3.heap.objs.size m0) (hk : ∀ b u, s3.heap.get? b = some u -> h1.get? b = some u) (hfs : ∀ b ∈ fp, b < s3.heap.objs.size) : Inv (compCx X scope cl N' s3 H3 fp xe') [] (capt lk σ) H3 { s3 with heap := h1, toks := tk } := by
 have hC : H3 s3.heap.objs.size = none := I.hok.fresh (Nat.le_refl _)
 have hmem : ∀ y ∈ scope.names, y.2 ≠ .cell /\ (y.2 = .free -> (cl.lookup y.1).isSome = true) := fun y hy => by
  unfold FrOk at hfr
  rw [List.all_eq_true] at hfr
  have := hfr y hy
  rw [Bool.and_eq_true] at this
  refine ⟨by simpa using this.1, fun e => ?_⟩
  have h2 := this.2
  rw [e] at h2
  simpa using h2
 have hcell : ∀ x c, cl.lookup x = some c -> X.env.cells.lookup x = some c := fun x c e => hcl.get e
 have clt : ∀ x c, cl.lookup x = some c -> c < s3.heap.objs.size := fun x c e => by
  obtain ⟨v, q⟩ := I.cell x c (hcell x c e)
  exact q.lt
 refine ⟨⟨I.ok.mod, hkind, I.ok.glob, I.ok.blt, Nat.le_refl _, fun x y c e1 e2 => I.ok.inj x y c (hcell x c e1) (hcell y c e2), fun x hx => ?_, (fun x c e => by cases e), I.ok.hd, I.ok.frames, .inl rfl, fun b hb => ?_, fun b o e => I.bs b o e, Nat.le_trans I.ok.bsz I.sz, fun b o e hb => ?_, fun b hb z => ?_, I.stack, I.stkFree⟩,
  rfl, I.bare, Un.kept hk, ⟨m0, hn, fun i x v e1 e2 e3 => ?_⟩, fun x c e => ?_, hC, fun x c e => ?_, (fun p hp => nomatch hp), I.hok.kept hk, ?_⟩
 ·have hx' : (relabel scope X.env).names.lookup x = some .cell \/ (relabel scope X.env).names.lookup x = some .free := hx
  have : ∃ k', (x, k') ∈ scope.names /\ k' = .free := by
   rcases hx' with h | h
   ·obtain ⟨k', h1, h2⟩ := lookup_relabel h
    rcases h2 with h2 | h2
    ·exact absurd h2 (hmem _ h1).1
    ·exact ⟨k', h1, h2.1⟩
   ·obtain ⟨k', h1, h2⟩ := lookup_relabel h
    rcases h2 with h2 | h2
    ·exact ⟨k', h1, h2⟩
    ·exact ⟨k', h1, h2.1⟩
  obtain ⟨k', h1, h2⟩ := this
  exact Option.isSome_iff_exists.mp ((hmem _ h1).2 h2)
 ·obtain ⟨f0, f1, f2, f3, f4, f5⟩ := hf b hb
  exact ⟨Nat.ne_of_lt (hfs b hb), fun x c e => f4 x c (hcell x c e)⟩
 ·obtain ⟨f0, f1, f2, f3, f4, f5⟩ := hf b hb
  rcases f3 with f3 | f3
  ·exact I.ok.noex b o e f3
  ·exact absurd (Nat.lt_of_lt_of_le (Heap.lt_size e) (Nat.le_trans I.ok.bsz f3)) (Nat.lt_irrefl _)
 ·obtain ⟨f0, f1, f2, f3, f4, f5⟩ := hf b hb
  rcases List.mem_cons.mp (I.stkSub b z) with e | e
  ·exact f1 e
  ·exact f2 e
 ·-- a captured name
  have e2' : (capt lk σ)[i]? = some (some v) := e2
  unfold capt at e2'
  rw [List.getElem?_map] at e2'
  cases hq : lk[i]? with
  | none => rw [hq] at e2'; cases e2'
  | some o =>
   rw [hq] at e2'
   have e2'' : (o.bind fun j => (σ[j]?).join) = some v := Option.some.inj e2'
   cases o with
   | none => cases e2''
   | some j =>
    obtain ⟨q1, q2, q3, q4⟩ := hlk.2 i j x e1 hq
    have hσ : σ[j]? = some (some v) := by
     have z : (σ[j]?).join = some v := e2''
     cases hh : σ[j]? with
     | none => rw [hh] at z; cases z
     | some o => rw [hh] at z; rw [show o = some v from z]
    obtain ⟨m, hnX, hl⟩ := I.loc
    obtain ⟨u, r, lo⟩ := hl j x v q1 hσ (q2.elim (fun a => .inr (.inl a)) (fun a => .inr (.inr a)))
    refine ⟨u, r, .inr ?_⟩
    obtain ⟨c, hc⟩ := Option.isSome_iff_exists.mp q3
    refine ⟨q4, c, hc, ?_⟩
    have hcX := hcell x c hc
    rcases lo with ⟨k, _⟩ | ⟨_, c', hc', z⟩
    ·have k' : X.env.scope.names.lookup x = some .local := k
     rw [k'] at q2
     rcases q2 with q2 | q2 <;> cases q2
    ·rw [hcX] at hc'
     cases hc'
     obtain ⟨o, ho, hd⟩ := z
     exact ⟨o, hk c o ho, hd⟩
 ·obtain ⟨v, o, ho, hd⟩ := I.cell x c (hcell x c e)
  exact ⟨v, o, hk c o ho, hd⟩
 ·exact I.freeC x c (hcell x c e)
 ·show (capt lk σ).length = N'.length
  unfold capt
  rw [List.length_map]
  exact hlk.1
def PTs (X : Cx) (ifs : List Expr) (t : TT) : Prop :=
 ∀ (pins : List (Addr × Obj)) (s : Shared) (σ : St) (H : Hp) (Q : Bool -> Hp -> Prop), Inv X pins σ H s -> t σ H Q -> wpAny (model X.prog X.w) X.A (forIn ifs true fun c r => if r = true then do let ok <- isTrue c X.env (eval c X.env); pure (ForInStep.yield ok) else pure (ForInStep.yield r)) (TP X pins σ Q) X.xe s
def tTrue : TT := fun _ H Q => Q true H
theorem pts_nil : PTs X [] tTrue := fun pins s σ H Q I h => wpAny_tests_nil ⟨H, I, h⟩
theorem pts_one {c : Expr} {t : TT} (h : PT X c t) : PTs X [c] t := fun pins s σ H Q I q => wpAny_tests_one (h pins s σ H Q I q)
def tComp (wi : TI) (lk : List (Option Nat)) (g : TG) (tt : TT) (te : TE) : TE := fun σ H Q => wi σ H fun J H1 => ∀ D, H1 D = none -> ∃ W : Nat -> Nat -> List V -> St -> Hp -> Prop, (∃ m, W 0 m [] (capt lk σ) (upd H1 D (.lst []))) /\ ∀ i m xs σ' H', W i m xs σ' H' ->
 H' D = some (.lst xs) /\ ((J.stop i H' /\ Q (.ref D) H') \/ (J.go i H' /\ xs.length < sizeLine /\ ∀ x H'', J.yld i H' x H'' -> g x σ' H'' fun σ2 H2 => tt σ2 H2 fun b H3 =>
  if b = true then te σ2 H3 fun v H4 => H4 D = some (.lst xs) /\ ∃ m', m' < m /\ W (i + 1) m' (xs ++ [v]) σ2 (upd H4 D (.lst (xs ++ [v]))) else ∃ m', m' < m /\ W (i + 1) m' xs σ2 H3))
theorem pe_comp {elt iter tg : Expr} {ifs : List Expr} {scope : Scope} {pos : Pos} {cl : List (Str × Addr)} {N' : List Str} {lk : List (Option Nat)} {wi : TI} {g : TG} {tt : TT} {te : TE} (hc : X.calm = true) (hi : PI X tg iter wi) (hclos : closureFor scope X.env = pure cl) (hkind : scope.kind = .function)
  (hnames : ∀ y ∈ scope.names, y.2 = .local -> scope.names.lookup y.1 = some .local) (hcl : ClOk X.env cl) (hfr : FrOk scope.names cl = true) (hlk : LkOk X N' lk scope cl)
  (hg : ∀ s3 H3 fp, PG (compCx X scope cl N' s3 H3 fp fun _ _ => False) tg g) (ht : ∀ s3 H3 fp, PTs (compCx X scope cl N' s3 H3 fp fun _ _ => False) ifs tt) (he : ∀ s3 H3 fp, PE (compCx X scope cl N' s3 H3 fp fun _ _ => False) elt te)
  (hs : ∀ x, foldedSetIterable iter X.env x = pure x := by intro _; rfl) : PE X (.ListComp elt [⟨tg, iter, ifs, 0⟩] scope pos) (tComp wi lk g tt te) := by
 intro pins s σ H Q I h
 rw [eval_ListComp]
 have hcellN : ∀ y ∈ scope.names, y.2 ≠ .cell := fun y hy => by
  unfold FrOk at hfr
  rw [List.all_eq_true] at hfr
  have := hfr y hy
  rw [Bool.and_eq_true] at this
  simpa using this.1
 refine wpAny_comprehension_free (use := none) rfl hs hclos hkind hnames (thn (hi pins s σ H _ I h) fun v s1 h1 => thn h1 fun itv s2 h2 => ?_)
 obtain ⟨it, fp, tn, J, H2, e, I2, T, st2, f2, q⟩ := h2
 subst e
 refine wpAny_newList ?_ (Nat.zero_le _)
 have hD : H2 s2.heap.objs.size = none := I2.hok.fresh (Nat.le_refl _)
 have I3 := I2.lnew (ys := []) (its := []) (t' := s2.toks) .nil (Nat.zero_le _)
 obtain ⟨W, ⟨m0, w0⟩, turn⟩ := q s2.heap.objs.size hD
 have fpl : ∀ b ∈ fp, b < s2.heap.objs.size := fun b hb => by
  obtain ⟨o, ho, _⟩ := T.obj 0 s2.heap st2 b hb
  exact Heap.lt_size ho
 refine wpAny_newFunctionEnv hcellN (by intro y hy; cases hy) (fun h1 hns1 hsb1 => ?_) hkind
 dsimp only at hns1 hsb1 ⊢
 -- the state ahead of the frame, the block's context
 have e3 : s2.heap.push { cls := .type "list", dict := none, data := .seq ([] : List Value).toArray } = s2.heap.push { cls := .type "list", data := .seq ([] : List Value).toArray } := rfl
 generalize hh3 : s2.heap.push { cls := .type "list", dict := none, data := .seq ([] : List Value).toArray } = h3 at *
 have I3' : Inv X pins σ (upd H2 s2.heap.objs.size (.lst [])) { s2 with heap := h3, toks := s2.toks } := I3
 have size3 : h3.objs.size = s2.heap.objs.size + 1 := by rw [<- hh3, Heap.size_push]
 have f3 : ∀ b ∈ fp, FpOk X pins (upd H2 s2.heap.objs.size (.lst [])) b := fun b hb => by
  obtain ⟨f0, fr⟩ := f2 b hb
  exact ⟨by rw [upd_ne (Nat.ne_of_lt (fpl b hb))]; exact f0, fr⟩
 have up : ∀ b u, h3.get? b = some u -> h1.get? b = some u := fun b u eb => by
  rw [hsb1.2 b (Nat.ne_of_lt (Heap.lt_size eb))]
  exact Heap.get?_push_of_some _ eb
 have I4 : Inv (compCx X scope cl N' { s2 with heap := h3, toks := s2.toks } (upd H2 s2.heap.objs.size (.lst [])) fp fun _ _ => False) [] (capt lk σ) (upd H2 s2.heap.objs.size (.lst [])) { s2 with heap := h1, toks := s2.toks + ([] : List (Str × Value)).length } :=
  comp_start (s3 := { s2 with heap := h3, toks := s2.toks }) I3' f3 hkind hcl hfr hlk hns1 up fun b hb => by show b < h3.objs.size; rw [size3]; exact Nat.lt_succ_of_lt (fpl b hb)
 have st4 : tn 0 h1 := T.keep 0 s2.heap h1 st2 fun b hb o eb => up b o (by rw [<- hh3]; exact Heap.get?_push_of_some _ eb)
 have hCs : h3.objs.size = (compEnvC scope cl h3.objs.size X.env).locals := rfl
 -- what stays true of the iterator's objects
 have stat : ∀ {H' : Hp}, (∀ b ∈ fp, H' b = none) -> ∀ b ∈ fp, FpOk (compCx X scope cl N' { s2 with heap := h3, toks := s2.toks } (upd H2 s2.heap.objs.size (.lst [])) fp fun _ _ => False) [] H' b := fun {H'} hn b hb => by
  obtain ⟨f0, f1, f2', f3', f4, f5⟩ := f3 b hb
  refine ⟨hn b hb, ?_, fun z => ?_, .inl hb, fun x c ex => f4 x c (hcl.get ex), fun p hp => nomatch hp⟩
  ·show b ≠ h3.objs.size
   rw [size3]
   exact Nat.ne_of_lt (Nat.lt_succ_of_lt (fpl b hb))
  ·rcases List.mem_cons.mp (I3'.stkSub b z) with q | q
   ·exact f1 q
   ·exact f2' q
 -- the block's end
 have fin : ∀ (s' : Shared) (σ' : St) (H' : Hp), Inv (compCx X scope cl N' { s2 with heap := h3, toks := s2.toks } (upd H2 s2.heap.objs.size (.lst [])) fp fun _ _ => False) [] σ' H' s' -> Q (.ref s2.heap.objs.size) H' ->
   compPost (model X.prog X.w) X.A X.xe none (EP X pins σ Q) (.ref s2.heap.objs.size) h3.objs.size (.ok .next) s' := fun s' σ' H' I' q' => by
  obtain ⟨m, hm, _⟩ := id I'.loc
  have I5 : Inv X pins σ H' s' := I3'.call' (ch := fp) I'.os I'.base I'.hok I'.bare fun b hb => by
   obtain ⟨f0, f1, f2', f3', f4, f5⟩ := f3 b hb
   exact ⟨f3', f1, f4, f5⟩
  refine ⟨m, hm, fun h' hsb => ?_⟩
  refine ⟨.ref s2.heap.objs.size, H', ?_, rfl, q'⟩
  have hfc : H' h3.objs.size = none := I'.free
  have hcl1 : ∀ b o, h3.get? b = some o -> b ≠ h3.objs.size := fun b o eb => Nat.ne_of_lt (Heap.lt_size eb)
  obtain ⟨h0', g0, d0, t0, o0⟩ := s'
  refine I5.turned (t' := t0) (it := h3.objs.size) (fun b o hb eb => (hsb.2 b hb).trans eb) hfc ?_ (.inr I3'.sz) (fun x c ex z => ?_) (fun p hp z => ?_)
  ·exact Nat.ne_of_gt I3'.lt
  ·obtain ⟨v', q2⟩ := I3'.cell x c ex
   exact absurd q2.lt (by rw [z]; exact Nat.lt_irrefl _)
  ·exact absurd (Heap.lt_size (I3'.pin p hp).1) (by rw [z]; exact Nat.lt_irrefl _)
 have loop : ∀ s5 : Shared, s5 = { s2 with heap := h1, toks := s2.toks + ([] : List (Str × Value)).length } ->
   codeAny (model X.prog X.w) X.A (.compLoop (.ListComp elt [⟨tg, iter, ifs, 0⟩] scope pos) 0 (.ref it) (.ref s2.heap.objs.size) (compEnvC scope cl h3.objs.size X.env)) (compPost (model X.prog X.w) X.A X.xe none (EP X pins σ Q) (.ref s2.heap.objs.size) h3.objs.size) s5 := by
  rintro s5 rfl
  refine codeAny_loop rfl (fun n s' => ∃ i xs σ' H', Inv (compCx X scope cl N' { s2 with heap := h3, toks := s2.toks } (upd H2 s2.heap.objs.size (.lst [])) fp fun _ _ => False) [] σ' H' s' /\ tn i s'.heap /\ (∀ b ∈ fp, H' b = none) /\ W i n xs σ' H')
   (fun n s6 hI => ?_) m0 ⟨0, [], capt lk σ, _, I4, st4, fun b hb => (f3 b hb).1, w0⟩
  obtain ⟨i, xs, σ6, H6, I6, st6, fr6, w6⟩ := hI
  show wpAny _ X.A ((compTurn (.ListComp elt [⟨tg, iter, ifs, 0⟩] scope pos) 0 (.ref it) (.ref s2.heap.objs.size) (compEnvC scope cl h3.objs.size X.env)).onRaise (fun x => do noteFrame x (compEnvC scope cl h3.objs.size X.env); theTreesLotGoes x)) _ _ s6
  refine wpAny_noted ?_
  rw [compTurn_list]
  refine wpAny_bind (wpAny_standAt (wpAny_bind ?_))
  obtain ⟨hD6, hw⟩ := turn i n xs σ6 H6 w6
  rcases hw with ⟨stop, qn⟩ | ⟨go, hlen, step⟩
  ·refine thn (T.done (compCx X scope cl N' { s2 with heap := h3, toks := s2.toks } (upd H2 s2.heap.objs.size (.lst [])) fp fun _ _ => False) rfl rfl rfl hc i [] s6 σ6 H6 _ I6 (stat fr6) st6 stop) fun r s7 ⟨hr, I7⟩ => ?_
   subst hr
   exact wpAny_pure (fin s7 σ6 H6 I7 qn)
  ·refine thn (T.item (compCx X scope cl N' { s2 with heap := h3, toks := s2.toks } (upd H2 s2.heap.objs.size (.lst [])) fp fun _ _ => False) rfl rfl rfl hc i [] s6 σ6 H6 _ I6 (stat fr6) st6 go) fun r s7 ⟨u, hr, h7⟩ => ?_
   subst hr
   refine wpAny_bind (thn h7 fun _ s8 ⟨x, H8, I8, r8, y8, st8, fr8⟩ => ?_)
   have I8' := I8.pinned (stat fr8) (T.obj _ _ st8)
   refine wpAny_bind (wpAny_mono (hg _ _ _ _ s8 σ6 H8 x u _ I8' r8 (step x H8 y8)) (fun _ s9 ⟨σ9, H9, I9, q9⟩ => ?_) (fun _ _ z => False.elim z))
   refine wpAny_bind (wpAny_mono (ht _ _ _ _ s9 σ9 H9 _ I9 q9) (fun ok s10 ⟨H10, I10, q10⟩ => ?_) (fun _ _ z => False.elim z))
   have again : ∀ {σ' : St} {H' : Hp} {ys : List V} {s' : Shared}, Inv (compCx X scope cl N' { s2 with heap := h3, toks := s2.toks } (upd H2 s2.heap.objs.size (.lst [])) fp fun _ _ => False) ([] ++ pinsAt fp s8.heap) σ' H' s' -> (∃ m', m' < n /\ W (i + 1) m' ys σ' H') ->
     ∃ m', m' < n /\ ∃ i xs σ' H', Inv (compCx X scope cl N' { s2 with heap := h3, toks := s2.toks } (upd H2 s2.heap.objs.size (.lst [])) fp fun _ _ => False) [] σ' H' s' /\ tn i s'.heap /\ (∀ b ∈ fp, H' b = none) /\ W i m' xs σ' H' := fun {σ' H' ys s'} I' ⟨m', hm, w'⟩ => by
    refine ⟨m', hm, i + 1, ys, σ', H', I'.unpinned, T.keep _ _ _ st8 fun b hb o eb => (I'.pin (b, o) (List.mem_append_right _ (List.mem_append_right _ (mem_pinsAt hb eb)))).1, fun b hb => ?_, w'⟩
    obtain ⟨o, eb, _⟩ := T.obj _ _ st8 b hb
    exact (I'.pin (b, o) (List.mem_append_right _ (List.mem_append_right _ (mem_pinsAt hb eb)))).2.1
   cases ok with
   | false =>
    have q10' : ∃ m', m' < n /\ W (i + 1) m' xs σ9 H10 := by simpa using q10
    exact wpAny_pure ⟨rfl, again I10 q10'⟩
   | true =>
    rw [if_pos rfl] at q10
    refine wpAny_bind (wpAny_bind (wpAny_mono (he _ _ _ _ s10 σ9 H10 _ I10 q10) (fun y s11 ⟨v11, H11, I11, r11, hD11, q11⟩ => ?_) (fun _ _ z => False.elim z)))
    refine wpAny_bind (wpAny_mono (mt_append (X := compCx X scope cl N' { s2 with heap := h3, toks := s2.toks } (upd H2 s2.heap.objs.size (.lst [])) fp fun _ _ => False) _ s11 σ9 H11 (.ref s2.heap.objs.size) [v11] (.ref s2.heap.objs.size) [y] (fun _ H' => ∃ m', m' < n /\ W (i + 1) m' (xs ++ [v11]) σ9 H') I11 rfl (.cons r11 .nil) ⟨s2.heap.objs.size, xs, v11, rfl, rfl, hD11, hlen, q11⟩) (fun _ s12 ⟨_, H12, I12, _, q12⟩ => ?_) (fun _ _ z => False.elim z))
    exact wpAny_pure (wpAny_pure ⟨rfl, again I12 q12⟩)
 exact codeAny_compStart_list (loop _ rfl) (T.self X.A 0 _ _ _ st4 (loop _ rfl))
end
section
variable {X : Cx}
end
theorem comp_list {K : W.Frag} {a D : Addr} {ys : List V} {g : TG} {tt : TT} {te : TE} {Qd : Hp -> Prop} {σ0 : St} {H0 : Hp} (Pv : Nat -> List V -> St -> Hp -> Prop) (h0 : Pv 0 [] σ0 H0) (hz : ys.length <= sizeLine) (hl : ∀ i xs σ H, i <= ys.length -> Pv i xs σ H -> SqL K H a ys /\ H D = some (.lst xs) /\ xs.length <= i)
  (hs : ∀ i xs x σ H (N : List V -> St -> Hp -> Prop), (∀ xs' σ' H', Pv (i + 1) xs' σ' H' -> N xs' σ' H') -> ys[i]? = some x -> Pv i xs σ H -> g x σ H fun σ2 H2 => tt σ2 H2 fun b H3 => if b = true then te σ2 H3 fun v H4 => H4 D = some (.lst xs) /\ N (xs ++ [v]) σ2 (upd H4 D (.lst (xs ++ [v]))) else N xs σ2 H3)
  (hd : ∀ xs σ H, Pv ys.length xs σ H -> Qd H) :
  ∃ W : Nat -> Nat -> List V -> St -> Hp -> Prop, (∃ m, W 0 m [] σ0 H0) /\ ∀ i m xs σ' H', W i m xs σ' H' -> H' D = some (.lst xs) /\ (((Itl K a).stop i H' /\ Qd H') \/ ((Itl K a).go i H' /\ xs.length < sizeLine /\ ∀ x H'', (Itl K a).yld i H' x H'' -> g x σ' H'' fun σ2 H2 => tt σ2 H2 fun b H3 =>
   if b = true then te σ2 H3 fun v H4 => H4 D = some (.lst xs) /\ ∃ m', m' < m /\ W (i + 1) m' (xs ++ [v]) σ2 (upd H4 D (.lst (xs ++ [v]))) else ∃ m', m' < m /\ W (i + 1) m' xs σ2 H3)) := by
 refine ⟨fun i m xs σ H => m = ys.length - i /\ i <= ys.length /\ Pv i xs σ H, ⟨ys.length, by simp, Nat.zero_le _, h0⟩, ?_⟩
 rintro i m xs σ H ⟨rfl, hi, p⟩
 obtain ⟨q, hD, hx⟩ := hl i xs σ H hi p
 refine ⟨hD, ?_⟩
 by_cases hlt : i < ys.length
 ·refine .inr ⟨⟨ys, ys[i], q, by simp [hlt]⟩, by omega, fun x H'' y => ?_⟩
  obtain ⟨e, y⟩ := y
  subst e
  exact hs i xs x σ _ (fun zs σ' H' => ∃ m', m' < ys.length - i /\ m' = ys.length - (i + 1) /\ i + 1 <= ys.length /\ Pv (i + 1) zs σ' H') (fun zs σ' H' r => ⟨_, by omega, rfl, hlt, r⟩) (y ys q) p
 ·have e : i = ys.length := by omega
  subst e
  exact .inl ⟨⟨ys, q, Nat.le_refl _⟩, hd xs σ H p⟩
theorem comp_tup {K : W.Frag} {a D : Addr} {ys : List V} {g : TG} {tt : TT} {te : TE} {Qd : Hp -> Prop} {σ0 : St} {H0 : Hp} (Pv : Nat -> List V -> St -> Hp -> Prop) (h0 : Pv 0 [] σ0 H0) (hz : ys.length <= sizeLine) (hl : ∀ i xs σ H, i <= ys.length -> Pv i xs σ H -> SqT K H a ys /\ H D = some (.lst xs) /\ xs.length <= i)
  (hs : ∀ i xs x σ H (N : List V -> St -> Hp -> Prop), (∀ xs' σ' H', Pv (i + 1) xs' σ' H' -> N xs' σ' H') -> ys[i]? = some x -> Pv i xs σ H -> g x σ H fun σ2 H2 => tt σ2 H2 fun b H3 => if b = true then te σ2 H3 fun v H4 => H4 D = some (.lst xs) /\ N (xs ++ [v]) σ2 (upd H4 D (.lst (xs ++ [v]))) else N xs σ2 H3)
  (hd : ∀ xs σ H, Pv ys.length xs σ H -> Qd H) :
  ∃ W : Nat -> Nat -> List V -> St -> Hp -> Prop, (∃ m, W 0 m [] σ0 H0) /\ ∀ i m xs σ' H', W i m xs σ' H' -> H' D = some (.lst xs) /\ (((Itt K a).stop i H' /\ Qd H') \/ ((Itt K a).go i H' /\ xs.length < sizeLine /\ ∀ x H'', (Itt K a).yld i H' x H'' -> g x σ' H'' fun σ2 H2 => tt σ2 H2 fun b H3 =>
   if b = true then te σ2 H3 fun v H4 => H4 D = some (.lst xs) /\ ∃ m', m' < m /\ W (i + 1) m' (xs ++ [v]) σ2 (upd H4 D (.lst (xs ++ [v]))) else ∃ m', m' < m /\ W (i + 1) m' xs σ2 H3)) := by
 refine ⟨fun i m xs σ H => m = ys.length - i /\ i <= ys.length /\ Pv i xs σ H, ⟨ys.length, by simp, Nat.zero_le _, h0⟩, ?_⟩
 rintro i m xs σ H ⟨rfl, hi, p⟩
 obtain ⟨q, hD, hx⟩ := hl i xs σ H hi p
 refine ⟨hD, ?_⟩
 by_cases hlt : i < ys.length
 ·refine .inr ⟨⟨ys, ys[i], q, by simp [hlt]⟩, by omega, fun x H'' y => ?_⟩
  obtain ⟨e, y⟩ := y
  subst e
  exact hs i xs x σ _ (fun zs σ' H' => ∃ m', m' < ys.length - i /\ m' = ys.length - (i + 1) /\ i + 1 <= ys.length /\ Pv (i + 1) zs σ' H') (fun zs σ' H' r => ⟨_, by omega, rfl, hlt, r⟩) (y ys q) p
 ·have e : i = ys.length := by omega
  subst e
  exact .inl ⟨⟨ys, q, Nat.le_refl _⟩, hd xs σ H p⟩
mutual
def Dt (K : W.Frag) (H : Hp) : PyData -> V -> Prop
 | .none, v => v = .non
 | .bool b, v => v = .bl b
 | .int i, v => v = .int i
 | .str x, v => v = .str x
 | .list ds, v => ∃ a xs, v = .ref a /\ SqL K H a xs /\ DtAll K H ds xs
 | .tuple ds, v => ∃ a xs, v = .ref a /\ SqT K H a xs /\ DtAll K H ds xs
 | .dict _, _ => False
def DtAll (K : W.Frag) (H : Hp) : List PyData -> List V -> Prop
 | [], xs => xs = []
 | d :: ds, xs => ∃ y ys, xs = y :: ys /\ Dt K H d y /\ DtAll K H ds ys
end
section
variable {X : Cx} {pins : List (Addr × Obj)} {σ : St} {H : Hp} {s : Shared}
mutual
theorem Dt.reads (I : Inv X pins σ H s) : ∀ (d : PyData) (v : V) (u : Value), Dt X.K H d v -> RelV v u -> ∃ as, Reads s.heap u d as
 | .none, v, u, h, r => by unfold Dt at h; subst h; cases r; exact ⟨_, .none⟩
 | .bool b, v, u, h, r => by unfold Dt at h; subst h; cases r; exact ⟨_, .bool b⟩
 | .int i, v, u, h, r => by unfold Dt at h; subst h; obtain ⟨t, rfl⟩ := r; exact ⟨_, .int i t⟩
 | .str x, v, u, h, r => by unfold Dt at h; subst h; obtain ⟨t, rfl⟩ := r; exact ⟨_, .str x t⟩
 | .list ds, v, u, h, r => by
  unfold Dt at h
  obtain ⟨a, xs, rfl, hq, hd⟩ := h
  cases r
  obtain ⟨its, rv, ⟨o, n, ho, hc, _, hdd⟩, _⟩ := I.list hq
  obtain ⟨as, ra⟩ := DtAll.reads I ds xs its hd rv
  exact ⟨_, .list ho hc hdd (by simpa using ra)⟩
 | .tuple ds, v, u, h, r => by
  unfold Dt at h
  obtain ⟨a, xs, rfl, hq, hd⟩ := h
  cases r
  obtain ⟨its, rv, ⟨o, ho, hc, n, hdd⟩, _⟩ := I.tuple hq
  obtain ⟨as, ra⟩ := DtAll.reads I ds xs its hd rv
  exact ⟨_, .tuple ho hc hdd (by simpa using ra)⟩
 | .dict _, v, u, h, r => by unfold Dt at h; exact h.elim
theorem DtAll.reads (I : Inv X pins σ H s) : ∀ (ds : List PyData) (xs : List V) (us : List Value), DtAll X.K H ds xs -> Vals xs us -> ∃ as, ReadsAll s.heap us ds as
 | [], xs, us, h, r => by unfold DtAll at h; subst h; cases r; exact ⟨_, .nil⟩
 | d :: ds, xs, us, h, r => by
  unfold DtAll at h
  obtain ⟨y, ys, rfl, h1, h2⟩ := h
  cases r with
  | cons q t =>
   obtain ⟨as, ra⟩ := Dt.reads I d y _ h1 q
   obtain ⟨bs, rb⟩ := DtAll.reads I ds ys _ h2 t
   exact ⟨_, .cons ra rb⟩
end
end
mutual
theorem Dt.same {K : W.Frag} {H H' : Hp} (hs : ∀ b o, H b = some o -> H' b = some o) : ∀ (d : PyData) (v : V), Dt K H d v -> Dt K H' d v
 | .none, v, h => by unfold Dt at h ⊢; exact h
 | .bool b, v, h => by unfold Dt at h ⊢; exact h
 | .int i, v, h => by unfold Dt at h ⊢; exact h
 | .str x, v, h => by unfold Dt at h ⊢; exact h
 | .list ds, v, h => by
  unfold Dt at h ⊢
  obtain ⟨a, xs, rfl, hq, hd⟩ := h
  refine ⟨a, xs, rfl, ?_, DtAll.same hs ds xs hd⟩
  rcases hq with (h | ⟨o, h⟩) | h
  ·exact .inl (.inl (hs _ _ h))
  ·exact .inl (.inr ⟨o, hs _ _ h⟩)
  ·exact .inr h
 | .tuple ds, v, h => by
  unfold Dt at h ⊢
  obtain ⟨a, xs, rfl, hq, hd⟩ := h
  refine ⟨a, xs, rfl, ?_, DtAll.same hs ds xs hd⟩
  rcases hq with (h | ⟨o, h⟩) | h
  ·exact .inl (.inl (hs _ _ h))
  ·exact .inl (.inr ⟨o, hs _ _ h⟩)
  ·exact .inr h
 | .dict _, v, h => by unfold Dt at h; exact h.elim
theorem DtAll.same {K : W.Frag} {H H' : Hp} (hs : ∀ b o, H b = some o -> H' b = some o) : ∀ (ds : List PyData) (xs : List V), DtAll K H ds xs -> DtAll K H' ds xs
 | [], xs, h => by unfold DtAll at h ⊢; exact h
 | d :: ds, xs, h => by
  unfold DtAll at h ⊢
  obtain ⟨y, ys, rfl, h1, h2⟩ := h
  exact ⟨y, ys, rfl, Dt.same hs d y h1, DtAll.same hs ds ys h2⟩
end
def dP (k : List Int) : PyData := .tuple (k.map .int)
theorem DtAll.ints {K : W.Frag} {H : Hp} : ∀ (k : List Int), DtAll K H (k.map PyData.int) (k.map V.int)
 | [] => by unfold DtAll; rfl
 | i :: k => by
  rw [List.map_cons, List.map_cons]
  unfold DtAll
  exact ⟨_, _, rfl, by unfold Dt; rfl, DtAll.ints k⟩
theorem DtAll.tups {K : W.Frag} {H : Hp} : ∀ {ys : List V} {ks : List (List Int)}, Tups K H ys ks -> DtAll K H (ks.map dP) ys
 | _, _, .nil => by unfold DtAll; rfl
 | _, _, .cons r t => by
  obtain ⟨a, rfl, h⟩ := r
  rw [List.map_cons]
  unfold DtAll
  refine ⟨_, _, rfl, ?_, DtAll.tups t⟩
  unfold dP Dt
  exact ⟨a, _, rfl, h, DtAll.ints _⟩
theorem lay_ints : ∀ k : List Int, PyData.canLayAll0 (k.map .int) = true
 | [] => by simp [PyData.canLayAll0]
 | i :: k => by rw [List.map_cons]; simp [PyData.canLayAll0, PyData.canLay0, lay_ints k]
theorem lay_pairs : ∀ ks : List (List Int), PyData.canLayAll0 (ks.map dP) = true
 | [] => by simp [PyData.canLayAll0]
 | k :: ks => by rw [List.map_cons]; simp [PyData.canLayAll0, PyData.canLay0, dP, lay_ints k, lay_pairs ks]
theorem eqv_ints : ∀ k k' : List Int, PyData.eqvAll (k.map .int) (k'.map .int) = decide (k = k')
 | [], [] => by simp [PyData.eqvAll]
 | [], _ :: _ => by simp [PyData.eqvAll]
 | _ :: _, [] => by simp [PyData.eqvAll]
 | i :: k, j :: k' => by
  rw [List.map_cons, List.map_cons]
  simp only [PyData.eqvAll, PyData.eqv, eqv_ints k k']
  by_cases h : i = j
  ·subst h; simp
  ·simp [h]
theorem eqv_pairs : ∀ ks ks' : List (List Int), PyData.eqvAll (ks.map dP) (ks'.map dP) = decide (ks = ks')
 | [], [] => by simp [PyData.eqvAll]
 | [], _ :: _ => by simp [PyData.eqvAll]
 | _ :: _, [] => by simp [PyData.eqvAll]
 | k :: ks, k' :: ks' => by
  rw [List.map_cons, List.map_cons]
  simp only [PyData.eqvAll, PyData.eqv, dP, eqv_ints k k']
  rw [eqv_pairs ks ks']
  by_cases h : k = k'
  ·subst h; simp
  ·simp [h]
theorem dep_ints : ∀ k : List Int, PyData.depthAll (k.map .int) <= 1
 | [] => by simp [PyData.depthAll]
 | i :: k => by
  have := dep_ints k
  rw [List.map_cons]
  simp only [PyData.depthAll, PyData.depth]
  omega
theorem dep_pairs : ∀ ks : List (List Int), PyData.depthAll (ks.map dP) <= 2
 | [] => by simp [PyData.depthAll]
 | k :: ks => by
  have h1 := dep_ints k
  have h2 := dep_pairs ks
  rw [List.map_cons]
  simp only [PyData.depthAll, PyData.depth, dP] at h2 ⊢
  omega
section
variable {X : Cx}
def rEqD (K : W.Frag) (A : Around) (neg : Bool) : R2 := fun x y H Q => ∃ dx dy, Dt K H dx x /\ Dt K H dy y /\ dx.canLay0 = true /\ dy.canLay0 = true /\ A.units + min dx.depth dy.depth < cLine /\ Q (.bl (if neg then !PyData.eqv dx dy else PyData.eqv dx dy)) H
theorem op_eqD : OpR X (compareOp .Eq) (rEqD X.K X.A false) := by
 intro pins s σ H x y v u Q I rx ry h
 obtain ⟨dx, dy, h1, h2, h3, h4, h5, q⟩ := h
 obtain ⟨as, ra⟩ := h1.reads I dx x v rx
 obtain ⟨bs, rb⟩ := h2.reads I dy y u ry
 exact SeqAt.compareEq_reads ra rb h3 h4 h5 ⟨.bl _, H, I, rfl, q⟩
theorem op_neD : OpR X (compareOp .NotEq) (rEqD X.K X.A true) := by
 intro pins s σ H x y v u Q I rx ry h
 obtain ⟨dx, dy, h1, h2, h3, h4, h5, q⟩ := h
 obtain ⟨as, ra⟩ := h1.reads I dx x v rx
 obtain ⟨bs, rb⟩ := h2.reads I dy y u ry
 exact SeqAt.compareNe_reads ra rb h3 h4 h5 ⟨.bl _, H, I, rfl, q⟩
theorem call_isinst : CallR X (.builtin "isinstance") (fun xs H Q => ∃ x c t b, xs = [x, .ty c] /\ TyOf X.K H x t /\ PySem.W.kitOne X.K t (.type c) = some b /\ Q (.bl b) H) := by
 intro pins s σ H xs us Q I r h
 obtain ⟨x, c, t, b, rfl, ty, e, q⟩ := h
 obtain ⟨u, v, rfl, ru, rv⟩ := r.two
 cases (show v = Value.type c from rv)
 exact isinst_ok I ru ty e fun tk => ⟨.bl b, H, I.tok _, rfl, q⟩
end
end L2
namespace L2
open PySem PySem.Spec PyProof.Rows
section
variable {X : Cx}
theorem call_sum (hc : X.calm = true) : CallR X (.builtin "sum") (fun xs H Q => ∃ (p : Addr) (ns : List Int), xs = [.ref p] /\ SqL X.K H p (ns.map V.int) /\ Q (.int ns.sum) H) := by
 intro pins s σ H xs us Q I r h
 obtain ⟨p, ns, rfl, hq, q⟩ := h
 obtain ⟨u, rfl, rx⟩ := vals1 r
 cases rx
 obtain ⟨its, r', pl, hz⟩ := I.list hq
 have hi : IntsAre its ns := intsAre_of r'
 obtain ⟨ys, e⟩ := hi.allInts.items
 refine sum_intListG (xs := ys) (I.ok.hd hc) (by rw [<- e]; exact pl.isList) fun h' tk t' hk => ⟨.int ns.sum, H, I.kept (t' := tk) hk, ⟨t', ?_⟩, q⟩
 have e2 : numsOf (intItems ys).toList = ns := by rw [<- e]; exact hi.numsOf
 rw [nums_intItems] at e2
 rw [preSum_eq, List.take_of_length_le (by simp), e2]
end
section
variable {X : Cx}
theorem call_isinstT : CallR X (.builtin "isinstance") (fun xs H Q => ∃ a ys c b, xs = [.ref a, .ty c] /\ SqT X.K H a ys /\ PySem.W.kitOne X.K (.type "tuple") (.type c) = some b /\ Q (.bl b) H) := by
 intro pins s σ H xs us Q I r h
 obtain ⟨a, ys, c, b, rfl, hq, e, q⟩ := h
 obtain ⟨u, v, rfl, ru, rv⟩ := r.two
 cases (show v = Value.type c from rv)
 cases ru
 obtain ⟨its, rt, ⟨o, h1, h2, _⟩, hz⟩ := I.tuple hq
 exact PySem.W.kia_one PySem.W.kitx_tuple I.kIn ⟨o, h1, h2⟩ e (fun z => nomatch z) fun tk => ⟨.bl b, H, I.tok _, rfl, q⟩
end
def LkL (X : Cx) (scope : Scope) (cl : List (Str × Addr)) : List Str -> List (Option Nat) -> Prop
 | [], [] => True
 | _ :: N, none :: lk => LkL X scope cl N lk
 | x :: N, some j :: lk => (X.N[j]? = some x /\ (X.env.scope.names.lookup x = some .cell \/ X.env.scope.names.lookup x = some .free) /\ (cl.lookup x).isSome = true /\
  ((compEnvC scope cl 0 X.env).kindOf x = some .cell \/ (compEnvC scope cl 0 X.env).kindOf x = some .free)) /\ LkL X scope cl N lk
 | _, _ => False
theorem LkL.len {X : Cx} {scope : Scope} {cl : List (Str × Addr)} : ∀ {N : List Str} {lk : List (Option Nat)}, LkL X scope cl N lk -> lk.length = N.length
 | [], [], _ => rfl
 | _ :: N, none :: lk, h => congrArg (· + 1) (LkL.len (N := N) (lk := lk) h)
 | _ :: N, some _ :: lk, h => congrArg (· + 1) (LkL.len (N := N) (lk := lk) h.2)
 | [], _ :: _, h => h.elim
 | _ :: _, [], h => h.elim
theorem LkL.get {X : Cx} {scope : Scope} {cl : List (Str × Addr)} : ∀ {N : List Str} {lk : List (Option Nat)}, LkL X scope cl N lk -> ∀ (i j : Nat) (x : Str), N[i]? = some x -> lk[i]? = some (some j) ->
  X.N[j]? = some x /\ (X.env.scope.names.lookup x = some .cell \/ X.env.scope.names.lookup x = some .free) /\ (cl.lookup x).isSome = true /\ ((compEnvC scope cl 0 X.env).kindOf x = some .cell \/ (compEnvC scope cl 0 X.env).kindOf x = some .free)
 | [], [], _, i, j, x, h1, _ => by simp at h1
 | _ :: N, none :: lk, h, 0, j, x, h1, h2 => by simp at h2
 | _ :: N, none :: lk, h, i + 1, j, x, h1, h2 => LkL.get (N := N) (lk := lk) h i j x (by simpa using h1) (by simpa using h2)
 | y :: N, some k :: lk, h, 0, j, x, h1, h2 => by
  simp at h1 h2
  subst h1 h2
  exact h.1
 | _ :: N, some _ :: lk, h, i + 1, j, x, h1, h2 => LkL.get (N := N) (lk := lk) h.2 i j x (by simpa using h1) (by simpa using h2)
 | [], _ :: _, h, _, _, _, _, _ => h.elim
 | _ :: _, [], h, _, _, _, _, _ => h.elim
theorem LkL.ok {X : Cx} {scope : Scope} {cl : List (Str × Addr)} {N : List Str} {lk : List (Option Nat)} (h : LkL X scope cl N lk) : LkOk X N lk scope cl := ⟨h.len, h.get⟩
theorem tTrue_if {σ : St} {H : Hp} {A B : Hp -> Prop} (h : A H) : tTrue σ H (fun b H3 => if b = true then A H3 else B H3) := by
 show if true = true then A H else B H
 exact iteT h
theorem gName_to {i : Nat} {v : V} {σ : St} {H : Hp} {Q : St -> Hp -> Prop} (h : Q (σ.set i (some v)) H) : gName i v σ H Q := h
theorem SqT.updL {K : W.Frag} {H : Hp} {a l : Addr} {xs : List V} {ys zs : List V} (h : SqT K H a ys) (hl : H l = some (.lst xs)) : SqT K (upd H l (.lst zs)) a ys := by
 rcases h with (h | ⟨o, h⟩) | h
 ·exact .inl (.inl (by rw [upd_ne (ne_of h hl (by intro z; cases z))]; exact h))
 ·exact .inl (.inr ⟨o, by rw [upd_ne (ne_of h hl (by intro z; cases z))]; exact h⟩)
 ·exact .inr h
theorem Tups.updL {K : W.Frag} {H : Hp} {l : Addr} {xs zs : List V} (hl : H l = some (.lst xs)) : ∀ {ys : List V} {ks : List (List Int)}, Tups K H ys ks -> Tups K (upd H l (.lst zs)) ys ks
 | _, _, .nil => .nil
 | _, _, .cons r t => by
  obtain ⟨a, h1, h2⟩ := r
  exact .cons ⟨a, h1, h2.updL hl⟩ (Tups.updL hl t)
theorem Tups.one {K : W.Frag} {H : Hp} {a : Addr} {k : List Int} (h : SqT K H a (k.map V.int)) : Tups K H [.ref a] [k] := .cons ⟨a, rfl, h⟩ .nil
theorem Same.seqT {K : W.Frag} {H H' : Hp} {a : Addr} {xs : List V} (e : Same H H') (h : SqT K H a xs) : SqT K H' a xs := by
 rcases h with (h | ⟨o, h⟩) | h
 ·exact .inl (.inl (e _ _ h))
 ·exact .inl (.inr ⟨o, e _ _ h⟩)
 ·exact .inr h
theorem Same.tups {K : W.Frag} {H H' : Hp} {ys : List V} {ks : List (List Int)} (e : Same H H') (h : Tups K H ys ks) : Tups K H' ys ks := Tups.same e h
theorem Same.upd {H H' : Hp} {l : Addr} {o : HO} (e : Same H H') (h : H l = none) : Same H (upd H' l o) := fun b u q => by
 rw [upd_ne (ne_of_none q h)]
 exact e b u q
end L2
namespace L2
open PySem
theorem gName_eq {i : Nat} {v v' : V} {σ : St} {H : Hp} {Q : St -> Hp -> Prop} (e : v = v') (h : gName i v' σ H Q) : gName i v σ H Q := by
 rw [e]
 exact h
theorem call_isinstK {X : Cx} (K : W.Frag) (hK : X.K = K) : CallR X (.builtin "isinstance") (fun xs H Q => ∃ x c t b, xs = [x, .ty c] /\ TyOf K H x t /\ PySem.W.kitOne K t (.type c) = some b /\ Q (.bl b) H) := by
 subst hK
 exact call_isinst
theorem un_lt {u d : Nat} (h : u + 64 < cLine) (hd : d <= 64) : u + d < cLine := by omega
theorem Dt.mkL {K : W.Frag} {H : Hp} {a : Addr} {xs : List V} {ds : List PyData} (h : SqL K H a xs) (d : DtAll K H ds xs) : Dt K H (.list ds) (.ref a) := by unfold Dt; exact ⟨a, xs, rfl, h, d⟩
theorem Dt.mkT {K : W.Frag} {H : Hp} {a : Addr} {xs : List V} {ds : List PyData} (h : SqT K H a xs) (d : DtAll K H ds xs) : Dt K H (.tuple ds) (.ref a) := by unfold Dt; exact ⟨a, xs, rfl, h, d⟩
theorem DtAll.mkN {K : W.Frag} {H : Hp} : DtAll K H [] [] := by unfold DtAll; rfl
theorem DtAll.mkC {K : W.Frag} {H : Hp} {d : PyData} {x : V} {ds : List PyData} {xs : List V} (h : Dt K H d x) (t : DtAll K H ds xs) : DtAll K H (d :: ds) (x :: xs) := by unfold DtAll; exact ⟨x, xs, rfl, h, t⟩
theorem gName_int {i : Nat} {z : Int} {σ : St} {H : Hp} {Q : St -> Hp -> Prop} (h : ∀ c : Int, c = z -> gName i (.int c) σ H Q) : gName i (.int z) σ H Q := h z rfl
theorem int_at {ns : List Int} {i : Nat} {x : V} (h : (ns.map V.int)[i]? = some x) : ∃ z : Int, x = V.int z := by
 rw [List.getElem?_map] at h
 cases e : ns[i]? with
 | none => rw [e] at h; cases h
 | some z => rw [e] at h; exact ⟨z, (Option.some.inj h).symm⟩
theorem cutV_ints (ns : List Int) (lo hi : Option Int) : ∃ ms : List Int, cutV (ns.map V.int) lo hi = ms.map V.int /\ ms.length <= ns.length := by
 unfold cutV
 rw [<- List.map_drop, <- List.map_take]
 exact ⟨_, rfl, by rw [List.length_take, List.length_drop]; omega⟩
theorem ixN_nat {n j : Nat} (h : j < n) : ixN n (j : Int) = some j := by
 unfold ixN
 rw [if_pos (by omega), if_pos (by omega)]
 simp
theorem eqv_dP (a b : List Int) : PyData.eqv (dP a) (dP b) = decide (a = b) := by
 unfold dP
 simp only [PyData.eqv]
 exact eqv_ints a b
theorem lay_dP (k : List Int) : (dP k).canLay0 = true := by simp [dP, PyData.canLay0, lay_ints]
theorem dep_dP (k : List Int) : (dP k).depth <= 2 := by
 have := dep_ints k
 simp only [dP, PyData.depth]
 omega
theorem Dt.mkP {K : W.Frag} {H : Hp} {a : Addr} {k : List Int} (h : SqT K H a (k.map V.int)) : Dt K H (dP k) (.ref a) := by
 unfold dP
 exact Dt.mkT h (DtAll.ints k)
theorem lay_li (k : List Int) : (PyData.list (k.map .int)).canLay0 = true := by simp [PyData.canLay0, lay_ints]
theorem dep_li (k : List Int) : (PyData.list (k.map .int)).depth <= 2 := by
 have := dep_ints k
 simp only [PyData.depth]
 omega
theorem eqv_li (a b : List Int) : PyData.eqv (.list (a.map .int)) (.list (b.map .int)) = decide (a = b) := by
 simp only [PyData.eqv]
 exact eqv_ints a b
theorem Dt.mkLi {K : W.Frag} {H : Hp} {a : Addr} {k : List Int} (h : SqL K H a (k.map V.int)) : Dt K H (.list (k.map .int)) (.ref a) := Dt.mkL h (DtAll.ints k)
theorem Tups.dtAll {K : W.Frag} {H : Hp} {ys : List V} {ks : List (List Int)} (t : Tups K H ys ks) : DtAll K H (ks.map dP) ys := DtAll.tups t
end L2
namespace Web
open PySem L2
def Asc (ks : List (List Int)) : Prop := ks.Pairwise fun a b => Tim.lexB a b = true
def up : List Int -> List Int
 | [a, b] => [if b < a then b else a, if b > a then b else a]
 | k => k
end Web
namespace L2
open PySem
def Room.around {k : Nat} {A : Around} (_ : Room k A) : Around := A
theorem op_neDK {X : Cx} (K : W.Frag) (A : Around) (hK : X.K = K) (hA : X.A = A) : OpR X (compareOp .NotEq) (rEqD K A true) := by subst hK hA; exact op_neD
end L2
namespace L2
open PySem PySem.Spec PyProof.Rows
section
variable {X : Cx} {o e : Expr} {es : List Expr} {to : TE} {t : TA} {name : Str} {apos cpos : Pos} {T id : String} {r : V -> List V -> Hp -> VK -> Prop}
end
section
variable {prog : Program} {w : World} {A : Around} {E : Value -> Shared -> Prop} {s : Shared}
end
section
variable {X : Cx} {pins : List (Addr × Obj)} {σ : St} {H : Hp} {s : Shared} {A : Around} {E : Value -> Shared -> Prop}
end
section
variable {X : Cx} {pins : List (Addr × Obj)} {σ : St} {H : Hp} {s : Shared} {A : Around} {E : Value -> Shared -> Prop}
end
section
variable {X : Cx} {pins : List (Addr × Obj)} {σ : St} {H : Hp} {s : Shared} {A : Around} {E : Value -> Shared -> Prop}
end
section
variable {X : Cx} {pins : List (Addr × Obj)} {σ : St} {H : Hp} {s : Shared} {A : Around}
end
structure LamB (base : Heap) (mg : Str -> Option Value) (c P : Addr) : Prop where
 hd : PySem.W.CodeHd base c P
 blt : base.BuiltinsAt mg P
 ne : mainGlobals ≠ P
section
variable {X : Cx}
end
section
variable {X : Cx}
end
theorem ObjOk.there {P : Program} {w : World} {H : Hp} {h : Heap} {a : Addr} {o : HO} (x : ObjOk P w H h a o) : ∃ ob, h.get? a = some ob := by
 cases o with
 | lst xs => obtain ⟨_, _, _, _, e⟩ := x; exact ⟨_, e⟩
 | tup xs => obtain ⟨_, _, _, ob, e, _⟩ := x; exact ⟨_, e⟩
 | dK kvs => obtain ⟨_, _, _, _, o, _, _, e, _⟩ := x; exact ⟨_, e⟩
 | dT kvs => obtain ⟨_, _, _, _, o, _, _, e, _⟩ := x; exact ⟨_, e⟩
 | set S n => obtain ⟨o, _, _, _, e, _⟩ := x; exact ⟨_, e⟩
 | ins C dx fs => obtain ⟨_, _, _, e, _⟩ := x; exact ⟨_, e⟩
 | own y => obtain ⟨ob, e⟩ := x; exact ⟨ob, e⟩
 | xd fs => obtain ⟨_, ⟨_, _, _, e, _⟩, _⟩ := x; exact ⟨_, e⟩
 | rng lo hi => obtain ⟨_, _, _, e⟩ := x; exact ⟨_, e⟩
 | frz ob u => obtain ⟨e, _⟩ := x; exact ⟨_, e⟩
 | tbl ps => exact ⟨_, (show h.get? a = some _ from x)⟩
 | met f y => exact ⟨_, (show h.get? a = some _ from x)⟩
 | ext φ => obtain ⟨_, ⟨ob, e⟩, _⟩ := x; exact ⟨ob, e⟩
theorem HOk.stays {P : Program} {w : World} {H : Hp} {h h' : Heap} (ok : HOk P w H h) (k : ∀ b o, h.get? b = some o -> H b ≠ none -> h'.get? b = some o) : HOk P w H h' := fun a o e =>
 (ok a o e).stay (fun b u hb q => k b u q (by
  rcases hb with z | z
  ·rw [z, e]; simp
  ·rw [z]; simp)) (fun _ q => q) fun _ _ q => q
def Flies (outer : List Env) (x : Addr) (cls : Value) (h0 : Heap) (H' : Hp) (h' : Heap) : Prop :=
 ∃ (B : Heap) (a0 : Value), Heap.FlyingW B outer x cls a0 h' /\ ∀ b o, h'.get? b = some o -> (H' b ≠ none \/ h0.get? b ≠ none) -> b ∉ frs outer -> B.get? b = some o
def CXE (P : Program) (w : World) : CXT := fun outer H s E e s' =>
 ∃ (x : Addr) (cls : Value) (H' : Hp), e = .ref x /\ s'.os = s.os /\ AllBare s'.gens /\ Un (frs outer) [] H H' s.heap s'.heap /\ HOk P w H' s'.heap /\ s.heap.get? x = none /\ H' x = none /\ Flies outer x cls s.heap H' s'.heap /\ E cls none H'
theorem Un.onto {fs : List Addr} {H H' : Hp} {h h' h'' : Heap} (u : Un fs [] H H' h h') (stay : ∀ b o, h'.get? b = some o -> h.get? b ≠ none -> b ∉ fs -> h''.get? b = some o)
  (slots : ∀ b o, h'.get? b = some o -> h.get? b ≠ none -> b ∈ fs -> ∃ sl, h''.get? b = some { o with slots := sl }) : Un fs [] H H' h h'' where
 keep := fun b o e n hb hx => stay b o (u.keep b o e n hb hx) (by rw [e]; simp) hb
 slot := fun b o e n hb hx => by
  obtain ⟨sl, e1⟩ := u.slot b o e n hb hx
  obtain ⟨sl2, e2⟩ := slots b _ e1 (by rw [e]; simp) hb
  exact ⟨sl2, e2⟩
 free := u.free
 there := fun b o e hx => by
  obtain ⟨o', e1⟩ := u.there b o e hx
  by_cases hb : b ∈ fs
  ·obtain ⟨sl, e2⟩ := slots b o' e1 (by rw [e]; simp) hb
   exact ⟨_, e2⟩
  ·exact ⟨o', stay b o' e1 (by rw [e]; simp) hb⟩
 tups := u.tups
 frzs := u.frzs
 tbls := u.tbls
theorem some_of_ne {α : Type} {o : Option α} (h : o ≠ none) : ∃ x, o = some x := by
 cases o with
 | none => exact absurd rfl h
 | some x => exact ⟨x, rfl⟩
theorem frs_cons {env : Env} {outer : List Env} {L : Addr} (h : env.frame = some L) : frs (env :: outer) = L :: frs outer := by
 unfold frs
 rw [List.filterMap_cons, h]
section
variable {P : Program} {w : World} {K : W.Frag} {mg : Str -> Option Value} {base : Heap} {N : List Str} {qual : Str} {scope : Scope} {f : Addr} {cd : Value} {A : Around} {outer : List Env} {s : Shared} {H : Hp} {E : XK}
 {pins : List (Addr × Obj)} {σ : St} {H1 : Hp} {s1 : Shared}
theorem xe_made {e : Addr} {cls : Value} {vs : List Value} {h2 : Heap} (I : Inv (cxOf (CXE P w) P w K mg base N qual scope f cd A outer s H E) pins σ H1 s1) (hx : Heap.MadeExcOf s1.heap h2 e cls vs) (hE : E cls none H1) :
  (cxOf (CXE P w) P w K mg base N qual scope f cd A outer s H E).xe (.ref e) { s1 with heap := h2 } := by
 have hst := I.stack
 have hfr := I.ok.frames
 have hlt := I.lt
 have hL := I.free
 have hab := I.ok.above
 have hbs : Un (frs outer) [] H H1 s.heap s1.heap := I.base
 change s1.heap.FunFrames base (envOfC qual scope s.heap.objs.size f cd :: outer) at hst
 change (A.deeper (envOfC qual scope s.heap.objs.size f cd)).frames = some (envOfC qual scope s.heap.objs.size f cd :: outer) at hfr
 change H1 s.heap.objs.size = none at hL
 have hff : frs (envOfC qual scope s.heap.objs.size f cd :: outer) = s.heap.objs.size :: frs outer := frs_cons rfl
 have hin : ∀ env ∈ (envOfC qual scope s.heap.objs.size f cd :: outer), ∀ b, env.frame = some b -> b ∈ frs (envOfC qual scope s.heap.objs.size f cd :: outer) := fun env he b hb => List.mem_filterMap.mpr ⟨env, he, hb⟩
 have old : ∀ b, (H1 b ≠ none \/ s.heap.get? b ≠ none) -> b ∉ frs outer -> ∃ o, s1.heap.get? b = some o /\ b ∉ frs (envOfC qual scope s.heap.objs.size f cd :: outer) := fun b hb hno => by
  have hne : b ≠ s.heap.objs.size := by
   rcases hb with z | z
   ·intro q; rw [q] at z; exact z hL
   ·obtain ⟨o, z⟩ := some_of_ne z
    exact Nat.ne_of_lt (Heap.lt_size z)
  have hex : ∃ o, s1.heap.get? b = some o := by
   rcases hb with z | z
   ·obtain ⟨o, z⟩ := some_of_ne z
    exact (I.hok b o z).there
   ·obtain ⟨o, z⟩ := some_of_ne z
    exact hbs.there b o z (by simp)
  obtain ⟨o, ho⟩ := hex
  refine ⟨o, ho, ?_⟩
  rw [hff]
  intro hm
  rcases List.mem_cons.mp hm with q | q
  ·exact hne q
  ·exact hno q
 have eNew : s.heap.get? e = none := by
  cases q : s.heap.get? e with
  | none => rfl
  | some o =>
   obtain ⟨o', z⟩ := hbs.there e o q (by simp)
   rw [hx.new] at z
   cases z
 have eFree : H1 e = none := by
  cases q : H1 e with
  | none => rfl
  | some o =>
   obtain ⟨o', z⟩ := (I.hok e o q).there
   rw [hx.new] at z
   cases z
 refine wpAny_leaves_madeW (base := PySem.W.hideAll s1.heap (frs (envOfC qual scope s.heap.objs.size f cd :: outer))) hfr rfl (fun b o q => PySem.W.of_hideAll _ q) (PySem.W.funFrames_hide hst hin) hx fun h' t x1 x2 x3 x4 => ?_
 have stay : ∀ b o, s1.heap.get? b = some o -> (H1 b ≠ none \/ s.heap.get? b ≠ none) -> b ∉ frs outer -> h'.get? b = some o := fun b o ho hb hno => by
  obtain ⟨o', ho', hm⟩ := old b hb hno
  rw [ho] at ho'
  cases ho'
  exact x1.1 b o (PySem.W.hideAll_get _ ho hm)
 have frNone : ∀ b ∈ frs outer, H1 b = none := fun b hb => I.stkFree b (by
  show b ∈ frs (envOfC qual scope s.heap.objs.size f cd :: outer)
  rw [hff]
  exact List.mem_cons_of_mem _ hb)
 refine ⟨e, cls, H1, rfl, I.os, I.bare, hbs.onto (fun b o ho hh hno => stay b o ho (.inr hh) hno) (fun b o ho hh hm => ?_), I.hok.stays fun b o ho hh => stay b o ho (.inl hh) fun hm => hh (frNone b hm), eNew, eFree, ⟨_, _, x1, fun b o ho hb hno => ?_⟩, hE⟩
 ·obtain ⟨_, o', ho', hd⟩ := hst.mem (b := b) (by
   show b ∈ frs (envOfC qual scope s.heap.objs.size f cd :: outer)
   rw [hff]
   exact List.mem_cons_of_mem _ hm)
  rw [ho] at ho'
  cases ho'
  exact x4 b o (hx.keeps b o ho) hd
 ·obtain ⟨o', ho', hm⟩ := old b hb hno
  have := stay b o' ho' hb hno
  rw [ho] at this
  cases this
  exact PySem.W.hideAll_get _ ho' hm
end
theorem Fun.okX {P : Program} {w : World} {K : W.Frag} {mg : Str -> Option Value} {base : Heap} {x qual : Str} {st : Stmt} {f : Addr} {fd : FuncData} {N ps : List Str} {k : Nat} {sp : Sp} (F : Fun K x qual st f fd) (S : FnScope N ps (defScope st)) (len : ∀ vs H Q E, sp vs H Q E -> vs.length = ps.length)
  (hbody : ∀ (cdv : Value) (A : Around) (outer : List Env) (s : Shared) (H : Hp) (vs : List V) (Q : VK) (E : XK), Room k (A.deeper (envOfC qual (defScope st) s.heap.objs.size f cdv)) -> sp vs H Q E ->
   ∃ t, PSs (cxOf (CXE P w) P w K mg base N qual (defScope st) f cdv A outer s H E) (defBody st) t /\ t { nx := fun _ H' => Q .non H', rt := Q } (start N vs) H) : FnOk P w K mg base (CXE P w) (k + 1) f fd ps sp := by
 obtain ⟨oc, od, kV, doc, pm, an, cdv, ct, osl, rfl, lk, hcd⟩ := F.ex
 exact fn_of lk hcd S len fun A outer s H vs Q E hr hsp => hbody cdv A outer s H vs Q E hr hsp
theorem po_leave {P : Program} {w : World} {K : W.Frag} {mg : Str -> Option Value} {base : Heap} {N : List Str} {qual : Str} {scope : Scope} {f : Addr} {cd : Value} {A : Around} {outer : List Env} {s : Shared} {H : Hp} {E : XK} :
  PassesOwn (model P w) (cxOf (CXE P w) P w K mg base N qual scope f cd A outer s H E).A (cxOf (CXE P w) P w K mg base N qual scope f cd A outer s H E).env (cxOf (CXE P w) P w K mg base N qual scope f cd A outer s H E).xe := PassesOwn.leaving
structure ExcC (K : W.Frag) (C : Addr) : Prop where
 q : PySem.W.excIn K C [.type "ValueError", .type "Exception", .type "BaseException", .type "object"] "ValueError.__new__" = true
abbrev bmV : List Value := [.type "ValueError", .type "Exception", .type "BaseException", .type "object"]
theorem exc_at {K : W.Frag} {h : Heap} {C : Addr} (KI : K.In h) (c : ExcC K C) : ∃ bm N nm q bs hd sn sub ab col dd k0 k1 k2 k3 k5 mN, h.get? C = some (excClassObj nm q C N bs bm hd sn sub ab col dd k0 k1 k2 k3 k5 "ValueError.__new__") /\
  h.Ns N mN /\ mN "__init__" = none /\ OwnTail h bmV bm := by
 have z := c.q
 revert z
 unfold PySem.W.excIn
 split
 ·rename_i d1 c1 s1 hl
  split
  ·rename_i D bm y0 y1 y2 y3 nn y5 e1 e2
   intro z
   rw [Bool.and_eq_true, Bool.and_eq_true, Bool.and_eq_true, Bool.and_eq_true, Bool.and_eq_true] at z
   obtain ⟨⟨⟨⟨⟨z1, z2⟩, z3⟩, z4⟩, z5⟩, z6⟩ := z
   have z1' : D = C := beq_iff_eq.mp z1
   have z2' : nn = "ValueError.__new__" := beq_iff_eq.mp z2
   have z6' := beq_iff_eq.mp z6
   subst z1' z2'
   obtain ⟨w1, w2, w3, w4, w5, w6, w7, w8, w9, w10, w11⟩ := c1
   dsimp only at e1 z3 z5 z6'
   subst e1
   have z3' : w11 = false := by simpa using z3
   subst z3'
   have e3 : s1 = #[y0, y1, y2, y3, some (.builtin "ValueError.__new__"), y5] := by
    obtain ⟨l1⟩ := s1
    exact congrArg Array.mk e2
   subst e3
   exact ⟨bm, w4, w1, w5, w2, w6, w7, w8, w9, w10, d1, y0, y1, y2, y3, y5, _, KI _ _ hl, .of_isNs (PySem.W.isNs_of_in KI z5), PySem.W.nsMap_none_of_in KI z5 z6', PySem.W.tail_of_in KI z4⟩
  ·intro z; cases z
 ·intro z; cases z
section
variable {P : Program} {w : World} {K : W.Frag} {mg : Str -> Option Value} {base : Heap} {N : List Str} {qual : Str} {scope : Scope} {f : Addr} {cd : Value} {A : Around} {outer : List Env} {s : Shared} {H : Hp} {E : XK}
def tRaise (E : XK) (C : Addr) : TS := fun _ _ H => E (.ref C) none H
theorem ps_raise {x txt : Str} {C : Addr} {j : Nat} {np cp ep pos : Pos} (hg : Gl (cxOf (CXE P w) P w K mg base N qual scope f cd A outer s H E) x) (hm : mg x = some (.ref C)) (c : ExcC K C) (hd : (x == ("__debug__" : Str)) = false := by decide) :
  PS (cxOf (CXE P w) P w K mg base N qual scope f cd A outer s H E) (.Raise (some (.Call (.Name x np) [.Constant (.str txt) j cp] [] ep)) none pos) (tRaise E C) := by
 intro pins s1 σ H1 D I hE
 have hh : (cxOf (CXE P w) P w K mg base N qual scope f cd A outer s H E).A.handled = none := I.ok.hd rfl
 obtain ⟨bm, N', nm, q, bs, hdc, sn, sub, ab, col, dd, k0, k1, k2, k3, k5, mN, hC, hN, hni, T⟩ := exc_at I.kIn c
 refine wpAny_Raise_call_subT (C := C) (nm := nm) (q := q) (N := N') (bs := bs) (bm := bm) (hdct := hdc) (sn := sn) (sub := sub) (ab := ab) (col := col) (dd := dd) (k0 := k0) (k1 := k1) (k2 := k2) (k3 := k3) (k5 := k5)
  PySem.F.excBase_ValueError (mN := mN) (T.hasType (by decide +kernel)) hh rfl hni (ld_glob I hg hm ⟨rfl, ?_⟩ hd)
 refine Calls.evalArgs_plain ?_
 refine PyProof.Rows.spliced_more (Calls.Constant_str ?_)
 refine PyProof.Rows.spliced_none ⟨rfl, by show 1 <= sizeLine; decide, hC, hN, T, fun h' e hx => ?_⟩
 exact xe_made (I.tok _) hx hE
end
def tryCx (X : Cx) (pins : List (Addr × Obj)) (E : St -> XK) : Cx := { X with pn := X.pn ++ pins, xe := fun e s' => ∃ σ H s, Inv X pins σ H s /\ CXE X.prog X.w X.stack H s (E σ) e s' }
def hdCx (X : Cx) (v : Value) : Cx := { X with A := X.A.mark (some v), calm := false, xe := fun _ _ => False }
section
variable {X : Cx} {pins pins' : List (Addr × Obj)} {σ : St} {H : Hp} {s : Shared} {E : St -> XK}
theorem Inv.toTry (I : Inv X pins σ H s) : Inv (tryCx X pins E) [] σ H s :=
  ⟨⟨I.ok.mod, I.ok.kind, I.ok.glob, I.ok.blt, I.ok.above, I.ok.inj, I.ok.has, I.ok.cab, I.ok.hd, I.ok.frames, I.ok.stk, I.ok.exf, I.ok.bs, I.ok.bsz, I.ok.noex, I.ok.exfs, I.ok.funs, I.ok.frf⟩,
    I.os, I.bare, I.base, I.loc, I.cell, I.free, I.freeC, fun p hp => I.pin p (by
      rcases List.mem_append.mp hp with z | z
      · exact z
      · cases z), I.hok, I.len⟩
theorem Inv.ofTry (I : Inv (tryCx X pins E) pins' σ H s) : Inv X pins σ H s :=
  ⟨⟨I.ok.mod, I.ok.kind, I.ok.glob, I.ok.blt, I.ok.above, I.ok.inj, I.ok.has, I.ok.cab, I.ok.hd, I.ok.frames, I.ok.stk, I.ok.exf, I.ok.bs, I.ok.bsz, I.ok.noex, I.ok.exfs, I.ok.funs, I.ok.frf⟩,
    I.os, I.bare, I.base, I.loc, I.cell, I.free, I.freeC, fun p hp => I.pin p (List.mem_append_left _ hp), I.hok, I.len⟩
theorem Inv.toHd (I : Inv X pins σ H s) (v : Value) : Inv (hdCx X v) pins σ H s :=
  ⟨⟨I.ok.mod, I.ok.kind, I.ok.glob, I.ok.blt, I.ok.above, I.ok.inj, I.ok.has, I.ok.cab, (fun z => by cases z), I.ok.frames, I.ok.stk, I.ok.exf, I.ok.bs, I.ok.bsz, I.ok.noex, I.ok.exfs, I.ok.funs, I.ok.frf⟩,
    I.os, I.bare, I.base, I.loc, I.cell, I.free, I.freeC, I.pin, I.hok, I.len⟩
theorem Inv.ofHd {v : Value} (I : Inv (hdCx X v) pins σ H s) (hd : X.calm = true -> X.A.handled = none) : Inv X pins σ H s :=
  ⟨⟨I.ok.mod, I.ok.kind, I.ok.glob, I.ok.blt, I.ok.above, I.ok.inj, I.ok.has, I.ok.cab, hd, I.ok.frames, I.ok.stk, I.ok.exf, I.ok.bs, I.ok.bsz, I.ok.noex, I.ok.exfs, I.ok.funs, I.ok.frf⟩,
    I.os, I.bare, I.base, I.loc, I.cell, I.free, I.freeC, I.pin, I.hok, I.len⟩
end
def PassesX (CX : CXT) (X : Cx) (E : St -> XK) : Prop := ∀ (pins : List (Addr × Obj)) (σ : St) (H : Hp) (s : Shared) (e : Value) (s' : Shared), Inv X pins σ H s -> CX X.stack H s (E σ) e s' -> X.xe e s'
theorem passTry {X : Cx} {pins : List (Addr × Obj)} {E : St -> XK} : PassesX (CXE X.prog X.w) (tryCx X pins E) E := fun _ σ H s _ _ I h => ⟨σ, H, s, I.ofTry, h⟩
def tCallX (sp : Sp) (E : St -> XK) (t : TA) : TE := fun σ H Q => t σ H fun vs H1 => sp (vs ++ []) H1 Q (E σ)
section
variable {X : Cx} {CX : CXT} {k : Nat} {f : Addr} {fd : FuncData} {ps : List Str} {sp : Sp} {E : St -> XK} {x : Str} {p pos : Pos} {e : Expr} {es : List Expr} {t : TA}
theorem pe_callX (F : FnOk X.prog X.w X.K X.mg X.base CX k f fd ps sp) (hr : Room k X.A) (hg : Gl X x) (hm : X.mg x = some (.ref f)) (hk : PySem.W.keepIn X.K (.ref f) = true) (hb : Binds X.K fd ps []) (hx : PassesX CX X E)
  (ha : PA X (e :: es) t) (hdb : (x == ("__debug__" : Str)) = false := by decide) (he : starEach (e :: es) X.env = (false, eval e X.env) :: starEach es X.env := by rfl) (hpl : (backTo pos (starEach es X.env)).any (·.1) = false := by rfl) :
  PE X (.Call (.Name x p) (e :: es) [] pos) (tCallX sp E t) := by
 intro pins s σ H Q I h
 refine wpAny_Call_Name_kw (ld_glob I hg hm ?_ hdb)
 refine PySem.W.callWith_K (h₀ := X.base) I.ok.mod.kin hk (thn (ha pos pins s σ H _ I h) fun us s1 ⟨vs, H1, I1, r, q⟩ => ⟨I1.kIn, ?_⟩) he hpl
 have r2 : Vals (vs ++ []) (us ++ []) := r.append .nil
 have hl : (us ++ []).length = ps.length := by rw [<- r2.length]; exact F.len _ _ _ _ q
 refine wpAny_call (codeAny_mono (F.run X.A X.stack s1 H1 ⟨us, []⟩ (us ++ []) (vs ++ []) Q (E σ) hr I1.env0 (hb s1 us I1.kIn hl) r2 q) fun r s' hq => ?_)
 cases r with
 | error e => exact hx pins σ H1 s1 e s' I1 hq
 | ok fl =>
  cases fl with
  | ret u => exact I1.after hq
  | next => exact False.elim hq
  | brk => exact False.elim hq
  | cont => exact False.elim hq
end
def XO (x : Addr) (cls : Value) : HO := .ext fun h => ∃ o vs, h.get? x = some o /\ o.cls = cls /\ o.data = .fields vs
theorem XO.ok {P : Program} {w : World} {H : Hp} {h : Heap} {x : Addr} {cls : Value} (e : ∃ o vs, h.get? x = some o /\ o.cls = cls /\ o.data = .fields vs) : ObjOk P w H h x (XO x cls) :=
 ⟨e, let ⟨o, _, h1, _⟩ := e; ⟨o, h1⟩, fun _ _ ⟨o, vs, h1, h2, h3⟩ k => ⟨o, vs, k o h1, h2, h3⟩⟩
section
variable {X : Cx} {pins : List (Addr × Obj)} {σ : St} {H : Hp} {s : Shared}
theorem unbind_ok {M : Model} {A : Around} {E : Value -> Shared -> Prop} {i : Nat} {n : Str} {pos : Pos} {Q : Unit -> Shared -> Prop} (I : Inv X pins σ H s) (hN : X.N.Nodup) (hi : X.N[i]? = some n) (hk : X.env.scope.names.lookup n = some .local)
  (h : ∀ s', Inv X pins (σ.set i none) H s' -> Q () s') : wpAny M A (do bindName X.env n .none; unbindBehindTheSuite X.env n pos) Q E s := by
 obtain ⟨m, hn, hl⟩ := id I.loc
 have hcls : (X.env.scope.kind == .class || (X.env.scope.kind == .module && X.env.locals != X.env.globals)) = false := by rw [I.ok.kind]; rfl
 refine wpAny_nameGoes_keeps hk hn hcls fun h' v hn' hs => h _ ?_
 obtain ⟨oL, _, _, hoL, _⟩ := id hn
 have ne : ∀ b o, X.s₀.heap.get? b = some o -> b ≠ X.env.locals := fun b o e => Nat.ne_of_lt (Nat.lt_of_lt_of_le (Heap.lt_size e) I.ok.above)
 refine ⟨I.ok, I.os, I.bare, ⟨fun b o e n hb hx => (hs.2 b (ne b o e)).trans (I.base.keep b o e n hb hx), fun b o e n hb hx => ?_, I.base.free, fun b o e hx => ?_, I.base.tups, I.base.frzs, I.base.tbls⟩, ⟨_, hn', fun j y v' e1 e2 e3 => ?_⟩, fun y c e => ?_, I.free, I.freeC, fun p hp => ?_, I.hok.stays fun b o e hb => (hs.2 b fun z => hb (by rw [z]; exact I.free)).trans e, by simpa using I.len⟩
 ·obtain ⟨sl, e1⟩ := I.base.slot b o e n hb hx
  exact ⟨sl, (hs.2 b (ne b o e)).trans e1⟩
 ·obtain ⟨o', e1⟩ := I.base.there b o e hx
  exact ⟨o', (hs.2 b (ne b o e)).trans e1⟩
 ·by_cases hj : j = i
  ·subst hj
   have hlt : j < σ.length := by rw [I.len]; exact (List.getElem?_eq_some_iff.mp hi).1
   rw [List.getElem?_set_self hlt] at e2
   cases e2
  ·rw [List.getElem?_set_ne (Ne.symm hj)] at e2
   obtain ⟨u', r', q⟩ := hl j y v' e1 e2 e3
   refine ⟨u', r', ?_⟩
   rcases q with ⟨k, e⟩ | ⟨k, c, e, z⟩
   ·refine .inl ⟨k, ?_⟩
    have hyn : y ≠ n := fun e => hj (nodup_ix hN e1 (e ▸ hi))
    simp [hyn, e]
   ·exact .inr ⟨k, c, e, z.sameBut hs (I.cne y c e)⟩
 ·obtain ⟨w', z⟩ := I.cell y c e
  exact ⟨w', z.sameBut hs (I.cne y c e)⟩
 ·obtain ⟨e, nn, ne', nf, d⟩ := I.pin p hp
  exact ⟨(hs.2 p.1 ne').trans e, nn, ne', nf, d⟩
end
def tTry (K : W.Frag) (CT : Addr) (i : Nat) (tb : (St -> XK) -> TS) (th : TS) : TS := fun D σ H => ∃ E : St -> XK, tb E D σ H /\ ∀ σ' cls H', E σ' cls none H' -> PySem.W.exmOne K cls (.ref CT) = some true /\ ∀ x, H' x = none ->
 th { nx := fun σ2 H2 => D.nx (σ2.set i none) H2, rt := D.rt, bk := fun σ2 H2 => D.bk (σ2.set i none) H2, ct := fun σ2 H2 => D.ct (σ2.set i none) H2 } (σ'.set i (some (.ref x))) (upd H' x (XO x cls))
theorem ps_try {X : Cx} {body suite : List Stmt} {b0 : Stmt} {tn n : Str} {np pos hpos : Pos} {CT : Addr} {i : Nat} {tb : (St -> XK) -> TS} {th : TS} (hN : X.N.Nodup) (hi : X.N[i]? = some n) (hk : X.env.scope.names.lookup n = some .local)
  (hg : Gl X tn) (hm : X.mg tn = some (.ref CT)) (hst : X.stack = X.env :: X.outer) (hfr : X.env.frame = some X.env.locals) (hbody : ∀ pins E, PSs (tryCx X pins E) body (tb E)) (hh : ∀ v, PSs (hdCx X v) (b0 :: suite) th)
  (hd : (tn == ("__debug__" : Str)) = false := by decide) :
  PS X (.Try body [.ExceptHandler (some (.Name tn np)) (some n) (b0 :: suite) hpos] [] [] pos) (tTry X.K CT i tb th) := by
 intro pins s σ H D I hw
 obtain ⟨E, hb, hcatch⟩ := hw
 refine wpAny_Try_except (wpAny_mono (hbody pins E [] s σ H D I.toTry hb) (fun fl s1 q => ?_) fun e s1 hx => ?_)
 ·cases fl with
  | next =>
   obtain ⟨σ', H', I', q⟩ := q
   exact wpAny_execs_nil ⟨σ', H', I'.ofTry, q⟩
  | brk => obtain ⟨σ', H', I', q⟩ := q; exact ⟨σ', H', I'.ofTry, q⟩
  | cont => obtain ⟨σ', H', I', q⟩ := q; exact ⟨σ', H', I'.ofTry, q⟩
  | ret u => obtain ⟨v, σ', H', I', r, q⟩ := q; exact ⟨v, σ', H', I'.ofTry, r, q⟩
 ·obtain ⟨σ1, H1, s0, I1, x, cls, H2, rfl, hos, hbare, u, hok, new, hxn, ⟨B, a0, fl, st⟩, hE⟩ := hx
  obtain ⟨hmat, hth⟩ := hcatch σ1 cls H2 hE
  have hfl : Heap.FlyingW B (X.env :: X.outer) x cls a0 s1.heap := by rw [hst] at fl; exact fl
  have frNone : ∀ b ∈ frs X.stack, H2 b = none := fun b hb => by
   obtain ⟨_, o, ho, _⟩ := I1.stack.mem hb
   exact u.free b o ho (I1.stkFree b hb) (by simp)
  -- what the heap is behind each step
  have step : ∀ h', B.StaysIn h' -> s1.heap.UpToSlots h' -> Un (frs X.stack) [] H1 H2 s0.heap h' /\ HOk X.prog X.w H2 h' := fun h' hB hu => by
   refine ⟨u.onto (fun b o ho hh hno => hB b o (st b o ho (.inr hh) hno)) fun b o ho hh hm' => ?_, hok.stays fun b o ho hh => hB b o (st b o ho (.inl hh) fun hm' => hh (frNone b hm'))⟩
   obtain ⟨_, o', ho', hdd⟩ := hfl.2.2.1.mem (b := b) (by rw [hst] at hm'; exact hm')
   rw [ho] at ho'
   cases ho'
   exact hu b o ho hdd
  have inv : ∀ h', B.StaysIn h' -> s1.heap.UpToSlots h' -> Inv X pins σ1 H2 { s1 with heap := h' } := fun h' hB hu => by
   obtain ⟨un, ok⟩ := step h' hB hu
   exact I1.call' (s' := { s1 with heap := h' }) (ch := []) hos un ok hbare fun b hb => by cases hb
  have hfrm : X.A.frames = some (X.env :: X.outer) := by rw [<- hst]; exact I1.ok.frames
  refine wpAny_looks_onW hfrm hfr hfl fun h4 held4 up4 => ?_
  refine wpAny_landsW held4 fun h5 fl5 up5 => ?_
  have up15 := up4.trans up5
  have I5 := inv h5 fl5.1 up15
  refine wpAny_handleBy_cons (codeAny_handlers_test ?_) (by intro q; cases q)
  refine ld_glob (I5.toHd (.ref x)) hg hm ?_ hd
  have LT : PySem.W.Looks (model X.prog X.w) h5 (typeOf (.ref x)) cls := by
   obtain ⟨ob, hob, hc⟩ := fl5.there
   subst hc
   exact (PySem.W.Looks.ld hob).andThen .now
  refine (PySem.W.exm_one (M := model X.prog X.w) I5.kIn LT hmat).here ?_
  refine codeAny_handlers_suite_as ?_
  refine lands_againW fl5 fun h6 fl6 up6 => ?_
  have up16 := up15.trans up6
  obtain ⟨un6, ok6⟩ := step h6 fl6.1 up16
  obtain ⟨oe, vs, hoe, hcl, hdt, _⟩ := fl6.first
  -- the exception is tracked now
  have xin : s0.heap.get? x = none := new
  have un7 : Un (frs X.stack) [] H1 (upd H2 x (XO x cls)) s0.heap h6 := by
   refine ⟨un6.keep, un6.slot, fun b o e nn hx => ?_, un6.there, fun b xs e => ?_, fun b o v e => ?_, fun b ps e => ?_⟩
   ·rw [upd_ne (fun z => by rw [z, xin] at e; cases e)]
    exact un6.free b o e nn hx
   ·have := un6.tups b xs e
    rw [upd_ne (ne_of_none this hxn)]
    exact this
   ·have := un6.frzs b o v e
    rw [upd_ne (ne_of_none this hxn)]
    exact this
   ·obtain ⟨more, this⟩ := un6.tbls b ps e
    exact ⟨more, by rw [upd_ne (ne_of_none this hxn)]; exact this⟩
  have ok7 : HOk X.prog X.w (upd H2 x (XO x cls)) h6 := fun a o e => by
   by_cases ha : a = x
   ·subst ha
    rw [upd_same] at e
    cases e
    exact XO.ok ⟨oe, vs, hoe, hcl, hdt⟩
   ·rw [upd_ne ha] at e
    exact (ok6 a o e).stay (fun _ _ _ q => q) (fun b q => by rw [upd_ne (ne_of_none q hxn)]; exact q) fun b xs q => by rw [upd_ne (ne_of_none q hxn)]; exact q
  have I7 : Inv X pins σ1 (upd H2 x (XO x cls)) { s1 with heap := h6 } := I1.call' (s' := { s1 with heap := h6 }) (ch := []) hos un7 ok7 hbare fun b hb => by cases hb
  refine store_ok (v := .ref x) I7 hN hi (.inl hk) rfl (fun s8 I8 => ?_) (.inr hk)
  refine wpAny_mono (hh (.ref x) pins s8 _ _ _ (I8.toHd _) (hth x hxn)) (fun fl' s9 q => ?_) (fun _ _ z => False.elim z)
  have hdX := I.ok.hd
  cases fl' with
  | next =>
   obtain ⟨σ', H', I', q⟩ := q
   exact unbind_ok (I'.ofHd hdX) hN hi hk fun s10 I10 => ⟨_, H', I10, q⟩
  | brk =>
   obtain ⟨σ', H', I', q⟩ := q
   exact unbind_ok (I'.ofHd hdX) hN hi hk fun s10 I10 => ⟨_, H', I10, q⟩
  | cont =>
   obtain ⟨σ', H', I', q⟩ := q
   exact unbind_ok (I'.ofHd hdX) hN hi hk fun s10 I10 => ⟨_, H', I10, q⟩
  | ret u' =>
   obtain ⟨v, σ', H', I', r, q⟩ := q
   exact unbind_ok (I'.ofHd hdX) hN hi hk fun s10 I10 => ⟨v, _, H', I10, r, q⟩
end L2
set_option maxRecDepth 100000
namespace L2
open PySem PySem.Spec PyProof.Rows PySem.W
structure ExcK (K : W.Frag) (C : Addr) : Prop where
 ga : findIn K (.ref C) "__getattribute__" = some (some (.builtin "BaseException.__getattribute__"))
 na : findIn K (.ref C) "__getattr__" = some none
 cl : findIn K (.ref C) "__class__" = some (some (.builtin "object.__class__"))
 sb : subIn K (.ref C) (.type "BaseException") = some true
 so : subIn K (.ref C) (.type "object") = some true
 cs : (clsIn K C).isSome = true
def ExcAt (x C : Addr) (h : Heap) : Prop := ∃ o vs, h.get? x = some o /\ o.cls = .ref C /\ o.data = .fields vs
section
variable {prog : Program} {w : World} {A : Around} {E : Value -> Shared -> Prop} {h : Heap} {g : Array GenState} {d : Drawn} {t : Nat} {os : OsState} {a C : Addr} {o : Obj} {K : W.Frag}
theorem exc_get {R : Result -> Shared -> Prop} (KI : K.In h) (c : ExcK K C) (hx : h.get? a = some o) (hc : o.cls = .ref C) (hq : R (.ok (.ret (.ref C))) ⟨h, g, d, t, os⟩) :
  codeAny (model prog w) A (.call (.builtin "getset_descriptor.__get__") ⟨[.builtin "object.__class__", .ref a, .ref C], []⟩) R ⟨h, g, d, t, os⟩ := by
 have hT5 : (⟨h, g, d, t, os⟩ : Shared).TypeIs (.builtin "object.__class__") "getset_descriptor" := F.typeOf_object_class
 have LS : Looks (model prog w) h (isSubtype (.ref C) (.type (".".intercalate ("object.__class__".cutAt '.').dropLast))) true := by rw [F.owner_object_class]; exact looks_subIn KI c.so
 refine codeAny_call_builtin F.slot_gs_get.plain F.entry_gs_get (F.slot_gs_get.check _ _ _ _ _ _ _ _ hT5 (F.args_gs_get _ _ _) ?_)
 repeat (any_goals (first | assumption | (with_reducible refine wpAny_loadPart_at hx ?_; rw [hc]) | (with_reducible refine LS.at ?_) | wp_step))
 refine ⟨Code.quiet_builtin _ (by decide +kernel), codeAny_builtin F.entry_object_class ?_⟩
 repeat (any_goals (first | assumption | (with_reducible refine wpAny_loadPart_at hx ?_; rw [hc]) | wp_step))
theorem exc_check {M : Model} {nameV : Value} {Q : Unit -> Shared -> Prop} (KI : K.In h) (c : ExcK K C) (hx : h.get? a = some o) (hc : o.cls = .ref C) (hq : Q () ⟨h, g, d, t, os⟩) :
  wpAny M A (checkBuiltinCall "BaseException.__getattribute__" ⟨[.ref a, nameV], []⟩) Q E ⟨h, g, d, t, os⟩ := by
 have k1 : builtinKind "BaseException.__getattribute__" = some .slot := by decide +kernel
 have k2 : splitId "BaseException.__getattribute__" = some ("BaseException", "__getattribute__") := by decide +kernel
 have LS : Looks M h (isSubtype (.ref C) (.type "BaseException")) true := looks_subIn KI c.sb
 have ha := F.args_bexc_ga (.ref a) nameV
 simp only [checkBuiltinCall, k1, k2]
 refine wpAny_bind ?_
 ·unfold isInstance
  repeat (first | (with_reducible refine wpAny_loadPart_at hx ?_; rw [hc]) | (with_reducible refine LS.at ?_) | wp_step)
  exact hq
theorem exc_entry {tk : Tok} {Q : Fin -> Shared -> Prop} (KI : K.In h) (c : ExcK K C) (hx : h.get? a = some o) (hc : o.cls = .ref C) (hq : Q (.done (.ret (.ref C))) ⟨h, g, d, t, os⟩) :
  wpAny (model prog w) A (Builtin.«object.__getattribute__» ⟨[.ref a, .str "__class__" tk], []⟩) Q E ⟨h, g, d, t, os⟩ := by
 have hT5 : (⟨h, g, d, t, os⟩ : Shared).TypeIs (.builtin "object.__class__") "getset_descriptor" := F.typeOf_object_class
 have L1 : Looks (model prog w) h (typeLookup (.ref C) "__class__") (some (.builtin "object.__class__")) := looks_findIn KI c.cl
 have f5 := F.typeOf_object_class
 have f6 := F.slot_gs_get.lookup
 have f7 := F.slot_gs_set.lookup
 repeat (any_goals (first | assumption | (with_reducible refine wpAny_loadPart_at hx ?_; rw [hc]) | (with_reducible refine L1.at ?_) | wp_step))
 refine exc_get KI c hx hc ?_
 repeat (any_goals (first | assumption | wp_step))
theorem exc_by {tk : Tok} {Q : Value -> Shared -> Prop} (KI : K.In h) (c : ExcK K C) (hx : h.get? a = some o) (hc : o.cls = .ref C) (hq : Q (.ref C) ⟨h, g, d, t, os⟩) :
  wpAny (model prog w) A (getAttrBy (.ref a) (.str "__class__" tk) false) Q E ⟨h, g, d, t, os⟩ := by
 have f3 := F.excAttr_ValueError.ga.bind (.ref a)
 have y2 : (Value.builtin "BaseException.__getattribute__" == Value.builtin "object.__getattribute__") = false := by decide +kernel
 have y1 : (onTheHeap (Value.ref C) && Value.builtin "BaseException.__getattribute__" == Value.builtin "object.__getattribute__") = false := by rw [y2]; rfl
 have y0 : (false && onTheHeap (Value.builtin "BaseException.__getattribute__")) = false := rfl
 have L1 : Looks (model prog w) h (typeLookup (.ref C) "__getattribute__") (some (.builtin "BaseException.__getattribute__")) := looks_findIn KI c.ga
 have L2 : Looks (model prog w) h (typeLookup (.ref C) "__getattr__") none := looks_findIn KI c.na
 repeat (any_goals (first | assumption | (with_reducible refine wpAny_loadPart_at hx ?_; rw [hc]) | (with_reducible refine L1.at ?_) | (with_reducible refine L2.at ?_) | wp_step))
 refine codeAny_call_builtin F.excAttr_ValueError.ga.plain F.entry_bexc_ga (exc_check KI c hx hc (exc_entry KI c hx hc ?_))
 repeat (any_goals (first | assumption | wp_step))
theorem exc_cls {Q : Option Value -> Shared -> Prop} (KI : K.In h) (c : ExcK K C) (hx : h.get? a = some o) (hc : o.cls = .ref C) (hq : Q (some (.ref C)) ⟨h, g, d, t + 1, os⟩) : wpAny (model prog w) A (getAttr? (.ref a) "__class__") Q E ⟨h, g, d, t, os⟩ := by
 unfold getAttr? getAttrBy?
 repeat (any_goals (first | assumption | with_reducible apply exc_by KI c hx hc | wp_step))
end
theorem kitx_exc {K : W.Frag} {x C : Addr} (c : ExcK K C) : KitX K (.ref x) (.ref C) (ExcAt x C) where
 ty := fun _ _ _ p => by
  obtain ⟨o, _, h1, h2, _⟩ := p
  rw [<- h2]
  exact (Looks.ld h1).andThen .now
 it := fun _ _ KI _ => by
  obtain ⟨cd, hcd⟩ := Option.isSome_iff_exists.mp c.cs
  unfold clsIn at hcd
  split at hcd
  ·rename_i ho
   intro A' Q' E' s' k q
   unfold isType loadHead
   exact wpAny_bind (wpAny_loadPart (k _ _ (KI _ _ ho)) (wpAny_pure q))
  ·cases hcd
 ne := fun h tp dd its n sl KI htp => by
  obtain ⟨cd, hcd⟩ := Option.isSome_iff_exists.mp c.cs
  refine Bool.eq_false_iff.mpr fun q => ?_
  have e : C = tp := Value.ref.inj (beq_iff_eq.mp q)
  subst e
  unfold clsIn at hcd
  split at hcd
  ·rename_i ho
   have z := (KI _ _ ho).symm.trans htp
   cases z
  ·cases hcd
 ca := fun {_ _ _ _ _ s} KI p k => by
  obtain ⟨o, _, h1, h2, _⟩ := p
  obtain ⟨hh, g, d, t, os⟩ := s
  exact exc_cls KI c h1 h2 k
def clsV : V -> Value -> Prop
 | .ty T, u => u = .type T
 | .ref D, u => u = .ref D
 | _, _ => False
theorem refs_of : ∀ {Ds : List Addr} {its : List Value}, Vals (Ds.map V.ref) its -> its = Ds.map Value.ref
 | [], _, .nil => rfl
 | D :: Ds, _, .cons r t => by
  cases r
  rw [List.map_cons, refs_of t]
section
variable {X : Cx}
theorem call_isinstE (K : W.Frag) (hK : X.K = K) : CallR X (.builtin "isinstance") (fun xs H Q => ∃ x C v u b, xs = [.ref x, v] /\ H x = some (XO x (.ref C)) /\ ExcK K C /\ clsV v u /\ kitOne K (.ref C) u = some b /\ Q (.bl b) H) := by
 subst hK
 intro pins s σ H xs us Q I r h
 obtain ⟨x, C, v, u, b, rfl, hx, c, hv, e, q⟩ := h
 obtain ⟨u1, u2, rfl, r1, r2⟩ := r.two
 cases r1
 have e2 : u2 = u := by
  cases v <;> first | exact hv.elim | exact (show u2 = _ from r2).trans hv.symm
 subst e2
 obtain ⟨hp, _⟩ := I.hok x _ hx
 exact kia_one (kitx_exc c) I.kIn hp e (fun z => nomatch z) fun tk => ⟨.bl b, H, I.tok _, rfl, q⟩
theorem call_isinstET (K : W.Frag) (hK : X.K = K) : CallR X (.builtin "isinstance") (fun xs H Q => ∃ (x C tp : Addr) (Ds : List Addr) (b : Bool), xs = [.ref x, .ref tp] /\ H x = some (XO x (.ref C)) /\ ExcK K C /\ H tp = some (.tup (Ds.map V.ref)) /\ kitAny K (.ref C) (Ds.map Value.ref) = some b /\ Q (.bl b) H) := by
 subst hK
 intro pins s σ H xs us Q I r h
 obtain ⟨x, C, tp, Ds, b, rfl, hx, c, ht, e, q⟩ := h
 obtain ⟨u1, u2, rfl, r1, r2⟩ := r.two
 cases r1
 cases r2
 obtain ⟨hp, _⟩ := I.hok x _ hx
 obtain ⟨its, rv, ⟨o, ho, hc, n, hd⟩, _⟩ := I.tuple (SqT.of ht)
 have ei : its = Ds.map Value.ref := refs_of rv
 subst ei
 obtain ⟨oc, od, odt, osl⟩ := o
 dsimp only at hc hd
 subst hc hd
 exact kia_tup (kitx_exc c) I.kIn hp ho e (fun z => nomatch z) fun tk => ⟨.bl b, H, I.tok _, rfl, q⟩
end
end L2
namespace L2
open PySem PySem.Spec PyProof.Rows
section
variable {X : Cx}
end
end L2
namespace HT
open PySem PyProof.Rows
section
variable {prog : Program} {w : World} {A : Around} {E : Value -> Shared -> Prop} {s : Shared}
end
end HT
namespace L2
open PySem PySem.Spec PyProof.Rows
section
variable {X : Cx} {e st : Expr} {te ts : TE} {pos p2 : Pos}
def tCut (t u : TS) : TS := fun D σ H => ∃ Mid : St -> Hp -> Prop, t { D with nx := Mid } σ H /\ ∀ σ' H', Mid σ' H' -> u D σ' H'
theorem pss_cut {stm : Stmt} {rest : List Stmt} {t u : TS} (h1 : PS X stm t) (h2 : PSs X rest u) : PSs X (stm :: rest) (tCut t u) := by
 intro pins s σ H D I ⟨Mid, h, k⟩
 refine wpAny_execs_cons (thn (h1 pins s σ H { D with nx := Mid } I h) fun f s1 q => ?_)
 cases f with
 | next =>
  obtain ⟨σ', H', I', q⟩ := q
  exact h2 pins s1 σ' H' D I' (k _ _ q)
 | ret v => exact q
 | brk => exact q
 | cont => exact q
end
section
variable {X : Cx} {pins : List (Addr × Obj)} {σ : St} {H : Hp} {s : Shared} {A : Around} {E : Value -> Shared -> Prop}
end
section
variable {X : Cx}
end
end L2
namespace Web
end Web
namespace Web
inductive Wl where
 | below (p : Nat) | odd | wall (r : Nat) | free
 deriving DecidableEq
end Web
namespace Web
end Web
namespace Web
end Web
namespace Web
def ent (T : List (List Int)) (r c : Nat) : Int := (T.getD r []).getD c 0
def Rect (T : List (List Int)) (hi wi : Nat) : Prop := T.length = hi /\ ∀ r ∈ T, r.length = wi
def flp (T : List (List Int)) (r c : Nat) : List (List Int) := T.set r ((T.getD r []).set c (1 - ent T r c))
theorem rect_row {T : List (List Int)} {hi wi r : Nat} (h : Rect T hi wi) (hr : r < hi) : (T.getD r []).length = wi := by
 have hl : r < T.length := by rw [h.1]; exact hr
 rw [List.getD_eq_getElem?_getD, List.getElem?_eq_getElem hl]
 exact h.2 _ (List.getElem_mem hl)
theorem rect_flp {T : List (List Int)} {hi wi r c : Nat} (h : Rect T hi wi) (hr : r < hi) : Rect (flp T r c) hi wi := by
 refine ⟨by unfold flp; rw [List.length_set]; exact h.1, fun x hx => ?_⟩
 unfold flp at hx
 rcases List.mem_or_eq_of_mem_set hx with hx | rfl
 ·exact h.2 x hx
 ·rw [List.length_set]; exact rect_row h hr
theorem ent_flp {T : List (List Int)} {hi wi r c : Nat} (h : Rect T hi wi) (hr : r < hi) (hc : c < wi) (r' c' : Nat) : ent (flp T r c) r' c' = if r' = r /\ c' = c then 1 - ent T r c else ent T r' c' := by
 have hl : r < T.length := by rw [h.1]; exact hr
 have hw := rect_row h hr
 unfold flp
 by_cases e1 : r' = r
 ·subst e1
  have e : (T.set r' ((T.getD r' []).set c (1 - ent T r' c))).getD r' [] = (T.getD r' []).set c (1 - ent T r' c) := by
   rw [List.getD_eq_getElem?_getD, List.getElem?_set_self hl]; rfl
  show ((T.set r' _).getD r' []).getD c' 0 = _
  rw [e]
  by_cases e2 : c' = c
  ·subst e2
   rw [if_pos ⟨rfl, rfl⟩, List.getD_eq_getElem?_getD, List.getElem?_set_self (by rw [hw]; exact hc)]
   rfl
  ·rw [if_neg (fun z => e2 z.2), List.getD_eq_getElem?_getD, List.getElem?_set_ne (Ne.symm e2), <- List.getD_eq_getElem?_getD]
   rfl
 ·rw [if_neg (fun z => e1 z.1)]
  show ((T.set r _).getD r' []).getD c' 0 = (T.getD r' []).getD c' 0
  have e : (T.set r ((T.getD r []).set c (1 - ent T r c))).getD r' [] = T.getD r' [] := by
   rw [List.getD_eq_getElem?_getD, List.getElem?_set_ne (Ne.symm e1), <- List.getD_eq_getElem?_getD]
  rw [e]
theorem rect_ext {T U : List (List Int)} {hi wi : Nat} (h : Rect T hi wi) (g : Rect U hi wi) (e : ∀ r c, r < hi -> c < wi -> ent T r c = ent U r c) : T = U := by
 refine List.ext_getElem (by rw [h.1, g.1]) fun r h1 h2 => ?_
 have hr : r < hi := by rw [<- h.1]; exact h1
 have l1 : (T[r]).length = wi := h.2 _ (List.getElem_mem h1)
 have l2 : (U[r]).length = wi := g.2 _ (List.getElem_mem h2)
 refine List.ext_getElem (by rw [l1, l2]) fun c h3 h4 => ?_
 have := e r c hr (by rw [<- l1]; exact h3)
 unfold ent at this
 rw [List.getD_eq_getElem?_getD, List.getD_eq_getElem?_getD, List.getElem?_eq_getElem h1, List.getD_eq_getElem?_getD, List.getD_eq_getElem?_getD, List.getElem?_eq_getElem h2] at this
 simp only [Option.getD_some] at this
 rw [List.getElem?_eq_getElem h3, List.getElem?_eq_getElem h4] at this
 exact this
def isSw (T : List (List Int)) (hi wi : Nat) (i j k l : Int) : Prop :=
 (0 <= i /\ i < hi) /\ (0 <= k /\ k < hi) /\ (0 <= j /\ j < wi) /\ (0 <= l /\ l < wi) /\ ent T i.toNat j.toNat = 1 /\ ent T i.toNat l.toNat = 0 /\ ent T k.toNat j.toNat = 0 /\ ent T k.toNat l.toNat = 1
instance (T : List (List Int)) (hi wi : Nat) (i j k l : Int) : Decidable (isSw T hi wi i j k l) := by unfold isSw; infer_instance
def swp (T : List (List Int)) (i j k l : Nat) : List (List Int) := flp (flp (flp (flp T i j) i l) k j) k l
def swpL (T : List (List Int)) (i j k l : Nat) : List (List Int) := flp (flp (flp (flp T i j) k l) i l) k j
section
variable {T : List (List Int)} {hi wi i j k l : Nat}
theorem ent_swp (h : Rect T hi wi) (h1 : i < hi) (h2 : j < wi) (h3 : k < hi) (h4 : l < wi) (hik : i ≠ k) (hjl : j ≠ l) (r c : Nat) : ent (swp T i j k l) r c = if (r = i \/ r = k) /\ (c = j \/ c = l) then 1 - ent T r c else ent T r c := by
 have q1 := rect_flp (c := j) h h1
 have q2 := rect_flp (c := l) q1 h1
 have q3 := rect_flp (c := j) q2 h3
 unfold swp
 rw [ent_flp q3 h3 h4, ent_flp q2 h3 h2, ent_flp q1 h1 h4, ent_flp h h1 h2]
 simp only [ent_flp q2 h3 h2, ent_flp q1 h1 h4, ent_flp h h1 h2]
 by_cases a1 : r = i <;> by_cases a2 : r = k <;> by_cases a3 : c = j <;> by_cases a4 : c = l <;> simp_all <;> (try omega)
theorem ent_swpL (h : Rect T hi wi) (h1 : i < hi) (h2 : j < wi) (h3 : k < hi) (h4 : l < wi) (hik : i ≠ k) (hjl : j ≠ l) (r c : Nat) : ent (swpL T i j k l) r c = if (r = i \/ r = k) /\ (c = j \/ c = l) then 1 - ent T r c else ent T r c := by
 have q1 := rect_flp (c := j) h h1
 have q2 := rect_flp (c := l) q1 h3
 have q3 := rect_flp (c := l) q2 h1
 unfold swpL
 rw [ent_flp q3 h3 h2, ent_flp q2 h1 h4, ent_flp q1 h3 h4, ent_flp h h1 h2]
 simp only [ent_flp q2 h1 h4, ent_flp q1 h3 h4, ent_flp h h1 h2]
 by_cases a1 : r = i <;> by_cases a2 : r = k <;> by_cases a3 : c = j <;> by_cases a4 : c = l <;> simp_all <;> (try omega)
theorem rect_swp (h : Rect T hi wi) (h1 : i < hi) (h3 : k < hi) : Rect (swp T i j k l) hi wi := rect_flp (rect_flp (rect_flp (rect_flp h h1) h1) h3) h3
theorem rect_swpL (h : Rect T hi wi) (h1 : i < hi) (h3 : k < hi) : Rect (swpL T i j k l) hi wi := rect_flp (rect_flp (rect_flp (rect_flp h h1) h3) h1) h3
theorem swp_eq (h : Rect T hi wi) (h1 : i < hi) (h2 : j < wi) (h3 : k < hi) (h4 : l < wi) (hik : i ≠ k) (hjl : j ≠ l) : swp T i j k l = swpL T i j k l :=
 rect_ext (rect_swp h h1 h3) (rect_swpL h h1 h3) fun r c _ _ => by rw [ent_swp h h1 h2 h3 h4 hik hjl, ent_swpL h h1 h2 h3 h4 hik hjl]
theorem swp_back (h : Rect T hi wi) (h1 : i < hi) (h2 : j < wi) (h3 : k < hi) (h4 : l < wi) (hik : i ≠ k) (hjl : j ≠ l) : swp (swp T i j k l) i l k j = T :=
 rect_ext (rect_swp (rect_swp h h1 h3) h1 h3) h fun r c _ _ => by
  rw [ent_swp (rect_swp h h1 h3) h1 h4 h3 h2 hik hjl.symm, ent_swp h h1 h2 h3 h4 hik hjl]
  by_cases a : (r = i \/ r = k) /\ (c = j \/ c = l)
  ·rw [if_pos a, if_pos ⟨a.1, a.2.symm⟩]; omega
  ·rw [if_neg a, if_neg fun z => a ⟨z.1, z.2.symm⟩]
end
theorem sw_ne {T : List (List Int)} {hi wi : Nat} {i j k l : Int} (h : isSw T hi wi i j k l) : i.toNat ≠ k.toNat /\ j.toNat ≠ l.toNat := by
 obtain ⟨_, _, _, _, a, b, c, d⟩ := h
 constructor
 ·intro z; rw [z] at a; omega
 ·intro z; rw [z] at a; omega
theorem sw_back {T : List (List Int)} {hi wi : Nat} {i j k l : Int} (hR : Rect T hi wi) (h : isSw T hi wi i j k l) : isSw (swp T i.toNat j.toNat k.toNat l.toNat) hi wi i l k j := by
 obtain ⟨n1, n2⟩ := sw_ne h
 obtain ⟨hi', hk', hj', hl', a, b, c, d⟩ := h
 have e := fun r c => ent_swp hR (show i.toNat < hi by omega) (show j.toNat < wi by omega) (show k.toNat < hi by omega) (show l.toNat < wi by omega) n1 n2 r c
 refine ⟨hi', hk', hl', hj', ?_, ?_, ?_, ?_⟩
 ·rw [e, if_pos ⟨.inl rfl, .inr rfl⟩]; omega
 ·rw [e, if_pos ⟨.inl rfl, .inl rfl⟩]; omega
 ·rw [e, if_pos ⟨.inr rfl, .inr rfl⟩]; omega
 ·rw [e, if_pos ⟨.inr rfl, .inl rfl⟩]; omega
def rsum (T : List (List Int)) : List Int := T.map List.sum
def csum (T : List (List Int)) (wi : Nat) : List Int := (List.range wi).map fun c => (T.map fun r => r.getD c 0).sum
end Web
namespace L2
open PySem PySem.Spec PyProof.Rows
def FrOkK (x0 : Str) (names : List (Str × NameKind)) (cl : List (Str × Addr)) : Bool := names.all fun y => (y.2 != .cell || y.1 == x0) && (y.2 != .free || (cl.lookup y.1).isSome)
def compCxK (X : Cx) (x0 : Str) (scope : Scope) (cl : List (Str × Addr)) (N' : List Str) (s₃ : Shared) (H₃ : Hp) (fp : List Addr) (xe' : Value -> Shared -> Prop) : Cx :=
 { X with N := N', s₀ := s₃, H₀ := H₃, env := compEnvC scope ((x0, s₃.heap.objs.size + 1) :: cl) s₃.heap.objs.size X.env, outer := X.stack, ex := fp, fn := fun x => x == x0, pn := [], xe := xe' }
theorem newEnvK {M : Model} {A : Around} {E : Value -> Shared -> Prop} {s : Shared} {x0 : Str} {scope : Scope} {globals : Addr} {cl : List (Str × Addr)} {qual : Str} {outer : Env} {Q : Env -> Shared -> Prop}
  (hcs : ∀ n, cellsFrom n scope.names cl = (x0, n) :: cl) (hpc : ∀ h, pushCells h scope.names = h.push { cls := .type "cell", data := .cell none })
  (hQ : Q (newEnv scope s.heap.objs.size globals ((x0, s.heap.objs.size + 1) :: cl) qual none .none (some outer) builtinsNs) { s with heap := (s.heap.push { cls := .type "dict", data := .dict #[] }).push { cls := .type "cell", data := .cell none } }) :
  wpAny M A (newFunctionEnv scope globals cl [] qual none .none (some outer)) Q E s := by
 simp only [newFunctionEnv, Option.isSome_some, if_true]
 refine wpAny_bind (wpAny_alloc ?_)
 refine wpAny_bind (wpAny_layCells _ (fun name kind cells => by cases hkc : kind == NameKind.cell <;> simp [hkc]) _ _ _ _ ?_)
 rw [hcs, hpc]
 have e : ({ s with heap := s.heap.push { cls := .type "dict", data := .dict #[] } } : Shared).heap.objs.size = s.heap.objs.size + 1 := Heap.size_push ..
 rw [e]
 rw [List.forIn_nil]
 exact wpAny_bind (wpAny_pure (wpAny_pure hQ))
section
variable {X : Cx}
theorem comp_startK {x0 : Str} {pins : List (Addr × Obj)} {σ : St} {H3 : Hp} {s3 : Shared} {h1 : Heap} {tk : Nat} {scope : Scope} {cl : List (Str × Addr)} {N' : List Str} {lk : List (Option Nat)} {fp : List Addr} {xe' : Value -> Shared -> Prop} {m0 : Str -> Option Value}
  (I : Inv X pins σ H3 s3) (hf : ∀ b ∈ fp, FpOk X pins H3 b) (hkind : scope.kind = .function) (hcl : ClOk X.env cl) (hfr : FrOkK x0 scope.names cl = true) (hx0 : cl.lookup x0 = none) (hc0 : h1.IsCell (s3.heap.objs.size + 1) none) (hlk : LkOk X N' lk scope cl)
  (hn : h1.Ns s3.heap.objs.size m0) (hk : ∀ b u, s3.heap.get? b = some u -> h1.get? b = some u) (hfs : ∀ b ∈ fp, b < s3.heap.objs.size) : Inv (compCxK X x0 scope cl N' s3 H3 fp xe') [] (capt lk σ) H3 { s3 with heap := h1, toks := tk } := by
 have hC : H3 s3.heap.objs.size = none := I.hok.fresh (Nat.le_refl _)
 have hC0 : H3 (s3.heap.objs.size + 1) = none := I.hok.fresh (Nat.le_succ _)
 have hmem : ∀ y ∈ scope.names, (y.2 = .cell -> y.1 = x0) /\ (y.2 = .free -> (cl.lookup y.1).isSome = true) := fun y hy => by
  unfold FrOkK at hfr
  rw [List.all_eq_true] at hfr
  have := hfr y hy
  rw [Bool.and_eq_true] at this
  refine ⟨fun e => ?_, fun e => ?_⟩
  ·have h1 := this.1
   rw [e] at h1
   simpa using h1
  have h2 := this.2
  rw [e] at h2
  simpa using h2
 have hcell : ∀ x c, cl.lookup x = some c -> X.env.cells.lookup x = some c := fun x c e => hcl.get e
 have hlook : ∀ x c, ((x0, s3.heap.objs.size + 1) :: cl : List (Str × Addr)).lookup x = some c -> (x = x0 /\ c = s3.heap.objs.size + 1) \/ cl.lookup x = some c := fun x c e => by
  rw [List.lookup_cons] at e
  cases hb : x == x0 with
  | true => rw [hb] at e; cases e; exact .inl ⟨eq_of_beq hb, rfl⟩
  | false => rw [hb] at e; exact .inr e
 have hsome : ∀ x, x = x0 \/ (cl.lookup x).isSome = true -> (((x0, s3.heap.objs.size + 1) :: cl : List (Str × Addr)).lookup x).isSome = true := fun x h => by
  rw [List.lookup_cons]
  cases hb : x == x0 with
  | true => rfl
  | false =>
   rcases h with h | h
   ·rw [h] at hb; simp at hb
   ·exact h
 have clt : ∀ x c, cl.lookup x = some c -> c < s3.heap.objs.size := fun x c e => by
  obtain ⟨v, q⟩ := I.cell x c (hcell x c e)
  exact q.lt
 refine ⟨⟨I.ok.mod, hkind, I.ok.glob, I.ok.blt, Nat.le_refl _, fun x y c e1 e2 => ?_, fun x hx => ?_, fun x c hf e => ?_, I.ok.hd, I.ok.frames, .inl rfl, fun b hb => ?_, fun b o e => I.bs b o e, Nat.le_trans I.ok.bsz I.sz, fun b o e hb => ?_, fun b hb z => ?_, I.stack, I.stkFree⟩,
  rfl, I.bare, Un.kept hk, ⟨m0, hn, fun i x v e1 e2 e3 => ?_⟩, fun x c e => ?_, hC, fun x c e => ?_, (fun p hp => nomatch hp), I.hok.kept hk, ?_⟩
 ·rcases hlook x c e1 with ⟨z1, z2⟩ | d1
  ·rcases hlook y c e2 with ⟨z3, _⟩ | d2
   ·rw [z1, z3]
   ·rw [z2] at d2; exact absurd (clt _ _ d2) (Nat.not_lt.mpr (Nat.le_succ _))
  ·rcases hlook y c e2 with ⟨_, z4⟩ | d2
   ·rw [z4] at d1; exact absurd (clt _ _ d1) (Nat.not_lt.mpr (Nat.le_succ _))
   ·exact I.ok.inj x y c (hcell x c d1) (hcell y c d2)
 ·have hx' : (relabel scope X.env).names.lookup x = some .cell \/ (relabel scope X.env).names.lookup x = some .free := hx
  have : ∃ k', (x, k') ∈ scope.names /\ (k' = .free \/ k' = .cell) := by
   rcases hx' with h | h
   ·obtain ⟨k', h1, h2⟩ := lookup_relabel h
    rcases h2 with h2 | h2
    ·exact ⟨k', h1, .inr h2⟩
    ·exact ⟨k', h1, .inl h2.1⟩
   ·obtain ⟨k', h1, h2⟩ := lookup_relabel h
    rcases h2 with h2 | h2
    ·exact ⟨k', h1, .inl h2⟩
    ·exact ⟨k', h1, .inl h2.1⟩
  obtain ⟨k', h1, h2⟩ := this
  refine Option.isSome_iff_exists.mp (hsome x ?_)
  rcases h2 with h2 | h2
  ·exact .inr ((hmem _ h1).2 h2)
  ·exact .inl ((hmem _ h1).1 h2)
 ·have hf' : (x == x0) = true := hf
  rcases hlook x c e with ⟨_, rfl⟩ | e
  ·show s3.heap.objs.size <= _
   omega
  ·rw [eq_of_beq hf', hx0] at e
   cases e
 ·obtain ⟨f0, f1, f2, f3, f4, f5⟩ := hf b hb
  refine ⟨Nat.ne_of_lt (hfs b hb), fun x c e => ?_⟩
  rcases hlook x c e with ⟨_, rfl⟩ | e
  ·exact Nat.ne_of_gt (Nat.lt_succ_of_lt (hfs b hb))
  ·exact f4 x c (hcell x c e)
 ·obtain ⟨f0, f1, f2, f3, f4, f5⟩ := hf b hb
  rcases f3 with f3 | f3
  ·exact I.ok.noex b o e f3
  ·exact absurd (Nat.lt_of_lt_of_le (Heap.lt_size e) (Nat.le_trans I.ok.bsz f3)) (Nat.lt_irrefl _)
 ·obtain ⟨f0, f1, f2, f3, f4, f5⟩ := hf b hb
  rcases List.mem_cons.mp (I.stkSub b z) with e | e
  ·exact f1 e
  ·exact f2 e
 ·-- a captured name
  have e2' : (capt lk σ)[i]? = some (some v) := e2
  unfold capt at e2'
  rw [List.getElem?_map] at e2'
  cases hq : lk[i]? with
  | none => rw [hq] at e2'; cases e2'
  | some o =>
   rw [hq] at e2'
   have e2'' : (o.bind fun j => (σ[j]?).join) = some v := Option.some.inj e2'
   cases o with
   | none => cases e2''
   | some j =>
    obtain ⟨q1, q2, q3, q4⟩ := hlk.2 i j x e1 hq
    have hσ : σ[j]? = some (some v) := by
     have z : (σ[j]?).join = some v := e2''
     cases hh : σ[j]? with
     | none => rw [hh] at z; cases z
     | some o => rw [hh] at z; rw [show o = some v from z]
    obtain ⟨m, hnX, hl⟩ := I.loc
    obtain ⟨u, r, lo⟩ := hl j x v q1 hσ (q2.elim (fun a => .inr (.inl a)) (fun a => .inr (.inr a)))
    refine ⟨u, r, .inr ?_⟩
    obtain ⟨c, hc⟩ := Option.isSome_iff_exists.mp q3
    have hne : (x == x0) = false := by
     cases hb : x == x0 with
     | false => rfl
     | true => rw [eq_of_beq hb, hx0] at hc; cases hc
    refine ⟨q4, c, by show ((x0, s3.heap.objs.size + 1) :: cl : List (Str × Addr)).lookup x = some c; rw [List.lookup_cons, hne]; exact hc, ?_⟩
    have hcX := hcell x c hc
    rcases lo with ⟨k, _⟩ | ⟨_, c', hc', z⟩
    ·have k' : X.env.scope.names.lookup x = some .local := k
     rw [k'] at q2
     rcases q2 with q2 | q2 <;> cases q2
    ·rw [hcX] at hc'
     cases hc'
     obtain ⟨o, ho, hd⟩ := z
     exact ⟨o, hk c o ho, hd⟩
 ·rcases hlook x c e with ⟨_, rfl⟩ | e
  ·exact ⟨none, hc0⟩
  ·obtain ⟨v, o, ho, hd⟩ := I.cell x c (hcell x c e)
   exact ⟨v, o, hk c o ho, hd⟩
 ·rcases hlook x c e with ⟨_, rfl⟩ | e
  ·exact hC0
  ·exact I.freeC x c (hcell x c e)
 ·show (capt lk σ).length = N'.length
  unfold capt
  rw [List.length_map]
  exact hlk.1
end
end L2
namespace L2
open PySem PySem.Spec PyProof.Rows PySem.SeqAt
section
variable {X : Cx}
end
theorem pe_ixTK {X : Cx} {a b : Expr} {pos : Pos} {ta tb : TE} (K : W.Frag) (hK : X.K = K) (ha : PE X a ta) (hb : PE X b tb) (hs : PlainIx b) : PE X (.Subscript a b pos) (tOp (rIxT K) ta tb) := by
 cases hK
 exact pe_ix ix_tup ha hb hs
theorem pe_ixSK {X : Cx} {a b : Expr} {pos : Pos} {ta tb : TE} (K : W.Frag) (hK : X.K = K) (ha : PE X a ta) (hb : PE X b tb) (hs : PlainIx b) : PE X (.Subscript a b pos) (tOp (rIx K) ta tb) := by
 cases hK
 exact pe_ix ix_seq ha hb hs
end L2
namespace L2
open PySem PySem.Spec PyProof.Rows
section
variable {X : Cx}
theorem call_sumK (K : W.Frag) (hK : X.K = K) (hc : X.calm = true) : CallR X (.builtin "sum") (fun xs H Q => ∃ (p : Addr) (ns : List Int), xs = [.ref p] /\ SqL K H p (ns.map V.int) /\ Q (.int ns.sum) H) := by subst hK; exact call_sum hc
end
theorem sl_listK {X : Cx} (K : W.Frag) (hK : X.K = K) : SlR X (rSlL K) := by subst hK; exact sl_list
theorem cutV_mid (xs : List V) (a b : Nat) (hab : a <= b) (hb : b <= xs.length) : cutV xs (some (a : Int)) (some (b : Int)) = (xs.drop a).take (b - a) := by
 unfold cutV
 have e1 : HT.sIx xs.length 0 (some (a : Int)) = a := by
  unfold HT.sIx
  simp only []
  first | omega | (split <;> omega)
 have e2 : HT.sIx xs.length xs.length (some (b : Int)) = b := by
  unfold HT.sIx
  simp only []
  first | omega | (split <;> omega)
 rw [e1, e2]
section
variable {prog : Program} {w : World} {A : Around} {E : Value -> Shared -> Prop} {s : Shared}
theorem nextOf_tup_item {ip tp : Addr} {i : Nat} {ys : Array Value} {x : Value} {Q : Value -> Shared -> Prop} (hi : s.heap.IsTupleIter ip tp i) (ht : s.heap.IsTuple tp ys) (hx : ys[i]? = some x)
  (q : ∀ h', h'.IsTupleIter ip tp (i + 1) -> Heap.SameBut ip s.heap h' -> Q x { s with heap := h' }) : wpAny (model prog w) A (Builtin.SmallTypes.nextOf (.ref ip)) Q E s := by
 obtain ⟨u, hu, cu, du⟩ := id hi
 obtain ⟨v, hv, _, nv, dv⟩ := ht
 unfold Builtin.SmallTypes.nextOf
 refine wpAny_bind (wpAny_callSpecial?_slot (name := Str.ofString "__next__") hi.typeIs F.slot_tuple_iterator_next (wpAny_call_entry F.slot_tuple_iterator_next hi.typeIs F.entry_tuple_iterator_next ?_ (F.args_tuple_iterator_next_1 _)))
 show wpAny _ _ (field (.ref ip) 0 >>= _) _ _ s; refine wpAny_bind (wpAny_field hu du (x := .ref tp) rfl ?_)
 show wpAny _ _ (if (Value.ref tp == Value.none) = true then _ else _) _ _ s; rw [if_neg (show ¬ ((Value.ref tp == Value.none) = true) from Bool.false_ne_true)]
 show wpAny _ _ (field (.ref ip) 1 >>= _) _ _ s; refine wpAny_bind (wpAny_field hu du (x := .int i 0) rfl ?_)
 show wpAny _ _ (seqItems? (.ref tp) >>= _) _ _ s; refine wpAny_bind (wpAny_seqItems hv dv ?_)
 simp only [Int.toNat_natCast, hx]
 refine wpAny_bind (wpAny_setField hu du (by simp) (wpAny_pure ⟨x, rfl, wpAny_pure (q _ ?_ (Heap.SameBut.update ..))⟩))
 exact ⟨_, Heap.get?_update_self _ hu (Obj.isFreed_of_fields (Obj.data_mapFields du _)), (Obj.cls_mapFields ..).trans cu, by rw [Obj.data_mapFields du]; simp [rawInt]⟩
theorem nextOf_tup_end {ip tp : Addr} {i : Nat} {ys : Array Value} {Q : Value -> Shared -> Prop} (hh : A.handled = none) (hi : s.heap.IsTupleIter ip tp i) (ht : s.heap.IsTuple tp ys) (hx : ys[i]? = none)
  (q : ∀ h' e, Heap.ExtBut ip s.heap h' -> (∃ o, h'.get? e = some o /\ o.cls = .type "StopIteration") -> E (.ref e) { s with heap := h' }) : wpAny (model prog w) A (Builtin.SmallTypes.nextOf (.ref ip)) Q E s := by
 obtain ⟨u, hu, cu, du⟩ := id hi
 obtain ⟨v, hv, _, nv, dv⟩ := ht
 unfold Builtin.SmallTypes.nextOf
 refine wpAny_bind (wpAny_callSpecial?_slot (name := Str.ofString "__next__") hi.typeIs F.slot_tuple_iterator_next (wpAny_call_entry F.slot_tuple_iterator_next hi.typeIs F.entry_tuple_iterator_next ?_ (F.args_tuple_iterator_next_1 _)))
 show wpAny _ _ (field (.ref ip) 0 >>= _) _ _ s; refine wpAny_bind (wpAny_field hu du (x := .ref tp) rfl ?_)
 show wpAny _ _ (if (Value.ref tp == Value.none) = true then _ else _) _ _ s; rw [if_neg (show ¬ ((Value.ref tp == Value.none) = true) from Bool.false_ne_true)]
 show wpAny _ _ (field (.ref ip) 1 >>= _) _ _ s; refine wpAny_bind (wpAny_field hu du (x := .int i 0) rfl ?_)
 show wpAny _ _ (seqItems? (.ref tp) >>= _) _ _ s; refine wpAny_bind (wpAny_seqItems hv dv ?_)
 simp only [Int.toNat_natCast, hx]
 refine wpAny_bind (wpAny_rule (wpAny_bind (wpAny_setField hu du (by simp) ?_)))
 show wpAny _ _ (newExc (.type "StopIteration") [] >>= _) _ _ _; refine wpAny_bind ?_; simp only [newExc, newTuple]
 refine wpAny_bind (wpAny_newObj_type ?_ (by size_fits)); refine wpAny_bind (m := firstArgMember _ _) (wpAny_of_eq (a := Value.none) (by first | rfl | (simp only [firstArgMember]; rfl)) ?_)
 refine wpAny_newObj_type ?_ (by size_fits); simp only [raiseNew]
 refine wpAny_bind (wpAny_handled ?_); first | rw [show A.in1.handled = none from hh] | rw [hh]
 refine wpAny_bind (wpAny_pure (wpAny_throw ?_)); exact q _ _ (((Heap.SameBut.update ..).extBut.push _).push _) ⟨_, Heap.get?_push_size _ rfl, rfl⟩
end
theorem draws_tup {prog : Program} {w : World} {A : Around} (hh : A.handled = none) (ip tp : Addr) (hne : tp ≠ ip) (ys : Array Value) : Draws prog w A ip [ip, tp] ys.size (fun i v => ys[i]? = some v) (fun i h => h.IsTupleIter ip tp i /\ h.IsTuple tp ys) where
 live := fun _ _ z => let ⟨o, ho, _⟩ := z.1; ⟨o, ho⟩
 frame := fun _ _ _ z k => ⟨z.1.at fun o e => k ip (by simp) o e, z.2.at fun o e => k tp (by simp) o e⟩
 item := fun i s Q E hi z q => nextOf_tup_item z.1 z.2 (x := ys[i]) (by simp [hi]) fun h' a b => q _ h' s.toks (by simp [hi]) ⟨a, z.2.extBut b.extBut hne⟩ b
 done := fun s Q E z q => nextOf_tup_end hh z.1 z.2 (by simp) q
section
variable {prog : Program} {w : World} {A : Around} {E : Value -> Shared -> Prop} {s : Shared}
end
section
variable {X : Cx}
theorem call_sumT (hc : X.calm = true) : CallR X (.builtin "sum") (fun xs H Q => ∃ (p : Addr) (ns : List Int), xs = [.ref p] /\ SqT X.K H p (ns.map V.int) /\ Q (.int ns.sum) H) := by
 intro pins s σ H xs us Q I r h
 obtain ⟨p, ns, rfl, hq, q⟩ := h
 obtain ⟨u, rfl, rx⟩ := vals1 r
 cases rx
 obtain ⟨its, r', pl, hz⟩ := I.tuple hq
 have hi : IntsAre its ns := intsAre_of r'
 obtain ⟨ys, e⟩ := hi.allInts.items
 refine PySem.W.ktm_sumG (xs := ys) (I.ok.hd hc) (by rw [<- e]; exact pl) fun h' tk t' hk => ⟨.int ns.sum, H, I.kept (t' := tk) hk, ⟨t', ?_⟩, q⟩
 have e2 : numsOf (intItems ys).toList = ns := by rw [<- e]; exact hi.numsOf
 rw [nums_intItems] at e2
 rw [preSum_eq, List.take_of_length_le (by simp), e2]
end
section
variable {X : Cx}
end
theorem pg_tupK {X : Cx} (K : W.Frag) (hK : X.K = K) {es : List Expr} {k : Nat} {pos : Pos} {t : TGs} {n : Nat} (hc : X.calm = true) (h : PGs X es t)
  (hn : (assignEach es X.env).length = n := by rfl) (hst : (assignEach es X.env).findIdx? (·.1) = none := by rfl) : PG X (.Tuple es k pos) (gTup K n t) := by
 subst hK
 exact pg_tup hc h hn hst
section
variable {X : Cx}
end
theorem best_le (f : Nat -> Int) : ∀ (n j : Nat), j <= n -> f (argBest (fun i j => decide (f i < f j)) n) <= f j
 | 0, j, h => by rw [Nat.le_zero.mp h]; exact Int.le_refl _
 | n + 1, j, h => by
  unfold argBest
  have ih := best_le f n
  by_cases hb : f (n + 1) < f (argBest (fun i j => decide (f i < f j)) n)
  ·rw [if_pos (decide_eq_true hb)]
   rcases Nat.lt_or_ge j (n + 1) with l | l
   ·have := ih j (by omega); omega
   ·rw [show j = n + 1 by omega]; exact Int.le_refl _
  ·rw [if_neg (fun z => hb (of_decide_eq_true z))]
   rcases Nat.lt_or_ge j (n + 1) with l | l
   ·exact ih j (by omega)
   ·rw [show j = n + 1 by omega]; omega
theorem best_lt (bt : Nat -> Nat -> Bool) : ∀ n : Nat, argBest bt n <= n
 | 0 => Nat.le_refl _
 | n + 1 => by
  unfold argBest
  have := best_lt bt n
  split <;> omega
section
variable {X : Cx}
theorem call_minT (hc : X.calm = true) : CallR X (.builtin "min") (fun xs H Q => ∃ (p : Addr) (ns : List Int), xs = [.ref p] /\ SqT X.K H p (ns.map V.int) /\ 0 < ns.length /\ ∀ m : Int, m ∈ ns -> (∀ x ∈ ns, m <= x) -> Q (.int m) H) := by
 intro pins s σ H xs us Q I r h
 obtain ⟨p, ns, rfl, hq, hn, q⟩ := h
 obtain ⟨u, rfl, rx⟩ := vals1 r
 cases rx
 obtain ⟨its, r', pl, hz⟩ := I.tuple hq
 have hlen : its.length = ns.length := by rw [<- r'.length, List.length_map]
 have hi : IntsAre its ns := intsAre_of r'
 obtain ⟨ys, e⟩ := hi.allInts.items
 have hT : s.heap.IsTuple p (intItems ys) := by rw [<- e]; exact pl
 have hsz : (intItems ys).size = ns.length := by rw [<- e, List.size_toArray, hlen]
 have hnum : ∀ j, j < ns.length -> numAt ys j = ns.getD j 0 := fun j hj => by
  have hx : (ns.map V.int)[j]? = some (.int (ns.getD j 0)) := by simp [hj]
  obtain ⟨v, hv, t, rfl⟩ := r'.get hx
  have hv' : (intItems ys)[j]? = some (.int (ns.getD j 0) t) := by rw [<- e]; simpa using hv
  obtain ⟨t', ht'⟩ := intItems_at hv'
  injection ht' with h1 _
  exact h1.symm
 have hpl : p < s.heap.objs.size := by
  obtain ⟨o, ho, _⟩ := hT
  exact Heap.lt_size ho
 refine call_min_walk (wpAny_pyIter_tuple hT ?_)
 refine ⟨_, [_, p], [_], _, _, _, _, rfl, Walks.tuple (A := X.A.in1) (I.ok.hd hc) _ p (Nat.ne_of_lt hpl) (intItems ys),
  ⟨⟨_, Heap.get?_push_size _ rfl, rfl, rfl⟩, hT.push _⟩, fun c hc' => ?_, by rw [hsz]; exact hn, CmpOf.ints_lt (numAt ys) (fun _ _ => intItems_at), fun v h' tk hP hk => ?_⟩
 ·show c < (s.heap.push _).objs.size
  rw [Heap.size_push]
  rcases List.mem_cons.mp hc' with rfl | hc'
  ·exact Nat.lt_succ_self _
  ·rcases List.mem_cons.mp hc' with rfl | hc'
   ·exact Nat.lt_succ_of_lt hpl
   ·cases hc'
 ·have hold : ∀ c o, s.heap.get? c = some o -> h'.get? c = some o := fun c o e => by
   refine hk c o (fun hm => ?_) (Heap.get?_push_of_some _ e)
   rcases List.mem_cons.mp hm with e1 | hm
   ·exact absurd (Heap.lt_size e) (by rw [e1]; exact Nat.lt_irrefl _)
   ·cases hm
  obtain ⟨t, rfl⟩ := intItems_at hP
  have hb := best_lt (fun i j => decide (numAt ys i < numAt ys j)) ((intItems ys).size - 1)
  have hbl : argBest (fun i j => decide (numAt ys i < numAt ys j)) ((intItems ys).size - 1) < ns.length := by rw [hsz] at hb ⊢; omega
  refine ⟨.int _, H, I.kept (t' := tk) hold, ⟨t, rfl⟩, q _ ?_ fun x hx => ?_⟩
  ·rw [hnum _ hbl, List.getD_eq_getElem?_getD, List.getElem?_eq_getElem hbl]
   exact List.getElem_mem hbl
  ·obtain ⟨j, hj, rfl⟩ := List.mem_iff_getElem.mp hx
   have := best_le (numAt ys) ((intItems ys).size - 1) j (by rw [hsz]; omega)
   rw [hnum j hj, List.getD_eq_getElem?_getD, List.getElem?_eq_getElem hj] at this
   exact this
theorem pi_tupK (K : W.Frag) (hK : X.K = K) {tg l : Expr} {tl : TE} (hl : PE X l tl) : PI X tg l (iTup K tl) := by subst hK; exact pi_tup hl
theorem call_sumTK (K : W.Frag) (hK : X.K = K) (hc : X.calm = true) : CallR X (.builtin "sum") (fun xs H Q => ∃ (p : Addr) (ns : List Int), xs = [.ref p] /\ SqT K H p (ns.map V.int) /\ Q (.int ns.sum) H) := by subst hK; exact call_sumT hc
theorem call_list_ofK (K : W.Frag) (hK : X.K = K) : CallR X (.type "list") (fun xs H Q => ∃ p ys, xs = [.ref p] /\ (SqL K H p ys \/ SqT K H p ys) /\ ∀ l, H l = none -> Q (.ref l) (upd H l (.lst ys))) := by subst hK; exact call_list_of
theorem call_tuple_ofK (K : W.Frag) (hK : X.K = K) : CallR X (.type "tuple") (fun xs H Q => ∃ p ys, xs = [.ref p] /\ ((SqL K H p ys /\ ∀ l, H l = none -> Q (.ref l) (upd H l (.tup ys))) \/ (SqT K H p ys /\ Q (.ref p) H))) := by subst hK; exact call_tuple_of
end
end L2
namespace Grf
def S : Nat -> (Nat -> Int) -> Int
 | 0, _ => 0
 | n + 1, f => S n f + f n
theorem S_congr {f g : Nat -> Int} : ∀ {n : Nat}, (∀ i, i < n -> f i = g i) -> S n f = S n g
 | 0, _ => rfl
 | n + 1, h => by
  show S n f + f n = S n g + g n
  rw [S_congr fun i hi => h i (by omega), h n (by omega)]
theorem S_le {f g : Nat -> Int} : ∀ {n : Nat}, (∀ i, i < n -> f i <= g i) -> S n f <= S n g
 | 0, _ => Int.le_refl _
 | n + 1, h => by
  have h1 := S_le (n := n) fun i hi => h i (by omega)
  have h2 := h n (by omega)
  show S n f + f n <= S n g + g n
  omega
theorem S_add (f g : Nat -> Int) : ∀ n : Nat, S n (fun i => f i + g i) = S n f + S n g
 | 0 => rfl
 | n + 1 => by
  show S n (fun i => f i + g i) + (f n + g n) = S n f + f n + (S n g + g n)
  rw [S_add f g n]
  omega
theorem S_sub (f g : Nat -> Int) : ∀ n : Nat, S n (fun i => f i - g i) = S n f - S n g
 | 0 => rfl
 | n + 1 => by
  show S n (fun i => f i - g i) + (f n - g n) = S n f + f n - (S n g + g n)
  rw [S_sub f g n]
  omega
theorem S_zero : ∀ n : Nat, S n (fun _ => 0) = 0
 | 0 => rfl
 | n + 1 => by
  show S n (fun _ => 0) + 0 = 0
  rw [S_zero n]; rfl
theorem S_const (c : Int) : ∀ n : Nat, S n (fun _ => c) = (n : Int) * c
 | 0 => by simp [S]
 | n + 1 => by
  show S n (fun _ => c) + c = ((n + 1 : Nat) : Int) * c
  rw [S_const c n, show ((n + 1 : Nat) : Int) = (n : Int) + 1 by omega, Int.add_mul, Int.one_mul]
theorem S_nonneg {f : Nat -> Int} {n : Nat} (h : ∀ i, i < n -> 0 <= f i) : 0 <= S n f := by
 have := S_le (f := fun _ => 0) (g := f) (n := n) h
 rw [S_zero] at this
 exact this
theorem S_one {n j : Nat} (c : Int) (h : j < n) : S n (fun i => if i = j then c else 0) = c := by
 induction n with
 | zero => omega
 | succ n ih =>
  show S n (fun i => if i = j then c else 0) + (if n = j then c else 0) = c
  by_cases e : n = j
  ·rw [if_pos e, S_congr (g := fun _ => 0) fun i hi => if_neg (by omega), S_zero]; omega
  ·rw [if_neg e, ih (by omega)]; omega
theorem S_pick {n j : Nat} {f g : Nat -> Int} (h : j < n) (hf : ∀ i, i < n -> i ≠ j -> f i = g i) : S n f = S n g + (f j - g j) := by
 have : S n f = S n (fun i => g i + (if i = j then f j - g j else 0)) := S_congr fun i hi => by
  by_cases e : i = j
  ·rw [if_pos e, e]; omega
  ·rw [if_neg e, hf i hi e]; omega
 rw [this, S_add, S_one _ h]
theorem S_ge {n j : Nat} {f : Nat -> Int} (h : j < n) (hf : ∀ i, i < n -> 0 <= f i) : f j <= S n f := by
 have h1 := S_pick (f := f) (g := fun i => if i = j then 0 else f i) h (fun i _ e => by rw [if_neg e])
 have h2 : 0 <= S n (fun i => if i = j then 0 else f i) := S_nonneg fun i hi => by
  by_cases e : i = j
  ·rw [if_pos e]; exact Int.le_refl _
  ·rw [if_neg e]; exact hf i hi
 rw [if_pos rfl] at h1
 omega
def b2 (b : Bool) : Int := if b then 1 else 0
structure Gph (g : Nat -> Nat -> Bool) : Prop where
 sym : ∀ i j, g i j = g j i
 irr : ∀ i, g i i = false
end Grf
namespace Web
open Grf
structure Tab (T : List (List Int)) (hi wi : Nat) : Prop where
 rect : Rect T hi wi
 b01 : ∀ r c, r < hi -> c < wi -> ent T r c = 0 \/ ent T r c = 1
def rS (T : List (List Int)) (wi r : Nat) : Int := S wi fun c => ent T r c
def cS (T : List (List Int)) (hi c : Nat) : Int := S hi fun r => ent T r c
theorem S_two {n j l : Nat} {f g : Nat -> Int} (hj : j < n) (hl : l < n) (hne : j ≠ l) (h : ∀ c, c < n -> c ≠ j -> c ≠ l -> f c = g c) (e : f j + f l = g j + g l) : S n f = S n g := by
 have e1 : S n f = S n (fun c => if c = j then f c else g c) + (f l - (if l = j then f l else g l)) := S_pick (f := f) (g := fun c => if c = j then f c else g c) hl fun c hc hcl => by
  show f c = if c = j then f c else g c
  by_cases z : c = j
  ·rw [if_pos z]
  ·rw [if_neg z]; exact h c hc z hcl
 have e2 : S n (fun c => if c = j then f c else g c) = S n g + ((if j = j then f j else g j) - g j) := S_pick (f := fun c => if c = j then f c else g c) (g := g) hj fun c hc hcj => by
  show (if c = j then f c else g c) = g c
  rw [if_neg hcj]
 rw [if_neg (Ne.symm hne)] at e1
 rw [if_pos rfl] at e2
 omega
section
variable {T : List (List Int)} {hi wi i j k l : Nat}
theorem sw_nat (h : isSw T hi wi i j k l) : i < hi /\ k < hi /\ j < wi /\ l < wi /\ ent T i j = 1 /\ ent T i l = 0 /\ ent T k j = 0 /\ ent T k l = 1 /\ i ≠ k /\ j ≠ l := by
 obtain ⟨⟨_, h1⟩, ⟨_, h2⟩, ⟨_, h3⟩, ⟨_, h4⟩, h5, h6, h7, h8⟩ := h
 rw [Int.toNat_natCast, Int.toNat_natCast] at h5 h6 h7 h8
 refine ⟨by omega, by omega, by omega, by omega, h5, h6, h7, h8, fun e => ?_, fun e => ?_⟩
 ·rw [e, h7] at h5; omega
 ·rw [e, h6] at h5; omega
theorem sw_tab (t : Tab T hi wi) (h : isSw T hi wi i j k l) : Tab (swp T i j k l) hi wi /\ (∀ r, rS (swp T i j k l) wi r = rS T wi r) /\ ∀ c, cS (swp T i j k l) hi c = cS T hi c := by
 obtain ⟨h1, h2, h3, h4, h5, h6, h7, h8, hik, hjl⟩ := sw_nat h
 have e := ent_swp t.rect h1 h3 h2 h4 hik hjl
 refine ⟨⟨rect_swp t.rect h1 h2, fun r c hr hc => ?_⟩, fun r => ?_, fun c => ?_⟩
 ·rw [e]
  have := t.b01 r c hr hc
  split
  ·omega
  ·exact this
 ·by_cases hr : r = i \/ r = k
  ·refine S_two h3 h4 hjl (fun c _ n1 n2 => ?_) ?_
   ·show ent (swp T i j k l) r c = ent T r c
    rw [e, if_neg fun z => z.2.elim n1 n2]
   ·show ent (swp T i j k l) r j + ent (swp T i j k l) r l = ent T r j + ent T r l
    rw [e, e, if_pos ⟨hr, .inl rfl⟩, if_pos ⟨hr, .inr rfl⟩]
    rcases hr with rfl | rfl
    ·rw [h5, h6]; rfl
    ·rw [h7, h8]; rfl
  ·refine S_congr fun c _ => ?_
   show ent (swp T i j k l) r c = ent T r c
   rw [e, if_neg fun z => hr z.1]
 ·by_cases hc : c = j \/ c = l
  ·refine S_two h1 h2 hik (fun r _ n1 n2 => ?_) ?_
   ·show ent (swp T i j k l) r c = ent T r c
    rw [e, if_neg fun z => z.1.elim n1 n2]
   ·show ent (swp T i j k l) i c + ent (swp T i j k l) k c = ent T i c + ent T k c
    rw [e, e, if_pos ⟨.inl rfl, hc⟩, if_pos ⟨.inr rfl, hc⟩]
    rcases hc with rfl | rfl
    ·rw [h5, h7]; rfl
    ·rw [h6, h8]; rfl
  ·refine S_congr fun r _ => ?_
   show ent (swp T i j k l) r c = ent T r c
   rw [e, if_neg fun z => hc z.2]
end
structure Lk (F L : List (List Int)) (hi wi : Nat) : Prop where
 f : Tab F hi wi
 l : Tab L hi wi
 rs : ∀ r, r < hi -> rS F wi r = rS L wi r
 cs : ∀ c, c < wi -> cS F hi c = cS L hi c
def D1 (wi : Nat) (F L : List (List Int)) (i : Nat) : Int := S wi fun c => if ent F i c = 1 /\ ent L i c = 0 then 1 else 0
section
variable {F L : List (List Int)} {hi wi i j k l : Nat}
theorem D1_le (K : Lk F L hi wi) (hi' : i < hi) : D1 wi F L i <= rS F wi i := S_le fun c hc => by
 have := K.f.b01 i c hi' hc
 split <;> omega
theorem D1_pos (hj : j < wi) (h1 : ent F i j = 1) (h2 : ent L i j = 0) : 1 <= D1 wi F L i := by
 have := S_ge (n := wi) (j := j) (f := fun c => if ent F i c = 1 /\ ent L i c = 0 then 1 else 0) hj fun c _ => by
  show (0 : Int) <= if _ then 1 else 0
  split <;> omega
 have e : (if ent F i j = 1 /\ ent L i j = 0 then (1 : Int) else 0) = 1 := if_pos ⟨h1, h2⟩
 unfold D1
 simp only [e] at this
 exact this
theorem ex_opp (K : Lk F L hi wi) (hi' : i < hi) {c : Nat} (hc : c < wi) (h : ent F i c ≠ ent L i c) : (∃ j, j < wi /\ ent F i j = 1 /\ ent L i j = 0) /\ ∃ l, l < wi /\ ent F i l = 0 /\ ent L i l = 1 := by
 have go : ∀ {A B : List (List Int)} {d : Nat}, (∀ c, c < wi -> ent A i c = 0 \/ ent A i c = 1) -> (∀ c, c < wi -> ent B i c = 0 \/ ent B i c = 1) -> rS A wi i = rS B wi i -> d < wi -> ent A i d = 1 -> ent B i d = 0 -> ∃ l, l < wi /\ ent A i l = 0 /\ ent B i l = 1 := fun {A B d} a b e hd h1 h2 => by
  apply Classical.byContradiction
  intro hn
  have hle : ∀ c, c < wi -> 0 <= ent A i c - ent B i c := fun c hc => by
   have q1 := a c hc
   have q2 := b c hc
   apply Classical.byContradiction
   intro z
   exact hn ⟨c, hc, by omega, by omega⟩
  have q : ent A i d - ent B i d <= S wi (fun c => ent A i c - ent B i c) := S_ge (f := fun c => ent A i c - ent B i c) hd hle
  rw [S_sub, h1, h2] at q
  have e' : S wi (ent A i) = S wi (ent B i) := e
  omega
 have fa := fun c hc => K.f.b01 i c hi' hc
 have la := fun c hc => K.l.b01 i c hi' hc
 have q1 := fa c hc
 have q2 := la c hc
 by_cases e : ent F i c = 1
 ·have e2 : ent L i c = 0 := by omega
  exact ⟨⟨c, hc, e, e2⟩, go fa la (K.rs i hi') hc e e2⟩
 ·have e1 : ent L i c = 1 := by omega
  have e2 : ent F i c = 0 := by omega
  obtain ⟨j, hj, h1, h2⟩ := go la fa (K.rs i hi').symm hc e1 e2
  exact ⟨⟨j, hj, h2, h1⟩, c, hc, e2, e1⟩
theorem ex_k (K : Lk F L hi wi) (hi' : i < hi) (hj : j < wi) (hl : l < wi) (hr : ∀ r, r < i -> ∀ c, ent F r c = ent L r c) (f1 : ent F i j = 1) (f2 : ent F i l = 0) (l1 : ent L i j = 0) (l2 : ent L i l = 1) :
  ∃ k, i < k /\ k < hi /\ (isSw F hi wi i j k l \/ isSw L hi wi i l k j) := by
 apply Classical.byContradiction
 intro hn
 have hall : ∀ k, i < k -> k < hi -> ent F k l <= ent F k j /\ ent L k j <= ent L k l := fun k h1 h2 => by
  have a1 := K.f.b01 k j h2 hj
  have a2 := K.f.b01 k l h2 hl
  have a3 := K.l.b01 k j h2 hj
  have a4 := K.l.b01 k l h2 hl
  constructor
  ·apply Classical.byContradiction
   intro z
   refine hn ⟨k, h1, h2, .inl ⟨⟨by omega, by omega⟩, ⟨by omega, by omega⟩, ⟨by omega, by omega⟩, ⟨by omega, by omega⟩, ?_⟩⟩
   rw [Int.toNat_natCast, Int.toNat_natCast, Int.toNat_natCast, Int.toNat_natCast]
   exact ⟨f1, f2, by omega, by omega⟩
  ·apply Classical.byContradiction
   intro z
   refine hn ⟨k, h1, h2, .inr ⟨⟨by omega, by omega⟩, ⟨by omega, by omega⟩, ⟨by omega, by omega⟩, ⟨by omega, by omega⟩, ?_⟩⟩
   rw [Int.toNat_natCast, Int.toNat_natCast, Int.toNat_natCast, Int.toNat_natCast]
   exact ⟨l2, l1, by omega, by omega⟩
 have hs := S_le (n := hi) (f := fun r => if r = i then 2 else 0) (g := fun r => (ent F r j - ent F r l) - (ent L r j - ent L r l)) fun r hr' => by
  show (if r = i then (2 : Int) else 0) <= (ent F r j - ent F r l) - (ent L r j - ent L r l)
  by_cases e : r = i
  ·rw [if_pos e, e]; omega
  ·rw [if_neg e]
   rcases Nat.lt_or_ge r i with z | z
   ·rw [hr r z, hr r z]; omega
   ·have := hall r (by omega) hr'
    omega
 rw [S_one 2 hi', S_sub, S_sub, S_sub] at hs
 have c1 := K.cs j hj
 have c2 := K.cs l hl
 unfold cS at c1 c2
 omega
theorem D1_F (t : Tab F hi wi) (hsw : isSw F hi wi i j k l) (l1 : ent L i j = 0) (l2 : ent L i l = 1) : D1 wi (swp F i j k l) L i = D1 wi F L i - 1 := by
 obtain ⟨h1, h2, h3, h4, h5, h6, h7, h8, hik, hjl⟩ := sw_nat hsw
 have e := ent_swp t.rect h1 h3 h2 h4 hik hjl
 have := S_pick (n := wi) (j := j) (f := fun c => if ent (swp F i j k l) i c = 1 /\ ent L i c = 0 then 1 else 0) (g := fun c => if ent F i c = 1 /\ ent L i c = 0 then 1 else 0) h3 fun c _ hc => by
  show (if ent (swp F i j k l) i c = 1 /\ ent L i c = 0 then (1 : Int) else 0) = if ent F i c = 1 /\ ent L i c = 0 then 1 else 0
  by_cases z : c = l
  ·subst z
   rw [if_neg (by omega), if_neg (by omega)]
  ·have ee : ent (swp F i j k l) i c = ent F i c := by rw [e, if_neg fun q => q.2.elim hc z]
   rw [ee]
 have e1 : (if ent (swp F i j k l) i j = 1 /\ ent L i j = 0 then (1 : Int) else 0) = 0 := if_neg fun z => by
  have := z.1
  rw [e, if_pos ⟨.inl rfl, .inl rfl⟩, h5] at this
  omega
 have e2 : (if ent F i j = 1 /\ ent L i j = 0 then (1 : Int) else 0) = 1 := if_pos ⟨h5, l1⟩
 unfold D1
 simp only [e1, e2] at this
 omega
theorem D1_L (t : Tab L hi wi) (hsw : isSw L hi wi i l k j) (f1 : ent F i j = 1) (f2 : ent F i l = 0) : D1 wi F (swp L i l k j) i = D1 wi F L i - 1 := by
 obtain ⟨h1, h2, h3, h4, h5, h6, h7, h8, hik, hjl⟩ := sw_nat hsw
 have e := ent_swp t.rect h1 h3 h2 h4 hik hjl
 have := S_pick (n := wi) (j := j) (f := fun c => if ent F i c = 1 /\ ent (swp L i l k j) i c = 0 then 1 else 0) (g := fun c => if ent F i c = 1 /\ ent L i c = 0 then 1 else 0) h4 fun c _ hc => by
  show (if ent F i c = 1 /\ ent (swp L i l k j) i c = 0 then (1 : Int) else 0) = if ent F i c = 1 /\ ent L i c = 0 then 1 else 0
  by_cases z : c = l
  ·subst z
   rw [if_neg (by omega), if_neg (by omega)]
  ·have ee : ent (swp L i l k j) i c = ent L i c := by rw [e, if_neg fun q => q.2.elim z hc]
   rw [ee]
 have e1 : (if ent F i j = 1 /\ ent (swp L i l k j) i j = 0 then (1 : Int) else 0) = 0 := if_neg fun z => by
  have := z.2
  rw [e, if_pos ⟨.inl rfl, .inr rfl⟩, h6] at this
  omega
 have e2 : (if ent F i j = 1 /\ ent L i j = 0 then (1 : Int) else 0) = 1 := if_pos ⟨f1, h6⟩
 unfold D1
 simp only [e1, e2] at this
 omega
end
theorem S_mono {R : Nat -> Int} {n : Nat} (h : ∀ r, r < n -> 0 <= R r) : ∀ {a b : Nat}, a <= b -> b <= n -> S a R <= S b R := fun {a b} hab => by
 induction b with
 | zero => intro _; rw [show a = 0 by omega]; exact Int.le_refl _
 | succ b ih =>
  intro hb
  by_cases e : a = b + 1
  ·rw [e]; exact Int.le_refl _
  ·have h1 := ih (by omega) (by omega)
   have h2 := h b (by omega)
   show S a R <= S b R + R b
   omega
structure Bd (hi wi : Nat) (R : Nat -> Int) (F L : List (List Int)) (n : Nat) : Prop where
 le : (n : Int) <= S hi R
 one : ∀ i, i < hi -> (∀ r, r < i -> ∀ c, ent F r c = ent L r c) -> (∃ c, c < wi /\ ent F i c ≠ ent L i c) -> (n : Int) + D1 wi F L i <= S (i + 1) R
section
variable {F L : List (List Int)} {hi wi i j k l n : Nat} {R : Nat -> Int}
theorem rS_nn (t : Tab F hi wi) : ∀ r, r < hi -> 0 <= rS F wi r := fun r hr => S_nonneg fun c hc => by
 have := t.b01 r c hr hc
 omega
theorem bd_first (K : Lk F L hi wi) (hR : ∀ r, r < hi -> R r = rS F wi r) : Bd hi wi R F L 0 := by
 have nn : ∀ r, r < hi -> 0 <= R r := fun r hr => by rw [hR r hr]; exact rS_nn K.f r hr
 refine ⟨S_nonneg nn, fun i hi' _ _ => ?_⟩
 have h1 := D1_le K hi'
 have h2 := S_mono nn (Nat.zero_le i) (by omega)
 have h3 : S 0 R = 0 := rfl
 have h4 : S (i + 1) R = S i R + R i := rfl
 rw [h4, hR i hi']
 omega
theorem bd_step {F' L' : List (List Int)} (B : Bd hi wi R F L n) (K' : Lk F' L' hi wi) (hR : ∀ r, r < hi -> R r = rS F' wi r) (hi' : i < hi) (hr : ∀ r, r < i -> ∀ c, ent F r c = ent L r c) (hd : ∃ c, c < wi /\ ent F i c ≠ ent L i c) (hp : 1 <= D1 wi F L i) (hD : D1 wi F' L' i = D1 wi F L i - 1) (hr' : ∀ r, r < i -> ∀ c, ent F' r c = ent L' r c) : Bd hi wi R F' L' (n + 1) := by
 have nn : ∀ r, r < hi -> 0 <= R r := fun r hr => by rw [hR r hr]; exact rS_nn K'.f r hr
 have b := B.one i hi' hr hd
 have m1 := S_mono nn (show i + 1 <= hi by omega) (Nat.le_refl _)
 refine ⟨by omega, fun i2 h2 g1 g2 => ?_⟩
 rcases Nat.lt_trichotomy i2 i with z | z | z
 ·obtain ⟨c, _, hc⟩ := g2
  exact absurd (hr' i2 z c) hc
 ·subst z
  omega
 ·have d := D1_le K' h2
  have m2 := S_mono nn (show i + 1 <= i2 by omega) (by omega)
  have e : S (i2 + 1) R = S i2 R + R i2 := rfl
  rw [e, hR i2 h2]
  omega
end
abbrev Four := Nat × Nat × Nat × Nat
def is4 (T : List (List Int)) (hi wi : Nat) (q : Four) : Prop := isSw T hi wi q.1 q.2.1 q.2.2.1 q.2.2.2
def sw4 (T : List (List Int)) (q : Four) : List (List Int) := swp T q.1 q.2.1 q.2.2.1 q.2.2.2
def Pth (hi wi : Nat) : List (List Int) -> List Four -> List (List Int) -> Prop
 | T, [], U => T = U
 | T, q :: qs, U => is4 T hi wi q /\ Pth hi wi (sw4 T q) qs U
theorem Pth.snoc {hi wi : Nat} : ∀ {qs : List Four} {T U : List (List Int)} {q : Four}, Pth hi wi T qs U -> is4 U hi wi q -> Pth hi wi T (qs ++ [q]) (sw4 U q)
 | [], T, U, q, h, g => by
  have e : T = U := h
  subst e
  exact ⟨g, rfl⟩
 | p :: qs, T, U, q, h, g => ⟨h.1, Pth.snoc h.2 g⟩
theorem Pth.app {hi wi : Nat} : ∀ {qs ps : List Four} {T U W : List (List Int)}, Pth hi wi T qs U -> Pth hi wi U ps W -> Pth hi wi T (qs ++ ps) W
 | [], ps, T, U, W, h, g => by
  have e : T = U := h
  subst e
  exact g
 | q :: qs, ps, T, U, W, h, g => ⟨h.1, Pth.app h.2 g⟩
theorem Pth.back {hi wi i j k l : Nat} {qs : List Four} {T U : List (List Int)} (hT : Rect T hi wi) (h : Pth hi wi T qs U) (g : isSw T hi wi i l k j) : Pth hi wi (swp T i l k j) ((i, j, k, l) :: qs) U := by
 obtain ⟨h1, h2, h3, h4, _, _, _, _, hik, hjl⟩ := sw_nat g
 refine ⟨?_, ?_⟩
 ·have := sw_back hT g
  rw [Int.toNat_natCast, Int.toNat_natCast, Int.toNat_natCast, Int.toNat_natCast] at this
  exact this
 ·show Pth hi wi (swp (swp T i l k j) i j k l) qs U
  rw [swp_back hT h1 h3 h2 h4 hik hjl]
  exact h
def Gd (F L : List (List Int)) (hi wi i j l k : Nat) : Prop := isSw F hi wi i j k l \/ isSw L hi wi i l k j
structure Nx (F L : List (List Int)) (hi wi i j k l : Nat) : Prop where
 hi_ : i < hi
 ahead : ∀ r, r < i -> F.getD r [] = L.getD r []
 here : F.getD i [] ≠ L.getD i []
 hj : j < wi
 dj : ent F i j - ent L i j = 1
 mj : ∀ c, c < j -> ent F i c - ent L i c ≠ 1
 hl : l < wi
 dl : ent F i l - ent L i l = -1
 ml : ∀ c, c < l -> ent F i c - ent L i c ≠ -1
 hk : i < k /\ k < hi
 gk : Gd F L hi wi i j l k
 mg : ∀ r, i < r -> r < k -> ¬ Gd F L hi wi i j l r
theorem Nx.uniq {F L : List (List Int)} {hi wi i j k l i' j' k' l' : Nat} (h : Nx F L hi wi i j k l) (g : Nx F L hi wi i' j' k' l') : i = i' /\ j = j' /\ k = k' /\ l = l' := by
 have e1 : i = i' := by
  rcases Nat.lt_trichotomy i i' with z | z | z
  ·exact absurd (g.ahead i z) h.here
  ·exact z
  ·exact absurd (h.ahead i' z) g.here
 subst e1
 have e2 : j = j' := by
  rcases Nat.lt_trichotomy j j' with z | z | z
  ·exact absurd h.dj (g.mj j z)
  ·exact z
  ·exact absurd g.dj (h.mj j' z)
 subst e2
 have e3 : l = l' := by
  rcases Nat.lt_trichotomy l l' with z | z | z
  ·exact absurd h.dl (g.ml l z)
  ·exact z
  ·exact absurd g.dl (h.ml l' z)
 subst e3
 have e4 : k = k' := by
  rcases Nat.lt_trichotomy k k' with z | z | z
  ·exact absurd h.gk (g.mg k h.hk.1 z)
  ·exact z
  ·exact absurd g.gk (h.mg k' g.hk.1 z)
 exact ⟨rfl, rfl, e4, rfl⟩
theorem least_of {p : Nat -> Prop} : ∀ n : Nat, p n -> ∃ j, j <= n /\ p j /\ ∀ m, m < j -> ¬ p m := fun n => by
 induction n using Nat.strongRecOn with
 | _ n ih =>
  intro h
  by_cases e : ∃ m, m < n /\ p m
  ·obtain ⟨m, hm, hp⟩ := e
   obtain ⟨j, h1, h2, h3⟩ := ih m hm hp
   exact ⟨j, by omega, h2, h3⟩
  ·exact ⟨n, Nat.le_refl _, h, fun m hm hp => e ⟨m, hm, hp⟩⟩
section
variable {F L : List (List Int)} {hi wi i j k l : Nat}
theorem Nx.f1 (K : Lk F L hi wi) (h : Nx F L hi wi i j k l) : ent F i j = 1 /\ ent L i j = 0 /\ ent F i l = 0 /\ ent L i l = 1 := by
 have a1 := K.f.b01 i j h.hi_ h.hj
 have a2 := K.l.b01 i j h.hi_ h.hj
 have a3 := K.f.b01 i l h.hi_ h.hl
 have a4 := K.l.b01 i l h.hi_ h.hl
 have := h.dj
 have := h.dl
 omega
theorem Nx.rows (h : Nx F L hi wi i j k l) : ∀ r, r < i -> ∀ c, ent F r c = ent L r c := fun r hr c => by
 unfold ent
 rw [h.ahead r hr]
theorem lk_F (K : Lk F L hi wi) (h : isSw F hi wi i j k l) : Lk (swp F i j k l) L hi wi := by
 obtain ⟨t, r, c⟩ := sw_tab K.f h
 exact ⟨t, K.l, fun x hx => by rw [r]; exact K.rs x hx, fun x hx => by rw [c]; exact K.cs x hx⟩
theorem lk_L (K : Lk F L hi wi) (h : isSw L hi wi i l k j) : Lk F (swp L i l k j) hi wi := by
 obtain ⟨t, r, c⟩ := sw_tab K.l h
 exact ⟨K.f, t, fun x hx => by rw [r]; exact K.rs x hx, fun x hx => by rw [c]; exact K.cs x hx⟩
theorem ent_ne {T : List (List Int)} {r c : Nat} (hT : Rect T hi wi) (h : isSw T hi wi i j k l) (h1 : r ≠ i) (h2 : r ≠ k) : ent (swp T i j k l) r c = ent T r c := by
 obtain ⟨a1, a2, a3, a4, _, _, _, _, hik, hjl⟩ := sw_nat h
 rw [ent_swp hT a1 a3 a2 a4 hik hjl, if_neg fun z => z.1.elim h1 h2]
theorem Nx.diff (h : Nx F L hi wi i j k l) : ∃ c, c < wi /\ ent F i c ≠ ent L i c := ⟨j, h.hj, by have := h.dj; omega⟩
theorem bd_F {n : Nat} {R : Nat -> Int} (B : Bd hi wi R F L n) (K : Lk F L hi wi) (hR : ∀ r, r < hi -> R r = rS F wi r) (h : Nx F L hi wi i j k l) (hs : isSw F hi wi i j k l) : Bd hi wi R (swp F i j k l) L (n + 1) := by
 obtain ⟨q1, q2, q3, q4⟩ := h.f1 K
 refine bd_step B (lk_F K hs) (fun r hr => by rw [hR r hr, (sw_tab K.f hs).2.1]) h.hi_ h.rows h.diff (D1_pos h.hj q1 q2) (D1_F K.f hs q2 q4) fun r hr c => ?_
 rw [ent_ne K.f.rect hs (by omega) (by have := h.hk.1; omega)]
 exact h.rows r hr c
theorem bd_L {n : Nat} {R : Nat -> Int} (B : Bd hi wi R F L n) (K : Lk F L hi wi) (hR : ∀ r, r < hi -> R r = rS F wi r) (h : Nx F L hi wi i j k l) (hs : isSw L hi wi i l k j) : Bd hi wi R F (swp L i l k j) (n + 1) := by
 obtain ⟨q1, q2, q3, q4⟩ := h.f1 K
 refine bd_step B (lk_L K hs) hR h.hi_ h.rows h.diff (D1_pos h.hj q1 q2) (D1_L K.l hs q1 q3) fun r hr c => ?_
 rw [ent_ne K.l.rect hs (by omega) (by have := h.hk.1; omega)]
 exact h.rows r hr c
theorem bd_lt {n : Nat} {R : Nat -> Int} (B : Bd hi wi R F L n) (K : Lk F L hi wi) (hR : ∀ r, r < hi -> R r = rS F wi r) (h : Nx F L hi wi i j k l) : (n : Int) + 1 <= S hi R := by
 obtain ⟨q1, q2, q3, q4⟩ := h.f1 K
 have b := B.one i h.hi_ h.rows h.diff
 have p := D1_pos h.hj q1 q2
 have nn : ∀ r, r < hi -> 0 <= R r := fun r hr => by rw [hR r hr]; exact rS_nn K.f r hr
 have hh := h.hi_
 have m1 := S_mono nn (show i + 1 <= hi by omega) (Nat.le_refl _)
 omega
end
open Classical in
noncomputable def ledF (hi wi : Nat) : Nat -> List (List Int) -> List (List Int) -> List Four
  | 0, _, _ => []
  | n + 1, F, L => if h : F ≠ L /\ ∃ q : Four, Nx F L hi wi q.1 q.2.1 q.2.2.1 q.2.2.2 then
      (if isSw F hi wi h.2.choose.1 h.2.choose.2.1 h.2.choose.2.2.1 h.2.choose.2.2.2 then h.2.choose :: ledF hi wi n (sw4 F h.2.choose) L
       else ledF hi wi n F (swp L h.2.choose.1 h.2.choose.2.2.2 h.2.choose.2.2.1 h.2.choose.2.1) ++ [h.2.choose]) else []
theorem led_same {hi wi n : Nat} {F : List (List Int)} : ledF hi wi n F F = [] := by
 cases n with
 | zero => rfl
 | succ n =>
  unfold ledF
  rw [dif_neg fun z => z.1 rfl]
theorem led_step {hi wi n i j k l : Nat} {F L : List (List Int)} (hne : F ≠ L) (h : Nx F L hi wi i j k l) :
  (isSw F hi wi i j k l -> ledF hi wi (n + 1) F L = (i, j, k, l) :: ledF hi wi n (swp F i j k l) L) /\ (¬ isSw F hi wi i j k l -> ledF hi wi (n + 1) F L = ledF hi wi n F (swp L i l k j) ++ [(i, j, k, l)]) := by
 have ex : F ≠ L /\ ∃ q : Four, Nx F L hi wi q.1 q.2.1 q.2.2.1 q.2.2.2 := ⟨hne, (i, j, k, l), h⟩
 have e : ex.2.choose = (i, j, k, l) := by
  obtain ⟨a, b, c, d⟩ := Nx.uniq ex.2.choose_spec h
  exact Prod.ext a (Prod.ext b (Prod.ext c d))
 constructor
 ·intro hs
  conv => lhs; unfold ledF
  rw [dif_pos ex, e, if_pos hs]
  rfl
 ·intro hs
  conv => lhs; unfold ledF
  rw [dif_pos ex, e, if_neg hs]
end Web
namespace L2
open PySem PySem.Spec PyProof.Rows
theorem rv_no_len : typeLookup (.type "list_reverseiterator") "__len__" = pure none := by rw [typeLookup_type, builtinLookup_eq_fast]; kernel_rfl
theorem rv_hint : typeLookup (.type "list_reverseiterator") "__length_hint__" = pure (some (.builtin "list_reverseiterator.__length_hint__")) := by rw [typeLookup_type, builtinLookup_eq_fast]; kernel_rfl
section
variable {prog : Program} {w : World} {A : Around} {E : Value -> Shared -> Prop} {s : Shared}
theorem rv_room {I : Addr} {Q : Bool -> Shared -> Prop} (hT : s.TypeIs (.ref I) "list_reverseiterator") (h : Q false s) : wpAny (model prog w) A (Builtin.List.listLengthHint (.ref I)) Q E s := by
 unfold Builtin.List.listLengthHint
 refine wpAny_bind (wpAny_specialOf hT rv_no_len ?_)
 show wpAny _ A (specialOf (Value.ref I) (Str.ofString "__length_hint__") >>= _) _ _ _
 refine wpAny_bind (wpAny_specialOf hT rv_hint ?_)
 generalize hid : ("list_reverseiterator.__length_hint__" : String) = id0
 wp_delta
 rw [show splitId id0 = some ("list_reverseiterator", "__length_hint__") from by subst hid; decide +kernel]
 subst hid
 refine wpAny_bind (wpAny_isInstance (T := "list_reverseiterator") (b := true) hT (by rw [isSubtype_type]; kernel_rfl) ?_)
 refine wpAny_ite_split (fun hab => absurd hab (by decide)) (fun _ => ?_)
 refine wpAny_ite_split (fun _ => ?_) (fun hab => absurd hab (by decide +kernel))
 refine wpAny_ite_split (fun hab => absurd hab (by decide +kernel)) (fun _ => ?_)
 exact wpAny_pure h
end
section
variable {prog : Program} {w : World} {A : Around} {s : Shared} {R : Result -> Shared -> Prop}
variable {I : Addr} {fp wr : List Addr} {G : Array GenState -> Array GenState -> Prop} {n : Nat} {P : Nat -> Value -> Prop} {St : Nat -> Shared -> Prop}
theorem rv_extend (W : WalksS prog w A.in1 I fp wr G n P St) (hT : ∀ i s, St i s -> s.TypeIs (.ref I) "list_reverseiterator") (S : Addr) (res : Value) (c₀ : Nat) (hst : St 0 s) (hSf : S ∉ fp) (hI : I ∈ fp)
  (hS : s.heap.get? S = some { cls := .type "list", data := .seq #[] c₀ })
  (hR : ∀ s' acc' c', Moved (S :: wr) G s s' -> s'.heap.get? S = some { cls := .type "list", dict := none, data := .seq acc' c', slots := #[] } -> ItemsOf P acc' n -> R (.ok (.ret res)) s') (hn : n <= sizeLine) :
  wpAny (model prog w) A.in1 (Builtin.List.listExtendWith (.ref S) (.ref I) res)
   (fun fin s' => match fin with | .done f => R (.ok f) s' | .again c' => c'.quiet = true /\ codeAny (model prog w) A c' R s') (fun e s' => R (.error e) s') s := by
 have hSI : S ≠ I := fun e => hSf (e ▸ hI)
 unfold Builtin.List.listExtendWith
 refine wpAny_bind (wpAny_typeOf (hT 0 _ hst) ?_)
 have h1 : Builtin.List.listSameRef (.ref S) (.ref I) = false := by simp [Builtin.List.listSameRef, hSI]
 have h2 : (Value.type "list_reverseiterator" == Value.type "list") = false := by decide
 have h3 : (Value.type "list_reverseiterator" == Value.type "tuple") = false := by decide
 simp only [h1, h2, h3, Bool.or_false, Bool.false_eq_true, if_false]
 refine wpAny_bind (W.self 0 _ _ _ hst ?_)
 refine wpAny_bind (wpAny_holding (rv_room (hT 0 _ hst) ?_))
 refine wpAny_ite_split (fun hab => absurd hab (by decide +kernel)) (fun _ => ?_)
 refine wpAny_pure ⟨plainId_quiet F.plain_extend_loop _, codeAny_extend_loopS W hn _ hSf _ n 0 _ _ _ rfl (Nat.zero_le _) hst hS (ItemsOf.nil P) fun s' acc' c' hm hS' hacc => ?_⟩
 exact hR s' acc' c' hm hS' hacc
theorem rv_init (W : WalksS prog w A.in1 I fp wr G n P St) (hT : ∀ i s, St i s -> s.TypeIs (.ref I) "list_reverseiterator") (S : Addr) (hst : St 0 s) (hSf : S ∉ fp) (hI : I ∈ fp)
  (hS : s.heap.get? S = some { cls := .type "list", data := .seq #[] })
  (hR : ∀ s' acc' c', Moved (S :: wr) G s s' -> s'.heap.get? S = some { cls := .type "list", dict := none, data := .seq acc' c', slots := #[] } -> ItemsOf P acc' n -> R (.ok (.ret .none)) s') (hn : n <= sizeLine) :
  wpAny (model prog w) A.in1 (Builtin.«list.__init__» ⟨[.ref S, .ref I], []⟩)
   (fun fin s' => match fin with | .done f => R (.ok f) s' | .again c' => c'.quiet = true /\ codeAny (model prog w) A c' R s') (fun e s' => R (.error e) s') s := by
 show wpAny _ A.in1 (do let old <- Builtin.List.listItems (.ref S); Builtin.List.listUpdate (.ref S) (fun _ => #[]); letGo old.toList.reverse; Builtin.List.listExtendWith (.ref S) (.ref I) .none) _ _ s
 refine wpAny_bind ?_
 unfold Builtin.List.listItems
 refine wpAny_bind (wpAny_seqItems hS rfl (wpAny_pure ?_))
 show wpAny _ A.in1 (updateSeq S (fun _ => #[]) >>= fun _ => letGo (#[] : Array Value).toList.reverse >>= fun _ => Builtin.List.listExtendWith (.ref S) (.ref I) .none) _ _ s
 refine wpAny_bind (wpAny_updateSeq hS rfl ?_)
 have hS₂ := Heap.get?_update_self (Obj.mapSeq (fun _ => (#[] : Array Value))) hS rfl
 have oth : ∀ b o, b ≠ S -> s.heap.get? b = some o -> (s.heap.update S (Obj.mapSeq (fun _ => (#[] : Array Value)))).get? b = some o :=
  fun b o hb e => (Heap.get?_update_other _ _ (Ne.symm hb)).trans e
 refine wpAny_bind (wpAny_letGo ?_)
 refine rv_extend (hn := hn) W hT S .none _ (W.frame 0 s _ s.toks hst (Nat.le_refl _) fun b hb o e => oth b o (fun h => hSf (h ▸ hb)) e) hSf hI hS₂ fun s' acc' c' hm hS' hacc => ?_
 exact hR s' acc' c' (Moved.trans W.gtrans ((Moved.refl W.grefl).then_heap (Nat.le_refl _) fun b o hb e => oth b o (fun h => hb (h ▸ List.mem_cons_self)) e) hm) hS' hacc
end
section
variable {prog : Program} {w : World} {A : Around} {E : Value -> Shared -> Prop} {s : Shared}
variable {I : Addr} {fp wr : List Addr} {G : Array GenState -> Array GenState -> Prop} {n : Nat} {P : Nat -> Value -> Prop} {St : Nat -> Shared -> Prop}
theorem rv_list {Q : Value -> Shared -> Prop} (W : WalksS prog w A.in1.in1 I fp wr G n P St) (hT : ∀ i s, St i s -> s.TypeIs (.ref I) "list_reverseiterator") (hst : St 0 s) (hfp : ∀ b ∈ fp, b < s.heap.objs.size) (hI : I ∈ fp)
  (hQ : ∀ s' acc' c', Moved (s.heap.objs.size :: wr) G { s with heap := s.heap.push { cls := .type "list", data := .seq #[] } } s' ->
   s'.heap.get? s.heap.objs.size = some { cls := .type "list", dict := none, data := .seq acc' c', slots := #[] } -> ItemsOf P acc' n -> Q (.ref s.heap.objs.size) s') (hn : n <= sizeLine) :
  wpAny (model prog w) A (call (.type "list") [.ref I]) Q E s := by
 have hSf : s.heap.objs.size ∉ fp := fun hm => Nat.lt_irrefl _ (hfp _ hm)
 refine callType_codes (Q₁ := fun obj s₁ => obj = .ref s.heap.objs.size /\ s₁ = { s with heap := s.heap.push { cls := .type "list", data := .seq #[] } }) F.called_list (F.typeCall_list_1 _) F.entry_list_init
  (code_list_new _ ⟨rfl, rfl⟩) fun obj s₁ h₁ => ?_
 obtain ⟨rfl, rfl⟩ := h₁
 have hS : (s.heap.push { cls := .type "list", data := .seq #[] }).get? s.heap.objs.size = some { cls := .type "list", data := .seq #[] } := Heap.get?_push_size _ rfl
 refine ⟨⟨_, hS, rfl⟩, F.args_list_init_2 _ _, rv_init (hn := hn) W hT _ (W.frame 0 s _ s.toks hst (Nat.le_refl _) fun b _ o e => Heap.get?_push_of_some _ e) hSf hI hS fun s' acc' c' hm hS' hacc => ?_⟩
 exact ⟨rfl, hQ s' acc' c' hm hS' hacc⟩
end
section
variable {X : Cx}
def rLRev (K : W.Frag) : List V -> Hp -> VK -> Prop := fun xs H Q => ∃ l zs, xs = [.ref l] /\ SqL K H l zs /\ ∀ d, H d = none -> Q (.ref d) (upd H d (.lst zs.reverse))
theorem pe_lrev {e : Expr} {ta : TA} {p1 p2 pos1 pos2 : Pos} (hc : X.calm = true) (hgL : Gl X "list") (hmL : X.mg "list" = none) (hgR : Gl X "reversed") (hmR : X.mg "reversed" = none) (ha : PA X [e] ta)
  (hs : starEach [e] X.env = (false, eval e X.env) :: starEach [] X.env := by rfl) (hpl : (backTo pos2 (starEach [] X.env)).any (·.1) = false := by rfl) :
  PE X (.Call (.Name "list" p1) [.Call (.Name "reversed" p2) [e] [] pos2] [] pos1) (tCB (rLRev X.K) ta) := by
 intro pins s σ H Q I h
 refine wpAny_Call_Name_kw (ld_blt I hgL hmL (show bootBuiltins "list" = some (.type "list") from rfl) ?_ (by decide) (by decide))
 refine callWith_type1 ?_ (by rfl) (by rfl)
 show wpAny _ _ (spliced ((false, eval (.Call (.Name "reversed" p2) [e] [] pos2) X.env) :: backTo pos1 (starEach [] X.env))) _ _ s
 refine Calls.spliced_cons ?_
 refine wpAny_Call_Name_kw (ld_blt I hgR hmR (show bootBuiltins "reversed" = some (.type "reversed") from rfl) ?_ (by decide) (by decide))
 refine callWith_type1 (thn (ha pos2 pins s σ H _ I h) fun us s1 ⟨vs, H1, I1, r1, q1⟩ => ?_) hs hpl
 obtain ⟨l, zs, rfl, hq, q⟩ := q1
 obtain ⟨u, rfl, ru⟩ := vals1 r1
 cases ru
 obtain ⟨its, rr, pl, hz⟩ := I1.list hq
 have hlen := rr.length
 have hl := pl.isList
 refine call_reversed_list hl ?_
 refine Calls.spliced_nil ?_
 have hls : l < s1.heap.objs.size := by
  obtain ⟨o, ho, _⟩ := hl
  exact Heap.lt_size ho
 have hne : l ≠ s1.heap.objs.size := Nat.ne_of_lt hls
 have W := (Walks.listRev (prog := X.prog) (w := X.w) (A := X.A.in1.in1) (I1.ok.hd hc) s1.heap.objs.size l hne its.toArray).toS
 refine rv_list W (fun i s' x => x.2.1.typeIs) ⟨Nat.zero_le _, ?_, ?_⟩ (fun b hb => ?_) List.mem_cons_self (fun s' acc c' hm hS hacc => ?_) ?_
 ·have e0 : ((its.toArray.size : Int) - 1 - ((0 : Nat) : Int)) = (its.toArray.size : Int) - 1 := by omega
  rw [e0]
  exact ⟨_, Heap.get?_push_size _ rfl, rfl, rfl⟩
 ·exact hl.at fun o e => Heap.get?_push_of_some _ e
 ·show b < (s1.heap.push _).objs.size
  rw [show (s1.heap.push (revObj l ((its.toArray.size : Int) - 1))).objs.size = s1.heap.objs.size + 1 from Array.size_push _]
  rcases List.mem_cons.mp hb with e | hb
  ·rw [e]; exact Nat.lt_succ_self _
  ·rw [List.mem_singleton.mp hb]; exact Nat.lt_succ_of_lt hls
 ·have es : (s1.heap.push (revObj l ((its.toArray.size : Int) - 1))).objs.size = s1.heap.objs.size + 1 := Array.size_push _
  have hsz : acc.size = its.length := by rw [hacc.1]; exact List.size_toArray ..
  have ea : acc.toList = its.reverse := by
   apply List.ext_getElem?
   intro j
   rcases Nat.lt_or_ge j its.length with hj | hj
   ·have h1 : acc[j]? = some (acc[j]'(by omega)) := Array.getElem?_eq_getElem (by omega)
    have h2 := hacc.2 j _ h1
    rw [Array.getElem?_toList, h1, List.getElem?_reverse hj, <- h2]
    simp
   ·rw [List.getElem?_eq_none (by rw [Array.length_toList]; omega), List.getElem?_eq_none (by rw [List.length_reverse]; omega)]
  have kp : ∀ b u, s1.heap.get? b = some u -> s'.heap.get? b = some u := fun b u e => by
   have hb := Heap.lt_size e
   refine hm.heap b u (fun mm => ?_) (Heap.get?_push_of_some _ (Heap.get?_push_of_some _ e))
   rcases List.mem_cons.mp mm with z | mm
   ·have z2 : b = s1.heap.objs.size + 1 := z.trans es
    rw [z2] at hb
    exact absurd hb (Nat.not_lt.mpr (Nat.le_succ _))
   ·have z2 := List.mem_singleton.mp mm
    rw [z2] at hb
    exact Nat.lt_irrefl _ hb
  have new : ObjOk X.prog X.w (upd H1 (s1.heap.push (revObj l ((its.toArray.size : Int) - 1))).objs.size (.lst zs.reverse)) s'.heap (s1.heap.push (revObj l ((its.toArray.size : Int) - 1))).objs.size (.lst zs.reverse) := ⟨by rw [List.length_reverse]; exact hz, acc.toList, c', by rw [ea]; exact rr.reverse, by rw [Array.toArray_toList]; exact hS⟩
  have I2 := I1.laid (t' := s'.toks) kp (show s1.heap.objs.size <= (s1.heap.push (revObj l ((its.toArray.size : Int) - 1))).objs.size by rw [es]; exact Nat.le_succ _) new
  have hf := I1.hok.fresh (a := (s1.heap.push (revObj l ((its.toArray.size : Int) - 1))).objs.size) (by rw [es]; exact Nat.le_succ _)
  rw [PySem.Moved.eq_with hm]
  exact ⟨.ref (s1.heap.push (revObj l ((its.toArray.size : Int) - 1))).objs.size, _, I2, rfl, q _ hf⟩
 ·rw [List.size_toArray, <- hlen]; exact hz
end
structure ZAp (z TI TO i1 i2 : Addr) (f1 f2 : List Addr) : Prop where
 a1 : TI ≠ z
 a2 : TO ≠ z
 a3 : i1 ≠ z
 a4 : i2 ≠ z
 a5 : TI ≠ TO
 a6 : TI ≠ i1
 a7 : TI ≠ i2
 a8 : TO ≠ i1
 a9 : TO ≠ i2
 b0 : i1 ≠ i2
 b1 : z ∉ f1
 b2 : z ∉ f2
 b3 : TO ∉ f1
 b4 : TO ∉ f2
 b5 : i1 ∉ f2
 b6 : i2 ∉ f1
section
variable {prog : Program} {w : World} {A : Around} {E : Value -> Shared -> Prop} {s : Shared} {z TI TO i1 i2 : Addr} {f1 f2 : List Addr} {n1 n2 k : Nat} {P1 P2 : Nat -> Value -> Prop} {S1 S2 : Nat -> Heap -> Prop}
theorem zd_frame {it : Addr} {fp : List Addr} {n i : Nat} {P : Nat -> Value -> Prop} {St : Nat -> Heap -> Prop} (D : Draws prog w A it fp n P St) {h h' : Heap} {c : Addr} (st : St i h) (k : Heap.ExtBut c h h') (hc : c ∉ fp) : St i h' := D.frame i h h' st fun b hb o e => k b o (fun zz => hc (zz ▸ hb)) e
theorem zd_item {Q : Value -> Shared -> Prop} {a b : Value} (D : ZAp z TI TO i1 i2 f1 f2) (D1 : Draws prog w A i1 f1 n1 P1 S1) (D2 : Draws prog w A i2 f2 n2 P2 S2) (hz : IsZip s.heap z TI TO .none) (hTI : IsPair s.heap TI (.ref i1) (.ref i2)) (hTO : IsPair s.heap TO a b) (st1 : S1 k s.heap) (st2 : S2 k s.heap) (hk1 : k < n1) (hk2 : k < n2)
  (hQ : ∀ x y h' tk, P1 k x -> P2 k y -> IsZip h' z TI TO (rawInt s.heap.objs.size) -> IsPair h' TO x y -> S1 (k + 1) h' -> S2 (k + 1) h' -> IsPair h' s.heap.objs.size x y -> h'.objs.size = s.heap.objs.size + 1 ->
   (∀ c o, c ≠ z -> c ≠ TO -> c ≠ i1 -> c ≠ i2 -> s.heap.get? c = some o -> h'.get? c = some o) -> Q (.ref s.heap.objs.size) { s with heap := h', toks := tk }) :
  wpAny (model prog w) A (Builtin.«zip.__next__» ⟨[.ref z], []⟩) (fun fin s' => ∃ v, fin = .done (.ret v) /\ Q v s') E s := by
 show wpAny _ _ (field (.ref z) 2 >>= _) _ _ _; refine wpAny_bind (wpAny_field hz rfl (x := .bool false) rfl ?_)
 show wpAny _ _ (field (.ref z) 3 >>= _) _ _ _; refine wpAny_bind (wpAny_field hz rfl (x := .ref TI) rfl (wpAny_bind (wpAny_seqItems hTI rfl ?_)))
 show wpAny _ _ (Builtin.SmallTypes.ownedTupleIsFree (.ref z) >>= _) _ _ _; refine wpAny_bind ?_; unfold Builtin.SmallTypes.ownedTupleIsFree
 refine wpAny_bind (wpAny_field hz rfl (x := .none) rfl (wpAny_pure ?_)); simp only [if_true]
 refine wpAny_bind (wpAny_rule (wpAny_bind (wpAny_field hz rfl (x := .ref TO) rfl (wpAny_bind (wpAny_setField_rec hz (by simp) fun hA hzA hsA => ?_)))))
 replace hzA : IsZip hA z TI TO .ellipsis := hzA
 refine wpAny_bind ?_; simp only [List.zipIdx_cons, List.zipIdx_nil, List.forIn_cons, List.forIn_nil]
 refine wpAny_bind (wpAny_bind (wpAny_onRaise ?_)); show wpAny _ _ (Builtin.SmallTypes.nextOf (.ref i1) >>= _) _ _ _
 refine wpAny_bind (D1.item k _ _ _ hk1 (zd_frame D1 st1 hsA.extBut D.b1) fun x hB tB hx stB hsB => wpAny_pure ?_)
 have hTOB : IsPair hB TO a b := hsB.extBut _ _ D.a8 (hsA.extBut _ _ D.a2 hTO)
 refine wpAny_bind (wpAny_seqItems hTOB rfl (wpAny_bind (wpAny_updateSeq_pair hTOB fun hC hTOC hsC => ?_)))
 replace hTOC : IsPair hC TO x b := hTOC
 refine wpAny_bind (wpAny_letGo (wpAny_pure ?_)); refine wpAny_bind (wpAny_bind (wpAny_onRaise ?_)); show wpAny _ _ (Builtin.SmallTypes.nextOf (.ref i2) >>= _) _ _ _
 refine wpAny_bind (D2.item k _ _ _ hk2 (zd_frame D2 (zd_frame D2 (zd_frame D2 st2 hsA.extBut D.b2) hsB.extBut D.b5) hsC.extBut D.b4) fun y hD tD hy stD hsD => wpAny_pure ?_)
 have hTOD : IsPair hD TO x b := hsD.extBut _ _ D.a9 hTOC
 refine wpAny_bind (wpAny_seqItems hTOD rfl (wpAny_bind (wpAny_updateSeq_pair hTOD fun hF hTOF hsF => ?_)))
 replace hTOF : IsPair hF TO x y := hTOF
 refine wpAny_bind (wpAny_letGo (wpAny_pure (wpAny_pure (wpAny_bind (wpAny_seqItems hTOF rfl (wpAny_bind (wpAny_newTuple ?_)))))))
 have hsz : hF.objs.size = s.heap.objs.size := by rw [hsF.1, hsD.1, hsC.1, hsB.1, hsA.1]
 have hzF : IsZip hF z TI TO .ellipsis := hsF.extBut _ _ D.a2.symm (hsD.extBut _ _ D.a4.symm (hsC.extBut _ _ D.a2.symm (hsB.extBut _ _ D.a3.symm hzA)))
 have hkF : ∀ c o, c ≠ z -> c ≠ TO -> c ≠ i1 -> c ≠ i2 -> s.heap.get? c = some o -> hF.get? c = some o := fun c o c1 c2 c3 c4 e => hsF.extBut _ _ c2 (hsD.extBut _ _ c4 (hsC.extBut _ _ c2 (hsB.extBut _ _ c3 (hsA.extBut _ _ c1 e))))
 have s1F : S1 (k + 1) hF := zd_frame D1 (zd_frame D1 (zd_frame D1 stB hsC.extBut D.b3) hsD.extBut D.b6) hsF.extBut D.b3
 have s2F : S2 (k + 1) hF := zd_frame D2 stD hsF.extBut D.b4
 have hzlt : z < hF.objs.size := Heap.lt_size hzF
 show wpAny _ _ (Builtin.SmallTypes.ownedTupleHandOut (.ref z) (.ref hF.objs.size) >>= _) _ _ _; refine wpAny_bind ?_; unfold Builtin.SmallTypes.ownedTupleHandOut
 have hzG : IsZip (hF.push { cls := .type "tuple", data := .seq #[x, y] }) z TI TO .ellipsis := Heap.get?_push_of_some _ hzF
 refine wpAny_bind (wpAny_setField_rec hzG (by simp) fun hJ hzJ hsJ => ?_)
 replace hzJ : IsZip hJ z TI TO (rawInt hF.objs.size) := hzJ
 refine wpAny_setField_rec hzJ (by simp) fun hL hzL hsL => ?_
 replace hzL : IsZip hL z TI TO (rawInt hF.objs.size) := hzL
 have up : ∀ c o, c ≠ z -> hF.get? c = some o -> hL.get? c = some o := fun c o c1 e => hsL.extBut _ _ c1 (hsJ.extBut _ _ c1 (Heap.get?_push_of_some _ e))
 have hTL : IsPair hL hF.objs.size x y := hsL.extBut _ _ (Nat.ne_of_gt hzlt) (hsJ.extBut _ _ (Nat.ne_of_gt hzlt) (Heap.get?_push_size _ rfl))
 have hzs : hL.objs.size = hF.objs.size + 1 := by rw [hsL.1, hsJ.1, Heap.size_push]
 rw [hsz] at hzL hTL hzs
 refine wpAny_pure ⟨_, rfl, ?_⟩; show Q (.ref hF.objs.size) _; rw [hsz]
 exact hQ x y hL tD hx hy hzL (up _ _ D.a2 hTOF) (D1.frame _ _ _ s1F fun b hb o e => up b o (fun q => D.b1 (q ▸ hb)) e) (D2.frame _ _ _ s2F fun b hb o e => up b o (fun q => D.b2 (q ▸ hb)) e) hTL hzs fun c o c1 c2 c3 c4 e => up c o c1 (hkF c o c1 c2 c3 c4 e)
theorem zd_end {Q : PySem.Fin -> Shared -> Prop} {a b : Value} (D : ZAp z TI TO i1 i2 f1 f2) (D1 : Draws prog w A i1 f1 n1 P1 S1) (hz : IsZip s.heap z TI TO .none) (hTI : IsPair s.heap TI (.ref i1) (.ref i2)) (hTO : IsPair s.heap TO a b) (st1 : S1 n1 s.heap)
  (hE : ∀ h' e, (∀ c o, c ≠ z -> c ≠ TO -> c ≠ i1 -> c ≠ i2 -> s.heap.get? c = some o -> h'.get? c = some o) -> (∃ o, h'.get? e = some o /\ o.cls = .type "StopIteration") -> E (.ref e) { s with heap := h' }) :
  wpAny (model prog w) A (Builtin.«zip.__next__» ⟨[.ref z], []⟩) Q E s := by
 show wpAny _ _ (field (.ref z) 2 >>= _) _ _ _; refine wpAny_bind (wpAny_field hz rfl (x := .bool false) rfl ?_)
 show wpAny _ _ (field (.ref z) 3 >>= _) _ _ _; refine wpAny_bind (wpAny_field hz rfl (x := .ref TI) rfl (wpAny_bind (wpAny_seqItems hTI rfl ?_)))
 show wpAny _ _ (Builtin.SmallTypes.ownedTupleIsFree (.ref z) >>= _) _ _ _; refine wpAny_bind ?_; unfold Builtin.SmallTypes.ownedTupleIsFree
 refine wpAny_bind (wpAny_field hz rfl (x := .none) rfl (wpAny_pure ?_)); simp only [if_true]
 refine wpAny_bind (wpAny_rule (wpAny_bind (wpAny_field hz rfl (x := .ref TO) rfl (wpAny_bind (wpAny_setField_rec hz (by simp) fun hA hzA hsA => ?_)))))
 replace hzA : IsZip hA z TI TO .ellipsis := hzA
 refine wpAny_bind ?_; simp only [List.zipIdx_cons, List.zipIdx_nil, List.forIn_cons, List.forIn_nil]
 refine wpAny_bind (wpAny_bind (wpAny_onRaise ?_)); show wpAny _ _ (Builtin.SmallTypes.nextOf (.ref i1) >>= _) _ _ _
 refine wpAny_bind (D1.done _ _ _ (zd_frame D1 st1 hsA.extBut D.b1) fun hB e hsB he => ?_)
 obtain ⟨oe, hoe, hce⟩ := he
 have hzB : IsZip hB z TI TO .ellipsis := hsB _ _ D.a3.symm hzA
 have hez : e ≠ z := fun x => by subst x; rw [hzB] at hoe; cases hoe; simp at hce
 exact wpAny_setField_rec hzB (by simp) fun hC _ hsC => hE hC e (fun c o c1 _ c3 _ x => hsC.extBut _ _ c1 (hsB _ _ c3 (hsA.extBut _ _ c1 x))) ⟨oe, hsC.extBut _ _ hez hoe, hce⟩
theorem zd_next {Q : Option Value -> Shared -> Prop} {a b : Value} (D : ZAp z TI TO i1 i2 f1 f2) (D1 : Draws prog w A.in1 i1 f1 n1 P1 S1) (D2 : Draws prog w A.in1 i2 f2 n2 P2 S2) (hz : IsZip s.heap z TI TO .none) (hTI : IsPair s.heap TI (.ref i1) (.ref i2)) (hTO : IsPair s.heap TO a b) (st1 : S1 k s.heap) (st2 : S2 k s.heap) (hk1 : k < n1) (hk2 : k < n2)
  (hQ : ∀ x y h' tk, P1 k x -> P2 k y -> IsZip h' z TI TO (rawInt s.heap.objs.size) -> IsPair h' TO x y -> S1 (k + 1) h' -> S2 (k + 1) h' -> IsPair h' s.heap.objs.size x y -> h'.objs.size = s.heap.objs.size + 1 ->
   (∀ c o, c ≠ z -> c ≠ TO -> c ≠ i1 -> c ≠ i2 -> s.heap.get? c = some o -> h'.get? c = some o) -> Q (some (.ref s.heap.objs.size)) { s with heap := h', toks := tk }) : wpAny (model prog w) A (pyNext (.ref z)) Q E s := by
 have hT : s.TypeIs (.ref z) "zip" := ⟨_, hz, rfl⟩; unfold pyNext
 refine wpAny_bind (wpAny_attempt (wpAny_callSpecial?_slot (name := Str.ofString "__next__") hT F.slot_zip_next (wpAny_call_entry F.slot_zip_next hT F.entry_zip_next ?_ (F.args_zip_next_1 _))))
 exact zd_item D D1 D2 hz hTI hTO st1 st2 hk1 hk2 fun x y h' tk a0 a1 a2 a3 a4 a5 a6 a7 a8 => wpAny_pure (hQ x y h' tk a0 a1 a2 a3 a4 a5 a6 a7 a8)
theorem zd_last {Q : Option Value -> Shared -> Prop} {a b : Value} (D : ZAp z TI TO i1 i2 f1 f2) (D1 : Draws prog w A.in1 i1 f1 n1 P1 S1) (hz : IsZip s.heap z TI TO .none) (hTI : IsPair s.heap TI (.ref i1) (.ref i2)) (hTO : IsPair s.heap TO a b) (st1 : S1 n1 s.heap)
  (hQ : ∀ h', (∀ c o, c ≠ z -> c ≠ TO -> c ≠ i1 -> c ≠ i2 -> s.heap.get? c = some o -> h'.get? c = some o) -> Q none { s with heap := h' }) : wpAny (model prog w) A (pyNext (.ref z)) Q E s := by
 have hT : s.TypeIs (.ref z) "zip" := ⟨_, hz, rfl⟩; unfold pyNext
 refine wpAny_bind (wpAny_attempt (wpAny_callSpecial?_slot (name := Str.ofString "__next__") hT F.slot_zip_next (wpAny_call_entry F.slot_zip_next hT F.entry_zip_next (zd_end D D1 hz hTI hTO st1 fun h' e hk he => ?_) (F.args_zip_next_1 _))))
 obtain ⟨o, ho, hc⟩ := he
 exact wpAny_bind (wpAny_isInstance (T := "StopIteration") (b := true) ⟨o, ho, hc⟩ isSubtype_stop (wpAny_pure (hQ _ hk)))
end
section
variable {prog : Program} {w : World} {A : Around} {E : Value -> Shared -> Prop} {s : Shared}
end
section
variable {X : Cx} {pins : List (Addr × Obj)} {σ : St} {H : Hp} {s : Shared}
theorem fp_base {a c : Addr} {o : Obj} (I : Inv X pins σ H s) (f : FpOk X pins H c) (lk : X.K.lookup a = some o) : a ≠ c := fun z => by
 have e := I.ok.mod.kin a o lk
 rw [z] at e
 rcases f.2.2.2.1 with h | h
 ·exact I.ok.noex c o e h
 ·exact absurd (Nat.lt_of_lt_of_le (Heap.lt_size e) (Nat.le_trans I.ok.bsz h)) (Nat.lt_irrefl _)
theorem fp_T {a c : Addr} {xs : List V} (I : Inv X pins σ H s) (f : FpOk X pins H c) (q : SqT X.K H a xs) : a ≠ c := by
 rcases q with (q | ⟨o, q⟩) | ⟨o, its, n, lk, _⟩
 ·exact ne_of_none q f.1
 ·exact ne_of_none q f.1
 ·exact fp_base I f lk
theorem Inv.tupled {h' : Heap} {t' : Nat} {fp : List Addr} {xs : List V} {its : List Value} (I : Inv X pins σ H s) (hf : ∀ b ∈ fp, FpOk X pins H b) (kp : ∀ b o, b ∉ fp -> s.heap.get? b = some o -> h'.get? b = some o)
  (ht : h'.get? s.heap.objs.size = some { cls := .type "tuple", data := .seq its.toArray }) (rv : Vals xs its) (hl : xs.length <= sizeLine) : Inv X pins σ (upd H s.heap.objs.size (.tup xs)) { s with heap := h', toks := t' } := by
 have hT : H s.heap.objs.size = none := I.hok.fresh (Nat.le_refl _)
 have nH : ∀ b o, H b = some o -> b ∉ fp := fun b o q hb => by rw [(hf b hb).1] at q; cases q
 have keepH : ∀ b o, H b = some o -> upd H s.heap.objs.size (.tup xs) b = some o := fun b o q => by rw [upd_ne (ne_of_none q hT)]; exact q
 have hok2 : HOk X.prog X.w (upd H s.heap.objs.size (.tup xs)) h' := fun b o eb => by
  by_cases hb : b = s.heap.objs.size
  ·subst hb
   rw [upd_same] at eb
   cases eb
   exact ⟨hl, its, rv, ⟨_, ht, rfl, _, rfl⟩⟩
  ·rw [upd_ne hb] at eb
   refine (I.hok b o eb).stay (fun c v hcc q => kp c v ?_ q) (fun c q => keepH c _ q) fun c ys q => keepH c _ q
   rcases hcc with z | z
   ·exact nH c o (by rw [z]; exact eb)
   ·exact nH c _ z
 refine I.step (g' := s.gens) (d' := s.drawn) (t' := t') (ch := fp) (fun b hb => ?_) (fun b o _ _ hcc q _ => kp b o hcc q) (fun b o _ _ hcc q _ => ⟨o.slots, kp b o hcc q⟩) (fun b o _ q n => ?_) (fun b o hcc q => ⟨o, kp b o hcc q⟩) (fun b ys q => keepH b _ q) (fun b o v q => keepH b _ q) (fun b ps q => ⟨#[], by rw [keepH b _ q]; simp⟩) (fun m hm => ?_) hok2 I.bare
 ·obtain ⟨f0, f1, f2, f3, f4, f5⟩ := hf b hb
  exact ⟨f3, f1, f4, f5⟩
 ·rw [upd_ne (Nat.ne_of_lt (Heap.lt_size q))]
  exact n
 ·obtain ⟨o, es, ep, ho, r⟩ := hm
  exact ⟨o, es, ep, kp _ o (fun hb => (hf _ hb).2.1 rfl) ho, r⟩
theorem Inv.turns {h' : Heap} {t' : Nat} {fp : List Addr} (I : Inv X pins σ H s) (hf : ∀ b ∈ fp, FpOk X pins H b) (kp : ∀ b o, b ∉ fp -> s.heap.get? b = some o -> h'.get? b = some o) : Inv X pins σ H { s with heap := h', toks := t' } := by
 have nH : ∀ b o, H b = some o -> b ∉ fp := fun b o q hb => by rw [(hf b hb).1] at q; cases q
 refine I.step (g' := s.gens) (d' := s.drawn) (t' := t') (ch := fp) (fun b hb => ?_) (fun b o _ _ hcc q _ => kp b o hcc q) (fun b o _ _ hcc q _ => ⟨o.slots, kp b o hcc q⟩) (fun b o _ q n => n) (fun b o hcc q => ⟨o, kp b o hcc q⟩) (fun b ys q => q) (fun b o v q => q) (fun b ps q => ⟨#[], by rw [q]; simp⟩) (fun m hm => ?_) (fun b o eb => ?_) I.bare
 ·obtain ⟨f0, f1, f2, f3, f4, f5⟩ := hf b hb
  exact ⟨f3, f1, f4, f5⟩
 ·obtain ⟨o, es, ep, ho, r⟩ := hm
  exact ⟨o, es, ep, kp _ o (fun hb => (hf _ hb).2.1 rfl) ho, r⟩
 ·refine (I.hok b o eb).stay (fun c v hcc q => kp c v ?_ q) (fun c q => q) fun c ys q => q
  rcases hcc with z | z
  ·exact nH c o (by rw [z]; exact eb)
  ·exact nH c _ z
end
theorem nd5 (n : Nat) : [n + 4, n + 2, n + 3, n, n + 1].Nodup := by
 simp only [List.nodup_cons, List.mem_cons, List.mem_nil_iff, or_false, not_or, List.nodup_nil, not_false_eq_true, and_true]
 omega
theorem mem5 {n k : Nat} (h : k ∈ [n + 4, n + 2, n + 3, n, n + 1]) : n <= k := by
 simp only [List.mem_cons, List.mem_nil_iff, or_false] at h
 omega
section
variable {X : Cx}
end
abbrev yA (h : Heap) (p : Addr) : Heap := h.push { cls := .type "tuple_iterator", data := .fields #[.ref p, .int 0 0] }
abbrev yB (h : Heap) (p q : Addr) : Heap := (yA h p).push { cls := .type "tuple_iterator", data := .fields #[.ref q, .int 0 0] }
abbrev yC (h : Heap) (p q : Addr) : Heap := (yB h p q).push { cls := .type "tuple", data := .seq #[.ref h.objs.size, .ref (yA h p).objs.size] }
abbrev yD (h : Heap) (p q : Addr) : Heap := (yC h p q).push { cls := .type "tuple", data := .seq #[.none, .none] }
abbrev yE (h : Heap) (p q : Addr) : Heap := (yD h p q).push { cls := .type "zip", data := .fields #[.none, .bool false, .bool false, .ref (yB h p q).objs.size, .ref (yC h p q).objs.size] }
theorem meets_zipTT (p q : Addr) (xs ys : Array Value) :
  Meets (Builtin.«zip.__new__» ⟨[.type "zip", .ref p, .ref q], []⟩) (fun _ R s => s.heap.IsTuple p xs /\ s.heap.IsTuple q ys /\ R (.ok (.ret (.ref (yD s.heap p q).objs.size))) { s with heap := yE s.heap p q }) :=
 .of_wp fun prog w A R s h => by
  obtain ⟨hp, g, d, tk, os⟩ := s; obtain ⟨h1, h2, h⟩ := h
  have hsub := sub_zip
  have hL : Heap.IsTuple (Shared.heap ⟨hp, g, d, tk, os⟩) p xs := h1
  have hT : Heap.IsTuple (Shared.heap ⟨hp.push { cls := .type "tuple_iterator", data := .fields #[.ref p, .int 0 0] }, g, d, tk, os⟩) q ys := Heap.IsTuple.push h2 _
  wp_walk using wpAny_pyIter_tuple hL, wpAny_pyIter_tuple hT
  exact ⟨_, rfl, h⟩
section
variable {prog : Program} {w : World} {A : Around} {E : Value -> Shared -> Prop} {s : Shared}
theorem call_zipTT {p q : Addr} {xs ys : Array Value} {Q : Value -> Shared -> Prop} (h1 : s.heap.IsTuple p xs) (h2 : s.heap.IsTuple q ys)
  (h : ∀ h', IsZip h' (s.heap.objs.size + 4) (s.heap.objs.size + 2) (s.heap.objs.size + 3) .none -> IsPair h' (s.heap.objs.size + 2) (.ref s.heap.objs.size) (.ref (s.heap.objs.size + 1)) -> IsPair h' (s.heap.objs.size + 3) .none .none -> h'.IsTupleIter s.heap.objs.size p 0 ->
   h'.IsTupleIter (s.heap.objs.size + 1) q 0 -> h'.objs.size = s.heap.objs.size + 5 -> (∀ c o, s.heap.get? c = some o -> h'.get? c = some o) -> Q (.ref (s.heap.objs.size + 4)) { s with heap := h' }) :
  wpAny (model prog w) A (call (.type "zip") [.ref p, .ref q]) Q E s := by
 refine callType_new F.called_zip (by decide) (F.typeCall_zip_2 _ _) (F.newCall_zip_2 _ _) (fun obj => F.args_object_init_3 obj _ _) F.entry_zip_new (meets_zipTT p q xs ys) ⟨h1, h2, ?_⟩
 have y1 : (yA s.heap p).objs.size = s.heap.objs.size + 1 := Heap.size_push ..
 have y2 : (yB s.heap p q).objs.size = s.heap.objs.size + 2 := by rw [Heap.size_push, y1]
 have y3 : (yC s.heap p q).objs.size = s.heap.objs.size + 3 := by rw [Heap.size_push, y2]
 have y4 : (yD s.heap p q).objs.size = s.heap.objs.size + 4 := by rw [Heap.size_push, y3]
 have y5 : (yE s.heap p q).objs.size = s.heap.objs.size + 5 := by rw [Heap.size_push, y4]
 have p1 : ∀ {hh : Heap} {o : Obj} {b : Addr} {u : Obj}, hh.get? b = some u -> (hh.push o).get? b = some u := fun e => Heap.get?_push_of_some _ e
 have g5 : (yE s.heap p q).get? (yD s.heap p q).objs.size = some _ := Heap.get?_push_size _ rfl
 have g4 : (yE s.heap p q).get? (yC s.heap p q).objs.size = some _ := p1 (Heap.get?_push_size _ rfl)
 have g3 : (yE s.heap p q).get? (yB s.heap p q).objs.size = some _ := p1 (p1 (Heap.get?_push_size _ rfl))
 have g2 : (yE s.heap p q).get? (yA s.heap p).objs.size = some _ := p1 (p1 (p1 (Heap.get?_push_size _ rfl)))
 have g1 : (yE s.heap p q).get? s.heap.objs.size = some _ := p1 (p1 (p1 (p1 (Heap.get?_push_size _ rfl))))
 show _ /\ _
 rw [y2, y3, y4] at g5; rw [y1, y2] at g3; rw [y3] at g4; rw [y1] at g2; rw [y4]
 exact ⟨⟨_, g5, rfl⟩, h _ g5 g3 g4 ⟨_, g1, rfl, rfl⟩ ⟨_, g2, rfl, rfl⟩ y5 fun c o x => p1 (p1 (p1 (p1 (p1 x))))⟩
end
def ItzT (K : W.Frag) (a b : Addr) : It :=
 ⟨fun i H => ∃ xs ys x y, SqT K H a xs /\ SqT K H b ys /\ xs[i]? = some x /\ ys[i]? = some y, fun i H x H' => ∃ t u v, H t = none /\ x = .ref t /\ (∀ xs, SqT K H a xs -> xs[i]? = some u) /\ (∀ ys, SqT K H b ys -> ys[i]? = some v) /\ H' = upd H t (.tup [u, v]), fun i H => ∃ xs, SqT K H a xs /\ xs.length = i⟩
def iZipT (K : W.Frag) (ta : TA) : TI := fun σ H R => ta σ H fun vs H1 => ∃ a b, vs = [.ref a, .ref b] /\ (∃ xs, SqT K H1 a xs) /\ (∃ ys, SqT K H1 b ys) /\ R (ItzT K a b) H1
theorem turn_zipT {P : Program} {w : World} {K : W.Frag} {elts : List Expr} {x1 : Nat} {pos : Pos} (a b z TI TO i1 i2 : Addr) (nd : [z, TI, TO, i1, i2].Nodup) :
  Turn P w K (.Tuple elts x1 pos) (ItzT K a b) [z, TI, TO, i1, i2] z (fun i h => IsZip h z TI TO .none /\ IsPair h TI (.ref i1) (.ref i2) /\ (∃ x y, IsPair h TO x y) /\ h.IsTupleIter i1 a i /\ h.IsTupleIter i2 b i) where
 mem := by simp
 obj := fun i h st c hc => by
  obtain ⟨hz, hTI, ⟨x, y, hTO⟩, ⟨o1, ho1, hc1, hd1⟩, ⟨o2, ho2, hc2, hd2⟩⟩ := st
  simp only [List.mem_cons, List.mem_nil_iff, or_false] at hc
  rcases hc with rfl | rfl | rfl | rfl | rfl
  ·exact ⟨_, hz, fun v q => by cases q⟩
  ·exact ⟨_, hTI, fun v q => by cases q⟩
  ·exact ⟨_, hTO, fun v q => by cases q⟩
  ·exact ⟨o1, ho1, fun v q => by rw [hd1] at q; cases q⟩
  ·exact ⟨o2, ho2, fun v q => by rw [hd2] at q; cases q⟩
 keep := fun i h h' st k => by
  obtain ⟨hz, hTI, ⟨x, y, hTO⟩, h1, h2⟩ := st
  exact ⟨k z (by simp) _ hz, k TI (by simp) _ hTI, ⟨x, y, k TO (by simp) _ hTO⟩, h1.at fun o q => k i1 (by simp) o q, h2.at fun o q => k i2 (by simp) o q⟩
 item := by
  intro X hP hw hK hc i pins s σ H E I hf st hg
  subst hP hw hK
  obtain ⟨xs, ys, x, y, q1, q2, hx, hy⟩ := hg
  obtain ⟨hz, hTI, ⟨o1, o2, hTO⟩, h1, h2⟩ := st
  obtain ⟨its, rv, pl, hzl⟩ := I.tuple q1
  obtain ⟨jts, rw', pt, hzt⟩ := I.tuple q2
  obtain ⟨u, hu, ru⟩ := rv.get hx
  obtain ⟨v, hv, rv'⟩ := rw'.get hy
  have fa : ∀ c ∈ [z, TI, TO, i1, i2], a ≠ c := fun c hc => fp_T I (hf c hc) q1
  have fb : ∀ c ∈ [z, TI, TO, i1, i2], b ≠ c := fun c hc => fp_T I (hf c hc) q2
  have hl1 : s.heap.IsTuple a its.toArray := pl
  have hl2 : s.heap.IsTuple b jts.toArray := pt
  have ui : its.toArray[i]? = some u := by simpa using hu
  have vi : jts.toArray[i]? = some v := by simpa using hv
  have lt1 : i < its.toArray.size := by
   rcases Nat.lt_or_ge i its.toArray.size with h | h
   ·exact h
   ·rw [Array.getElem?_eq_none h] at ui; cases ui
  have lt2 : i < jts.toArray.size := by
   rcases Nat.lt_or_ge i jts.toArray.size with h | h
   ·exact h
   ·rw [Array.getElem?_eq_none h] at vi; cases vi
  simp only [List.nodup_cons, List.mem_cons, List.mem_nil_iff, or_false, not_or] at nd
  obtain ⟨⟨n1, n2, n3, n4⟩, ⟨n5, n6, n7⟩, ⟨n8, n9⟩, n10, _⟩ := nd
  have ap : ZAp z TI TO i1 i2 [i1, a] [i2, b] := by
   refine ⟨Ne.symm n1, Ne.symm n2, Ne.symm n3, Ne.symm n4, n5, n6, n7, n8, n9, n10, ?_, ?_, ?_, ?_, ?_, ?_⟩
   ·simp [n3, Ne.symm (fa z (by simp))]
   ·simp [n4, Ne.symm (fb z (by simp))]
   ·simp [n8, Ne.symm (fa TO (by simp))]
   ·simp [n9, Ne.symm (fb TO (by simp))]
   ·simp [n10, Ne.symm (fb i1 (by simp))]
   ·simp [Ne.symm n10, Ne.symm (fa i2 (by simp))]
  refine zd_next (k := i) ap (draws_tup (A := X.A.in1) (I.ok.hd hc) i1 a (fa i1 (by simp)) its.toArray) (draws_tup (A := X.A.in1) (I.ok.hd hc) i2 b (fb i2 (by simp)) jts.toArray) hz hTI hTO ⟨h1, hl1⟩ ⟨h2, hl2⟩ lt1 lt2 fun x' y' hA tk px py hzo hTOo st1 st2 hT hsz hk => ?_
  obtain rfl : u = x' := by have := ui.symm.trans px; cases this; rfl
  obtain rfl : v = y' := by have := vi.symm.trans py; cases this; rfl
  refine ⟨_, rfl, ?_⟩
  refine wpAny_letOwnedTupleGo_zip hzo fun hB hzB hsB => ?_
  have hsB' : Heap.SameBut z hA hB := hsB
  have zlt : z < s.heap.objs.size := Heap.lt_size hz
  have up : ∀ c o, c ≠ z -> hA.get? c = some o -> hB.get? c = some o := fun c o c1 e => (hsB'.2 c c1).trans e
  have kp : ∀ c o, c ∉ [z, TI, TO, i1, i2] -> s.heap.get? c = some o -> hB.get? c = some o := fun c o hc e => by
   simp only [List.mem_cons, List.mem_nil_iff, or_false, not_or] at hc
   exact up c o hc.1 (hk c o hc.1 hc.2.2.1 hc.2.2.2.1 hc.2.2.2.2 e)
  have I2 : Inv X pins σ (upd H s.heap.objs.size (.tup [x, y])) { s with heap := hB, toks := tk } := I.tupled (its := [u, v]) hf kp (up _ _ (Nat.ne_of_gt zlt) hT) (.cons ru (.cons rv' .nil)) (by show 2 <= sizeLine; decide)
  have hTn : H s.heap.objs.size = none := I.hok.fresh (Nat.le_refl _)
  refine ⟨.ref s.heap.objs.size, _, I2, rfl, ⟨s.heap.objs.size, x, y, hTn, rfl, fun zs hq => by rw [I.tuple_inj hq q1]; exact hx, fun zs hq => by rw [I.tuple_inj hq q2]; exact hy, rfl⟩, ⟨hzB, ?_, ⟨u, v, up _ _ (Ne.symm n2) hTOo⟩, st1.1.at fun o e => up i1 o (Ne.symm n3) e, st2.1.at fun o e => up i2 o (Ne.symm n4) e⟩, fun c hc => ?_⟩
  ·exact up _ _ (Ne.symm n1) (hk _ _ (Ne.symm n1) n5 n6 n7 hTI)
  ·have lt : c < s.heap.objs.size := by
    simp only [List.mem_cons, List.mem_nil_iff, or_false] at hc
    rcases hc with rfl | rfl | rfl | rfl | rfl
    ·exact zlt
    ·exact Heap.lt_size hTI
    ·exact Heap.lt_size hTO
    ·obtain ⟨o, ho, _⟩ := h1; exact Heap.lt_size ho
    ·obtain ⟨o, ho, _⟩ := h2; exact Heap.lt_size ho
   rw [upd_ne (Nat.ne_of_lt lt)]
   exact (hf c hc).1
 done := by
  intro X hP hw hK hc i pins s σ H E I hf st hg
  subst hP hw hK
  obtain ⟨xs, q1, hx⟩ := hg
  obtain ⟨hz, hTI, ⟨o1, o2, hTO⟩, h1, h2⟩ := st
  obtain ⟨its, rv, pl, hzl⟩ := I.tuple q1
  have hl := rv.length
  have fa : ∀ c ∈ [z, TI, TO, i1, i2], a ≠ c := fun c hc => fp_T I (hf c hc) q1
  simp only [List.nodup_cons, List.mem_cons, List.mem_nil_iff, or_false, not_or] at nd
  obtain ⟨⟨n1, n2, n3, n4⟩, ⟨n5, n6, n7⟩, ⟨n8, n9⟩, n10, _⟩ := nd
  have ap : ZAp z TI TO i1 i2 [i1, a] [i2] := by
   refine ⟨Ne.symm n1, Ne.symm n2, Ne.symm n3, Ne.symm n4, n5, n6, n7, n8, n9, n10, ?_, ?_, ?_, ?_, ?_, ?_⟩
   ·simp [n3, Ne.symm (fa z (by simp))]
   ·simp [n4]
   ·simp [n8, Ne.symm (fa TO (by simp))]
   ·simp [n9]
   ·simp [n10]
   ·simp [Ne.symm n10, Ne.symm (fa i2 (by simp))]
  have ei : i = its.toArray.size := by rw [List.size_toArray]; omega
  refine zd_last ap (draws_tup (A := X.A.in1) (I.ok.hd hc) i1 a (fa i1 (by simp)) its.toArray) hz hTI hTO ⟨by rw [<- ei]; exact h1, pl⟩ fun h' hk => ⟨rfl, I.turns (t' := s.toks) hf fun c o hc' e => ?_⟩
  simp only [List.mem_cons, List.mem_nil_iff, or_false, not_or] at hc'
  exact hk c o hc'.1 hc'.2.2.1 hc'.2.2.2.1 hc'.2.2.2.2 e
 self := fun _ _ _ _ _ st h => wpAny_pyIter_zip st.1 h
section
variable {X : Cx}
theorem pi_zipT {a b : Expr} {ta : TA} {elts : List Expr} {x1 : Nat} {tpos p pos : Pos} (hg : Gl X "zip") (hm : X.mg "zip" = none) (ha : PA X [a, b] ta) (hv : bootBuiltins "zip" = some (.type "zip") := by rfl) (hs : starEach [a, b] X.env = (false, eval a X.env) :: starEach [b] X.env := by rfl) (hpl : (backTo pos (starEach [b] X.env)).any (·.1) = false := by rfl) :
  PI X (.Tuple elts x1 tpos) (.Call (.Name "zip" p) [a, b] [] pos) (iZipT X.K ta) := by
 intro pins s σ H R I h
 refine Call_ (ld_blt I hg hm hv (PyProof.Rows.callWith_type1 (thn (ha pos pins s σ H _ I h) fun us s1 ⟨vs, H1, I1, r1, q1⟩ => ?_) hs hpl))
 obtain ⟨c, d, e, ⟨xs, hq⟩, ⟨ys, hq2⟩, q⟩ := q1
 subst e
 obtain ⟨u, v, rfl, rx, ry⟩ := vals2 r1
 cases rx
 cases ry
 obtain ⟨its, rv, pl, hz⟩ := I1.tuple hq
 obtain ⟨jts, rv2, pt, hz2⟩ := I1.tuple hq2
 refine call_zipTT pl pt fun h' gz gTI gTO g1 g2 hsz kp => ?_
 refine wpAny_pyIter_zip gz ?_
 refine ⟨s1.heap.objs.size + 4, [s1.heap.objs.size + 4, s1.heap.objs.size + 2, s1.heap.objs.size + 3, s1.heap.objs.size, s1.heap.objs.size + 1], _, _, H1, rfl, I1.kept (t' := s1.toks) kp, turn_zipT c d (s1.heap.objs.size + 4) (s1.heap.objs.size + 2) (s1.heap.objs.size + 3) s1.heap.objs.size (s1.heap.objs.size + 1) ?_, ⟨gz, gTI, ⟨_, _, gTO⟩, g1, g2⟩, fun k hk => ?_, q⟩
 ·exact nd5 _
 ·have := mem5 hk
  exact I1.fpOk this (I1.hok.fresh this)
end
theorem comp_zipT {K : W.Frag} {a b D : Addr} {ys zs : List V} {g : TG} {tt : TT} {te : TE} {Qd : Hp -> Prop} {σ0 : St} {H0 : Hp} (hyz : ys.length = zs.length) (Pv : Nat -> List V -> St -> Hp -> Prop) (h0 : Pv 0 [] σ0 H0) (hz : ys.length <= sizeLine) (hl : ∀ i xs σ H, i <= ys.length -> Pv i xs σ H -> SqT K H a ys /\ SqT K H b zs /\ H D = some (.lst xs) /\ xs.length <= i)
  (hs : ∀ i xs x y t σ H (N : List V -> St -> Hp -> Prop), (∀ xs' σ' H', Pv (i + 1) xs' σ' H' -> N xs' σ' H') -> ys[i]? = some x -> zs[i]? = some y -> Pv i xs σ H -> H t = none -> g (.ref t) σ (upd H t (.tup [x, y])) fun σ2 H2 => tt σ2 H2 fun b H3 => if b = true then te σ2 H3 fun v H4 => H4 D = some (.lst xs) /\ N (xs ++ [v]) σ2 (upd H4 D (.lst (xs ++ [v]))) else N xs σ2 H3)
  (hd : ∀ xs σ H, Pv ys.length xs σ H -> Qd H) :
  ∃ W : Nat -> Nat -> List V -> St -> Hp -> Prop, (∃ m, W 0 m [] σ0 H0) /\ ∀ i m xs σ' H', W i m xs σ' H' -> H' D = some (.lst xs) /\ (((ItzT K a b).stop i H' /\ Qd H') \/ ((ItzT K a b).go i H' /\ xs.length < sizeLine /\ ∀ x H'', (ItzT K a b).yld i H' x H'' -> g x σ' H'' fun σ2 H2 => tt σ2 H2 fun b H3 =>
   if b = true then te σ2 H3 fun v H4 => H4 D = some (.lst xs) /\ ∃ m', m' < m /\ W (i + 1) m' (xs ++ [v]) σ2 (upd H4 D (.lst (xs ++ [v]))) else ∃ m', m' < m /\ W (i + 1) m' xs σ2 H3)) := by
 refine ⟨fun i m xs σ H => m = ys.length - i /\ i <= ys.length /\ Pv i xs σ H, ⟨ys.length, by simp, Nat.zero_le _, h0⟩, ?_⟩
 rintro i m xs σ H ⟨rfl, hi, p⟩
 obtain ⟨q1, q2, hD, hx⟩ := hl i xs σ H hi p
 refine ⟨hD, ?_⟩
 by_cases hlt : i < ys.length
 ·refine .inr ⟨⟨ys, zs, ys[i], zs[i], q1, q2, by simp [hlt], by simp [hyz ▸ hlt]⟩, by omega, fun x H'' y => ?_⟩
  obtain ⟨t, u, v, ht, e, hu, hv, e'⟩ := y
  subst e e'
  exact hs i xs u v t σ _ (fun zs σ' H' => ∃ m', m' < ys.length - i /\ m' = ys.length - (i + 1) /\ i + 1 <= ys.length /\ Pv (i + 1) zs σ' H') (fun zs σ' H' r => ⟨_, by omega, rfl, hlt, r⟩) (hu ys q1) (hv zs q2) p ht
 ·obtain rfl : i = ys.length := by omega
  exact .inl ⟨⟨ys, q1, rfl⟩, hd xs σ H p⟩
end L2
namespace L2
open PySem PySem.Spec PyProof.Rows PySem.SeqAt
def isI (z : Int) : Value -> Bool
 | .int c _ => c == z
 | _ => false
section
variable {X : Cx}
def rIndexI : V -> List V -> Hp -> VK -> Prop := fun x vs H Q => ∃ (l : Addr) (ns : List Int) (z : Int) (j : Nat), x = .ref l /\ vs = [.int z] /\ H l = some (.lst (ns.map V.int)) /\ ns[j]? = some z /\ (∀ m c, m < j -> ns[m]? = some c -> c ≠ z) /\ j < 1000 /\ Q (.int j) H
theorem mt_indexI : MtM X "list.index" rIndexI := by
 intro pins s σ H x vs v us Q I rx rv h
 obtain ⟨l, ns, z, j, rfl, rfl, hH, hj, hno, hj1, q⟩ := h
 cases rx
 obtain ⟨u, rfl, ru⟩ := vals1 rv
 obtain ⟨t, rfl⟩ := ru
 obtain ⟨zz, its, n, r, hl, e⟩ := I.lstM hH
 have hlen := r.length
 rw [List.length_map] at hlen
 have hjl : j < ns.length := by
  rcases Nat.lt_or_ge j ns.length with h | h
  ·exact h
  ·rw [List.getElem?_eq_none h] at hj; cases hj
 have at_ : ∀ m (hm : m < ns.length), ∃ t', its[m]? = some (.int ns[m] t') := fun m hm => by
  obtain ⟨u, hu, ru⟩ := r.get (x := .int ns[m]) (i := m) (by rw [List.getElem?_map, List.getElem?_eq_getElem hm]; rfl)
  obtain ⟨t', rfl⟩ := ru
  exact ⟨t', hu⟩
 have hsz : its.toArray.size = ns.length := by rw [List.size_toArray]; omega
 refine call_meets F.slot_list_index ⟨_, e, rfl⟩ F.entry_list_index (F.args_list_index_2 _ _) (list_indexAt l its.toArray n none #[] (.int z t) (isI z) j (by rw [hsz]; exact hjl) (by omega) ?_ ?_) ⟨e, fun y hy => ?_, ?_⟩
 ·obtain ⟨t', ht⟩ := at_ j hjl
  rw [List.getElem?_eq_getElem (by omega)] at ht
  injection ht with ht
  rw [List.getElem?_eq_getElem hjl] at hj
  injection hj with hj
  show isI z (its.toArray[j]'(by rw [hsz]; exact hjl)) = true
  rw [List.getElem_toArray, ht, hj]
  simp [isI]
 ·intro m hm hmj
  have hml : m < ns.length := by rw [hsz] at hm; exact hm
  obtain ⟨t', ht⟩ := at_ m hml
  rw [List.getElem?_eq_getElem (by omega)] at ht
  injection ht with ht
  have := hno m ns[m] hmj (List.getElem?_eq_getElem hml)
  rw [List.getElem_toArray, ht]
  simp [isI, this]
 ·obtain ⟨m, hm, e⟩ := List.mem_iff_getElem.mp (show y ∈ its by simpa using hy)
  obtain ⟨t', ht⟩ := at_ m (by omega)
  rw [List.getElem?_eq_getElem hm, e] at ht
  injection ht with ht
  subst ht
  exact EqAt.int_int _ _ _ _
 ·exact ⟨.int j, H, I.tok _, ⟨_, rfl⟩, q⟩
end
end L2
namespace L2
open PySem PySem.Spec PyProof.Rows
def tCallN (i : Nat) (f : Addr) (sp : Sp) (dvs : List V) (E : XK) (t : TA) : TE := fun σ H Q => σ[i]? = some (some (.ref f)) /\ tCall sp dvs E t σ H Q
theorem pe_callN {X : Cx} {CX : CXT} {k i : Nat} {f : Addr} {fd : FuncData} {ps : List Str} {sp : Sp} {ds : List Value} {dvs : List V} {E : XK} {x : Str} {p pos : Pos} {e : Expr} {es : List Expr} {t : TA}
  (F : FnOk X.prog X.w X.K X.mg X.base CX k f fd ps sp) (hr : Room k X.A) (hN : X.N[i]? = some x) (hv : Vis X.env.scope x) (hk : PySem.W.keepIn X.K (.ref f) = true) (hb : Binds X.K fd ps ds) (hd : Vals dvs ds) (hx : Passes CX X E)
  (ha : PA X (e :: es) t) (hdb : (x == ("__debug__" : Str)) = false := by decide) (hcd : (x == ("__classdict__" : Str)) = false := by decide) (he : starEach (e :: es) X.env = (false, eval e X.env) :: starEach es X.env := by rfl) (hpl : (backTo pos (starEach es X.env)).any (·.1) = false := by rfl) :
  PE X (.Call (.Name x p) (e :: es) [] pos) (tCallN i f sp dvs E t) := by
 intro pins s σ H Q I h
 obtain ⟨hσ, h⟩ := h
 refine wpAny_Call_Name_kw (wpAny_mono (pe_var hN hv hdb hcd pins s σ H (fun v H' => v = .ref f /\ H' = H) I ⟨_, hσ, rfl, rfl⟩) (fun u s0 hq => ?_) fun _ _ z => z)
 obtain ⟨v, H', I0, rv, rfl, rfl⟩ := hq
 cases rv
 refine PySem.W.callWith_K (h₀ := X.base) I0.ok.mod.kin hk (thn (ha pos pins s0 σ _ _ I0 h) fun us s1 ⟨vs, H1, I1, r, q⟩ => ⟨I1.kIn, ?_⟩) he hpl
 exact run_fn F hr hb hd hx I1 r q
section
variable {X : Cx}
theorem comp_core {elt iter tg : Expr} {ifs : List Expr} {scope : Scope} {pos ipos : Pos} {cl : List (Str × Addr)} {N' : List Str} {lk : List (Option Nat)} {wi : TI} {g : TG} {tt : TT} {te : TE} {use : Option (Value -> Sem Unit)} {R : Value -> Shared -> Prop} {Q : VK} {pins : List (Addr × Obj)} {s : Shared} {σ : St} {H : Hp}
  (hc : X.calm = true) (hi : PI X tg iter wi) (hclos : closureFor scope X.env = pure cl) (hkind : scope.kind = .function)
  (hnames : ∀ y ∈ scope.names, y.2 = .local -> scope.names.lookup y.1 = some .local) (hcl : ClOk X.env cl) (hfr : FrOk scope.names cl = true) (hlk : LkOk X N' lk scope cl)
  (hg : ∀ s3 H3 fp, PG (compCx X scope cl N' s3 H3 fp fun _ _ => False) tg g) (ht : ∀ s3 H3 fp, PTs (compCx X scope cl N' s3 H3 fp fun _ _ => False) ifs tt) (he : ∀ s3 H3 fp, PE (compCx X scope cl N' s3 H3 fp fun _ _ => False) elt te)
  (hs : ∀ x, foldedSetIterable iter X.env x = pure x) (I : Inv X pins σ H s) (h : tComp wi lk g tt te σ H Q)
  (hend : ∀ (C D : Addr) (s' : Shared) (H' : Hp), Inv X pins σ H' s' -> Q (.ref D) H' -> H' C = none -> C ≠ X.env.locals -> X.s₀.heap.objs.size <= C -> (∀ x c, X.env.cells.lookup x = some c -> c ≠ C) -> (∀ p ∈ X.pn ++ pins, p.1 ≠ C) -> (∃ m, s'.heap.Ns C m) ->
   compPost (model X.prog X.w) X.A X.xe use R (.ref D) C (.ok .next) s') :
  wpAny (model X.prog X.w) X.A (comprehension (.ListComp elt [⟨tg, iter, ifs, 0⟩] scope pos) scope X.env ipos (newList []) false (eval iter X.env) use) R X.xe s := by
 have hcellN : ∀ y ∈ scope.names, y.2 ≠ .cell := fun y hy => by
  unfold FrOk at hfr
  rw [List.all_eq_true] at hfr
  have := hfr y hy
  rw [Bool.and_eq_true] at this
  simpa using this.1
 refine wpAny_comprehension_free (use := use) rfl hs hclos hkind hnames (thn (hi pins s σ H _ I h) fun v s1 h1 => thn h1 fun itv s2 h2 => ?_)
 obtain ⟨it, fp, tn, J, H2, e, I2, T, st2, f2, q⟩ := h2
 subst e
 refine wpAny_newList ?_ (Nat.zero_le _)
 have hD : H2 s2.heap.objs.size = none := I2.hok.fresh (Nat.le_refl _)
 have I3 := I2.lnew (ys := []) (its := []) (t' := s2.toks) .nil (Nat.zero_le _)
 obtain ⟨W, ⟨m0, w0⟩, turn⟩ := q s2.heap.objs.size hD
 have fpl : ∀ b ∈ fp, b < s2.heap.objs.size := fun b hb => by
  obtain ⟨o, ho, _⟩ := T.obj 0 s2.heap st2 b hb
  exact Heap.lt_size ho
 refine wpAny_newFunctionEnv hcellN (by intro y hy; cases hy) (fun h1 hns1 hsb1 => ?_) hkind
 dsimp only at hns1 hsb1 ⊢
 -- the state ahead of the frame, the block's context
 have e3 : s2.heap.push { cls := .type "list", dict := none, data := .seq ([] : List Value).toArray } = s2.heap.push { cls := .type "list", data := .seq ([] : List Value).toArray } := rfl
 generalize hh3 : s2.heap.push { cls := .type "list", dict := none, data := .seq ([] : List Value).toArray } = h3 at *
 have I3' : Inv X pins σ (upd H2 s2.heap.objs.size (.lst [])) { s2 with heap := h3, toks := s2.toks } := I3
 have size3 : h3.objs.size = s2.heap.objs.size + 1 := by rw [<- hh3, Heap.size_push]
 have f3 : ∀ b ∈ fp, FpOk X pins (upd H2 s2.heap.objs.size (.lst [])) b := fun b hb => by
  obtain ⟨f0, fr⟩ := f2 b hb
  exact ⟨by rw [upd_ne (Nat.ne_of_lt (fpl b hb))]; exact f0, fr⟩
 have up : ∀ b u, h3.get? b = some u -> h1.get? b = some u := fun b u eb => by
  rw [hsb1.2 b (Nat.ne_of_lt (Heap.lt_size eb))]
  exact Heap.get?_push_of_some _ eb
 have I4 : Inv (compCx X scope cl N' { s2 with heap := h3, toks := s2.toks } (upd H2 s2.heap.objs.size (.lst [])) fp fun _ _ => False) [] (capt lk σ) (upd H2 s2.heap.objs.size (.lst [])) { s2 with heap := h1, toks := s2.toks + ([] : List (Str × Value)).length } :=
  comp_start (s3 := { s2 with heap := h3, toks := s2.toks }) I3' f3 hkind hcl hfr hlk hns1 up fun b hb => by show b < h3.objs.size; rw [size3]; exact Nat.lt_succ_of_lt (fpl b hb)
 have st4 : tn 0 h1 := T.keep 0 s2.heap h1 st2 fun b hb o eb => up b o (by rw [<- hh3]; exact Heap.get?_push_of_some _ eb)
 have hCs : h3.objs.size = (compEnvC scope cl h3.objs.size X.env).locals := rfl
 -- what stays true of the iterator's objects
 have stat : ∀ {H' : Hp}, (∀ b ∈ fp, H' b = none) -> ∀ b ∈ fp, FpOk (compCx X scope cl N' { s2 with heap := h3, toks := s2.toks } (upd H2 s2.heap.objs.size (.lst [])) fp fun _ _ => False) [] H' b := fun {H'} hn b hb => by
  obtain ⟨f0, f1, f2', f3', f4, f5⟩ := f3 b hb
  refine ⟨hn b hb, ?_, fun z => ?_, .inl hb, fun x c ex => f4 x c (hcl.get ex), fun p hp => nomatch hp⟩
  ·show b ≠ h3.objs.size
   rw [size3]
   exact Nat.ne_of_lt (Nat.lt_succ_of_lt (fpl b hb))
  ·rcases List.mem_cons.mp (I3'.stkSub b z) with q | q
   ·exact f1 q
   ·exact f2' q
 -- the block's end
 have fin : ∀ (s' : Shared) (σ' : St) (H' : Hp), Inv (compCx X scope cl N' { s2 with heap := h3, toks := s2.toks } (upd H2 s2.heap.objs.size (.lst [])) fp fun _ _ => False) [] σ' H' s' -> Q (.ref s2.heap.objs.size) H' ->
   compPost (model X.prog X.w) X.A X.xe use R (.ref s2.heap.objs.size) h3.objs.size (.ok .next) s' := fun s' σ' H' I' q' => by
  obtain ⟨m, hm, _⟩ := id I'.loc
  have I5 : Inv X pins σ H' s' := I3'.call' (ch := fp) I'.os I'.base I'.hok I'.bare fun b hb => by
   obtain ⟨f0, f1, f2', f3', f4, f5⟩ := f3 b hb
   exact ⟨f3', f1, f4, f5⟩
  exact hend h3.objs.size s2.heap.objs.size s' H' I5 q' I'.free (Nat.ne_of_gt I3'.lt) I3'.sz (fun x c ex z => by
   obtain ⟨v', q2⟩ := I3'.cell x c ex
   exact absurd q2.lt (by rw [z]; exact Nat.lt_irrefl _)) (fun p hp z => absurd (Heap.lt_size (I3'.pin p hp).1) (by rw [z]; exact Nat.lt_irrefl _)) ⟨m, hm⟩
 have loop : ∀ s5 : Shared, s5 = { s2 with heap := h1, toks := s2.toks + ([] : List (Str × Value)).length } ->
   codeAny (model X.prog X.w) X.A (.compLoop (.ListComp elt [⟨tg, iter, ifs, 0⟩] scope pos) 0 (.ref it) (.ref s2.heap.objs.size) (compEnvC scope cl h3.objs.size X.env)) (compPost (model X.prog X.w) X.A X.xe use R (.ref s2.heap.objs.size) h3.objs.size) s5 := by
  rintro s5 rfl
  refine codeAny_loop rfl (fun n s' => ∃ i xs σ' H', Inv (compCx X scope cl N' { s2 with heap := h3, toks := s2.toks } (upd H2 s2.heap.objs.size (.lst [])) fp fun _ _ => False) [] σ' H' s' /\ tn i s'.heap /\ (∀ b ∈ fp, H' b = none) /\ W i n xs σ' H')
   (fun n s6 hI => ?_) m0 ⟨0, [], capt lk σ, _, I4, st4, fun b hb => (f3 b hb).1, w0⟩
  obtain ⟨i, xs, σ6, H6, I6, st6, fr6, w6⟩ := hI
  show wpAny _ X.A ((compTurn (.ListComp elt [⟨tg, iter, ifs, 0⟩] scope pos) 0 (.ref it) (.ref s2.heap.objs.size) (compEnvC scope cl h3.objs.size X.env)).onRaise (fun x => do noteFrame x (compEnvC scope cl h3.objs.size X.env); theTreesLotGoes x)) _ _ s6
  refine wpAny_noted ?_
  rw [compTurn_list]
  refine wpAny_bind (wpAny_standAt (wpAny_bind ?_))
  obtain ⟨hD6, hw⟩ := turn i n xs σ6 H6 w6
  rcases hw with ⟨stop, qn⟩ | ⟨go, hlen, step⟩
  ·refine thn (T.done (compCx X scope cl N' { s2 with heap := h3, toks := s2.toks } (upd H2 s2.heap.objs.size (.lst [])) fp fun _ _ => False) rfl rfl rfl hc i [] s6 σ6 H6 _ I6 (stat fr6) st6 stop) fun r s7 ⟨hr, I7⟩ => ?_
   subst hr
   exact wpAny_pure (fin s7 σ6 H6 I7 qn)
  ·refine thn (T.item (compCx X scope cl N' { s2 with heap := h3, toks := s2.toks } (upd H2 s2.heap.objs.size (.lst [])) fp fun _ _ => False) rfl rfl rfl hc i [] s6 σ6 H6 _ I6 (stat fr6) st6 go) fun r s7 ⟨u, hr, h7⟩ => ?_
   subst hr
   refine wpAny_bind (thn h7 fun _ s8 ⟨x, H8, I8, r8, y8, st8, fr8⟩ => ?_)
   have I8' := I8.pinned (stat fr8) (T.obj _ _ st8)
   refine wpAny_bind (wpAny_mono (hg _ _ _ _ s8 σ6 H8 x u _ I8' r8 (step x H8 y8)) (fun _ s9 ⟨σ9, H9, I9, q9⟩ => ?_) (fun _ _ z => False.elim z))
   refine wpAny_bind (wpAny_mono (ht _ _ _ _ s9 σ9 H9 _ I9 q9) (fun ok s10 ⟨H10, I10, q10⟩ => ?_) (fun _ _ z => False.elim z))
   have again : ∀ {σ' : St} {H' : Hp} {ys : List V} {s' : Shared}, Inv (compCx X scope cl N' { s2 with heap := h3, toks := s2.toks } (upd H2 s2.heap.objs.size (.lst [])) fp fun _ _ => False) ([] ++ pinsAt fp s8.heap) σ' H' s' -> (∃ m', m' < n /\ W (i + 1) m' ys σ' H') ->
     ∃ m', m' < n /\ ∃ i xs σ' H', Inv (compCx X scope cl N' { s2 with heap := h3, toks := s2.toks } (upd H2 s2.heap.objs.size (.lst [])) fp fun _ _ => False) [] σ' H' s' /\ tn i s'.heap /\ (∀ b ∈ fp, H' b = none) /\ W i m' xs σ' H' := fun {σ' H' ys s'} I' ⟨m', hm, w'⟩ => by
    refine ⟨m', hm, i + 1, ys, σ', H', I'.unpinned, T.keep _ _ _ st8 fun b hb o eb => (I'.pin (b, o) (List.mem_append_right _ (List.mem_append_right _ (mem_pinsAt hb eb)))).1, fun b hb => ?_, w'⟩
    obtain ⟨o, eb, _⟩ := T.obj _ _ st8 b hb
    exact (I'.pin (b, o) (List.mem_append_right _ (List.mem_append_right _ (mem_pinsAt hb eb)))).2.1
   cases ok with
   | false =>
    have q10' : ∃ m', m' < n /\ W (i + 1) m' xs σ9 H10 := by simpa using q10
    exact wpAny_pure ⟨rfl, again I10 q10'⟩
   | true =>
    rw [if_pos rfl] at q10
    refine wpAny_bind (wpAny_bind (wpAny_mono (he _ _ _ _ s10 σ9 H10 _ I10 q10) (fun y s11 ⟨v11, H11, I11, r11, hD11, q11⟩ => ?_) (fun _ _ z => False.elim z)))
    refine wpAny_bind (wpAny_mono (mt_append (X := compCx X scope cl N' { s2 with heap := h3, toks := s2.toks } (upd H2 s2.heap.objs.size (.lst [])) fp fun _ _ => False) _ s11 σ9 H11 (.ref s2.heap.objs.size) [v11] (.ref s2.heap.objs.size) [y] (fun _ H' => ∃ m', m' < n /\ W (i + 1) m' (xs ++ [v11]) σ9 H') I11 rfl (.cons r11 .nil) ⟨s2.heap.objs.size, xs, v11, rfl, rfl, hD11, hlen, q11⟩) (fun _ s12 ⟨_, H12, I12, _, q12⟩ => ?_) (fun _ _ z => False.elim z))
    exact wpAny_pure (wpAny_pure ⟨rfl, again I12 q12⟩)
 exact codeAny_compStart_list (loop _ rfl) (T.self X.A 0 _ _ _ st4 (loop _ rfl))
def tSetC (i : Nat) (t : TE) : TS := fun D σ H => t σ H fun v H1 => D.nx (σ.set i (some v)) H1
theorem ps_setC {i : Nat} {y : Str} {py : Pos} {elt iter tg : Expr} {ifs : List Expr} {scope : Scope} {pos spos : Pos} {cl : List (Str × Addr)} {N' : List Str} {lk : List (Option Nat)} {wi : TI} {g : TG} {tt : TT} {te : TE}
  (hN : X.N.Nodup) (hy : X.N[i]? = some y) (hyl : X.env.scope.names.lookup y = some .local)
  (hsw : swapsWith (.ListComp elt [⟨tg, iter, ifs, 0⟩] scope pos) (some (.Name y py)) spos.line X.env = pure true)
  (hc : X.calm = true) (hi : PI X tg iter wi) (hclos : closureFor scope X.env = pure cl) (hkind : scope.kind = .function)
  (hnames : ∀ y ∈ scope.names, y.2 = .local -> scope.names.lookup y.1 = some .local) (hcl : ClOk X.env cl) (hfr : FrOk scope.names cl = true) (hlk : LkOk X N' lk scope cl)
  (hg : ∀ s3 H3 fp, PG (compCx X scope cl N' s3 H3 fp fun _ _ => False) tg g) (ht : ∀ s3 H3 fp, PTs (compCx X scope cl N' s3 H3 fp fun _ _ => False) ifs tt) (he : ∀ s3 H3 fp, PE (compCx X scope cl N' s3 H3 fp fun _ _ => False) elt te)
  (hs : ∀ x, foldedSetIterable iter X.env x = pure x := by intro _; rfl) : PS X (.Assign [.Name y py] (.ListComp elt [⟨tg, iter, ifs, 0⟩] scope pos) spos) (tSetC i (tComp wi lk g tt te)) := by
 intro pins s σ H D I h
 rw [exec_Assign_Name_used _ _ _ _ hsw]
 refine wpAny_bind (wpAny_standAt (wpAny_bind ?_))
 show wpAny _ X.A (do let _ <- comprehension (.ListComp elt [⟨tg, iter, ifs, 0⟩] scope pos) scope X.env _ (newList []) false (eval iter X.env) (some (assign (.Name y py) X.env))) _ _ s
 refine wpAny_bind (thn (comp_core (use := some (assign (.Name y py) X.env)) (R := fun _ s' => SP X pins D .next s') hc hi hclos hkind hnames hcl hfr hlk hg ht he hs I h
  fun C Dd s' H' I' q' hC hCL hCs hCc hCp ⟨m, hm⟩ => ?_) fun _ s' hq => wpAny_pure (wpAny_pure hq))
 show wpAny _ X.A (assign (.Name y py) X.env (.ref Dd)) _ _ s'
 refine wpAny_assign_Name (store_ok2 (v := .ref Dd) I' hN hy (.inl hyl) rfl (fun s2 I2 ⟨a, hsb, ha⟩ => ?_) (.inr hyl))
 have hCa : C ≠ a := by
  rcases ha with z | z
  ·rw [z]; exact hCL
  ·exact (hCc y a z).symm
 refine ⟨m, hm.sameBut hsb hCa, fun h' hs' => ?_⟩
 obtain ⟨h0, g0, d0, t0, o0⟩ := s2
 exact ⟨_, H', I2.turned (t' := t0) (it := C) (fun b o hb eb => (hs'.2 b hb).trans eb) hC hCL (.inr hCs) hCc hCp, q'⟩
end
section
variable {X : Cx}
theorem comp_coreK {x0 : Str} {elt iter tg : Expr} {ifs : List Expr} {scope : Scope} {pos ipos : Pos} {cl : List (Str × Addr)} {N' : List Str} {lk : List (Option Nat)} {wi : TI} {g : TG} {tt : TT} {te : TE} {use : Option (Value -> Sem Unit)} {R : Value -> Shared -> Prop} {Q : VK} {pins : List (Addr × Obj)} {s : Shared} {σ : St} {H : Hp}
  (hc : X.calm = true) (hi : PI X tg iter wi) (hclos : closureFor scope X.env = pure cl) (hkind : scope.kind = .function)
  (hnames : ∀ y ∈ scope.names, y.2 = .local -> scope.names.lookup y.1 = some .local) (hcl : ClOk X.env cl) (hfr : FrOkK x0 scope.names cl = true) (hx0 : cl.lookup x0 = none) (hcs : ∀ n, cellsFrom n scope.names cl = (x0, n) :: cl) (hpc : ∀ h, pushCells h scope.names = h.push { cls := .type "cell", data := .cell none }) (hlk : LkOk X N' lk scope cl)
  (hg : ∀ s3 H3 fp, PG (compCxK X x0 scope cl N' s3 H3 fp fun _ _ => False) tg g) (ht : ∀ s3 H3 fp, PTs (compCxK X x0 scope cl N' s3 H3 fp fun _ _ => False) ifs tt) (he : ∀ s3 H3 fp, PE (compCxK X x0 scope cl N' s3 H3 fp fun _ _ => False) elt te)
  (hs : ∀ x, foldedSetIterable iter X.env x = pure x) (I : Inv X pins σ H s) (h : tComp wi lk g tt te σ H Q)
  (hend : ∀ (C D : Addr) (s' : Shared) (H' : Hp), Inv X pins σ H' s' -> Q (.ref D) H' -> H' C = none -> C ≠ X.env.locals -> X.s₀.heap.objs.size <= C -> (∀ x c, X.env.cells.lookup x = some c -> c ≠ C) -> (∀ p ∈ X.pn ++ pins, p.1 ≠ C) -> (∃ m, s'.heap.Ns C m) ->
   compPost (model X.prog X.w) X.A X.xe use R (.ref D) C (.ok .next) s') :
  wpAny (model X.prog X.w) X.A (comprehension (.ListComp elt [⟨tg, iter, ifs, 0⟩] scope pos) scope X.env ipos (newList []) false (eval iter X.env) use) R X.xe s := by
 refine wpAny_comprehension_free (use := use) rfl hs hclos hkind hnames (thn (hi pins s σ H _ I h) fun v s1 h1 => thn h1 fun itv s2 h2 => ?_)
 obtain ⟨it, fp, tn, J, H2, e, I2, T, st2, f2, q⟩ := h2
 subst e
 refine wpAny_newList ?_ (Nat.zero_le _)
 have hD : H2 s2.heap.objs.size = none := I2.hok.fresh (Nat.le_refl _)
 have I3 := I2.lnew (ys := []) (its := []) (t' := s2.toks) .nil (Nat.zero_le _)
 obtain ⟨W, ⟨m0, w0⟩, turn⟩ := q s2.heap.objs.size hD
 have fpl : ∀ b ∈ fp, b < s2.heap.objs.size := fun b hb => by
  obtain ⟨o, ho, _⟩ := T.obj 0 s2.heap st2 b hb
  exact Heap.lt_size ho
 refine newEnvK hcs hpc ?_
 dsimp only
 -- the state ahead of the frame, the block's context
 have e3 : s2.heap.push { cls := .type "list", dict := none, data := .seq ([] : List Value).toArray } = s2.heap.push { cls := .type "list", data := .seq ([] : List Value).toArray } := rfl
 generalize hh3 : s2.heap.push { cls := .type "list", dict := none, data := .seq ([] : List Value).toArray } = h3 at *
 have I3' : Inv X pins σ (upd H2 s2.heap.objs.size (.lst [])) { s2 with heap := h3, toks := s2.toks } := I3
 have size3 : h3.objs.size = s2.heap.objs.size + 1 := by rw [<- hh3, Heap.size_push]
 have f3 : ∀ b ∈ fp, FpOk X pins (upd H2 s2.heap.objs.size (.lst [])) b := fun b hb => by
  obtain ⟨f0, fr⟩ := f2 b hb
  exact ⟨by rw [upd_ne (Nat.ne_of_lt (fpl b hb))]; exact f0, fr⟩
 have hns1 : ((h3.push { cls := .type "dict", data := .dict #[] }).push { cls := .type "cell", data := .cell none }).Ns h3.objs.size (fun _ => none) := (Heap.Ns.new h3 (.type "dict")).keeps fun b o e => Heap.get?_push_of_some _ e
 have hc0 : ((h3.push { cls := .type "dict", data := .dict #[] }).push { cls := .type "cell", data := .cell none }).IsCell (h3.objs.size + 1) none := ⟨_, by rw [<- Heap.size_push h3 { cls := .type "dict", data := .dict #[] }]; exact Heap.get?_push_size _ rfl, rfl⟩
 have up : ∀ b u, h3.get? b = some u -> ((h3.push { cls := .type "dict", data := .dict #[] }).push { cls := .type "cell", data := .cell none }).get? b = some u := fun b u eb => Heap.get?_push_of_some _ (Heap.get?_push_of_some _ eb)
 generalize (h3.push { cls := .type "dict", data := .dict #[] }).push { cls := .type "cell", data := .cell none } = h1 at hns1 hc0 up ⊢
 have I4 : Inv (compCxK X x0 scope cl N' { s2 with heap := h3, toks := s2.toks } (upd H2 s2.heap.objs.size (.lst [])) fp fun _ _ => False) [] (capt lk σ) (upd H2 s2.heap.objs.size (.lst [])) { s2 with heap := h1, toks := s2.toks } :=
  comp_startK (s3 := { s2 with heap := h3, toks := s2.toks }) I3' f3 hkind hcl hfr hx0 hc0 hlk hns1 up fun b hb => by show b < h3.objs.size; rw [size3]; exact Nat.lt_succ_of_lt (fpl b hb)
 have st4 : tn 0 h1 := T.keep 0 s2.heap h1 st2 fun b hb o eb => up b o (by rw [<- hh3]; exact Heap.get?_push_of_some _ eb)
 have hCs : h3.objs.size = (compEnvC scope ((x0, h3.objs.size + 1) :: cl) h3.objs.size X.env).locals := rfl
 -- what stays true of the iterator's objects
 have stat : ∀ {H' : Hp}, (∀ b ∈ fp, H' b = none) -> ∀ b ∈ fp, FpOk (compCxK X x0 scope cl N' { s2 with heap := h3, toks := s2.toks } (upd H2 s2.heap.objs.size (.lst [])) fp fun _ _ => False) [] H' b := fun {H'} hn b hb => by
  obtain ⟨f0, f1, f2', f3', f4, f5⟩ := f3 b hb
  refine ⟨hn b hb, ?_, fun z => ?_, .inl hb, fun x c ex => ?_, fun p hp => nomatch hp⟩
  ·show b ≠ h3.objs.size
   rw [size3]
   exact Nat.ne_of_lt (Nat.lt_succ_of_lt (fpl b hb))
  ·rcases List.mem_cons.mp (I3'.stkSub b z) with q | q
   ·exact f1 q
   ·exact f2' q
  ·have ex' : ((x0, h3.objs.size + 1) :: cl : List (Str × Addr)).lookup x = some c := ex
   rw [List.lookup_cons] at ex'
   cases hb0 : x == x0 with
   | true =>
    rw [hb0] at ex'
    cases ex'
    exact Nat.ne_of_gt (Nat.lt_succ_of_lt (by rw [size3]; exact Nat.lt_succ_of_lt (fpl b hb)))
   | false =>
    rw [hb0] at ex'
    exact f4 x c (hcl.get ex')
 -- the block's end
 have fin : ∀ (s' : Shared) (σ' : St) (H' : Hp), Inv (compCxK X x0 scope cl N' { s2 with heap := h3, toks := s2.toks } (upd H2 s2.heap.objs.size (.lst [])) fp fun _ _ => False) [] σ' H' s' -> Q (.ref s2.heap.objs.size) H' ->
   compPost (model X.prog X.w) X.A X.xe use R (.ref s2.heap.objs.size) h3.objs.size (.ok .next) s' := fun s' σ' H' I' q' => by
  obtain ⟨m, hm, _⟩ := id I'.loc
  have I5 : Inv X pins σ H' s' := I3'.call' (ch := fp) I'.os I'.base I'.hok I'.bare fun b hb => by
   obtain ⟨f0, f1, f2', f3', f4, f5⟩ := f3 b hb
   exact ⟨f3', f1, f4, f5⟩
  exact hend h3.objs.size s2.heap.objs.size s' H' I5 q' I'.free (Nat.ne_of_gt I3'.lt) I3'.sz (fun x c ex z => by
   obtain ⟨v', q2⟩ := I3'.cell x c ex
   exact absurd q2.lt (by rw [z]; exact Nat.lt_irrefl _)) (fun p hp z => absurd (Heap.lt_size (I3'.pin p hp).1) (by rw [z]; exact Nat.lt_irrefl _)) ⟨m, hm⟩
 have loop : ∀ s5 : Shared, s5 = { s2 with heap := h1, toks := s2.toks } ->
   codeAny (model X.prog X.w) X.A (.compLoop (.ListComp elt [⟨tg, iter, ifs, 0⟩] scope pos) 0 (.ref it) (.ref s2.heap.objs.size) (compEnvC scope ((x0, h3.objs.size + 1) :: cl) h3.objs.size X.env)) (compPost (model X.prog X.w) X.A X.xe use R (.ref s2.heap.objs.size) h3.objs.size) s5 := by
  rintro s5 rfl
  refine codeAny_loop rfl (fun n s' => ∃ i xs σ' H', Inv (compCxK X x0 scope cl N' { s2 with heap := h3, toks := s2.toks } (upd H2 s2.heap.objs.size (.lst [])) fp fun _ _ => False) [] σ' H' s' /\ tn i s'.heap /\ (∀ b ∈ fp, H' b = none) /\ W i n xs σ' H')
   (fun n s6 hI => ?_) m0 ⟨0, [], capt lk σ, _, I4, st4, fun b hb => (f3 b hb).1, w0⟩
  obtain ⟨i, xs, σ6, H6, I6, st6, fr6, w6⟩ := hI
  show wpAny _ X.A ((compTurn (.ListComp elt [⟨tg, iter, ifs, 0⟩] scope pos) 0 (.ref it) (.ref s2.heap.objs.size) (compEnvC scope ((x0, h3.objs.size + 1) :: cl) h3.objs.size X.env)).onRaise (fun x => do noteFrame x (compEnvC scope ((x0, h3.objs.size + 1) :: cl) h3.objs.size X.env); theTreesLotGoes x)) _ _ s6
  refine wpAny_noted ?_
  rw [compTurn_list]
  refine wpAny_bind (wpAny_standAt (wpAny_bind ?_))
  obtain ⟨hD6, hw⟩ := turn i n xs σ6 H6 w6
  rcases hw with ⟨stop, qn⟩ | ⟨go, hlen, step⟩
  ·refine thn (T.done (compCxK X x0 scope cl N' { s2 with heap := h3, toks := s2.toks } (upd H2 s2.heap.objs.size (.lst [])) fp fun _ _ => False) rfl rfl rfl hc i [] s6 σ6 H6 _ I6 (stat fr6) st6 stop) fun r s7 ⟨hr, I7⟩ => ?_
   subst hr
   exact wpAny_pure (fin s7 σ6 H6 I7 qn)
  ·refine thn (T.item (compCxK X x0 scope cl N' { s2 with heap := h3, toks := s2.toks } (upd H2 s2.heap.objs.size (.lst [])) fp fun _ _ => False) rfl rfl rfl hc i [] s6 σ6 H6 _ I6 (stat fr6) st6 go) fun r s7 ⟨u, hr, h7⟩ => ?_
   subst hr
   refine wpAny_bind (thn h7 fun _ s8 ⟨x, H8, I8, r8, y8, st8, fr8⟩ => ?_)
   have I8' := I8.pinned (stat fr8) (T.obj _ _ st8)
   refine wpAny_bind (wpAny_mono (hg _ _ _ _ s8 σ6 H8 x u _ I8' r8 (step x H8 y8)) (fun _ s9 ⟨σ9, H9, I9, q9⟩ => ?_) (fun _ _ z => False.elim z))
   refine wpAny_bind (wpAny_mono (ht _ _ _ _ s9 σ9 H9 _ I9 q9) (fun ok s10 ⟨H10, I10, q10⟩ => ?_) (fun _ _ z => False.elim z))
   have again : ∀ {σ' : St} {H' : Hp} {ys : List V} {s' : Shared}, Inv (compCxK X x0 scope cl N' { s2 with heap := h3, toks := s2.toks } (upd H2 s2.heap.objs.size (.lst [])) fp fun _ _ => False) ([] ++ pinsAt fp s8.heap) σ' H' s' -> (∃ m', m' < n /\ W (i + 1) m' ys σ' H') ->
     ∃ m', m' < n /\ ∃ i xs σ' H', Inv (compCxK X x0 scope cl N' { s2 with heap := h3, toks := s2.toks } (upd H2 s2.heap.objs.size (.lst [])) fp fun _ _ => False) [] σ' H' s' /\ tn i s'.heap /\ (∀ b ∈ fp, H' b = none) /\ W i m' xs σ' H' := fun {σ' H' ys s'} I' ⟨m', hm, w'⟩ => by
    refine ⟨m', hm, i + 1, ys, σ', H', I'.unpinned, T.keep _ _ _ st8 fun b hb o eb => (I'.pin (b, o) (List.mem_append_right _ (List.mem_append_right _ (mem_pinsAt hb eb)))).1, fun b hb => ?_, w'⟩
    obtain ⟨o, eb, _⟩ := T.obj _ _ st8 b hb
    exact (I'.pin (b, o) (List.mem_append_right _ (List.mem_append_right _ (mem_pinsAt hb eb)))).2.1
   cases ok with
   | false =>
    have q10' : ∃ m', m' < n /\ W (i + 1) m' xs σ9 H10 := by simpa using q10
    exact wpAny_pure ⟨rfl, again I10 q10'⟩
   | true =>
    rw [if_pos rfl] at q10
    refine wpAny_bind (wpAny_bind (wpAny_mono (he _ _ _ _ s10 σ9 H10 _ I10 q10) (fun y s11 ⟨v11, H11, I11, r11, hD11, q11⟩ => ?_) (fun _ _ z => False.elim z)))
    refine wpAny_bind (wpAny_mono (mt_append (X := compCxK X x0 scope cl N' { s2 with heap := h3, toks := s2.toks } (upd H2 s2.heap.objs.size (.lst [])) fp fun _ _ => False) _ s11 σ9 H11 (.ref s2.heap.objs.size) [v11] (.ref s2.heap.objs.size) [y] (fun _ H' => ∃ m', m' < n /\ W (i + 1) m' (xs ++ [v11]) σ9 H') I11 rfl (.cons r11 .nil) ⟨s2.heap.objs.size, xs, v11, rfl, rfl, hD11, hlen, q11⟩) (fun _ s12 ⟨_, H12, I12, _, q12⟩ => ?_) (fun _ _ z => False.elim z))
    exact wpAny_pure (wpAny_pure ⟨rfl, again I12 q12⟩)
 exact codeAny_compStart_list (loop _ rfl) (T.self X.A 0 _ _ _ st4 (loop _ rfl))
theorem ps_setCK {x0 : Str} {i : Nat} {y : Str} {py : Pos} {elt iter tg : Expr} {ifs : List Expr} {scope : Scope} {pos spos : Pos} {cl : List (Str × Addr)} {N' : List Str} {lk : List (Option Nat)} {wi : TI} {g : TG} {tt : TT} {te : TE}
  (hN : X.N.Nodup) (hy : X.N[i]? = some y) (hyl : X.env.scope.names.lookup y = some .local)
  (hsw : swapsWith (.ListComp elt [⟨tg, iter, ifs, 0⟩] scope pos) (some (.Name y py)) spos.line X.env = pure true)
  (hc : X.calm = true) (hi : PI X tg iter wi) (hclos : closureFor scope X.env = pure cl) (hkind : scope.kind = .function)
  (hnames : ∀ y ∈ scope.names, y.2 = .local -> scope.names.lookup y.1 = some .local) (hcl : ClOk X.env cl) (hfr : FrOkK x0 scope.names cl = true) (hx0 : cl.lookup x0 = none) (hcs : ∀ n, cellsFrom n scope.names cl = (x0, n) :: cl) (hpc : ∀ h, pushCells h scope.names = h.push { cls := .type "cell", data := .cell none }) (hlk : LkOk X N' lk scope cl)
  (hg : ∀ s3 H3 fp, PG (compCxK X x0 scope cl N' s3 H3 fp fun _ _ => False) tg g) (ht : ∀ s3 H3 fp, PTs (compCxK X x0 scope cl N' s3 H3 fp fun _ _ => False) ifs tt) (he : ∀ s3 H3 fp, PE (compCxK X x0 scope cl N' s3 H3 fp fun _ _ => False) elt te)
  (hs : ∀ x, foldedSetIterable iter X.env x = pure x := by intro _; rfl) : PS X (.Assign [.Name y py] (.ListComp elt [⟨tg, iter, ifs, 0⟩] scope pos) spos) (tSetC i (tComp wi lk g tt te)) := by
 intro pins s σ H D I h
 rw [exec_Assign_Name_used _ _ _ _ hsw]
 refine wpAny_bind (wpAny_standAt (wpAny_bind ?_))
 show wpAny _ X.A (do let _ <- comprehension (.ListComp elt [⟨tg, iter, ifs, 0⟩] scope pos) scope X.env _ (newList []) false (eval iter X.env) (some (assign (.Name y py) X.env))) _ _ s
 refine wpAny_bind (thn (comp_coreK (use := some (assign (.Name y py) X.env)) (R := fun _ s' => SP X pins D .next s') hc hi hclos hkind hnames hcl hfr hx0 hcs hpc hlk hg ht he hs I h
  fun C Dd s' H' I' q' hC hCL hCs hCc hCp ⟨m, hm⟩ => ?_) fun _ s' hq => wpAny_pure (wpAny_pure hq))
 show wpAny _ X.A (assign (.Name y py) X.env (.ref Dd)) _ _ s'
 refine wpAny_assign_Name (store_ok2 (v := .ref Dd) I' hN hy (.inl hyl) rfl (fun s2 I2 ⟨a, hsb, ha⟩ => ?_) (.inr hyl))
 have hCa : C ≠ a := by
  rcases ha with z | z
  ·rw [z]; exact hCL
  ·exact (hCc y a z).symm
 refine ⟨m, hm.sameBut hsb hCa, fun h' hs' => ?_⟩
 obtain ⟨h0, g0, d0, t0, o0⟩ := s2
 exact ⟨_, H', I2.turned (t' := t0) (it := C) (fun b o hb eb => (hs'.2 b hb).trans eb) hC hCL (.inr hCs) hCc hCp, q'⟩
end
section
variable {X : Cx}
end
theorem comp_range {lo : Int} {n : Nat} {D : Addr} {g : TG} {tt : TT} {te : TE} {Qd : Hp -> Prop} {σ0 : St} {H0 : Hp} (Pv : Nat -> List V -> St -> Hp -> Prop) (h0 : Pv 0 [] σ0 H0) (hz : n <= sizeLine) (hl : ∀ i xs σ H, i <= n -> Pv i xs σ H -> H D = some (.lst xs) /\ xs.length <= i)
  (hs : ∀ i xs σ H (N : List V -> St -> Hp -> Prop), (∀ xs' σ' H', Pv (i + 1) xs' σ' H' -> N xs' σ' H') -> i < n -> Pv i xs σ H -> g (.int (lo + i)) σ H fun σ2 H2 => tt σ2 H2 fun b H3 => if b = true then te σ2 H3 fun v H4 => H4 D = some (.lst xs) /\ N (xs ++ [v]) σ2 (upd H4 D (.lst (xs ++ [v]))) else N xs σ2 H3)
  (hd : ∀ xs σ H, Pv n xs σ H -> Qd H) :
  ∃ W : Nat -> Nat -> List V -> St -> Hp -> Prop, (∃ m, W 0 m [] σ0 H0) /\ ∀ i m xs σ' H', W i m xs σ' H' -> H' D = some (.lst xs) /\ (((Itr lo n).stop i H' /\ Qd H') \/ ((Itr lo n).go i H' /\ xs.length < sizeLine /\ ∀ x H'', (Itr lo n).yld i H' x H'' -> g x σ' H'' fun σ2 H2 => tt σ2 H2 fun b H3 =>
   if b = true then te σ2 H3 fun v H4 => H4 D = some (.lst xs) /\ ∃ m', m' < m /\ W (i + 1) m' (xs ++ [v]) σ2 (upd H4 D (.lst (xs ++ [v]))) else ∃ m', m' < m /\ W (i + 1) m' xs σ2 H3)) := by
 refine ⟨fun i m xs σ H => m = n - i /\ i <= n /\ Pv i xs σ H, ⟨n, by simp, Nat.zero_le _, h0⟩, ?_⟩
 rintro i m xs σ H ⟨rfl, hi, p⟩
 obtain ⟨hD, hx⟩ := hl i xs σ H hi p
 refine ⟨hD, ?_⟩
 by_cases hlt : i < n
 ·refine .inr ⟨hlt, by omega, fun x H'' y => ?_⟩
  obtain ⟨e, y⟩ := y
  subst e y
  exact hs i xs σ _ (fun zs σ' H' => ∃ m', m' < n - i /\ m' = n - (i + 1) /\ i + 1 <= n /\ Pv (i + 1) zs σ' H') (fun zs σ' H' r => ⟨_, by omega, rfl, hlt, r⟩) hlt p
 ·obtain rfl : i = n := by omega
  exact .inl ⟨Nat.le_refl _, hd xs σ H p⟩
end L2
namespace Web
open PySem L2
def top (i : Nat) : Stmt := PySem.Challenge.pw_tallyweb_k45_whole_swaps_led.main.body.getD i (.Pass ⟨0, 0, 0, 0⟩)
abbrev sLed : Stmt := top 8
abbrev sStp : Stmt := top 9
abbrev sNear : Stmt := top 14
abbrev sSLed : Stmt := top 15
abbrev sIs4 : Stmt := top 27
abbrev sWalk : Stmt := top 28
abbrev sRef : Stmt := top 29
abbrev sLeads : Stmt := top 30
abbrev sIsP : Stmt := top 6
abbrev sCellS : Stmt := top 17
abbrev sMixS : Stmt := top 18
abbrev sSides : Stmt := top 19
abbrev sBit : Stmt := top 20
abbrev sTab : Stmt := top 21
abbrev sSumsOf : Stmt := top 11
abbrev sCanSw : Stmt := top 12
abbrev sSwd : Stmt := top 13
abbrev sToldT : Stmt := top 23
abbrev sIsSw : Stmt := top 24
abbrev sSwL : Stmt := top 25
abbrev sFours : Stmt := top 26
abbrev sLaw : Stmt := top 31
structure Bn (mg : Str -> Option Value) : Prop where
 len : mg "len" = none
 range : mg "range" = none
 enum : mg "enumerate" = none
 list : mg "list" = none
 tuple : mg "tuple" = none
 sorted : mg "sorted" = none
 set : mg "set" = none
 isin : mg "isinstance" = none
 int : mg "int" = none
 bool : mg "bool" = none
 min : mg "min" = none
 max : mg "max" = none
 sum : mg "sum" = none
 str : mg "str" = none
 ve : mg "ValueError" = none
 rev : mg "reversed" = none
 zip : mg "zip" = none
theorem sl1000 : 1000 <= sizeLine := by decide
theorem same_upd {H : Hp} {l : Addr} {o : HO} (h : H l = none) : Same H (upd H l o) := fun b u e => by
 rw [upd_ne (ne_of_none e h)]
 exact e
theorem int_get {ns : List Int} {i : Nat} {x : V} (h : (ns.map V.int)[i]? = some x) : ∃ z : Int, ns[i]? = some z /\ x = V.int z := by
 rw [List.getElem?_map] at h
 cases e : ns[i]? with
 | none => rw [e] at h; cases h
 | some z => rw [e] at h; cases h; exact ⟨z, rfl, rfl⟩
section
variable {P : Program} {w : World} {K : W.Frag} {mg : Str -> Option Value} {base : Heap}
def spCell (K : W.Frag) : Sp := fun vs H Q _ => ∃ (a : Addr) (ns : List Int) (k : Nat), vs = [.ref a, .int k] /\ SqL K H a (ns.map V.int) /\ ∀ r : Int, Q (.int r) H
theorem scCell : FnScope ["script", "k"] ["script", "k"] (defScope sCellS) := ⟨rfl, rfl, rfl, by decide +kernel, rfl, by decide +kernel, by decide +kernel⟩
theorem ok_cell {f : Addr} {fd : FuncData} (F : Fun K "_law_cell" "_law_cell" sCellS f fd) (B : Bn mg) : FnOk P w K mg base CX0 1 f fd ["script", "k"] (spCell K) := by
 refine F.ok scCell (fun vs H Q E h => ?_) (fun cdv A outer s H vs Q E hr h => ?_)
 ·obtain ⟨a, ns, k, rfl, _⟩ := h
  rfl
 ·obtain ⟨a, ns, k, rfl, hS, q⟩ := h
  refine ⟨_, pss_cons (ps_if (pt_cmpR op_lt (pv 1) (pe_callB call_len_seq (by rfl) B.len PySem.boot_len (pa_cons (pv 0) pa_nil)) (nomark _)) (pss_one (ps_ret (pe_ix ix_list (pv 0) (pv 1) (fun _ _ => rfl)))) pss_nil)
   (pss_one (ps_ret pe_int)), ?_⟩
  refine ⟨_, rfl, _, rfl, a, _, rfl, .inl hS, _, _, rfl, rfl, _, rfl, ?_⟩
  refine ite2 (fun h => ?_) (fun h => ?_)
  ·have hl : k < ns.length := by
    have := of_decide_eq_true h
    rw [List.length_map] at this
    omega
   refine ⟨_, rfl, _, rfl, a, _, _, _, rfl, rfl, hS, atI_nat (j := k) (v := .int ns[k]) (by simp [hl]), ?_⟩
   exact q _
  ·exact q _
def spIsP : Sp := fun vs H Q _ => ∃ a b : Int, vs = [.int a, .int b] /\ Q (.bl (decide (0 <= b) && decide (b < a))) H
theorem scIsP : FnScope ["places", "number"] ["places", "number"] (defScope sIsP) := ⟨rfl, rfl, rfl, by decide +kernel, rfl, by decide +kernel, by decide +kernel⟩
theorem ok_isP {f : Addr} {fd : FuncData} (F : Fun K "is_place" "is_place" sIsP f fd) : FnOk P w K mg base CX0 1 f fd ["places", "number"] spIsP := by
 refine F.ok scIsP (fun vs H Q E h => ?_) (fun cdv A outer s H vs Q E hr h => ?_)
 ·obtain ⟨a, b, rfl, _⟩ := h
  rfl
 ·obtain ⟨a, b, rfl, k⟩ := h
  refine ⟨_, pss_one (ps_ret (pe_chain op_le op_lt pe_int (pv 1) (pv 0))), ?_⟩
  refine ⟨_, rfl, _, _, rfl, rfl, _, rfl, ?_⟩
  cases e : decide ((0 : Int) <= b) with
  | true =>
   refine iteT ⟨_, rfl, _, _, rfl, rfl, ?_⟩
   rw [e, Bool.true_and] at k
   exact k
  | false =>
   refine iteF ?_
   rw [e, Bool.false_and] at k
   exact k
end
theorem set_map_int (ns : List Int) (j : Nat) (v : Int) : (ns.map V.int).set j (.int v) = (ns.set j v).map V.int := by rw [List.map_set]
theorem at_int {ns : List Int} {j : Nat} (h : j < ns.length) : atI (ns.map V.int) (j : Int) = some (.int (ns.getD j 0)) := atI_nat (j := j) (by simp [h])
theorem mod_nat (c : Int) {n : Nat} (h : 0 < n) : ∃ j : Nat, c % (n : Int) = (j : Int) /\ j < n := by
 have h1 := Int.emod_nonneg c (show (n : Int) ≠ 0 by omega)
 have h2 := Int.emod_lt_of_pos c (show (0 : Int) < (n : Int) by omega)
 exact ⟨(c % (n : Int)).toNat, by omega, by omega⟩
section
variable {P : Program} {w : World} {K : W.Frag} {mg : Str -> Option Value} {base : Heap}
def spMixS : Sp := fun vs H Q _ => ∃ (c k : Int), vs = [.int c, .int k] /\ ∀ r : Int, Q (.int r) H
theorem scMixS : FnScope ["cell", "k", "turn"] ["cell", "k"] (defScope sMixS) := ⟨rfl, rfl, rfl, by decide +kernel, rfl, by decide +kernel, by decide +kernel⟩
theorem ok_mixS {f : Addr} {fd : FuncData} (F : Fun K "_law_mixed" "_law_mixed" sMixS f fd) : FnOk P w K mg base CX0 1 f fd ["cell", "k"] spMixS := by
 refine F.ok scMixS (fun vs H Q E h => ?_) (fun cdv A outer s H vs Q E hr h => ?_)
 ·obtain ⟨c, k, rfl, _⟩ := h
  rfl
 ·obtain ⟨c, k, rfl, q⟩ := h
  refine ⟨_, pss_cons (ps_set (i := 2) scMixS.nd rfl (Or.inl rfl) (pe_op op_mod (pe_op op_add (pe_op op_add (pe_op op_mod (pv 0) pe_int) (pe_op op_mul pe_int (pv 1))) pe_int) pe_int))
   (pss_cons (ps_set (i := 2) scMixS.nd rfl (Or.inl rfl) (pe_op op_mod (pe_op op_mul (pv 2) (pv 2)) pe_int))
   (pss_one (ps_ret (pe_op op_mod (pe_op op_mul (pv 2) pe_int) pe_int)))), ?_⟩
  refine ⟨_, rfl, _, _, rfl, rfl, (by show (0 : Int) < 2147483647; decide), _, rfl, _, _, rfl, rfl, .inl ⟨by decide, by decide⟩, _, _, rfl, rfl, _, _, rfl, rfl, _, _, rfl, rfl, (by show (0 : Int) < 2147483647; decide), ?_⟩
  refine gName_int fun k1 hk1 => ?_
  have k10 : 0 <= k1 := by rw [hk1]; exact Int.emod_nonneg _ (by decide)
  have k11 : k1 < 2147483647 := by rw [hk1]; exact Int.emod_lt_of_pos _ (by decide)
  clear hk1
  refine ⟨_, rfl, _, rfl, _, _, rfl, rfl, .inl ⟨by omega, by omega⟩, _, _, rfl, rfl, (by show (0 : Int) < 1000000007; decide), ?_⟩
  refine gName_int fun k2 _ => ?_
  refine ⟨_, rfl, _, _, rfl, rfl, .inr ⟨by decide, by decide⟩, _, _, rfl, rfl, (by show (0 : Int) < 998244353; decide), ?_⟩
  exact q _
def spSides (K : W.Frag) : Sp := fun vs H Q _ => ∃ (a : Addr) (ns : List Int), vs = [.ref a, .int 16] /\ SqL K H a (ns.map V.int) /\ ∀ (x : Addr) (hi wi : Nat) (H' : Hp), 1 <= hi -> hi <= 16 -> 1 <= wi -> wi <= 16 -> Same H H' -> H' x = some (.tup [.int hi, .int wi]) -> Q (.ref x) H'
theorem scSides : FnScope ["script", "most", "rest"] ["script", "most"] (defScope sSides) := ⟨rfl, rfl, rfl, by decide +kernel, rfl, by decide +kernel, by decide +kernel⟩
theorem ok_sides {f fC : Addr} {fd fdC : FuncData} (F : Fun K "_law_sides" "_law_sides" sSides f fd) (B : Bn mg) (FC : Fun K "_law_cell" "_law_cell" sCellS fC fdC) (bC : Binds K fdC ["script", "k"] []) (mC : mg "_law_cell" = some (.ref fC)) : FnOk P w K mg base CX0 2 f fd ["script", "most"] (spSides K) := by
 have GC : FnOk P w K mg base CX0 1 fC fdC ["script", "k"] (spCell K) := ok_cell FC B
 refine F.ok scSides (fun vs H Q E h => ?_) (fun cdv A outer s H vs Q E hr h => ?_)
 ·obtain ⟨a, ns, rfl, _⟩ := h
  rfl
 ·obtain ⟨a, ns, rfl, hS, q⟩ := h
  have hsl := sl1000
  refine ⟨_, pss_cons (ps_set (i := 2) scSides.nd rfl (Or.inl rfl) (pe_op op_fdiv (pe_call GC hr (by rfl) mC FC.kp bC .nil pass0 (pa_cons (pv 0) (pa_cons pe_int pa_nil))) pe_int))
   (pss_cons (ps_if (pt_cmpR op_eq (pe_op op_mod (pe_op op_fdiv (pv 2) pe_int) pe_int) pe_int (nomark _))
    (pss_one (ps_ret (pe_tup (pa_cons (pe_op op_add pe_int (pe_op op_mod (pe_op op_fdiv (pv 2) pe_int) (pv 1))) (pa_cons (pe_op op_add pe_int (pe_op op_mod (pe_op op_fdiv (pe_op op_fdiv (pv 2) pe_int) (pv 1)) (pv 1))) pa_nil))))) pss_nil)
   (pss_one (ps_ret (pe_tup (pa_cons (pe_op op_add pe_int (pe_op op_mod (pv 2) pe_int)) (pa_cons (pe_op op_add pe_int (pe_op op_mod (pe_op op_fdiv (pv 2) pe_int) pe_int)) pa_nil)))))), ?_⟩
  refine ⟨_, rfl, a, ns, 0, rfl, hS, fun c0 => ⟨_, _, rfl, rfl, ⟨by decide, by decide⟩, ?_⟩⟩
  refine gName_int fun r _ => ?_
  refine ⟨_, rfl, _, _, rfl, rfl, ⟨by decide, by decide⟩, _, _, rfl, rfl, (by show (0 : Int) < 8; decide), rfl, _, rfl, ?_⟩
  refine ite2 (fun h => ?_) (fun h => ?_)
  ·have h1 : 0 <= r / 200 % 16 := Int.emod_nonneg _ (by decide)
   have h2 : r / 200 % 16 < 16 := Int.emod_lt_of_pos _ (by decide)
   have h3 : 0 <= r / 200 / 16 % 16 := Int.emod_nonneg _ (by decide)
   have h4 : r / 200 / 16 % 16 < 16 := Int.emod_lt_of_pos _ (by decide)
   refine ⟨_, rfl, _, _, rfl, rfl, ⟨by decide, by decide⟩, _, rfl, _, _, rfl, rfl, (by show (0 : Int) < 16; decide), _, _, rfl, rfl, _, rfl, _, _, rfl, rfl, ⟨by decide, by decide⟩, _, rfl, _, _, rfl, rfl, ⟨by decide, by decide⟩, _, rfl, _, _, rfl, rfl, (by show (0 : Int) < 16; decide), _, _, rfl, rfl, (by show 2 <= sizeLine; decide), fun x hx => ?_⟩
   refine q x (1 + r / 200 % 16).toNat (1 + r / 200 / 16 % 16).toNat _ (by omega) (by omega) (by omega) (by omega) (same_upd hx) ?_
   rw [upd_same, show (((1 + r / 200 % 16).toNat : Nat) : Int) = 1 + r / 200 % 16 by omega, show (((1 + r / 200 / 16 % 16).toNat : Nat) : Int) = 1 + r / 200 / 16 % 16 by omega]
  ·have h1 : 0 <= r % 5 := Int.emod_nonneg _ (by decide)
   have h2 : r % 5 < 5 := Int.emod_lt_of_pos _ (by decide)
   have h3 : 0 <= r / 5 % 5 := Int.emod_nonneg _ (by decide)
   have h4 : r / 5 % 5 < 5 := Int.emod_lt_of_pos _ (by decide)
   refine ⟨_, rfl, _, _, rfl, rfl, (by show (0 : Int) < 5; decide), _, _, rfl, rfl, _, rfl, _, _, rfl, rfl, ⟨by decide, by decide⟩, _, _, rfl, rfl, (by show (0 : Int) < 5; decide), _, _, rfl, rfl, (by show 2 <= sizeLine; decide), fun x hx => ?_⟩
   refine q x (1 + r % 5).toNat (1 + r / 5 % 5).toNat _ (by omega) (by omega) (by omega) (by omega) (same_upd hx) ?_
   rw [upd_same, show (((1 + r % 5).toNat : Nat) : Int) = 1 + r % 5 by omega, show (((1 + r / 5 % 5).toNat : Nat) : Int) = 1 + r / 5 % 5 by omega]
def spBit (K : W.Frag) : Sp := fun vs H Q _ => ∃ (a : Addr) (ns : List Int) (st k : Nat), vs = [.ref a, .int st, .int k] /\ SqL K H a (ns.map V.int) /\ ∀ r : Int, (r = 0 \/ r = 1) -> Q (.int r) H
theorem scBit : FnScope ["script", "start", "k"] ["script", "start", "k"] (defScope sBit) := ⟨rfl, rfl, rfl, by decide +kernel, rfl, by decide +kernel, by decide +kernel⟩
theorem ok_bit {f fC fM : Addr} {fd fdC fdM : FuncData} (F : Fun K "_law_bit" "_law_bit" sBit f fd) (B : Bn mg) (FC : Fun K "_law_cell" "_law_cell" sCellS fC fdC) (bC : Binds K fdC ["script", "k"] []) (mC : mg "_law_cell" = some (.ref fC))
  (FM : Fun K "_law_mixed" "_law_mixed" sMixS fM fdM) (bM : Binds K fdM ["cell", "k"] []) (mM : mg "_law_mixed" = some (.ref fM)) : FnOk P w K mg base CX0 2 f fd ["script", "start", "k"] (spBit K) := by
 have GC : FnOk P w K mg base CX0 1 fC fdC ["script", "k"] (spCell K) := ok_cell FC B
 have GM : FnOk P w K mg base CX0 1 fM fdM ["cell", "k"] spMixS := ok_mixS FM
 refine F.ok scBit (fun vs H Q E h => ?_) (fun cdv A outer s H vs Q E hr h => ?_)
 ·obtain ⟨a, ns, st, k, rfl, _⟩ := h
  rfl
 ·obtain ⟨a, ns, st, k, rfl, hS, q⟩ := h
  refine ⟨_, pss_cons (ps_if (pt_cmpR op_eq (pe_op op_mod (pe_call GC hr (by rfl) mC FC.kp bC .nil pass0 (pa_cons (pv 0) (pa_cons pe_int pa_nil))) pe_int) pe_int (nomark _))
    (pss_one (ps_ret (pe_op op_and (pe_op op_shr (pe_call GC hr (by rfl) mC FC.kp bC .nil pass0 (pa_cons (pv 0) (pa_cons (pe_op op_add (pv 1) (pe_op op_fdiv (pv 2) pe_int)) pa_nil))) (pe_op op_mod (pv 2) pe_int)) pe_int))) pss_nil)
   (pss_one (ps_ret (pe_callTy call_int1 (by rfl) B.int (by rfl) (pa_cons (pe_cmpR op_lt (pe_op op_mod (pe_op op_fdiv (pe_call GM hr (by rfl) mM FM.kp bM .nil pass0 (pa_cons (pe_call GC hr (by rfl) mC FC.kp bC .nil pass0 (pa_cons (pv 0) (pa_cons (pv 1) pa_nil))) (pa_cons (pv 2) pa_nil))) pe_int) pe_int)
    (pe_op op_add pe_int (pe_op op_mod (pe_call GC hr (by rfl) mC FC.kp bC .nil pass0 (pa_cons (pv 0) (pa_cons pe_int pa_nil))) pe_int)) (nomark _)) pa_nil)))), ?_⟩
  refine ⟨_, rfl, a, ns, 0, rfl, hS, fun c0 => ⟨_, _, rfl, rfl, (by show (0 : Int) < 2; decide), rfl, _, rfl, ?_⟩⟩
  refine ite2 (fun h => ?_) (fun h => ?_)
  ·refine ⟨_, rfl, _, rfl, _, rfl, _, _, rfl, rfl, ⟨by decide, by decide⟩, _, _, rfl, rfl, a, ns, st + k / 60, by rw [Int.natCast_add]; rfl, hS, fun c1 => ?_⟩
   refine ⟨_, rfl, _, _, rfl, rfl, (by show (0 : Int) < 60; decide), _, _, rfl, rfl, Int.emod_nonneg _ (by decide), _, _, rfl, rfl, ?_⟩
   exact q _ (by rw [PyProof.Rows.bitAnd_m1]; omega)
  ·refine ⟨_, rfl, _, rfl, a, ns, st, rfl, hS, fun c1 => ⟨_, rfl, c1, (k : Int), rfl, fun r1 => ?_⟩⟩
   refine ⟨_, _, rfl, rfl, ⟨by decide, by decide⟩, _, _, rfl, rfl, (by show (0 : Int) < 4; decide), _, rfl, a, ns, 1, rfl, hS, fun c2 => ⟨_, _, rfl, rfl, (by show (0 : Int) < 3; decide), _, _, rfl, rfl, _, _, rfl, rfl, .inr ⟨_, rfl, ?_⟩⟩⟩
   exact q _ (by split <;> omega)
end
def TTa (K : W.Frag) (H : Hp) (a : Addr) (T : List (List Int)) : Prop := ∃ ys, SqT K H a ys /\ Tups K H ys T
theorem TTa.same {K : W.Frag} {H H' : Hp} {a : Addr} {T : List (List Int)} (h : TTa K H a T) (s : Same H H') : TTa K H' a T := let ⟨ys, h1, h2⟩ := h; ⟨ys, s.seqT h1, s.tups h2⟩
def Rws (H : Hp) (ps : List Addr) (T : List (List Int)) : Prop := ps.length = T.length /\ ∀ (i : Nat) (p : Addr) (r : List Int), ps[i]? = some p -> T[i]? = some r -> H p = some (.lst (r.map V.int))
theorem Rws.same {H H' : Hp} {ps : List Addr} {T : List (List Int)} (h : Rws H ps T) (s : Same H H') : Rws H' ps T := ⟨h.1, fun i p r e1 e2 => s _ _ (h.2 i p r e1 e2)⟩
theorem rows_get {T : List (List Int)} {hi wi r : Nat} (h : Rect T hi wi) (hr : r < hi) : T[r]? = some (T.getD r []) /\ (T.getD r []).length = wi := by
 have hl : r < T.length := by rw [h.1]; exact hr
 refine ⟨by rw [List.getD_eq_getElem?_getD, List.getElem?_eq_getElem hl]; rfl, rect_row h hr⟩
theorem tups_at {K : W.Frag} {H : Hp} {ys : List V} {T : List (List Int)} (t : Tups K H ys T) {r : Nat} {x : List Int} (h : T[r]? = some x) : ∃ p, ys[r]? = some (.ref p) /\ SqT K H p (x.map V.int) := by
 have hl : r < ys.length := by
  rw [t.len]
  rcases Nat.lt_or_ge r T.length with l | l
  ·exact l
  ·rw [List.getElem?_eq_none l] at h; cases h
 obtain ⟨p, k, e, hk, hq⟩ := t.get (List.getElem?_eq_getElem hl)
 rw [h] at hk
 cases hk
 exact ⟨p, by rw [List.getElem?_eq_getElem hl, e], hq⟩
theorem tt_eqD {K : W.Frag} {A : Around} {H : Hp} {Q : VK} {a b : Addr} {T U : List (List Int)} (neg : Bool) (hun : A.units + 64 < cLine) (ha : TTa K H a T) (hb : TTa K H b U) (q : Q (.bl (if neg then !decide (T = U) else decide (T = U))) H) : rEqD K A neg (.ref a) (.ref b) H Q := by
 obtain ⟨xs, h1, t1⟩ := ha
 obtain ⟨ys, h2, t2⟩ := hb
 refine ⟨.tuple (T.map dP), .tuple (U.map dP), Dt.mkT h1 t1.dtAll, Dt.mkT h2 t2.dtAll, by simp [PyData.canLay0, lay_pairs], by simp [PyData.canLay0, lay_pairs], ?_, ?_⟩
 ·refine un_lt hun (Nat.le_trans (Nat.min_le_left _ _) ?_)
  have := dep_pairs T
  simp only [PyData.depth]
  omega
 ·have e : PyData.eqv (.tuple (T.map dP)) (.tuple (U.map dP)) = decide (T = U) := by simp only [PyData.eqv, eqv_pairs]
  rw [e]
  exact q
section
variable {P : Program} {w : World} {K : W.Frag} {mg : Str -> Option Value} {base : Heap}
def spSumsOf (K : W.Frag) : Sp := fun vs H Q _ => ∃ (a : Addr) (T : List (List Int)) (hi wi : Nat), vs = [.ref a] /\ TTa K H a T /\ Rect T hi wi /\ 1 <= hi /\ hi <= 16 /\ wi <= 16 /\ ∀ (x l m : Addr) (H' : Hp), Same H H' -> H l = none -> H m = none -> l ≠ m -> H' x = some (.tup [.ref l, .ref m]) -> H' l = some (.lst ((rsum T).map V.int)) -> H' m = some (.lst ((csum T wi).map V.int)) -> Q (.ref x) H'
theorem scSumsOf : FnScope ["table", "of_columns"] ["table"] (defScope sSumsOf) := ⟨rfl, rfl, rfl, by decide +kernel, rfl, by decide +kernel, by decide +kernel⟩
set_option maxHeartbeats 1000000 in
theorem ok_sumsOf {f : Addr} {fd : FuncData} (F : Fun K "sums_of" "sums_of" sSumsOf f fd) (B : Bn mg) : FnOk P w K mg base CX0 1 f fd ["table"] (spSumsOf K) := by
 refine F.ok scSumsOf (fun vs H Q E h => ?_) (fun cdv A outer s H vs Q E hr h => ?_)
 ·obtain ⟨a, T, hi, wi, rfl, _⟩ := h
  rfl
 ·obtain ⟨a, T, hi, wi, rfl, ⟨ys, hA, hY⟩, hR, hi1, hi2, hw, q⟩ := h
  have hsl := sl1000
  have hyl : ys.length = hi := by rw [hY.len]; exact hR.1
  have nd1 : (["row"] : List Str).Nodup := by decide +kernel
  have nd2 : (["column", "table"] : List Str).Nodup := by decide +kernel
  have nd3 : (["row", "column"] : List Str).Nodup := by decide +kernel
  refine ⟨_, pss_cons (ps_setCK (x0 := "column") (i := 1) (N' := ["column", "table"]) (lk := [none, some 0]) scSumsOf.nd rfl rfl (by rfl) rfl (pi_range1 rfl B.range (pa_cons (pe_callB call_len_seq (by rfl) B.len PySem.boot_len (pa_cons (pe_ix ix_tup (pv 0) pe_int (fun _ _ => rfl)) pa_nil)) pa_nil)) (by rfl) rfl (by decide +kernel) (by exact ⟨rfl, trivial⟩) (by rfl) (by rfl) (fun _ => rfl) (fun _ => rfl) (by exact LkL.ok ⟨⟨rfl, Or.inl rfl, rfl, Or.inl rfl⟩, trivial⟩)
     (fun _ _ _ => pg_name (i := 0) nd2 rfl (Or.inr rfl)) (fun _ _ _ => pts_nil) (fun _ _ _ => pe_callB (call_sumK K rfl rfl) (by rfl) B.sum (by rfl) (pa_cons
      (pe_comp (N' := ["row", "column"]) (lk := [none, some 0]) rfl (pi_tupK K rfl (pv 1)) (by rfl) rfl (by decide +kernel) (by exact ⟨rfl, trivial⟩) (by rfl) (by exact LkL.ok ⟨⟨rfl, Or.inl rfl, rfl, Or.inl rfl⟩, trivial⟩)
       (fun _ _ _ => pg_name (i := 0) nd3 rfl (Or.inl rfl)) (fun _ _ _ => pts_nil) (fun _ _ _ => pe_ixTK K rfl (pv 0) (pv 1) (fun _ _ => rfl))) pa_nil)))
   (pss_one (ps_ret (pe_tup (pa_cons
    (pe_comp (N' := ["row"]) (lk := [none]) rfl (pi_tup (pv 0)) (by rfl) rfl (by decide +kernel) (by exact trivial) (by rfl) (by exact LkL.ok trivial)
     (fun _ _ _ => pg_name (i := 0) nd1 rfl (Or.inl rfl)) (fun _ _ _ => pts_nil) (fun _ _ _ => pe_callB (call_sumTK K rfl rfl) (by rfl) B.sum (by rfl) (pa_cons (pv 0) pa_nil)))
   (pa_cons (pv 1) pa_nil))))), ?_⟩
  obtain ⟨e0, l0⟩ := rows_get hR (show 0 < hi by omega)
  obtain ⟨p0, hy0, hp0⟩ := tups_at hY e0
  refine ⟨_, rfl, a, _, _, _, rfl, rfl, hA, atI_nat (j := 0) hy0, p0, _, rfl, .inr hp0, (wi : Int), by rw [List.length_map, l0], by omega, by omega, ?_⟩
  rw [Int.toNat_natCast]
  refine fun D hD => comp_range (lo := 0) (n := wi) (D := D) (fun i xs σ' H' => (∃ v, σ' = [v, some (.ref a)]) /\ Same H H' /\ H' D = some (.lst xs) /\ xs = (((List.range i).map fun c => (T.map fun r => r.getD c 0).sum)).map V.int)
   ⟨⟨none, rfl⟩, same_upd hD, upd_same, rfl⟩ (by omega) (fun i xs σ' H' hi' ⟨_, _, h1, e1⟩ => ⟨h1, by rw [e1, List.length_map, List.length_map, List.length_range]; exact Nat.le_refl _⟩) ?_ ?_
  ·rintro i xs σ' H' N kN hi' ⟨⟨v, rfl⟩, s1, h1, rfl⟩
   rw [show ((0 : Int) + (i : Int)) = (i : Int) by omega]
   refine gName_to (tTrue_if ?_)
   have hA1 := s1.seqT hA
   have hY1 := s1.tups hY
   refine ⟨_, rfl, a, rfl, ⟨_, hA1⟩, fun D3 hD3 => comp_tup (K := K) (a := a) (D := D3) (ys := ys) (fun j xs σ'' H'' => (∃ v, σ'' = [v, some (.int i)]) /\ Same H' H'' /\ H'' D3 = some (.lst xs) /\ xs = (((T.take j).map fun r => r.getD i 0)).map V.int)
    ⟨⟨none, rfl⟩, same_upd hD3, upd_same, by rw [List.take_zero]; rfl⟩ (by omega) (fun j xs σ'' H'' hj ⟨_, s3, h3, e3⟩ => ⟨s3.seqT hA1, h3, by rw [e3, List.length_map, List.length_map, List.length_take]; omega⟩) ?_ ?_⟩
   ·rintro j xs x σ'' H'' N' kN' hx ⟨⟨v, rfl⟩, s3, h3, rfl⟩
    obtain ⟨p, r, rfl, hr, hp⟩ := hY1.get hx
    have hrl : r.length = wi := hR.2 _ (List.mem_of_getElem? hr)
    refine gName_to (tTrue_if ?_)
    refine ⟨_, rfl, _, rfl, p, _, _, _, rfl, rfl, s3.seqT hp, at_int (by omega), h3, kN' _ _ _ ⟨⟨_, rfl⟩, s3.upd hD3, upd_same, ?_⟩⟩
    rw [List.take_add_one, hr, List.map_append, List.map_append]
    rfl
   ·rintro xs σ'' H3 ⟨⟨v, rfl⟩, s3, h3, rfl⟩
    rw [hyl, <- hR.1, List.take_length] at h3
    refine ⟨D3, _, rfl, SqL.of h3, s3 _ _ h1, kN _ _ _ ⟨⟨_, rfl⟩, (s1.trans s3).upd hD, upd_same, ?_⟩⟩
    rw [List.range_succ, List.map_append, List.map_append]
    rfl
  ·rintro xs σ' H1 ⟨⟨v, rfl⟩, s1, h1, rfl⟩
   have hA1 := s1.seqT hA
   have hY1 := s1.tups hY
   refine ⟨_, rfl, a, rfl, ⟨_, hA1⟩, fun D2 hD2 => comp_tup (K := K) (a := a) (D := D2) (ys := ys) (fun i xs σ' H' => (∃ v, σ' = [v]) /\ Same H1 H' /\ H' D2 = some (.lst xs) /\ xs = ((T.take i).map List.sum).map V.int)
    ⟨⟨none, rfl⟩, same_upd hD2, upd_same, by rw [List.take_zero]; rfl⟩ (by omega) (fun i xs σ' H' hi' ⟨_, s2, h2, e2⟩ => ⟨s2.seqT hA1, h2, by rw [e2, List.length_map, List.length_map, List.length_take]; omega⟩) ?_ ?_⟩
   ·rintro i xs x σ' H' N kN hx ⟨⟨v, rfl⟩, s2, h2, rfl⟩
    obtain ⟨p, r, rfl, hr, hp⟩ := hY1.get hx
    refine gName_to (tTrue_if ?_)
    refine ⟨_, rfl, p, r, rfl, s2.seqT hp, h2, kN _ _ _ ⟨⟨_, rfl⟩, s2.upd hD2, upd_same, ?_⟩⟩
    rw [List.take_add_one, hr, List.map_append, List.map_append]
    rfl
   ·rintro xs σ' H2 ⟨⟨v, rfl⟩, s2, h2, rfl⟩
    rw [hyl, <- hR.1, List.take_length] at h2
    refine ⟨_, rfl, (by show 2 <= sizeLine; decide), fun x hx => ?_⟩
    have s3 := same_upd (o := .tup [.ref D2, .ref D]) hx
    exact q x D2 D _ (s1.trans (s2.trans s3)) (s1.free hD2) hD (ne_of_none h1 hD2).symm upd_same (s3 _ _ h2) (s3 _ _ (s2 _ _ h1))
def spCanSw (K : W.Frag) : Sp := fun vs H Q _ => ∃ (a qa : Addr) (T : List (List Int)) (hi wi : Nat) (i j k l : Int), vs = [.ref a, .ref qa] /\ TTa K H a T /\ Rect T hi wi /\ 1 <= hi /\ SqT K H qa [.int i, .int j, .int k, .int l] /\ ∀ H' : Hp, Same H H' -> Q (.bl (decide (isSw T hi wi i j k l))) H'
theorem scCanSw : FnScope ["table", "four", "here", "there"] ["table", "four"] (defScope sCanSw) := ⟨rfl, rfl, rfl, by decide +kernel, rfl, by decide +kernel, by decide +kernel⟩
theorem at4_0 {x y z u : V} : atI ([x, y, z, u] : List V) 0 = some x := atI_nat (j := 0) rfl
theorem at4_1 {x y z u : V} : atI ([x, y, z, u] : List V) 1 = some y := atI_nat (j := 1) rfl
theorem at4_2 {x y z u : V} : atI ([x, y, z, u] : List V) 2 = some z := atI_nat (j := 2) rfl
theorem at4_3 {x y z u : V} : atI ([x, y, z, u] : List V) 3 = some u := atI_nat (j := 3) rfl
set_option maxHeartbeats 2000000 in
theorem ok_canSw {f fI : Addr} {fd fdI : FuncData} (F : Fun K "can_swap" "can_swap" sCanSw f fd) (B : Bn mg) (FI : Fun K "is_place" "is_place" sIsP fI fdI) (bI : Binds K fdI ["places", "number"] []) (mI : mg "is_place" = some (.ref fI)) : FnOk P w K mg base CX0 2 f fd ["table", "four"] (spCanSw K) := by
 have GI : FnOk P w K mg base CX0 1 fI fdI ["places", "number"] spIsP := ok_isP FI
 refine F.ok scCanSw (fun vs H Q E h => ?_) (fun cdv A outer s H vs Q E hr h => ?_)
 ·obtain ⟨a, qa, T, hi, wi, i, j, k, l, rfl, _⟩ := h
  rfl
 ·obtain ⟨a, qa, T, hi, wi, i, j, k, l, rfl, ⟨ys, hA, hY⟩, hR, hi1, hq, q⟩ := h
  have hsl := sl1000
  have hun := hr.units
  have hyl : ys.length = hi := by rw [hY.len]; exact hR.1
  refine ⟨_, pss_cons (ps_if (PW.pt (pw_or (pt_not (pt_val (pe_call GI hr (by rfl) mI FI.kp bI .nil pass0 (pa_cons (pe_callB call_len_seq (by rfl) B.len PySem.boot_len (pa_cons (pv 0) pa_nil)) (pa_cons (pe_ix ix_tup (pv 1) pe_int (fun _ _ => rfl)) pa_nil))))) (pw_or1 (pt_not (pt_val (pe_call GI hr (by rfl) mI FI.kp bI .nil pass0 (pa_cons (pe_callB call_len_seq (by rfl) B.len PySem.boot_len (pa_cons (pv 0) pa_nil)) (pa_cons (pe_ix ix_tup (pv 1) pe_int (fun _ _ => rfl)) pa_nil)))))))) (pss_one (ps_ret pe_bl)) pss_nil)
   (pss_cons (ps_if (PW.pt (pw_or (pt_not (pt_val (pe_call GI hr (by rfl) mI FI.kp bI .nil pass0 (pa_cons (pe_callB call_len_seq (by rfl) B.len PySem.boot_len (pa_cons (pe_ix ix_tup (pv 0) pe_int (fun _ _ => rfl)) pa_nil)) (pa_cons (pe_ix ix_tup (pv 1) pe_int (fun _ _ => rfl)) pa_nil))))) (pw_or1 (pt_not (pt_val (pe_call GI hr (by rfl) mI FI.kp bI .nil pass0 (pa_cons (pe_callB call_len_seq (by rfl) B.len PySem.boot_len (pa_cons (pe_ix ix_tup (pv 0) pe_int (fun _ _ => rfl)) pa_nil)) (pa_cons (pe_ix ix_tup (pv 1) pe_int (fun _ _ => rfl)) pa_nil)))))))) (pss_one (ps_ret pe_bl)) pss_nil)
   (pss_cons (ps_set (i := 2) scCanSw.nd rfl (Or.inl rfl) (pe_ix ix_tup (pv 0) (pe_ix ix_tup (pv 1) pe_int (fun _ _ => rfl)) (fun _ _ => rfl)))
   (pss_cons (ps_set (i := 3) scCanSw.nd rfl (Or.inl rfl) (pe_ix ix_tup (pv 0) (pe_ix ix_tup (pv 1) pe_int (fun _ _ => rfl)) (fun _ _ => rfl)))
   (pss_one (ps_ret (pe_cmpR op_eqD (pe_tup (pa_cons (pe_ix ix_tup (pv 2) (pe_ix ix_tup (pv 1) pe_int (fun _ _ => rfl)) (fun _ _ => rfl)) (pa_cons (pe_ix ix_tup (pv 2) (pe_ix ix_tup (pv 1) pe_int (fun _ _ => rfl)) (fun _ _ => rfl)) (pa_cons (pe_ix ix_tup (pv 3) (pe_ix ix_tup (pv 1) pe_int (fun _ _ => rfl)) (fun _ _ => rfl)) (pa_cons (pe_ix ix_tup (pv 3) (pe_ix ix_tup (pv 1) pe_int (fun _ _ => rfl)) (fun _ _ => rfl)) pa_nil)))))
    (pe_tup (pa_cons pe_int (pa_cons pe_int (pa_cons pe_int (pa_cons pe_int pa_nil))))) (nomark _))))))), ?_⟩
  obtain ⟨e0, l0⟩ := rows_get hR (show 0 < hi by omega)
  obtain ⟨p0, hy0, hp0⟩ := tups_at hY e0
  have l0' : (((T.getD 0 []).map V.int).length : Int) = (wi : Int) := by rw [List.length_map, l0]
  have hyl' : ((ys.length : Nat) : Int) = (hi : Int) := by rw [hyl]
  have no : ¬ isSw T hi wi i j k l -> ∀ H' : Hp, Same H H' -> Q (.bl false) H' := fun hn H' s' => by
   have := q H' s'
   rw [decide_eq_false hn] at this
   exact this
  refine ⟨_, rfl, a, _, rfl, .inr hA, _, rfl, qa, _, _, _, rfl, rfl, hq, at4_0, _, _, rfl, _, rfl, ?_⟩
  rw [hyl']
  by_cases c1 : 0 <= i /\ i < (hi : Int)
  ·rw [decide_eq_true c1.1, decide_eq_true c1.2]
   refine iteF ⟨_, rfl, a, _, rfl, .inr hA, _, rfl, qa, _, _, _, rfl, rfl, hq, at4_2, _, _, rfl, _, rfl, ?_⟩
   rw [hyl']
   by_cases c2 : 0 <= k /\ k < (hi : Int)
   ·rw [decide_eq_true c2.1, decide_eq_true c2.2]
    refine iteF ⟨_, rfl, a, _, _, _, rfl, rfl, hA, atI_nat (j := 0) hy0, p0, _, rfl, .inr hp0, _, rfl, qa, _, _, _, rfl, rfl, hq, at4_1, _, _, rfl, _, rfl, ?_⟩
    rw [l0']
    by_cases c3 : 0 <= j /\ j < (wi : Int)
    ·rw [decide_eq_true c3.1, decide_eq_true c3.2]
     refine iteF ⟨_, rfl, a, _, _, _, rfl, rfl, hA, atI_nat (j := 0) hy0, p0, _, rfl, .inr hp0, _, rfl, qa, _, _, _, rfl, rfl, hq, at4_3, _, _, rfl, _, rfl, ?_⟩
     rw [l0']
     by_cases c4 : 0 <= l /\ l < (wi : Int)
     ·rw [decide_eq_true c4.1, decide_eq_true c4.2]
      obtain ⟨i, rfl⟩ : ∃ z : Nat, i = (z : Int) := ⟨i.toNat, by omega⟩
      obtain ⟨j, rfl⟩ : ∃ z : Nat, j = (z : Int) := ⟨j.toNat, by omega⟩
      obtain ⟨k, rfl⟩ : ∃ z : Nat, k = (z : Int) := ⟨k.toNat, by omega⟩
      obtain ⟨l, rfl⟩ : ∃ z : Nat, l = (z : Int) := ⟨l.toNat, by omega⟩
      obtain ⟨ei, li⟩ := rows_get hR (show i < hi by omega)
      obtain ⟨ek, lk⟩ := rows_get hR (show k < hi by omega)
      obtain ⟨pi, hyi, hpi⟩ := tups_at hY ei
      obtain ⟨pk, hyk, hpk⟩ := tups_at hY ek
      refine iteF ⟨_, rfl, _, rfl, qa, _, _, _, rfl, rfl, hq, at4_0, a, _, _, _, rfl, rfl, hA, atI_nat hyi, ?_⟩
      refine ⟨_, rfl, _, rfl, qa, _, _, _, rfl, rfl, hq, at4_2, a, _, _, _, rfl, rfl, hA, atI_nat hyk, ?_⟩
      refine ⟨_, rfl, _, rfl, qa, _, _, _, rfl, rfl, hq, at4_1, pi, _, _, _, rfl, rfl, hpi, at_int (by omega), _, rfl, _, rfl, qa, _, _, _, rfl, rfl, hq, at4_3, pi, _, _, _, rfl, rfl, hpi, at_int (by omega), _, rfl, _, rfl, qa, _, _, _, rfl, rfl, hq, at4_1, pk, _, _, _, rfl, rfl, hpk, at_int (by omega), _, rfl, _, rfl, qa, _, _, _, rfl, rfl, hq, at4_3, pk, _, _, _, rfl, rfl, hpk, at_int (by omega), (by show 4 <= sizeLine; decide), fun x1 f1 => ?_⟩
      have s1 := same_upd (o := .tup [.int ((T.getD i []).getD j 0), .int ((T.getD i []).getD l 0), .int ((T.getD k []).getD j 0), .int ((T.getD k []).getD l 0)]) f1
      refine ⟨(by show 4 <= sizeLine; decide), fun x2 f2 => ?_⟩
      have s2 := same_upd (o := .tup [.int 1, .int 0, .int 0, .int 1]) f2
      refine ⟨dP [(T.getD i []).getD j 0, (T.getD i []).getD l 0, (T.getD k []).getD j 0, (T.getD k []).getD l 0], dP [1, 0, 0, 1], Dt.mkP (SqT.of (s2 _ _ upd_same)), Dt.mkP (SqT.of upd_same), lay_dP _, lay_dP _, un_lt hun (Nat.le_trans (Nat.min_le_left _ _) (Nat.le_trans (dep_dP _) (by decide))), ?_⟩
      have fin := q _ (s1.trans s2)
      have e : PyData.eqv (dP [(T.getD i []).getD j 0, (T.getD i []).getD l 0, (T.getD k []).getD j 0, (T.getD k []).getD l 0]) (dP [1, 0, 0, 1]) = decide (isSw T hi wi (i : Int) (j : Int) (k : Int) (l : Int)) := by
       rw [eqv_dP]
       by_cases h : isSw T hi wi (i : Int) (j : Int) (k : Int) (l : Int)
       ·rw [decide_eq_true h]
        obtain ⟨_, _, _, _, h1, h2, h3, h4⟩ := h
        refine decide_eq_true ?_
        unfold ent at h1 h2 h3 h4
        simp only [Int.toNat_natCast] at h1 h2 h3 h4
        rw [h1, h2, h3, h4]
       ·rw [decide_eq_false h]
        refine decide_eq_false fun z => h ?_
        injection z with z1 z
        injection z with z2 z
        injection z with z3 z
        injection z with z4 _
        exact ⟨c1, c2, c3, c4, z1, z2, z3, z4⟩
      show Q (.bl (PyData.eqv _ _)) _
      rw [e]
      exact fin
     ·have hb : (decide ((0 : Int) <= l) && decide (l < (wi : Int))) = false := by
       rw [Bool.and_eq_false_iff]
       by_cases h : (0 : Int) <= l
       ·exact .inr (decide_eq_false fun z => c4 ⟨h, z⟩)
       ·exact .inl (decide_eq_false h)
      rw [hb]
      exact iteT (no (fun z => c4 z.2.2.2.1) _ (Same.refl H))
    ·have hb : (decide ((0 : Int) <= j) && decide (j < (wi : Int))) = false := by
      rw [Bool.and_eq_false_iff]
      by_cases h : (0 : Int) <= j
      ·exact .inr (decide_eq_false fun z => c3 ⟨h, z⟩)
      ·exact .inl (decide_eq_false h)
     rw [hb]
     exact iteT (no (fun z => c3 z.2.2.1) _ (Same.refl H))
   ·have hb : (decide ((0 : Int) <= k) && decide (k < (hi : Int))) = false := by
     rw [Bool.and_eq_false_iff]
     by_cases h : (0 : Int) <= k
     ·exact .inr (decide_eq_false fun z => c2 ⟨h, z⟩)
     ·exact .inl (decide_eq_false h)
    rw [hb]
    exact iteT (no (fun z => c2 z.2.1) _ (Same.refl H))
  ·have hb : (decide ((0 : Int) <= i) && decide (i < (hi : Int))) = false := by
    rw [Bool.and_eq_false_iff]
    by_cases h : (0 : Int) <= i
    ·exact .inr (decide_eq_false fun z => c1 ⟨h, z⟩)
    ·exact .inl (decide_eq_false h)
   rw [hb]
   exact iteT (no (fun z => c1 z.1) _ (Same.refl H))
end
structure LL (H : Hp) (a : Addr) (ps : List Addr) (T : List (List Int)) : Prop where
 lst : H a = some (.lst (ps.map V.ref))
 rws : Rws H ps T
 nd : ps.Nodup
 out : a ∉ ps
theorem LL.same {H H' : Hp} {a : Addr} {ps : List Addr} {T : List (List Int)} (h : LL H a ps T) (s : Same H H') : LL H' a ps T := ⟨s _ _ h.lst, h.rws.same s, h.nd, h.out⟩
theorem LL.row {H : Hp} {a : Addr} {ps : List Addr} {T : List (List Int)} {hi wi r : Nat} (h : LL H a ps T) (hR : Rect T hi wi) (hr : r < hi) : ∃ p, ps[r]? = some p /\ H p = some (.lst ((T.getD r []).map V.int)) /\ (ps.map V.ref)[r]? = some (.ref p) /\ (T.getD r []).length = wi := by
 obtain ⟨e, l⟩ := rows_get hR hr
 have hl : r < ps.length := by rw [h.rws.1, hR.1]; exact hr
 refine ⟨ps[r], List.getElem?_eq_getElem hl, h.rws.2 r _ _ (List.getElem?_eq_getElem hl) e, by rw [List.getElem?_map, List.getElem?_eq_getElem hl]; rfl, l⟩
theorem nodup_at {ps : List Addr} (h : ps.Nodup) {i j : Nat} {p : Addr} (h1 : ps[i]? = some p) (h2 : ps[j]? = some p) : i = j := by
 have hi : i < ps.length := by
  rcases Nat.lt_or_ge i ps.length with l | l
  ·exact l
  ·rw [List.getElem?_eq_none l] at h1; cases h1
 exact (List.getElem?_inj hi h).mp (h1.trans h2.symm)
theorem LL.flp {H : Hp} {a p : Addr} {ps : List Addr} {T : List (List Int)} {hi wi r c : Nat} (h : LL H a ps T) (hR : Rect T hi wi) (hr : r < hi) (hp : ps[r]? = some p) :
  LL (upd H p (.lst (((T.getD r []).set c (1 - ent T r c)).map V.int))) a ps (flp T r c) := by
 have hpa : a ≠ p := fun z => h.out (by rw [z]; exact List.mem_of_getElem? hp)
 refine ⟨by rw [upd_ne hpa]; exact h.lst, ⟨by unfold Web.flp; rw [List.length_set]; exact h.rws.1, fun i q x e1 e2 => ?_⟩, h.nd, h.out⟩
 unfold Web.flp at e2
 by_cases hi' : i = r
 ·subst hi'
  rw [hp] at e1
  cases e1
  have hl : i < T.length := by rw [hR.1]; exact hr
  rw [List.getElem?_set_self hl] at e2
  cases e2
  exact upd_same
 ·have hq : q ≠ p := fun z => hi' (nodup_at h.nd (by rw [z] at e1; exact e1) hp)
  rw [upd_ne hq]
  rw [List.getElem?_set_ne (Ne.symm hi')] at e2
  exact h.rws.2 i q x e1 e2
theorem pair_int {i k : Int} {a : Nat} {x : V} (h : ([.int i, .int k] : List V)[a]? = some x) : (a = 0 /\ x = .int i) \/ (a = 1 /\ x = .int k) := by
 match a, h with
 | 0, h => exact .inl ⟨rfl, by injection h with h; exact h.symm⟩
 | 1, h => exact .inr ⟨rfl, by injection h with h; exact h.symm⟩
 | n + 2, h => cases h
theorem rws_add {H : Hp} {ps : List Addr} {T : List (List Int)} {x : List Int} {p : Addr} (h : Rws H ps T) (hp : H p = some (.lst (x.map V.int))) : Rws H (ps ++ [p]) (T ++ [x]) := by
 refine ⟨by rw [List.length_append, List.length_append, h.1]; rfl, fun i q r e1 e2 => ?_⟩
 rcases Nat.lt_or_ge i ps.length with l | l
 ·rw [List.getElem?_append_left l] at e1
  rw [List.getElem?_append_left (by rw [<- h.1]; exact l)] at e2
  exact h.2 i q r e1 e2
 ·rw [List.getElem?_append_right l] at e1
  rw [List.getElem?_append_right (by rw [<- h.1]; exact l), <- h.1] at e2
  cases hz : i - ps.length with
  | zero =>
   rw [hz] at e1 e2
   cases e1
   cases e2
   exact hp
  | succ n => rw [hz] at e1; cases e1
theorem rws_upd {H : Hp} {ps : List Addr} {T : List (List Int)} {D : Addr} {o : HO} (h : Rws H ps T) (hD : D ∉ ps) : Rws (upd H D o) ps T :=
 ⟨h.1, fun i p r e1 e2 => by rw [upd_ne (fun z => hD (by rw [<- z]; exact List.mem_of_getElem? e1))]; exact h.2 i p r e1 e2⟩
section
variable {P : Program} {w : World} {K : W.Frag} {mg : Str -> Option Value} {base : Heap}
def spSwd (K : W.Frag) (CX : Addr) : Sp := fun vs H Q E => ∃ (a qa : Addr) (T : List (List Int)) (hi wi : Nat) (i j k l : Int), vs = [.ref a, .ref qa] /\ TTa K H a T /\ Rect T hi wi /\ 1 <= hi /\ hi <= 16 /\ wi <= 16 /\ SqT K H qa [.int i, .int j, .int k, .int l] /\
 (isSw T hi wi i j k l -> ∀ (b : Addr) (H' : Hp), Same H H' -> TTa K H' b (swp T i.toNat j.toNat k.toNat l.toNat) -> Q (.ref b) H') /\ (¬ isSw T hi wi i j k l -> ∀ H' : Hp, Same H H' -> E (.ref CX) none H')
theorem scSwd : FnScope ["table", "four", "cells", "row", "column"] ["table", "four"] (defScope sSwd) := ⟨rfl, rfl, rfl, by decide +kernel, rfl, by decide +kernel, by decide +kernel⟩
def tabO (T : List (List Int)) (i j k l : Nat) : Nat -> List (List Int)
 | 0 => T
 | 1 => flp (flp T i j) i l
 | _ + 2 => swp T i j k l
def tabI (U : List (List Int)) (r j l : Nat) : Nat -> List (List Int)
 | 0 => U
 | 1 => flp U r j
 | _ + 2 => flp (flp U r j) r l
set_option maxHeartbeats 4000000 in
theorem ok_swd {f fI fC CX : Addr} {fd fdI fdC : FuncData} (F : Fun K "swapped" "swapped" sSwd f fd) (B : Bn mg) (FI : Fun K "is_place" "is_place" sIsP fI fdI) (bI : Binds K fdI ["places", "number"] []) (mI : mg "is_place" = some (.ref fI))
  (FC : Fun K "can_swap" "can_swap" sCanSw fC fdC) (bC : Binds K fdC ["table", "four"] []) (mC : mg "can_swap" = some (.ref fC)) (mX : mg "NoExchange" = some (.ref CX)) (cX : ExcC K CX) : FnOk P w K mg base (CXE P w) 3 f fd ["table", "four"] (spSwd K CX) := by
 have GC : FnOk P w K mg base CX0 2 fC fdC ["table", "four"] (spCanSw K) := ok_canSw FC B FI bI mI
 refine F.okX scSwd (fun vs H Q E h => ?_) (fun cdv A outer s H vs Q E hr h => ?_)
 ·obtain ⟨a, qa, T, hi, wi, i, j, k, l, rfl, _⟩ := h
  rfl
 ·obtain ⟨a, qa, T, hi, wi, i, j, k, l, rfl, hTT, hR, hi1, hi2, hw2, hq, q1, q2⟩ := h
  have hsl := sl1000
  have nd1 : (["row"] : List Str).Nodup := by decide +kernel
  refine ⟨_, pss_cons (ps_if (pt_not (pt_val (pe_call GC hr (by rfl) mC FC.kp bC .nil pass0 (pa_cons (pv 0) (pa_cons (pv 1) pa_nil))))) (pss_one (ps_raise (by rfl) mX cX)) pss_nil)
   (pss_cons (ps_setC (i := 2) (N' := ["row"]) (lk := [none]) scSwd.nd rfl rfl (by rfl) rfl (pi_tup (pv 0)) (by rfl) rfl (by decide +kernel) (by exact trivial) (by rfl) (by exact LkL.ok trivial)
     (fun _ _ _ => pg_name (i := 0) nd1 rfl (Or.inl rfl)) (fun _ _ _ => pts_nil) (fun _ _ _ => pe_callTy (call_list_ofK K rfl) (by rfl) B.list (by rfl) (pa_cons (pv 0) pa_nil)))
   (pss_cons (ps_for po_leave rfl (pi_tup (pe_tup (pa_cons (pe_ix ix_tup (pv 1) pe_int (fun _ _ => rfl)) (pa_cons (pe_ix ix_tup (pv 1) pe_int (fun _ _ => rfl)) pa_nil)))) (pg_name (i := 3) scSwd.nd rfl (Or.inl rfl))
    (pss_one (ps_for po_leave rfl (pi_tup (pe_tup (pa_cons (pe_ix ix_tup (pv 1) pe_int (fun _ _ => rfl)) (pa_cons (pe_ix ix_tup (pv 1) pe_int (fun _ _ => rfl)) pa_nil)))) (pg_name (i := 4) scSwd.nd rfl (Or.inl rfl))
     (pss_one (ps_asg (pe_op op_sub pe_int (pe_ix ix_list (pe_ix ix_list (pv 2) (pv 3) (fun _ _ => rfl)) (pv 4) (fun _ _ => rfl))) (pg_sub (pe_ix ix_list (pv 2) (pv 3) (fun _ _ => rfl)) (pv 4) set_list))))))
   (pss_one (ps_ret (pe_callTy call_tuple_of (by rfl) B.tuple (by rfl) (pa_cons
    (pe_comp (N' := ["row"]) (lk := [none]) rfl (pi_list (pv 2)) (by rfl) rfl (by decide +kernel) (by exact trivial) (by rfl) (by exact LkL.ok trivial)
     (fun _ _ _ => pg_name (i := 0) nd1 rfl (Or.inl rfl)) (fun _ _ _ => pts_nil) (fun _ _ _ => pe_callTy (call_tuple_ofK K rfl) (by rfl) B.tuple (by rfl) (pa_cons (pv 0) pa_nil))) pa_nil)))))), ?_⟩
  refine ⟨_, rfl, _, rfl, a, qa, T, hi, wi, i, j, k, l, rfl, hTT, hR, hi1, hq, fun H1 s1 => ⟨_, rfl, ?_⟩⟩
  by_cases hsw : isSw T hi wi i j k l
  ·rw [decide_eq_true hsw]
   refine iteF ?_
   obtain ⟨ys, hA, hY⟩ := hTT.same s1
   have hq1 := s1.seqT hq
   have hyl : ys.length = hi := by rw [hY.len]; exact hR.1
   refine ⟨_, rfl, a, rfl, ⟨_, hA⟩, fun D hD => comp_tup (K := K) (a := a) (D := D) (ys := ys) (fun n xs σ' H' => (∃ v, σ' = [v]) /\ Same H1 H' /\ H' D = some (.lst xs) /\ ∃ ps : List Addr, xs = ps.map V.ref /\ ps.length = n /\ Rws H' ps (T.take n) /\ ps.Nodup /\ D ∉ ps /\ ∀ p ∈ ps, H1 p = none)
    ⟨⟨none, rfl⟩, same_upd hD, upd_same, [], rfl, rfl, ⟨by simp, fun i p r e => by cases e⟩, List.nodup_nil, List.not_mem_nil, fun p hp => absurd hp List.not_mem_nil⟩ (by omega) (fun n xs σ' H' hn ⟨_, s2, h2, ps, e2, l2, _⟩ => ⟨s2.seqT hA, h2, by rw [e2, List.length_map]; omega⟩) ?_ ?_⟩
   ·rintro n xs x σ' H' N kN hx ⟨⟨v, rfl⟩, s2, h2, ps, rfl, l2, hrw, hnd, hDp, hfr⟩
    obtain ⟨p, r, rfl, hr', hp⟩ := hY.get hx
    refine gName_to (tTrue_if ?_)
    refine ⟨_, rfl, p, _, rfl, .inr (s2.seqT hp), fun b hb => ?_⟩
    have s3 := same_upd (o := .lst (r.map V.int)) hb
    have hbD : b ≠ D := fun z => by rw [z, h2] at hb; cases hb
    have hbp : b ∉ ps := fun z => by
     obtain ⟨m, hm, e⟩ := List.mem_iff_getElem.mp z
     have hml : m < (T.take n).length := by rw [<- hrw.1]; exact hm
     have := hrw.2 m b _ (by rw [List.getElem?_eq_getElem hm, e]) (List.getElem?_eq_getElem hml)
     rw [hb] at this
     cases this
    have hnd' : (ps ++ [b]).Nodup := List.nodup_append.mpr ⟨hnd, List.nodup_cons.mpr ⟨List.not_mem_nil, List.nodup_nil⟩, fun x hx y hy => by rw [List.mem_singleton.mp hy]; exact fun z => hbp (by rw [<- z]; exact hx)⟩
    have hDp' : D ∉ ps ++ [b] := fun z => by
     rcases List.mem_append.mp z with z | z
     ·exact hDp z
     ·exact hbD (List.mem_singleton.mp z).symm
    refine ⟨s3 _ _ h2, kN _ _ _ ⟨⟨_, rfl⟩, (s2.trans s3).upd hD, upd_same, ps ++ [b], by rw [List.map_append]; rfl, by rw [List.length_append, l2]; rfl, ?_, hnd', hDp', fun p hp => ?_⟩⟩
    ·rw [List.take_add_one, hr']
     exact rws_upd (rws_add (hrw.same s3) upd_same) hDp'
    ·rcases List.mem_append.mp hp with hp | hp
     ·exact hfr p hp
     ·rw [List.mem_singleton.mp hp]; exact s2.free hb
   ·rintro xs σ' H2 ⟨⟨v, rfl⟩, s2, h2, ps, rfl, l2, hrw, hnd, hDp, hfr⟩
    rw [hyl, <- hR.1, List.take_length] at hrw
    obtain ⟨n1, n2⟩ := sw_ne hsw
    obtain ⟨ci, ck, cj, cl, _⟩ := id hsw
    obtain ⟨i, rfl⟩ : ∃ z : Nat, i = (z : Int) := ⟨i.toNat, by omega⟩
    obtain ⟨j, rfl⟩ : ∃ z : Nat, j = (z : Int) := ⟨j.toNat, by omega⟩
    obtain ⟨k, rfl⟩ : ∃ z : Nat, k = (z : Int) := ⟨k.toNat, by omega⟩
    obtain ⟨l, rfl⟩ : ∃ z : Nat, l = (z : Int) := ⟨l.toNat, by omega⟩
    have q1 := q1 hsw
    simp only [Int.toNat_natCast] at q1 n1 n2
    have hi' : i < hi := by omega
    have hk' : k < hi := by omega
    have hj' : j < wi := by omega
    have hl' : l < wi := by omega
    have hq2 := s2.seqT hq1
    refine ⟨_, rfl, qa, _, _, _, rfl, rfl, hq2, at4_0, _, rfl, qa, _, _, _, rfl, rfl, hq2, at4_2, (by show 2 <= sizeLine; decide), fun t1 ft1 => ⟨t1, rfl, ⟨_, SqT.of upd_same⟩, ?_⟩⟩
    have s3 := same_upd (o := .tup [.int i, .int k]) ft1
    have gt1 : (upd H2 t1 (.tup [.int i, .int k])) t1 = some (.tup [.int i, .int k]) := upd_same
    have LL3 : LL (upd H2 t1 (.tup [.int i, .int k])) D ps T := ⟨s3 _ _ h2, hrw.same s3, hnd, hDp⟩
    have s13 := s2.trans s3
    have ht1 : H1 t1 = none := s2.free ft1
    generalize upd H2 t1 (.tup [.int i, .int k]) = H3 at s13 gt1 LL3
    clear s3 ft1 h2 hrw hq2
    refine for_tup (K := K) (a := t1) (xs := [.int i, .int k]) (fun m σ H4 => ∃ e3 e4, σ = [some (.ref a), some (.ref qa), some (.ref D), e3, e4] /\ Same H1 H4 /\ H4 t1 = some (.tup [.int i, .int k]) /\ LL H4 D ps (tabO T i j k l m) /\ Rect (tabO T i j k l m) hi wi) ⟨none, none, rfl, s13, gt1, LL3, hR⟩ (fun m σ H4 _ ⟨_, _, _, _, g, _⟩ => SqT.of g) ?_ ?_
    ·rintro m x σ H4 hx ⟨e3, e4, rfl, s4, gt4, LL4, R4⟩
     obtain ⟨r, hrx, hrh, hnext⟩ : ∃ r : Nat, x = .int (r : Int) /\ r < hi /\ tabO T i j k l (m + 1) = flp (flp (tabO T i j k l m) r j) r l := by
      rcases pair_int hx with ⟨rfl, rfl⟩ | ⟨rfl, rfl⟩
      ·exact ⟨i, rfl, hi', rfl⟩
      ·exact ⟨k, rfl, hk', rfl⟩
     subst hrx
     refine gName_to ?_
     generalize tabO T i j k l m = U at LL4 R4 hnext
     have hq4 := s4.seqT hq1
     refine ⟨_, rfl, qa, _, _, _, rfl, rfl, hq4, at4_1, _, rfl, qa, _, _, _, rfl, rfl, hq4, at4_3, (by show 2 <= sizeLine; decide), fun t2 ft2 => ⟨t2, rfl, ⟨_, SqT.of upd_same⟩, ?_⟩⟩
     have s5 := same_upd (o := .tup [.int j, .int l]) ft2
     have gt2 : (upd H4 t2 (.tup [.int j, .int l])) t2 = some (.tup [.int j, .int l]) := upd_same
     have gt15 := s5 _ _ gt4
     have LL5 := LL4.same s5
     have s15 := s4.trans s5
     have ht2 : H1 t2 = none := s4.free ft2
     generalize upd H4 t2 (.tup [.int j, .int l]) = H5 at s15 gt2 gt15 LL5
     clear s5 ft2 LL4 gt4
     obtain ⟨p, hpr, _, hpv, _⟩ := LL5.row R4 hrh
     have hpH : H1 p = none := hfr p (List.mem_of_getElem? hpr)
     have np1 : ∀ {H' : Hp} {xs : List V}, LL H' D ps U -> H' t1 = some (.tup xs) -> t1 ≠ p := fun {H' xs} L g z => by
      obtain ⟨p', h1', h2', _⟩ := L.row R4 hrh
      rw [hpr] at h1'
      cases h1'
      rw [z, h2'] at g
      cases g
     have np2 : ∀ {H' : Hp} {xs : List V}, LL H' D ps U -> H' t2 = some (.tup xs) -> t2 ≠ p := fun {H' xs} L g z => by
      obtain ⟨p', h1', h2', _⟩ := L.row R4 hrh
      rw [hpr] at h1'
      cases h1'
      rw [z, h2'] at g
      cases g
     have ne1 := np1 LL5 gt15
     have ne2 := np2 LL5 gt2
     refine for_tup (K := K) (a := t2) (xs := [.int j, .int l]) (fun m σ H6 => ∃ e4, σ = [some (.ref a), some (.ref qa), some (.ref D), some (.int r), e4] /\ Same H1 H6 /\ H6 t1 = some (.tup [.int i, .int k]) /\ H6 t2 = some (.tup [.int j, .int l]) /\ LL H6 D ps (tabI U r j l m) /\ Rect (tabI U r j l m) hi wi) ⟨e4, rfl, s15, gt15, gt2, LL5, R4⟩ (fun m σ H6 _ ⟨_, _, _, _, g, _⟩ => SqT.of g) ?_ ?_
     ·rintro m' x' σ' H6 hx' ⟨e4', rfl, s6, g61, g62, LL6, R6⟩
      obtain ⟨c, hcx, hcw, hnx⟩ : ∃ c : Nat, x' = .int (c : Int) /\ c < wi /\ tabI U r j l (m' + 1) = flp (tabI U r j l m') r c := by
       rcases pair_int hx' with ⟨rfl, rfl⟩ | ⟨rfl, rfl⟩
       ·exact ⟨j, rfl, hj', rfl⟩
       ·exact ⟨l, rfl, hl', rfl⟩
      subst hcx
      refine gName_to ?_
      rw [hnx]
      generalize tabI U r j l m' = U' at LL6 R6
      obtain ⟨p', hpr', gp', hpv', lp'⟩ := LL6.row R6 hrh
      rw [hpr] at hpr'
      cases hpr'
      refine ⟨_, rfl, _, rfl, D, _, _, _, rfl, rfl, SqL.of LL6.lst, atI_nat hpv', _, rfl, p, _, _, _, rfl, rfl, SqL.of gp', at_int (by omega), _, _, rfl, rfl, ?_⟩
      refine ⟨_, rfl, _, rfl, D, _, _, _, rfl, rfl, SqL.of LL6.lst, atI_nat hpv', _, rfl, p, _, _, c, rfl, rfl, gp', ixN_nat (by rw [List.length_map]; omega), ?_⟩
      rw [set_map_int]
      exact ⟨_, rfl, s6.upd hpH, by rw [upd_ne ne1]; exact g61, by rw [upd_ne ne2]; exact g62, LL6.flp R6 hrh hpr, rect_flp R6 hrh⟩
     ·rintro σ' H6 ⟨e4', rfl, s6, g61, g62, LL6, R6⟩
      refine ⟨_, _, rfl, s6, g61, ?_, ?_⟩
      ·rw [hnext]; exact LL6
      ·rw [hnext]; exact R6
    ·rintro σ H4 ⟨e3, e4, rfl, s4, gt4, LL4, R4⟩
     replace LL4 : LL H4 D ps (swp T i j k l) := LL4
     replace R4 : Rect (swp T i j k l) hi wi := R4
     have hpl : (ps.map V.ref).length = hi := by rw [List.length_map, LL4.rws.1]; exact R4.1
     refine ⟨_, rfl, D, rfl, ⟨_, SqL.of LL4.lst⟩, fun D2 hD2 => comp_list (K := K) (a := D) (D := D2) (ys := ps.map V.ref) (fun n xs σ' H' => (∃ v, σ' = [v]) /\ Same H4 H' /\ H' D2 = some (.lst xs) /\ Tups K H' xs ((swp T i j k l).take n))
      ⟨⟨none, rfl⟩, same_upd hD2, upd_same, by rw [List.take_zero]; exact .nil⟩ (by omega) (fun n xs σ' H' hn ⟨_, s5, h5, t5⟩ => ⟨SqL.of (s5 _ _ LL4.lst), h5, by rw [t5.len, List.length_take]; omega⟩) ?_ ?_⟩
     ·rintro n xs x σ' H' N kN hx ⟨⟨v, rfl⟩, s5, h5, t5⟩
      have hn : n < hi := by
       rcases Nat.lt_or_ge n hi with l | l
       ·exact l
       ·rw [List.getElem?_eq_none (by rw [hpl]; exact l)] at hx; cases hx
      obtain ⟨p, hpr, gp, hpv, lp⟩ := LL4.row R4 hn
      rw [hpv] at hx
      cases hx
      refine gName_to (tTrue_if ?_)
      refine ⟨_, rfl, p, _, rfl, .inl ⟨SqL.of (s5 _ _ gp), fun b hb => ?_⟩⟩
      have s6 := same_upd (o := .tup (((swp T i j k l).getD n []).map V.int)) hb
      refine ⟨s6 _ _ h5, kN _ _ _ ⟨⟨_, rfl⟩, (s5.trans s6).upd hD2, upd_same, ?_⟩⟩
      rw [List.take_add_one, (rows_get R4 hn).1]
      exact Tups.updL (s6 _ _ h5) (Tups.append (s6.tups t5) (Tups.one (SqT.of upd_same)))
     ·rintro xs σ' H5 ⟨⟨v, rfl⟩, s5, h5, t5⟩
      rw [hpl, <- R4.1, List.take_length] at t5
      refine ⟨D2, _, rfl, .inl ⟨SqL.of h5, fun b hb => ?_⟩⟩
      have s6 := same_upd (o := .tup xs) hb
      exact q1 b _ (s1.trans (s4.trans (s5.trans s6))) ⟨xs, SqT.of upd_same, s6.tups t5⟩
  ·rw [decide_eq_false hsw]
   exact iteT (q2 hsw H1 s1)
end
theorem two_int (a b : Int) (t : Nat) : ∃ v : Int, atI ([.int a, .int b] : List V) ((t : Int) % 2) = some (.int v) /\ (v = a \/ v = b) := by
 have : (t : Int) % 2 = 0 \/ (t : Int) % 2 = 1 := by omega
 rcases this with h | h
 ·rw [h]; exact ⟨a, atI_nat (j := 0) rfl, .inl rfl⟩
 ·rw [h]; exact ⟨b, atI_nat (j := 1) rfl, .inr rfl⟩
structure New (H1 H' : Hp) (D : Addr) (ps : List Addr) (T : List (List Int)) : Prop where
 rws : Rws H' ps T
 nd : ps.Nodup
 out : D ∉ ps
 fr : ∀ p ∈ ps, H1 p = none
theorem New.nil {H1 H' : Hp} {D : Addr} : New H1 H' D [] [] := ⟨⟨rfl, fun i p r e => by cases e⟩, List.nodup_nil, List.not_mem_nil, fun p hp => absurd hp List.not_mem_nil⟩
theorem New.add {H1 H' : Hp} {D b : Addr} {ps : List Addr} {T : List (List Int)} {r : List Int} {xs ys : List V} (h : New H1 H' D ps T) (s : Same H1 H') (hD : H' D = some (.lst xs)) (hb : H' b = none) : New H1 (upd (upd H' b (.lst (r.map V.int))) D (.lst ys)) D (ps ++ [b]) (T ++ [r]) := by
 have s3 := same_upd (o := .lst (r.map V.int)) hb
 have hbD : b ≠ D := fun z => by rw [z, hD] at hb; cases hb
 have hbp : b ∉ ps := fun z => by
  obtain ⟨m, hm, e⟩ := List.mem_iff_getElem.mp z
  have hml : m < T.length := by rw [<- h.rws.1]; exact hm
  have := h.rws.2 m b _ (by rw [List.getElem?_eq_getElem hm, e]) (List.getElem?_eq_getElem hml)
  rw [hb] at this
  cases this
 have hDp' : D ∉ ps ++ [b] := fun z => by
  rcases List.mem_append.mp z with z | z
  ·exact h.out z
  ·exact hbD (List.mem_singleton.mp z).symm
 refine ⟨rws_upd (rws_add (h.rws.same s3) upd_same) hDp', List.nodup_append.mpr ⟨h.nd, List.nodup_cons.mpr ⟨List.not_mem_nil, List.nodup_nil⟩, fun x hx y hy => by rw [List.mem_singleton.mp hy]; exact fun z => hbp (by rw [<- z]; exact hx)⟩, hDp', fun p hp => ?_⟩
 rcases List.mem_append.mp hp with hp | hp
 ·exact h.fr p hp
 ·rw [List.mem_singleton.mp hp]; exact s.free hb
section
variable {P : Program} {w : World} {K : W.Frag} {mg : Str -> Option Value} {base : Heap}
def spTab (K : W.Frag) : Sp := fun vs H Q _ => ∃ (a : Addr) (ns : List Int) (st hi wi : Nat), vs = [.ref a, .int st, .int hi, .int wi] /\ SqL K H a (ns.map V.int) /\ hi <= 16 /\ wi <= 16 /\ ∀ (l : Addr) (ps : List Addr) (T : List (List Int)) (H' : Hp), Same H H' -> LL H' l ps T -> Rect T hi wi -> (∀ r ∈ T, ∀ x ∈ r, x = 0 \/ x = 1) -> Q (.ref l) H'
theorem scTab : FnScope ["script", "start", "high", "wide", "cells"] ["script", "start", "high", "wide"] (defScope sTab) := ⟨rfl, rfl, rfl, by decide +kernel, rfl, by decide +kernel, by decide +kernel⟩
set_option maxHeartbeats 1000000 in
theorem ok_tab {f fC fM fB : Addr} {fd fdC fdM fdB : FuncData} (F : Fun K "_law_table" "_law_table" sTab f fd) (B : Bn mg) (FC : Fun K "_law_cell" "_law_cell" sCellS fC fdC) (bC : Binds K fdC ["script", "k"] []) (mC : mg "_law_cell" = some (.ref fC))
  (FM : Fun K "_law_mixed" "_law_mixed" sMixS fM fdM) (bM : Binds K fdM ["cell", "k"] []) (mM : mg "_law_mixed" = some (.ref fM)) (FB : Fun K "_law_bit" "_law_bit" sBit fB fdB) (bB : Binds K fdB ["script", "start", "k"] []) (mB : mg "_law_bit" = some (.ref fB)) : FnOk P w K mg base CX0 3 f fd ["script", "start", "high", "wide"] (spTab K) := by
 have GB : FnOk P w K mg base CX0 2 fB fdB ["script", "start", "k"] (spBit K) := ok_bit FB B FC bC mC FM bM mM
 refine F.ok scTab (fun vs H Q E h => ?_) (fun cdv A outer s H vs Q E hr h => ?_)
 ·obtain ⟨a, ns, st, hi, wi, rfl, _⟩ := h
  rfl
 ·obtain ⟨a, ns, st, hi, wi, rfl, hS, hh, hw, q⟩ := h
  have hsl := sl1000
  have nd3 : (["k", "script", "start"] : List Str).Nodup := by decide +kernel
  have nd4 : (["row", "cells", "wide"] : List Str).Nodup := by decide +kernel
  have hhw : hi * wi <= 256 := Nat.mul_le_mul hh hw
  refine ⟨_, pss_cons (ps_set (i := 4) scTab.nd rfl (Or.inr rfl) (pe_comp (N' := ["k", "script", "start"]) (lk := [none, some 0, some 1]) rfl (pi_range1 rfl B.range (pa_cons (pe_op op_mul (pv 2) (pv 3)) pa_nil)) (by rfl) rfl (by decide +kernel) (by exact ⟨rfl, rfl, trivial⟩) (by rfl) (by exact LkL.ok ⟨⟨rfl, Or.inl rfl, rfl, Or.inl rfl⟩, ⟨rfl, Or.inl rfl, rfl, Or.inl rfl⟩, trivial⟩)
     (fun _ _ _ => pg_name (i := 0) nd3 rfl (Or.inl rfl)) (fun _ _ _ => pts_nil) (fun _ _ _ => pe_call GB hr (by rfl) mB FB.kp bB .nil pass0 (pa_cons (pv 1) (pa_cons (pv 2) (pa_cons (pv 0) pa_nil))))))
   (pss_one (ps_ret (pe_comp (N' := ["row", "cells", "wide"]) (lk := [none, some 4, some 3]) rfl (pi_range1 rfl B.range (pa_cons (pv 2) pa_nil)) (by rfl) rfl (by decide +kernel) (by exact ⟨rfl, rfl, trivial⟩) (by rfl) (by exact LkL.ok ⟨⟨rfl, Or.inl rfl, rfl, Or.inl rfl⟩, ⟨rfl, Or.inl rfl, rfl, Or.inl rfl⟩, trivial⟩)
     (fun _ _ _ => pg_name (i := 0) nd4 rfl (Or.inl rfl)) (fun _ _ _ => pts_nil) (fun _ _ _ => pe_slice (sl_listK K rfl) (pv 1) (po_some (pe_op op_mul (pv 0) (pv 2))) (po_some (pe_op op_mul (pe_op op_add (pv 0) pe_int) (pv 2))))))), ?_⟩
  refine ⟨_, rfl, _, rfl, _, _, rfl, rfl, .inl ⟨by omega, by omega⟩, ((hi * wi : Nat) : Int), by rw [Int.natCast_mul], by omega, by omega, ?_⟩
  rw [Int.toNat_natCast]
  refine fun D hD => comp_range (lo := 0) (n := hi * wi) (D := D) (fun i xs σ' H' => (∃ v, σ' = [v, some (.ref a), some (.int st)]) /\ Same H H' /\ H' D = some (.lst xs) /\ ∃ ts : List Int, xs = ts.map V.int /\ ts.length = i /\ ∀ t ∈ ts, t = 0 \/ t = 1)
   ⟨⟨none, rfl⟩, same_upd hD, upd_same, [], rfl, rfl, fun t h => by cases h⟩ (by omega) (fun i xs σ' H' hi' ⟨_, _, h1, ts, e1, l1, _⟩ => ⟨h1, by rw [e1, List.length_map]; omega⟩) ?_ ?_
  ·rintro i xs σ' H' N kN hi' ⟨⟨v, rfl⟩, s1, h1, ts, rfl, l1, b1⟩
   rw [show ((0 : Int) + (i : Int)) = (i : Int) by omega]
   refine gName_to (tTrue_if ?_)
   refine ⟨_, rfl, _, rfl, _, rfl, a, ns, st, i, rfl, s1.seq hS, fun r hr01 => ?_⟩
   refine ⟨h1, kN _ _ _ ⟨⟨_, rfl⟩, s1.upd hD, upd_same, ts ++ [r], by rw [List.map_append]; rfl, by rw [List.length_append, l1]; rfl, fun t ht => (List.mem_append.mp ht).elim (b1 t) fun h => by rw [List.mem_singleton.mp h]; exact hr01⟩⟩
  ·rintro xs σ' H1 ⟨⟨v, rfl⟩, s1, h1, ts, rfl, l1, b1⟩
   refine ⟨_, rfl, hi, rfl, by omega, by omega, fun D2 hD2 => ?_⟩
   rw [Int.toNat_natCast]
   refine comp_range (lo := 0) (n := hi) (D := D2) (fun i xs σ' H' => (∃ v, σ' = [v, some (.ref D), some (.int wi)]) /\ Same H1 H' /\ H' D2 = some (.lst xs) /\ ∃ (ps : List Addr) (T : List (List Int)), xs = ps.map V.ref /\ New H1 H' D2 ps T /\ Rect T i wi /\ ∀ r ∈ T, ∀ x ∈ r, x = 0 \/ x = 1)
    ⟨⟨none, rfl⟩, same_upd hD2, upd_same, [], [], rfl, New.nil, ⟨rfl, fun r hr => absurd hr List.not_mem_nil⟩, fun r hr => absurd hr List.not_mem_nil⟩ (by omega) (fun i xs σ' H' hi' ⟨_, _, h1, ps, T, e1, n1, r1, _⟩ => ⟨h1, by rw [e1, List.length_map, n1.rws.1, r1.1]; exact Nat.le_refl _⟩) ?_ ?_
   ·rintro i xs σ' H' N kN hi' ⟨⟨v, rfl⟩, s2, h2, ps, T, rfl, n2, r2, b2⟩
    rw [show ((0 : Int) + (i : Int)) = (i : Int) by omega]
    refine gName_to (tTrue_if ?_)
    have hiw : i * wi <= (i + 1) * wi := Nat.mul_le_mul_right _ (Nat.le_succ _)
    have hiw2 : (i + 1) * wi <= hi * wi := Nat.mul_le_mul_right _ hi'
    have hc1 : (i : Int) * (wi : Int) = ((i * wi : Nat) : Int) := by rw [Int.natCast_mul]
    have hc2 : ((i : Int) + 1) * (wi : Int) = (((i + 1) * wi : Nat) : Int) := by rw [Int.natCast_mul, Int.natCast_add]; rfl
    have g2 := s2 _ _ h1
    refine ⟨_, rfl, _, rfl, _, rfl, _, _, rfl, rfl, .inl ⟨by omega, by omega⟩, _, rfl, _, rfl, _, _, rfl, rfl, _, rfl, _, _, rfl, rfl, .inl ⟨by omega, by omega⟩, _, rfl, D, _, rfl, SqL.of g2, fun p hp => ?_⟩
    rw [hc1, hc2, cutV_mid _ _ _ hiw (by rw [List.length_map]; omega), <- List.map_drop, <- List.map_take]
    have hrl : ((ts.drop (i * wi)).take ((i + 1) * wi - i * wi)).length = wi := by
     rw [List.length_take, List.length_drop, l1]
     have : (i + 1) * wi = i * wi + wi := Nat.succ_mul i wi
     omega
    have hrb : ∀ x ∈ (ts.drop (i * wi)).take ((i + 1) * wi - i * wi), x = 0 \/ x = 1 := fun x hx => b1 x (List.mem_of_mem_drop (List.mem_of_mem_take hx))
    generalize (ts.drop (i * wi)).take ((i + 1) * wi - i * wi) = row at hrl hrb
    have s3 := same_upd (o := .lst (row.map V.int)) hp
    refine ⟨s3 _ _ h2, kN _ _ _ ⟨⟨_, rfl⟩, (s2.trans s3).upd hD2, upd_same, ps ++ [p], T ++ [row], by rw [List.map_append]; rfl, n2.add s2 h2 hp, ⟨by rw [List.length_append, r2.1]; rfl, fun x hx => ?_⟩, fun x hx => (List.mem_append.mp hx).elim (b2 x) fun h => by rw [List.mem_singleton.mp h]; exact hrb⟩⟩
    rcases List.mem_append.mp hx with hx | hx
    ·exact r2.2 x hx
    ·rw [List.mem_singleton.mp hx]; exact hrl
   ·rintro xs σ' H2 ⟨⟨v, rfl⟩, s2, h2, ps, T, rfl, n2, r2, b2⟩
    exact q D2 ps T H2 (s1.trans s2) ⟨h2, n2.rws, n2.nd, n2.out⟩ r2 b2
def spToldT (K : W.Frag) : Sp := fun vs H Q _ => ∃ (a : Addr) (ps : List Addr) (T : List (List Int)) (hi wi : Nat), vs = [.ref a] /\ LL H a ps T /\ Rect T hi wi /\ hi <= 16 /\ ∀ (b : Addr) (H' : Hp), Same H H' -> TTa K H' b T -> Q (.ref b) H'
theorem scToldT : FnScope ["cells"] ["cells"] (defScope sToldT) := ⟨rfl, rfl, rfl, by decide +kernel, rfl, by decide +kernel, by decide +kernel⟩
theorem ok_toldT {f : Addr} {fd : FuncData} (F : Fun K "_law_told" "_law_told" sToldT f fd) (B : Bn mg) : FnOk P w K mg base CX0 1 f fd ["cells"] (spToldT K) := by
 refine F.ok scToldT (fun vs H Q E h => ?_) (fun cdv A outer s H vs Q E hr h => ?_)
 ·obtain ⟨a, ps, T, hi, wi, rfl, _⟩ := h
  rfl
 ·obtain ⟨a, ps, T, hi, wi, rfl, hL, hR, hi2, q⟩ := h
  have hsl := sl1000
  have hpl : (ps.map V.ref).length = hi := by rw [List.length_map, hL.rws.1]; exact hR.1
  have nd1 : (["row"] : List Str).Nodup := by decide +kernel
  refine ⟨_, pss_one (ps_ret (pe_callTy call_tuple_of (by rfl) B.tuple (by rfl) (pa_cons
    (pe_comp (N' := ["row"]) (lk := [none]) rfl (pi_list (pv 0)) (by rfl) rfl (by decide +kernel) (by exact trivial) (by rfl) (by exact LkL.ok trivial)
     (fun _ _ _ => pg_name (i := 0) nd1 rfl (Or.inl rfl)) (fun _ _ _ => pts_nil) (fun _ _ _ => pe_callTy (call_tuple_ofK K rfl) (by rfl) B.tuple (by rfl) (pa_cons (pv 0) pa_nil))) pa_nil))), ?_⟩
  refine ⟨_, rfl, a, rfl, ⟨_, SqL.of hL.lst⟩, fun D2 hD2 => comp_list (K := K) (a := a) (D := D2) (ys := ps.map V.ref) (fun n xs σ' H' => (∃ v, σ' = [v]) /\ Same H H' /\ H' D2 = some (.lst xs) /\ Tups K H' xs (T.take n))
   ⟨⟨none, rfl⟩, same_upd hD2, upd_same, by rw [List.take_zero]; exact .nil⟩ (by omega) (fun n xs σ' H' hn ⟨_, s5, h5, t5⟩ => ⟨SqL.of (s5 _ _ hL.lst), h5, by rw [t5.len, List.length_take]; omega⟩) ?_ ?_⟩
  ·rintro n xs x σ' H' N kN hx ⟨⟨v, rfl⟩, s5, h5, t5⟩
   have hn : n < hi := by
    rcases Nat.lt_or_ge n hi with l | l
    ·exact l
    ·rw [List.getElem?_eq_none (by rw [hpl]; exact l)] at hx; cases hx
   obtain ⟨p, hpr, gp, hpv, lp⟩ := hL.row hR hn
   rw [hpv] at hx
   cases hx
   refine gName_to (tTrue_if ?_)
   refine ⟨_, rfl, p, _, rfl, .inl ⟨SqL.of (s5 _ _ gp), fun b hb => ?_⟩⟩
   have s6 := same_upd (o := .tup ((T.getD n []).map V.int)) hb
   refine ⟨s6 _ _ h5, kN _ _ _ ⟨⟨_, rfl⟩, (s5.trans s6).upd hD2, upd_same, ?_⟩⟩
   rw [List.take_add_one, (rows_get hR hn).1]
   exact Tups.updL (s6 _ _ h5) (Tups.append (s6.tups t5) (Tups.one (SqT.of upd_same)))
  ·rintro xs σ' H5 ⟨⟨v, rfl⟩, s5, h5, t5⟩
   rw [hpl, <- hR.1, List.take_length] at t5
   refine ⟨D2, _, rfl, .inl ⟨SqL.of h5, fun b hb => ?_⟩⟩
   have s6 := same_upd (o := .tup xs) hb
   exact q b _ (s5.trans s6) ⟨xs, SqT.of upd_same, s6.tups t5⟩
end
theorem four_ne {i j k l m : Int} (h : m ∈ [i, j, k, l]) (hm : ∀ x ∈ [i, j, k, l], m <= x) : (m < 0) ↔ ¬ (0 <= i /\ 0 <= j /\ 0 <= k /\ 0 <= l) := by
 have h1 := hm i List.mem_cons_self
 have h2 := hm j (List.mem_cons_of_mem _ List.mem_cons_self)
 have h3 := hm k (List.mem_cons_of_mem _ (List.mem_cons_of_mem _ List.mem_cons_self))
 have h4 := hm l (List.mem_cons_of_mem _ (List.mem_cons_of_mem _ (List.mem_cons_of_mem _ List.mem_cons_self)))
 constructor
 ·intro z q
  rcases List.mem_cons.mp h with e | h
  ·omega
  ·rcases List.mem_cons.mp h with e | h
   ·omega
   ·rcases List.mem_cons.mp h with e | h
    ·omega
    ·have := List.mem_singleton.mp h
     omega
 ·intro z
  omega
section
variable {P : Program} {w : World} {K : W.Frag} {mg : Str -> Option Value} {base : Heap}
def spIsSw (K : W.Frag) : Sp := fun vs H Q _ => ∃ (a qa : Addr) (ps : List Addr) (T : List (List Int)) (hi wi : Nat) (i j k l : Int), vs = [.ref a, .ref qa] /\ LL H a ps T /\ Rect T hi wi /\ 1 <= hi /\ SqT K H qa [.int i, .int j, .int k, .int l] /\ ∀ H' : Hp, Same H H' -> Q (.bl (decide (isSw T hi wi i j k l))) H'
theorem scIsSw : FnScope ["cells", "four", "i", "j", "k", "l"] ["cells", "four"] (defScope sIsSw) := ⟨rfl, rfl, rfl, by decide +kernel, rfl, by decide +kernel, by decide +kernel⟩
set_option maxHeartbeats 2000000 in
theorem ok_isSw {f : Addr} {fd : FuncData} (F : Fun K "_law_is_swap" "_law_is_swap" sIsSw f fd) (B : Bn mg) : FnOk P w K mg base CX0 1 f fd ["cells", "four"] (spIsSw K) := by
 refine F.ok scIsSw (fun vs H Q E h => ?_) (fun cdv A outer s H vs Q E hr h => ?_)
 ·obtain ⟨a, qa, ps, T, hi, wi, i, j, k, l, rfl, _⟩ := h
  rfl
 ·obtain ⟨a, qa, ps, T, hi, wi, i, j, k, l, rfl, hL, hR, hi1, hq, q⟩ := h
  have hsl := sl1000
  have hun := hr.units
  have hpl : (((ps.map V.ref).length : Nat) : Int) = (hi : Int) := by rw [List.length_map, hL.rws.1, hR.1]
  refine ⟨_, pss_cons (ps_asg (pv 1) (pg_tup rfl (pgs_cons (pg_name (i := 2) scIsSw.nd rfl (Or.inl rfl)) (pgs_cons (pg_name (i := 3) scIsSw.nd rfl (Or.inl rfl)) (pgs_cons (pg_name (i := 4) scIsSw.nd rfl (Or.inl rfl)) (pgs_cons (pg_name (i := 5) scIsSw.nd rfl (Or.inl rfl)) pgs_nil))))))
   (pss_cons (ps_if (PW.pt (pw_or (pt_cmpR op_lt (pe_callB (call_minT rfl) (by rfl) B.min (by rfl) (pa_cons (pv 1) pa_nil)) pe_int (nomark _)) (pw_or (pt_cmpR op_ge (pe_callB (call_max2 rfl) (by rfl) B.max (by rfl) (pa_cons (pv 2) (pa_cons (pv 4) pa_nil))) (pe_callB call_len_seq (by rfl) B.len PySem.boot_len (pa_cons (pv 0) pa_nil)) (nomark _))
     (pw_or1 (pt_cmpR op_ge (pe_callB (call_max2 rfl) (by rfl) B.max (by rfl) (pa_cons (pv 3) (pa_cons (pv 5) pa_nil))) (pe_callB call_len_seq (by rfl) B.len PySem.boot_len (pa_cons (pe_ix ix_list (pv 0) pe_int (fun _ _ => rfl)) pa_nil)) (nomark _)))))) (pss_one (ps_ret pe_bl)) pss_nil)
   (pss_one (ps_ret (pe_cmpR op_eqD (pe_tup (pa_cons (pe_ix ix_list (pe_ix ix_list (pv 0) (pv 2) (fun _ _ => rfl)) (pv 3) (fun _ _ => rfl)) (pa_cons (pe_ix ix_list (pe_ix ix_list (pv 0) (pv 4) (fun _ _ => rfl)) (pv 5) (fun _ _ => rfl)) (pa_cons (pe_ix ix_list (pe_ix ix_list (pv 0) (pv 2) (fun _ _ => rfl)) (pv 5) (fun _ _ => rfl)) (pa_cons (pe_ix ix_list (pe_ix ix_list (pv 0) (pv 4) (fun _ _ => rfl)) (pv 3) (fun _ _ => rfl)) pa_nil)))))
    (pe_tup (pa_cons pe_int (pa_cons pe_int (pa_cons pe_int (pa_cons pe_int pa_nil))))) (nomark _))))), ?_⟩
  refine ⟨_, rfl, qa, _, rfl, hq, rfl, _, _, rfl, _, _, rfl, _, _, rfl, _, _, rfl, rfl, ?_⟩
  have no : ¬ isSw T hi wi i j k l -> Q (.bl false) H := fun hn => by
   have := q H (Same.refl H)
   rw [decide_eq_false hn] at this
   exact this
  refine ⟨_, rfl, qa, [i, j, k, l], rfl, hq, (by show 0 < 4; decide), fun m hm1 hm2 => ⟨_, _, rfl, rfl, _, rfl, ?_⟩⟩
  have hmn := four_ne hm1 hm2
  by_cases c0 : m < 0
  ·rw [decide_eq_true c0]
   exact iteT (no fun z => hmn.mp c0 ⟨z.1.1, z.2.2.1.1, z.2.1.1, z.2.2.2.1.1⟩)
  ·rw [decide_eq_false c0]
   have hpos : 0 <= i /\ 0 <= j /\ 0 <= k /\ 0 <= l := by
    by_cases z : 0 <= i /\ 0 <= j /\ 0 <= k /\ 0 <= l
    ·exact z
    ·exact absurd (hmn.mpr z) c0
   refine iteF ⟨_, rfl, _, rfl, _, _, rfl, _, rfl, a, _, rfl, .inl (SqL.of hL.lst), _, _, rfl, rfl, _, rfl, ?_⟩
   rw [hpl]
   by_cases c1 : (hi : Int) <= (if k > i then k else i)
   ·rw [decide_eq_true c1]
    refine iteT (no fun z => ?_)
    have h1 := z.1.2
    have h2 := z.2.1.2
    split at c1 <;> omega
   ·rw [decide_eq_false c1]
    have hik : i < (hi : Int) /\ k < (hi : Int) := by split at c1 <;> omega
    obtain ⟨p0, _, hp0, hy0, hn0⟩ := hL.row hR (show 0 < hi by omega)
    refine iteF ⟨_, rfl, _, rfl, _, _, rfl, _, rfl, a, _, _, _, rfl, rfl, SqL.of hL.lst, atI_nat (j := 0) hy0, p0, _, rfl, .inl (SqL.of hp0), _, _, rfl, rfl, _, rfl, ?_⟩
    have hn0' : ((((T.getD 0 []).map V.int).length : Nat) : Int) = (wi : Int) := by rw [List.length_map, hn0]
    rw [hn0']
    by_cases c2 : (wi : Int) <= (if l > j then l else j)
    ·rw [decide_eq_true c2]
     refine iteT (no fun z => ?_)
     have h1 := z.2.2.1.2
     have h2 := z.2.2.2.1.2
     split at c2 <;> omega
    ·rw [decide_eq_false c2]
     have hjl : j < (wi : Int) /\ l < (wi : Int) := by split at c2 <;> omega
     obtain ⟨i, rfl⟩ : ∃ z : Nat, i = (z : Int) := ⟨i.toNat, by omega⟩
     obtain ⟨j, rfl⟩ : ∃ z : Nat, j = (z : Int) := ⟨j.toNat, by omega⟩
     obtain ⟨k, rfl⟩ : ∃ z : Nat, k = (z : Int) := ⟨k.toNat, by omega⟩
     obtain ⟨l, rfl⟩ : ∃ z : Nat, l = (z : Int) := ⟨l.toNat, by omega⟩
     obtain ⟨pi, _, gpi, hyi, li⟩ := hL.row hR (show i < hi by omega)
     obtain ⟨pk, _, gpk, hyk, lk⟩ := hL.row hR (show k < hi by omega)
     refine iteF ⟨_, rfl, _, rfl, a, _, _, _, rfl, rfl, SqL.of hL.lst, atI_nat hyi, _, rfl, pi, _, _, _, rfl, rfl, SqL.of gpi, at_int (by omega), ?_⟩
     refine ⟨_, rfl, _, rfl, a, _, _, _, rfl, rfl, SqL.of hL.lst, atI_nat hyk, _, rfl, pk, _, _, _, rfl, rfl, SqL.of gpk, at_int (by omega), ?_⟩
     refine ⟨_, rfl, _, rfl, a, _, _, _, rfl, rfl, SqL.of hL.lst, atI_nat hyi, _, rfl, pi, _, _, _, rfl, rfl, SqL.of gpi, at_int (by omega), ?_⟩
     refine ⟨_, rfl, _, rfl, a, _, _, _, rfl, rfl, SqL.of hL.lst, atI_nat hyk, _, rfl, pk, _, _, _, rfl, rfl, SqL.of gpk, at_int (by omega), ?_⟩
     refine ⟨(by show 4 <= sizeLine; decide), fun x1 f1 => ?_⟩
     have s1 := same_upd (o := .tup [.int ((T.getD i []).getD j 0), .int ((T.getD k []).getD l 0), .int ((T.getD i []).getD l 0), .int ((T.getD k []).getD j 0)]) f1
     refine ⟨(by show 4 <= sizeLine; decide), fun x2 f2 => ?_⟩
     have s2 := same_upd (o := .tup [.int 1, .int 1, .int 0, .int 0]) f2
     refine ⟨dP [(T.getD i []).getD j 0, (T.getD k []).getD l 0, (T.getD i []).getD l 0, (T.getD k []).getD j 0], dP [1, 1, 0, 0], Dt.mkP (SqT.of (s2 _ _ upd_same)), Dt.mkP (SqT.of upd_same), lay_dP _, lay_dP _, un_lt hun (Nat.le_trans (Nat.min_le_left _ _) (Nat.le_trans (dep_dP _) (by decide))), ?_⟩
     have fin := q _ (s1.trans s2)
     have e : PyData.eqv (dP [(T.getD i []).getD j 0, (T.getD k []).getD l 0, (T.getD i []).getD l 0, (T.getD k []).getD j 0]) (dP [1, 1, 0, 0]) = decide (isSw T hi wi (i : Int) (j : Int) (k : Int) (l : Int)) := by
      rw [eqv_dP]
      by_cases h : isSw T hi wi (i : Int) (j : Int) (k : Int) (l : Int)
      ·rw [decide_eq_true h]
       obtain ⟨_, _, _, _, h1, h2, h3, h4⟩ := h
       refine decide_eq_true ?_
       unfold ent at h1 h2 h3 h4
       simp only [Int.toNat_natCast] at h1 h2 h3 h4
       rw [h1, h2, h3, h4]
      ·rw [decide_eq_false h]
       refine decide_eq_false fun z => h ?_
       injection z with z1 z
       injection z with z2 z
       injection z with z3 z
       injection z with z4 _
       exact ⟨⟨by omega, hik.1⟩, ⟨by omega, hik.2⟩, ⟨by omega, hjl.1⟩, ⟨by omega, hjl.2⟩, z1, z3, z4, z2⟩
     show Q (.bl (PyData.eqv _ _)) _
     rw [e]
     exact fin
def spSwL (K : W.Frag) : Sp := fun vs H Q _ => ∃ (a qa : Addr) (ps : List Addr) (T : List (List Int)) (hi wi : Nat) (i j k l : Int), vs = [.ref a, .ref qa] /\ LL H a ps T /\ Rect T hi wi /\ hi <= 16 /\ SqT K H qa [.int i, .int j, .int k, .int l] /\ isSw T hi wi i j k l /\
 ∀ (b : Addr) (ps' : List Addr) (H' : Hp), Same H H' -> LL H' b ps' (swpL T i.toNat j.toNat k.toNat l.toNat) -> Q (.ref b) H'
theorem scSwL : FnScope ["cells", "four", "i", "j", "k", "l", "left", "row", "column"] ["cells", "four"] (defScope sSwL) := ⟨rfl, rfl, rfl, by decide +kernel, rfl, by decide +kernel, by decide +kernel⟩
def tabL (T : List (List Int)) (i j k l : Nat) : Nat -> List (List Int)
 | 0 => T
 | 1 => flp T i j
 | 2 => flp (flp T i j) k l
 | 3 => flp (flp (flp T i j) k l) i l
 | _ + 4 => swpL T i j k l
theorem four_ref {p q r s : Addr} {a : Nat} {x : V} (h : ([.ref p, .ref q, .ref r, .ref s] : List V)[a]? = some x) : (a = 0 /\ x = .ref p) \/ (a = 1 /\ x = .ref q) \/ (a = 2 /\ x = .ref r) \/ (a = 3 /\ x = .ref s) := by
 match a, h with
 | 0, h => exact .inl ⟨rfl, by injection h with h; exact h.symm⟩
 | 1, h => exact .inr (.inl ⟨rfl, by injection h with h; exact h.symm⟩)
 | 2, h => exact .inr (.inr (.inl ⟨rfl, by injection h with h; exact h.symm⟩))
 | 3, h => exact .inr (.inr (.inr ⟨rfl, by injection h with h; exact h.symm⟩))
 | n + 4, h => cases h
set_option maxHeartbeats 4000000 in
theorem ok_swL {f : Addr} {fd : FuncData} (F : Fun K "_law_swapped" "_law_swapped" sSwL f fd) (B : Bn mg) : FnOk P w K mg base CX0 1 f fd ["cells", "four"] (spSwL K) := by
 refine F.ok scSwL (fun vs H Q E h => ?_) (fun cdv A outer s H vs Q E hr h => ?_)
 ·obtain ⟨a, qa, ps, T, hi, wi, i, j, k, l, rfl, _⟩ := h
  rfl
 ·obtain ⟨a, qa, ps, T, hi, wi, i, j, k, l, rfl, hL, hR, hi2, hq, hsw, q⟩ := h
  have hsl := sl1000
  have nd1 : (["row"] : List Str).Nodup := by decide +kernel
  have hpl : (ps.map V.ref).length = hi := by rw [List.length_map, hL.rws.1]; exact hR.1
  obtain ⟨n1, n2⟩ := sw_ne hsw
  obtain ⟨ci, ck, cj, cl, _⟩ := id hsw
  obtain ⟨i, rfl⟩ : ∃ z : Nat, i = (z : Int) := ⟨i.toNat, by omega⟩
  obtain ⟨j, rfl⟩ : ∃ z : Nat, j = (z : Int) := ⟨j.toNat, by omega⟩
  obtain ⟨k, rfl⟩ : ∃ z : Nat, k = (z : Int) := ⟨k.toNat, by omega⟩
  obtain ⟨l, rfl⟩ : ∃ z : Nat, l = (z : Int) := ⟨l.toNat, by omega⟩
  simp only [Int.toNat_natCast] at q n1 n2
  have hi' : i < hi := by omega
  have hk' : k < hi := by omega
  have hj' : j < wi := by omega
  have hl' : l < wi := by omega
  refine ⟨_, pss_cons (ps_asg (pv 1) (pg_tup rfl (pgs_cons (pg_name (i := 2) scSwL.nd rfl (Or.inl rfl)) (pgs_cons (pg_name (i := 3) scSwL.nd rfl (Or.inl rfl)) (pgs_cons (pg_name (i := 4) scSwL.nd rfl (Or.inl rfl)) (pgs_cons (pg_name (i := 5) scSwL.nd rfl (Or.inl rfl)) pgs_nil))))))
   (pss_cons (ps_setC (i := 6) (N' := ["row"]) (lk := [none]) scSwL.nd rfl rfl (by rfl) rfl (pi_list (pv 0)) (by rfl) rfl (by decide +kernel) (by exact trivial) (by rfl) (by exact LkL.ok trivial)
     (fun _ _ _ => pg_name (i := 0) nd1 rfl (Or.inl rfl)) (fun _ _ _ => pts_nil) (fun _ _ _ => pe_callTy (call_list_ofK K rfl) (by rfl) B.list (by rfl) (pa_cons (pv 0) pa_nil)))
   (pss_cons (ps_for PassesOwn.never rfl (pi_list (pe_lst (pa_cons (pe_tup (pa_cons (pv 2) (pa_cons (pv 3) pa_nil))) (pa_cons (pe_tup (pa_cons (pv 4) (pa_cons (pv 5) pa_nil))) (pa_cons (pe_tup (pa_cons (pv 2) (pa_cons (pv 5) pa_nil))) (pa_cons (pe_tup (pa_cons (pv 4) (pa_cons (pv 3) pa_nil))) pa_nil)))))) (pg_tup rfl (pgs_cons (pg_name (i := 7) scSwL.nd rfl (Or.inl rfl)) (pgs_cons (pg_name (i := 8) scSwL.nd rfl (Or.inl rfl)) pgs_nil)))
    (pss_one (ps_asg (pe_op op_sub pe_int (pe_ix ix_list (pe_ix ix_list (pv 6) (pv 7) (fun _ _ => rfl)) (pv 8) (fun _ _ => rfl))) (pg_sub (pe_ix ix_list (pv 6) (pv 7) (fun _ _ => rfl)) (pv 8) set_list))))
   (pss_one (ps_ret (pv 6))))), ?_⟩
  refine ⟨_, rfl, qa, _, rfl, hq, rfl, _, _, rfl, _, _, rfl, _, _, rfl, _, _, rfl, rfl, ?_⟩
  refine ⟨_, rfl, a, rfl, ⟨_, SqL.of hL.lst⟩, fun D hD => comp_list (K := K) (a := a) (D := D) (ys := ps.map V.ref) (fun n xs σ' H' => (∃ v, σ' = [v]) /\ Same H H' /\ H' D = some (.lst xs) /\ ∃ ps' : List Addr, xs = ps'.map V.ref /\ New H H' D ps' (T.take n))
   ⟨⟨none, rfl⟩, same_upd hD, upd_same, [], rfl, by rw [List.take_zero]; exact New.nil⟩ (by omega) (fun n xs σ' H' hn ⟨_, s2, h2, ps', e2, n2⟩ => ⟨SqL.of (s2 _ _ hL.lst), h2, by rw [e2, List.length_map, n2.rws.1, List.length_take]; omega⟩) ?_ ?_⟩
  ·rintro n xs x σ' H' N kN hx ⟨⟨v, rfl⟩, s2, h2, ps', rfl, nw⟩
   have hn : n < hi := by
    rcases Nat.lt_or_ge n hi with l | l
    ·exact l
    ·rw [List.getElem?_eq_none (by rw [hpl]; exact l)] at hx; cases hx
   obtain ⟨p, hpr, gp, hpv, lp⟩ := hL.row hR hn
   rw [hpv] at hx
   cases hx
   refine gName_to (tTrue_if ?_)
   refine ⟨_, rfl, p, _, rfl, .inl (SqL.of (s2 _ _ gp)), fun b hb => ?_⟩
   have s3 := same_upd (o := .lst ((T.getD n []).map V.int)) hb
   refine ⟨s3 _ _ h2, kN _ _ _ ⟨⟨_, rfl⟩, (s2.trans s3).upd hD, upd_same, ps' ++ [b], by rw [List.map_append]; rfl, ?_⟩⟩
   rw [List.take_add_one, (rows_get hR hn).1]
   exact nw.add s2 h2 hb
  ·rintro xs σ' H2 ⟨⟨v, rfl⟩, s2, h2, ps', rfl, nw⟩
   rw [hpl, <- hR.1, List.take_length] at nw
   have LL2 : LL H2 D ps' T := ⟨h2, nw.rws, nw.nd, nw.out⟩
   refine ⟨_, rfl, _, rfl, (by show 2 <= sizeLine; decide), fun x1 f1 => ?_⟩
   have u1 := same_upd (o := .tup [.int i, .int j]) f1
   refine ⟨_, rfl, _, rfl, (by show 2 <= sizeLine; decide), fun x2 f2 => ?_⟩
   have u2 := same_upd (o := .tup [.int k, .int l]) f2
   refine ⟨_, rfl, _, rfl, (by show 2 <= sizeLine; decide), fun x3 f3 => ?_⟩
   have u3 := same_upd (o := .tup [.int i, .int l]) f3
   refine ⟨_, rfl, _, rfl, (by show 2 <= sizeLine; decide), fun x4 f4 => ?_⟩
   have u4 := same_upd (o := .tup [.int k, .int j]) f4
   refine ⟨(by show 4 <= sizeLine; decide), fun lf ff => ⟨lf, rfl, ⟨_, SqL.of upd_same⟩, ?_⟩⟩
   have u5 := same_upd (o := .lst [.ref x1, .ref x2, .ref x3, .ref x4]) ff
   have gx1 := u5 _ _ (u4 _ _ (u3 _ _ (u2 _ _ (upd_same (H := H2) (a := x1) (o := .tup [.int i, .int j])))))
   have gx2 := u5 _ _ (u4 _ _ (u3 _ _ (upd_same (H := upd H2 x1 (.tup [.int i, .int j])) (a := x2) (o := .tup [.int k, .int l]))))
   have gx3 := u5 _ _ (u4 _ _ (upd_same (H := upd (upd H2 x1 (.tup [.int i, .int j])) x2 (.tup [.int k, .int l])) (a := x3) (o := .tup [.int i, .int l])))
   have gx4 := u5 _ _ (upd_same (H := upd (upd (upd H2 x1 (.tup [.int i, .int j])) x2 (.tup [.int k, .int l])) x3 (.tup [.int i, .int l])) (a := x4) (o := .tup [.int k, .int j]))
   have glf := upd_same (H := upd (upd (upd (upd H2 x1 (.tup [.int i, .int j])) x2 (.tup [.int k, .int l])) x3 (.tup [.int i, .int l])) x4 (.tup [.int k, .int j])) (a := lf) (o := .lst [.ref x1, .ref x2, .ref x3, .ref x4])
   have u15 := u1.trans (u2.trans (u3.trans (u4.trans u5)))
   have LL3 := LL2.same u15
   have s3 := s2.trans u15
   have flf : H2 lf = none := (u1.trans (u2.trans (u3.trans u4))).free ff
   generalize upd (upd (upd (upd (upd H2 x1 (.tup [.int i, .int j])) x2 (.tup [.int k, .int l])) x3 (.tup [.int i, .int l])) x4 (.tup [.int k, .int j])) lf (.lst [.ref x1, .ref x2, .ref x3, .ref x4]) = H3 at gx1 gx2 gx3 gx4 glf LL3 s3 u15
   clear u1 u2 u3 u4 u5 f1 f2 f3 f4 ff
   have nlf : ∀ p ∈ ps', lf ≠ p := fun p hp z => by
    obtain ⟨m, hm, e⟩ := List.mem_iff_getElem.mp hp
    have hml : m < T.length := by rw [<- LL2.rws.1]; exact hm
    have := LL2.rws.2 m p _ (by rw [List.getElem?_eq_getElem hm, e]) (List.getElem?_eq_getElem hml)
    rw [z] at flf
    rw [this] at flf
    cases flf
   refine for_list (K := K) (a := lf) (xs := [.ref x1, .ref x2, .ref x3, .ref x4]) (fun m σ H4 => ∃ e7 e8, σ = [some (.ref a), some (.ref qa), some (.int i), some (.int j), some (.int k), some (.int l), some (.ref D), e7, e8] /\ Same H H4 /\ H4 lf = some (.lst [.ref x1, .ref x2, .ref x3, .ref x4]) /\ H4 x1 = some (.tup [.int i, .int j]) /\ H4 x2 = some (.tup [.int k, .int l]) /\ H4 x3 = some (.tup [.int i, .int l]) /\ H4 x4 = some (.tup [.int k, .int j]) /\ LL H4 D ps' (tabL T i j k l m) /\ Rect (tabL T i j k l m) hi wi)
    ⟨none, none, rfl, s3, glf, gx1, gx2, gx3, gx4, LL3, hR⟩ (fun m σ H4 _ ⟨_, _, _, _, g, _⟩ => SqL.of g) ?_ ?_
   ·rintro m x σ H4 hx ⟨e7, e8, rfl, s4, g0, g1, g2, g3, g4, LL4, R4⟩
    obtain ⟨x', r, c, hxx, gx, hr', hc', hnext⟩ : ∃ (x' : Addr) (r c : Nat), x = .ref x' /\ H4 x' = some (.tup [.int r, .int c]) /\ r < hi /\ c < wi /\ tabL T i j k l (m + 1) = flp (tabL T i j k l m) r c := by
     rcases four_ref hx with ⟨rfl, rfl⟩ | ⟨rfl, rfl⟩ | ⟨rfl, rfl⟩ | ⟨rfl, rfl⟩
     ·exact ⟨x1, i, j, rfl, g1, hi', hj', rfl⟩
     ·exact ⟨x2, k, l, rfl, g2, hk', hl', rfl⟩
     ·exact ⟨x3, i, l, rfl, g3, hi', hl', rfl⟩
     ·exact ⟨x4, k, j, rfl, g4, hk', hj', rfl⟩
    subst hxx
    refine ⟨x', _, rfl, SqT.of gx, rfl, _, _, rfl, _, _, rfl, rfl, ?_⟩
    rw [hnext]
    generalize tabL T i j k l m = U at LL4 R4
    obtain ⟨p, hpr, gp, hpv, lp⟩ := LL4.row R4 hr'
    refine ⟨_, rfl, _, rfl, D, _, _, _, rfl, rfl, SqL.of LL4.lst, atI_nat hpv, _, rfl, p, _, _, _, rfl, rfl, SqL.of gp, at_int (by omega), _, _, rfl, rfl, ?_⟩
    refine ⟨_, rfl, _, rfl, D, _, _, _, rfl, rfl, SqL.of LL4.lst, atI_nat hpv, _, rfl, p, _, _, c, rfl, rfl, gp, ixN_nat (by rw [List.length_map]; omega), ?_⟩
    rw [set_map_int]
    have nt : ∀ {y : Addr} {zs : List V}, H4 y = some (.tup zs) -> y ≠ p := fun {y zs} g z => by rw [z, gp] at g; cases g
    exact ⟨_, _, rfl, s4.upd (nw.fr p (List.mem_of_getElem? hpr)), by rw [upd_ne (nlf p (List.mem_of_getElem? hpr))]; exact g0, by rw [upd_ne (nt g1)]; exact g1, by rw [upd_ne (nt g2)]; exact g2, by rw [upd_ne (nt g3)]; exact g3, by rw [upd_ne (nt g4)]; exact g4, LL4.flp R4 hr' hpr, rect_flp R4 hr'⟩
   ·rintro σ H4 ⟨e7, e8, rfl, s4, g0, g1, g2, g3, g4, LL4, R4⟩
    exact ⟨_, rfl, q D ps' H4 s4 LL4⟩
def spFours (K : W.Frag) : Sp := fun vs H Q _ => ∃ (c : Int) (hi wi m : Nat), vs = [.int c, .int hi, .int wi, .int m] /\ 1 <= hi /\ hi <= 16 /\ 1 <= wi /\ wi <= 16 /\ m <= 12 /\ ∀ (l : Addr) (ys : List V) (ks : List (List Int)) (H' : Hp), Same H H' -> H l = none -> H' l = some (.lst ys) -> Tups K H' ys ks -> ks.length = m -> (∀ k ∈ ks, k.length = 4) -> Q (.ref l) H'
theorem scFours : FnScope ["cell", "high", "wide", "many", "rest", "fours", "k", "four", "turn", "side"] ["cell", "high", "wide", "many"] (defScope sFours) := ⟨rfl, rfl, rfl, by decide +kernel, rfl, by decide +kernel, by decide +kernel⟩
set_option maxHeartbeats 2000000 in
theorem ok_fours {f : Addr} {fd : FuncData} (F : Fun K "_law_fours" "_law_fours" sFours f fd) (B : Bn mg) : FnOk P w K mg base CX0 1 f fd ["cell", "high", "wide", "many"] (spFours K) := by
 refine F.ok scFours (fun vs H Q E h => ?_) (fun cdv A outer s H vs Q E hr h => ?_)
 ·obtain ⟨c, hi, wi, m, rfl, _⟩ := h
  rfl
 ·obtain ⟨c, hi, wi, m, rfl, hi1, hi2, wi1, wi2, hm, q⟩ := h
  have hsl := sl1000
  refine ⟨_, pss_cons (ps_set (i := 4) scFours.nd rfl (Or.inl rfl) (pv 0))
   (pss_cons (ps_set (i := 5) scFours.nd rfl (Or.inl rfl) (pe_lst pa_nil))
   (pss_cons (ps_for PassesOwn.never rfl (pi_range1 rfl B.range (pa_cons (pv 3) pa_nil)) (pg_name (i := 6) scFours.nd rfl (Or.inl rfl))
    (pss_cons (ps_set (i := 7) scFours.nd rfl (Or.inl rfl) (pe_lst pa_nil))
    (pss_cons (ps_for PassesOwn.never rfl (pi_range1 rfl B.range (pa_cons pe_int pa_nil)) (pg_name (i := 8) scFours.nd rfl (Or.inl rfl))
     (pss_cons (ps_set (i := 9) scFours.nd rfl (Or.inl rfl) (pe_ix ix_list (pe_lst (pa_cons (pv 1) (pa_cons (pv 2) pa_nil))) (pe_op op_mod (pv 8) pe_int) (fun _ _ => rfl)))
     (pss_cons (ps_expr (pe_bm PySem.F.plainAttrs_list PySem.F.slot_list_append PySem.F.type_list_append mt_append (pv 7) (pa_cons (pe_op op_mod (pv 4) (pv 9)) pa_nil)))
     (pss_one (ps_set (i := 4) scFours.nd rfl (Or.inl rfl) (pe_op op_fdiv (pv 4) (pv 9)))))))
    (pss_one (ps_expr (pe_bm PySem.F.plainAttrs_list PySem.F.slot_list_append PySem.F.type_list_append mt_append (pv 5) (pa_cons (pe_callTy call_tuple_of (by rfl) B.tuple (by rfl) (pa_cons (pv 7) pa_nil)) pa_nil)))))))
   (pss_one (ps_ret (pv 5))))), ?_⟩
  refine ⟨_, rfl, ?_⟩
  refine ⟨by show 0 <= sizeLine; omega, fun l hl => ?_⟩
  have s0 := same_upd (o := .lst []) hl
  refine ⟨_, rfl, m, rfl, by omega, by omega, for_range (lo := 0) (n := m) (fun n σ H1 => ∃ (r : Int) (ys : List V) (ks : List (List Int)) (e6 e7 e8 e9 : Option V), σ = [some (.int c), some (.int hi), some (.int wi), some (.int m), some (.int r), some (.ref l), e6, e7, e8, e9] /\ Same H H1 /\ H1 l = some (.lst ys) /\ Tups K H1 ys ks /\ ks.length = n /\ ∀ k ∈ ks, k.length = 4)
   ⟨c, [], [], none, none, none, none, rfl, s0, upd_same, .nil, rfl, fun k hk => absurd hk List.not_mem_nil⟩ ?_ ?_⟩
  ·rintro n σ H1 hn ⟨r, ys, ks, e6, e7, e8, e9, rfl, s1, g1, t1, l1, h4⟩
   refine gName_to ?_
   refine ⟨by show 0 <= sizeLine; omega, fun lf hlf => ?_⟩
   have s2 := same_upd (o := .lst []) hlf
   have nl : l ≠ lf := ne_of_none g1 hlf
   have flf : H lf = none := s1.free hlf
   refine ⟨4, rfl, by decide, by decide, ?_⟩
   refine for_range (lo := 0) (n := 4) (fun t σ H2 => ∃ (r : Int) (ts : List Int) (e8 e9 : Option V), σ = [some (.int c), some (.int hi), some (.int wi), some (.int m), some (.int r), some (.ref l), some (.int (0 + n)), some (.ref lf), e8, e9] /\ Same H H2 /\ H2 l = some (.lst ys) /\ Tups K H2 ys ks /\ H2 lf = some (.lst (ts.map V.int)) /\ ts.length = t)
    ⟨r, [], e8, e9, rfl, s1.trans s2, s2 _ _ g1, s2.tups t1, upd_same, rfl⟩ ?_ ?_
   ·rintro t σ H2 ht ⟨r', ts, e8', e9', rfl, sa, ga, ta, gf, lts⟩
    rw [show ((0 : Int) + (t : Int)) = (t : Int) by omega]
    refine gName_to ?_
    obtain ⟨v, hv, hvv⟩ := two_int hi wi t
    have hv0 : 0 < v := by omega
    have hv1 : v < 1073741824 := by omega
    refine ⟨_, rfl, _, rfl, (by show 2 <= sizeLine; decide), fun p2 f2 => ?_⟩
    have s3 := same_upd (o := .lst [.int hi, .int wi]) f2
    refine ⟨_, rfl, _, _, rfl, rfl, (by show (0 : Int) < 2; decide), p2, _, _, _, rfl, rfl, SqL.of upd_same, hv, ?_⟩
    have gf3 := s3 _ _ gf
    have ga3 := s3 _ _ ga
    have ta3 := s3.tups ta
    have sa3 := sa.trans s3
    generalize upd H2 p2 (.lst [.int hi, .int wi]) = H3 at gf3 ga3 ta3 sa3
    refine ⟨_, rfl, .inl ⟨rfl, _, SqL.of gf3⟩, _, rfl, _, rfl, _, _, rfl, rfl, hv0, lf, _, _, rfl, rfl, gf3, by rw [List.length_map]; omega, ?_⟩
    refine ⟨_, rfl, _, rfl, _, _, rfl, rfl, ⟨hv0, hv1⟩, ?_⟩
    exact ⟨_, ts ++ [r' % v], _, _, rfl, sa3.upd flf, by rw [upd_ne nl]; exact ga3, Tups.updL gf3 ta3, by rw [upd_same, List.map_append]; rfl, by rw [List.length_append, lts]; rfl⟩
   ·rintro σ H2 ⟨r', ts, e8', e9', rfl, sa, ga, ta, gf, lts⟩
    refine ⟨_, rfl, .inl ⟨rfl, _, SqL.of ga⟩, _, rfl, lf, _, rfl, .inl ⟨SqL.of gf, fun tp ftp => ?_⟩⟩
    have s3 := same_upd (o := .tup (ts.map V.int)) ftp
    have hyl := ta.len
    refine ⟨l, _, _, rfl, rfl, s3 _ _ ga, by omega, ?_⟩
    refine ⟨r', ys ++ [.ref tp], ks ++ [ts], _, _, _, _, rfl, (sa.trans s3).upd hl, upd_same, Tups.updL (s3 _ _ ga) (Tups.append (s3.tups ta) (Tups.one (SqT.of upd_same))), by rw [List.length_append, l1]; rfl, fun k hk => ?_⟩
    rcases List.mem_append.mp hk with hk | hk
    ·exact h4 k hk
    ·rw [List.mem_singleton.mp hk]; exact lts
  ·rintro σ H1 ⟨r, ys, ks, e6, e7, e8, e9, rfl, s1, g1, t1, l1, h4⟩
   exact ⟨_, rfl, q l ys ks H1 s1 hl g1 t1 l1 h4⟩
end
def q4 (q : Four) : List Int := [(q.1 : Int), (q.2.1 : Int), (q.2.2.1 : Int), (q.2.2.2 : Int)]
theorem filter_first {p : Nat -> Bool} {n : Nat} (h : ∃ r, r < n /\ p r = true) : ∃ i t, (List.range n).filter p = i :: t /\ i < n /\ p i = true /\ ∀ r, r < i -> p r = false := by
 cases e : (List.range n).filter p with
 | nil =>
  obtain ⟨r, hr, hp⟩ := h
  have : r ∈ (List.range n).filter p := List.mem_filter.mpr ⟨List.mem_range.mpr hr, hp⟩
  rw [e] at this
  cases this
 | cons i t =>
  have hm : i ∈ (List.range n).filter p := by rw [e]; exact List.mem_cons_self
  obtain ⟨h1, h2⟩ := List.mem_filter.mp hm
  have hi := List.mem_range.mp h1
  refine ⟨i, t, rfl, hi, h2, fun r hr => ?_⟩
  cases hp : p r with
  | false => rfl
  | true =>
   have hmr : r ∈ (List.range n).filter p := List.mem_filter.mpr ⟨List.mem_range.mpr (by omega), hp⟩
   have hw : ((List.range n).filter p).Pairwise (· < ·) := List.Pairwise.filter _ List.pairwise_lt_range
   rw [e] at hmr hw
   rcases List.mem_cons.mp hmr with z | z
   ·omega
   ·have := (List.pairwise_cons.mp hw).1 r z
    omega
theorem rows_ne {F L : List (List Int)} {hi wi : Nat} (hF : Rect F hi wi) (hL : Rect L hi wi) (h : F ≠ L) : ∃ r, r < hi /\ F.getD r [] ≠ L.getD r [] := by
 apply Classical.byContradiction
 intro hn
 refine h (rect_ext hF hL fun r c hr hc => ?_)
 have : F.getD r [] = L.getD r [] := by
  apply Classical.byContradiction
  intro z
  exact hn ⟨r, hr, z⟩
 unfold ent
 rw [this]
theorem row_ne {F L : List (List Int)} {hi wi i : Nat} (hF : Rect F hi wi) (hL : Rect L hi wi) (hi' : i < hi) (h : F.getD i [] ≠ L.getD i []) : ∃ c, c < wi /\ ent F i c ≠ ent L i c := by
 apply Classical.byContradiction
 intro hn
 refine h ?_
 have l1 := rect_row hF hi'
 have l2 := rect_row hL hi'
 refine List.ext_getElem (by rw [l1, l2]) fun c h1 h2 => ?_
 have : ent F i c = ent L i c := by
  apply Classical.byContradiction
  intro z
  exact hn ⟨c, by omega, z⟩
 unfold ent at this
 rw [List.getD_eq_getElem?_getD (l := F.getD i []), List.getD_eq_getElem?_getD (l := L.getD i []), List.getElem?_eq_getElem h1, List.getElem?_eq_getElem h2] at this
 exact this
theorem row_neD {K : W.Frag} {A : Around} {H : Hp} {Q : VK} {p q : Addr} {xs ys : List Int} (hun : A.units + 64 < cLine) (hp : SqT K H p (xs.map V.int)) (hq : SqT K H q (ys.map V.int)) (k : Q (.bl (!decide (xs = ys))) H) : rEqD K A true (.ref p) (.ref q) H Q := by
 refine ⟨dP xs, dP ys, Dt.mkP hp, Dt.mkP hq, by simp [PyData.canLay0, dP, lay_ints], by simp [PyData.canLay0, dP, lay_ints], ?_, ?_⟩
 ·refine un_lt hun (Nat.le_trans (Nat.min_le_left _ _) ?_)
  have := dep_ints xs
  simp only [PyData.depth, dP]
  omega
 ·have e : PyData.eqv (dP xs) (dP ys) = decide (xs = ys) := by simp only [PyData.eqv, dP, eqv_ints]
  rw [e]
  exact k
seal L2.PE L2.PA L2.PS L2.PSs L2.PT
section
variable {P : Program} {w : World} {K : W.Frag} {mg : Str -> Option Value} {base : Heap}
def spLed (K : W.Frag) : Sp := fun vs H Q _ => ∃ (qa : Addr) (i j k l : Int), vs = [.ref qa] /\ SqT K H qa [.int i, .int j, .int k, .int l] /\ ∀ p, H p = none -> Q (.ref p) (upd H p (.tup [.int i, .int l, .int k, .int j]))
theorem scLed : FnScope ["four"] ["four"] (defScope sLed) := ⟨rfl, rfl, rfl, by decide +kernel, rfl, by decide +kernel, by decide +kernel⟩
theorem ok_led {f : Addr} {fd : FuncData} (F : Fun K "led_back" "led_back" sLed f fd) : FnOk P w K mg base CX0 1 f fd ["four"] (spLed K) := by
 refine F.ok scLed (fun vs H Q E h => ?_) (fun cdv A outer s H vs Q E hr h => ?_)
 ·obtain ⟨qa, i, j, k, l, rfl, _⟩ := h
  rfl
 ·obtain ⟨qa, i, j, k, l, rfl, hq, q⟩ := h
  refine ⟨_, pss_one (ps_ret (pe_tup (pa_cons (pe_ix ix_tup (pv 0) pe_int (fun _ _ => rfl)) (pa_cons (pe_ix ix_tup (pv 0) pe_int (fun _ _ => rfl)) (pa_cons (pe_ix ix_tup (pv 0) pe_int (fun _ _ => rfl)) (pa_cons (pe_ix ix_tup (pv 0) pe_int (fun _ _ => rfl)) pa_nil)))))), ?_⟩
  exact ⟨_, rfl, qa, _, _, _, rfl, rfl, hq, at4_0, _, rfl, qa, _, _, _, rfl, rfl, hq, at4_3, _, rfl, qa, _, _, _, rfl, rfl, hq, at4_2, _, rfl, qa, _, _, _, rfl, rfl, hq, at4_1, (by show 4 <= sizeLine; decide), fun p hp => q p hp⟩
def spNear (K : W.Frag) : Sp := fun vs H Q _ => ∃ (a b : Addr) (F L : List (List Int)) (hi wi : Nat), vs = [.ref a, .ref b] /\ TTa K H a F /\ TTa K H b L /\ Lk F L hi wi /\ 1 <= hi /\ hi <= 16 /\ wi <= 16 /\ F ≠ L /\
 ∀ (p : Addr) (i j k l : Nat) (H' : Hp), Same H H' -> SqT K H' p ((q4 (i, j, k, l)).map V.int) -> Nx F L hi wi i j k l -> Q (.ref p) H'
theorem scNear : FnScope ["one", "two", "i", "turned", "j", "l", "fours"] ["one", "two"] (defScope sNear) := ⟨rfl, rfl, rfl, by decide +kernel, rfl, by decide +kernel, by decide +kernel⟩
set_option maxHeartbeats 4000000 in
theorem ok_near {f fI fC fB : Addr} {fd fdI fdC fdB : FuncData} (F0 : Fun K "swap_nearer" "swap_nearer" sNear f fd) (B : Bn mg) (FI : Fun K "is_place" "is_place" sIsP fI fdI) (bI : Binds K fdI ["places", "number"] []) (mI : mg "is_place" = some (.ref fI))
    (FC : Fun K "can_swap" "can_swap" sCanSw fC fdC) (bC : Binds K fdC ["table", "four"] []) (mC : mg "can_swap" = some (.ref fC)) (FB : Fun K "led_back" "led_back" sLed fB fdB) (bB : Binds K fdB ["four"] []) (mB : mg "led_back" = some (.ref fB)) : FnOk P w K mg base CX0 3 f fd ["one", "two"] (spNear K) := by
  have GC : FnOk P w K mg base CX0 2 fC fdC ["table", "four"] (spCanSw K) := ok_canSw FC B FI bI mI
  have GB : FnOk P w K mg base CX0 2 fB fdB ["four"] (spLed K) := (ok_led FB).mono (by decide)
  refine F0.ok scNear (fun vs H Q E h => ?_) (fun cdv A outer s H vs Q E hr h => ?_)
  · obtain ⟨a, b, F, L, hi, wi, rfl, _⟩ := h
    rfl
  · obtain ⟨a, b, F, L, hi, wi, rfl, hTa, hTb, Kk, hi1, hi2, hw, hne, q⟩ := h
    have hsl := sl1000
    have hun := hr.units
    have nd3 : (["row", "one", "two"] : List Str).Nodup := by decide +kernel
    have nd2 : (["here", "there"] : List Str).Nodup := by decide +kernel
    have nd4 : (["k", "i", "j", "l"] : List Str).Nodup := by decide +kernel
    have nd5 : (["four", "one", "two"] : List Str).Nodup := by decide +kernel
    refine ⟨_, pss_cons (ps_set (i := 2) scNear.nd rfl (Or.inr rfl) (pe_ix ix_list (pe_comp (N' := ["row", "one", "two"]) (lk := [none, some 0, some 1]) rfl (pi_range1 rfl B.range (pa_cons (pe_callB call_len_seq (by rfl) B.len PySem.boot_len (pa_cons (pv 0) pa_nil)) pa_nil)) (by rfl) rfl (by decide +kernel) (by exact ⟨rfl, rfl, trivial⟩) (by rfl) (by exact LkL.ok ⟨⟨rfl, Or.inl rfl, rfl, Or.inl rfl⟩, ⟨rfl, Or.inl rfl, rfl, Or.inl rfl⟩, trivial⟩)
          (fun _ _ _ => pg_name (i := 0) nd3 rfl (Or.inl rfl)) (fun _ _ _ => pts_one (pt_cmpR (op_neDK K hr.around rfl rfl) (pe_ixTK K rfl (pv 1) (pv 0) (fun _ _ => rfl)) (pe_ixTK K rfl (pv 2) (pv 0) (fun _ _ => rfl)) (nomark _))) (fun _ _ _ => pv 0)) pe_int (fun _ _ => rfl)))
      (pss_cons (ps_setC (i := 3) scNear.nd rfl rfl (by rfl) (N' := ["here", "there"]) (lk := [none, none]) rfl (pi_zipT (by rfl) B.zip (pa_cons (pe_ix ix_tup (pv 0) (pv 2) (fun _ _ => rfl)) (pa_cons (pe_ix ix_tup (pv 1) (pv 2) (fun _ _ => rfl)) pa_nil))) (by rfl) rfl (by decide +kernel) (by exact trivial) (by rfl) (by exact LkL.ok trivial)
          (fun _ _ _ => pg_tupK (n := 2) K rfl rfl (pgs_cons (pg_name (i := 0) nd2 rfl (Or.inl rfl)) (pgs_cons (pg_name (i := 1) nd2 rfl (Or.inl rfl)) pgs_nil))) (fun _ _ _ => pts_nil) (fun _ _ _ => pe_op op_sub (pv 0) (pv 1)))
      (pss_cons (ps_set (i := 4) scNear.nd rfl (Or.inr rfl) (pe_bm PySem.F.plainAttrs_list PySem.F.slot_list_index PySem.F.type_list_index mt_indexI (pv 3) (pa_cons pe_int pa_nil)))
      (pss_cons (ps_set (i := 5) scNear.nd rfl (Or.inr rfl) (pe_bm PySem.F.plainAttrs_list PySem.F.slot_list_index PySem.F.type_list_index mt_indexI (pv 3) (pa_cons (pe_un un_neg pe_int) pa_nil)))
      (pss_cons (ps_setC (i := 6) scNear.nd rfl rfl (by rfl) (N' := ["k", "i", "j", "l"]) (lk := [none, some 2, some 4, some 5]) rfl (pi_range2 rfl B.range (pa_cons (pe_op op_add (pv 2) pe_int) (pa_cons (pe_callB call_len_seq (by rfl) B.len PySem.boot_len (pa_cons (pv 0) pa_nil)) pa_nil))) (by rfl) rfl (by decide +kernel) (by exact ⟨rfl, rfl, rfl, trivial⟩) (by rfl) (by exact LkL.ok ⟨⟨rfl, Or.inl rfl, rfl, Or.inl rfl⟩, ⟨rfl, Or.inl rfl, rfl, Or.inl rfl⟩, ⟨rfl, Or.inl rfl, rfl, Or.inl rfl⟩, trivial⟩)
          (fun _ _ _ => pg_name (i := 0) nd4 rfl (Or.inl rfl)) (fun _ _ _ => pts_nil) (fun _ _ _ => pe_tup (pa_cons (pv 1) (pa_cons (pv 2) (pa_cons (pv 0) (pa_cons (pv 3) pa_nil))))))
      (pss_one (ps_ret (pe_ix ix_list (pe_comp (N' := ["four", "one", "two"]) (lk := [none, some 0, some 1]) rfl (pi_list (pv 6)) (by rfl) rfl (by decide +kernel) (by exact ⟨rfl, rfl, trivial⟩) (by rfl) (by exact LkL.ok ⟨⟨rfl, Or.inl rfl, rfl, Or.inl rfl⟩, ⟨rfl, Or.inl rfl, rfl, Or.inl rfl⟩, trivial⟩)
          (fun _ _ _ => pg_name (i := 0) nd5 rfl (Or.inl rfl)) (fun _ _ _ => pts_one (PW.pt (pw_or (pt_val (pe_call GC hr (by rfl) mC FC.kp bC .nil pass0 (pa_cons (pv 1) (pa_cons (pv 0) pa_nil)))) (pw_or1 (pt_val (pe_call GC hr (by rfl) mC FC.kp bC .nil pass0 (pa_cons (pv 2) (pa_cons (pe_call GB hr (by rfl) mB FB.kp bB .nil pass0 (pa_cons (pv 0) pa_nil)) pa_nil)))))))) (fun _ _ _ => pv 0)) pe_int (fun _ _ => rfl)))))))), ?_⟩
    obtain ⟨xs0, hA, hX⟩ := id hTa
    obtain ⟨ys0, hB, hY⟩ := id hTb
    have hxl : xs0.length = hi := by rw [hX.len]; exact Kk.f.rect.1
    -- the first unlike row
    refine ⟨_, rfl, a, _, rfl, .inr hA, (hi : Int), by rw [hxl], by omega, by omega, fun D hD => ?_⟩
    rw [Int.toNat_natCast]
    refine comp_range (lo := 0) (n := hi) (D := D) (fun m xs σ' H' => (∃ v, σ' = [v, some (.ref a), some (.ref b)]) /\ Same H H' /\ H' D = some (.lst xs) /\ xs = (((List.range m).filter fun r => !decide (F.getD r [] = L.getD r [])).map fun r : Nat => (r : Int)).map V.int)
      ⟨⟨none, rfl⟩, same_upd hD, upd_same, rfl⟩ (by omega) (fun m xs σ' H' hm ⟨_, _, h1, e1⟩ => ⟨h1, by
        have := List.length_filter_le (fun r => !decide (F.getD r [] = L.getD r [])) (List.range m)
        rw [List.length_range] at this
        rw [e1, List.length_map, List.length_map]; exact this⟩) ?_ ?_
    · rintro m xs σ' H' N kN hm ⟨⟨v, rfl⟩, s1, h1, rfl⟩
      rw [show ((0 : Int) + (m : Int)) = (m : Int) by omega]
      refine gName_to ?_
      obtain ⟨e1, _⟩ := rows_get Kk.f.rect hm
      obtain ⟨e2, _⟩ := rows_get Kk.l.rect hm
      obtain ⟨p1, hy1, hp1⟩ := tups_at hX e1
      obtain ⟨p2, hy2, hp2⟩ := tups_at hY e2
      refine ⟨_, rfl, _, rfl, a, _, _, _, rfl, rfl, s1.seqT hA, atI_nat hy1, _, rfl, _, rfl, b, _, _, _, rfl, rfl, s1.seqT hB, atI_nat hy2, ?_⟩
      refine row_neD hun (s1.seqT hp1) (s1.seqT hp2) ?_
      refine ⟨_, rfl, ?_⟩
      have hsn : (List.range (m + 1)).filter (fun r => !decide (F.getD r [] = L.getD r [])) = (List.range m).filter (fun r => !decide (F.getD r [] = L.getD r [])) ++ (if (!decide (F.getD m [] = L.getD m [])) = true then [m] else []) := by
        rw [List.range_succ, List.filter_append, List.filter_cons, List.filter_nil]
      cases hb : (!decide (F.getD m [] = L.getD m [])) with
      | true =>
        rw [hb, if_pos rfl] at hsn
        refine iteT ⟨_, rfl, h1, kN _ _ _ ⟨⟨_, rfl⟩, s1.upd hD, upd_same, ?_⟩⟩
        rw [hsn, List.map_append, List.map_append]
        rfl
      | false =>
        rw [hb, if_neg Bool.false_ne_true, List.append_nil] at hsn
        refine iteF (kN _ _ _ ⟨⟨_, rfl⟩, s1, h1, ?_⟩)
        rw [hsn]
    rintro xs σ' H1 ⟨⟨v, rfl⟩, s1, h1, rfl⟩
    obtain ⟨r0, hr0, hrne⟩ := rows_ne Kk.f.rect Kk.l.rect hne
    obtain ⟨i, t, ef, hi', hpi, hmi⟩ := filter_first (p := fun r => !decide (F.getD r [] = L.getD r [])) (n := hi) ⟨r0, hr0, by simpa using hrne⟩
    rw [ef] at h1
    refine ⟨D, _, _, _, rfl, rfl, SqL.of h1, atI_nat (j := 0) (v := .int (i : Int)) rfl, ?_⟩
    have hahead : ∀ r, r < i -> F.getD r [] = L.getD r [] := fun r hr => by simpa using hmi r hr
    have hhere : F.getD i [] ≠ L.getD i [] := by simpa using hpi
    -- how much more
    obtain ⟨e1, l1⟩ := rows_get Kk.f.rect hi'
    obtain ⟨e2, l2⟩ := rows_get Kk.l.rect hi'
    obtain ⟨p1, hy1, hp1⟩ := tups_at hX e1
    obtain ⟨p2, hy2, hp2⟩ := tups_at hY e2
    refine ⟨_, rfl, _, rfl, a, _, _, _, rfl, rfl, s1.seqT hA, atI_nat hy1, _, rfl, _, rfl, b, _, _, _, rfl, rfl, s1.seqT hB, atI_nat hy2, p1, p2, rfl, ⟨_, s1.seqT hp1⟩, ⟨_, s1.seqT hp2⟩, fun D2 hD2 => ?_⟩
    refine comp_zipT (K := K) (a := p1) (b := p2) (D := D2) (ys := (F.getD i []).map V.int) (zs := (L.getD i []).map V.int) (by rw [List.length_map, List.length_map, l1, l2]) (fun m ds σ' H' => (∃ v u, σ' = [v, u]) /\ Same H1 H' /\ H' D2 = some (.lst ds) /\ ds = ((List.range m).map fun c => ent F i c - ent L i c).map V.int)
      ⟨⟨none, none, rfl⟩, same_upd hD2, upd_same, rfl⟩ (by rw [List.length_map]; omega) (fun m ds σ' H' hm ⟨_, s8, h8, e8⟩ => ⟨(s1.trans s8).seqT hp1, (s1.trans s8).seqT hp2, h8, by rw [e8, List.length_map, List.length_map, List.length_range]; exact Nat.le_refl _⟩) ?_ ?_
    · rintro m ds x y t σ' H' N kN hx hy ⟨⟨v, u, rfl⟩, s8, h8, rfl⟩ ht'
      obtain ⟨z1, hz1, rfl⟩ := int_get hx
      obtain ⟨z2, hz2, rfl⟩ := int_get hy
      have s9 := same_upd (o := .tup [.int z1, .int z2]) ht'
      refine ⟨t, _, rfl, SqT.of upd_same, rfl, _, _, rfl, _, _, rfl, rfl, tTrue_if ?_⟩
      refine ⟨_, rfl, _, rfl, _, _, rfl, rfl, s9 _ _ h8, kN _ _ _ ⟨⟨_, _, rfl⟩, (s8.trans s9).upd hD2, upd_same, ?_⟩⟩
      rw [List.range_succ, List.map_append, List.map_append]
      show _ = _ ++ [V.int (ent F i m - ent L i m)]
      unfold ent
      rw [List.getD_eq_getElem?_getD (l := F.getD i []), List.getD_eq_getElem?_getD (l := L.getD i []), hz1, hz2]
      rfl
    rintro ds σ' H2 ⟨⟨v, u, rfl⟩, s2, h2, rfl⟩
    rw [List.length_map, l1] at h2
    have s12 := s1.trans s2
    have dget : ∀ c, c < wi -> ((List.range wi).map fun c => ent F i c - ent L i c)[c]? = some (ent F i c - ent L i c) := fun c hc => by rw [List.getElem?_map, List.getElem?_range hc]; rfl
    have dmin : ∀ (y : Int) (n : Nat), n < wi -> (∀ c, c < n -> ent F i c - ent L i c ≠ y) -> ∀ m c, m < n -> ((List.range wi).map fun c => ent F i c - ent L i c)[m]? = some c -> c ≠ y := fun y n hn h m c hm e => by
      rw [dget m (by omega)] at e
      cases e
      exact h m hm
    obtain ⟨c0, hc0, hcne⟩ := row_ne Kk.f.rect Kk.l.rect hi' hhere
    obtain ⟨⟨j0, hj0, f1, f2⟩, l0, hl0, f3, f4⟩ := ex_opp Kk hi' hc0 hcne
    obtain ⟨j, hj1, hj2, hj3⟩ := least_of (p := fun c => ent F i c - ent L i c = 1) j0 (by rw [f1, f2]; rfl)
    obtain ⟨l, hl1, hl2, hl3⟩ := least_of (p := fun c => ent F i c - ent L i c = -1) l0 (by rw [f3, f4]; rfl)
    have hj : j < wi := by omega
    have hl : l < wi := by omega
    refine ⟨_, rfl, .inl ⟨rfl, _, SqL.of h2⟩, D2, _, 1, j, rfl, rfl, h2, by rw [dget j hj, hj2], dmin 1 j hj hj3, by omega, ?_⟩
    refine ⟨_, rfl, .inl ⟨rfl, _, SqL.of h2⟩, _, rfl, D2, _, -1, l, rfl, rfl, h2, by rw [dget l hl, hl2], dmin (-1) l hl hl3, by omega, ?_⟩
    have a1 := Kk.f.b01 i j hi' hj
    have a2 := Kk.l.b01 i j hi' hj
    have a3 := Kk.f.b01 i l hi' hl
    have a4 := Kk.l.b01 i l hi' hl
    obtain ⟨k0, hk1, hk2, hk3⟩ := ex_k Kk hi' hj hl (fun r hr c => by unfold ent; rw [hahead r hr]) (by omega) (by omega) (by omega) (by omega)
    -- the fours
    refine ⟨_, rfl, _, _, rfl, rfl, _, rfl, a, _, rfl, .inr (s12.seqT hA), _, _, rfl, ⟨by omega, by omega, by omega, by omega⟩, fun D3 hD3 => ?_⟩
    rw [hxl]
    refine comp_range (lo := (i : Int) + 1) (D := D3) (fun m xs σ' H' => (∃ v, σ' = [v, some (.int i), some (.int j), some (.int l)]) /\ Same H2 H' /\ H' D3 = some (.lst xs) /\ Tups K H' xs ((List.range m).map fun d => q4 (i, j, i + 1 + d, l)))
      ⟨⟨none, rfl⟩, same_upd hD3, upd_same, .nil⟩ (by omega) (fun m xs σ' H' hm ⟨_, _, h3, t3⟩ => ⟨h3, by have := t3.len; rw [List.length_map, List.length_range] at this; omega⟩) ?_ ?_
    · rintro m xs σ' H' N kN hm ⟨⟨v, rfl⟩, s3, h3, t3⟩
      refine gName_to (tTrue_if ?_)
      refine ⟨_, rfl, _, rfl, _, rfl, _, rfl, (by show 4 <= sizeLine; decide), fun p fp => ?_⟩
      have sp := same_upd (o := .tup [.int (i : Int), .int (j : Int), .int ((i : Int) + 1 + (m : Int)), .int (l : Int)]) fp
      refine ⟨sp _ _ h3, kN _ _ _ ⟨⟨_, rfl⟩, (s3.trans sp).upd hD3, upd_same, ?_⟩⟩
      rw [List.range_succ, List.map_append]
      refine Tups.updL (sp _ _ h3) (Tups.append (sp.tups t3) (Tups.one (SqT.of ?_)))
      rw [upd_same]
      unfold q4
      simp
    rintro xs σ' H3 ⟨⟨v, rfl⟩, s3, h3, t3⟩
    have e4 : ((hi : Int) - ((i : Int) + 1)).toNat = hi - (i + 1) := by omega
    rw [e4] at t3
    have s13 := s12.trans s3
    have hxl3 := t3.len
    rw [List.length_map, List.length_range] at hxl3
    -- the first that will do
    refine ⟨_, rfl, D3, rfl, ⟨_, SqL.of h3⟩, fun D4 hD4 => comp_list (K := K) (a := D3) (D := D4) (ys := xs) (fun m us σ' H' => (∃ v, σ' = [v, some (.ref a), some (.ref b)]) /\ Same H3 H' /\ H' D4 = some (.lst us) /\ us.length <= m /\
        ((us = [] /\ ∀ d, d < m -> ¬ Gd F L hi wi i j l (i + 1 + d)) \/ ∃ p d t, us = .ref p :: t /\ i + 1 + d < hi /\ SqT K H' p ((q4 (i, j, i + 1 + d, l)).map V.int) /\ Gd F L hi wi i j l (i + 1 + d) /\ ∀ e, e < d -> ¬ Gd F L hi wi i j l (i + 1 + e)))
      ⟨⟨none, rfl⟩, same_upd hD4, upd_same, Nat.le_refl _, .inl ⟨rfl, fun d hd => absurd hd (Nat.not_lt_zero _)⟩⟩ (by omega) (fun m us σ' H' hm ⟨_, s6, h6, l6, _⟩ => ⟨SqL.of (s6 _ _ h3), h6, l6⟩) ?_ ?_⟩
    · rintro m us x σ' H' N kN hx ⟨⟨v, rfl⟩, s6, h6, l6, hor⟩
      obtain ⟨p, kk, rfl, hk', hq⟩ := t3.get hx
      have hml : m < hi - (i + 1) := by
        rcases Nat.lt_or_ge m (hi - (i + 1)) with z | z
        · exact z
        · rw [List.getElem?_eq_none (by rw [hxl3]; exact z)] at hx; cases hx
      rw [List.getElem?_map, List.getElem?_range hml] at hk'
      cases hk'
      refine gName_to ?_
      have hq6 := s6.seqT hq
      have no : ∀ H7, Same H' H7 -> ¬ Gd F L hi wi i j l (i + 1 + m) -> N us [some (.ref p), some (.ref a), some (.ref b)] H7 := fun H7 s7 hn => kN _ _ _ ⟨⟨_, rfl⟩, s6.trans s7, s7 _ _ h6, by omega, hor.imp (fun ⟨z1, z2⟩ => ⟨z1, fun d hd => (Nat.lt_or_ge d m).elim (z2 d) fun z => by rw [show d = m by omega]; exact hn⟩) fun ⟨p', d, t, z1, z2, z3, z4, z5⟩ => ⟨p', d, t, z1, z2, s7.seqT z3, z4, z5⟩⟩
      have yes : ∀ H7, Same H' H7 -> Gd F L hi wi i j l (i + 1 + m) -> H7 D4 = some (.lst us) /\ N (us ++ [.ref p]) [some (.ref p), some (.ref a), some (.ref b)] (upd H7 D4 (.lst (us ++ [.ref p]))) := fun H7 s7 hg => by
        refine ⟨s7 _ _ h6, kN _ _ _ ⟨⟨_, rfl⟩, (s6.trans s7).upd hD4, upd_same, by rw [List.length_append, List.length_singleton]; omega, .inr ?_⟩⟩
        have su : ∀ {p' : Addr} {xs : List V}, SqT K H' p' xs -> SqT K (upd H7 D4 (.lst (us ++ [.ref p]))) p' xs := fun {p' xs} z => (s7.seqT z).updL (s7 _ _ h6)
        rcases hor with ⟨rfl, z2⟩ | ⟨p', d, t, rfl, z2, z3, z4, z5⟩
        · exact ⟨p, m, [], rfl, by omega, su hq6, hg, fun e he => z2 e he⟩
        · exact ⟨p', d, t ++ [.ref p], rfl, z2, su z3, z4, z5⟩
      refine ⟨_, rfl, _, rfl, a, p, F, hi, wi, _, _, _, _, rfl, hTa.same (s13.trans s6), Kk.f.rect, hi1, hq6, fun H7 s7 => ⟨_, rfl, ?_⟩⟩
      by_cases g1 : isSw F hi wi i j ((i + 1 + m : Nat) : Int) l
      · rw [decide_eq_true g1]
        exact iteT ⟨_, rfl, yes H7 s7 (.inl g1)⟩
      · rw [decide_eq_false g1]
        refine iteF ⟨_, rfl, _, rfl, p, _, _, _, _, rfl, s7.seqT hq6, fun pb fpb => ?_⟩
        have sb := same_upd (o := .tup [.int (i : Int), .int (l : Int), .int ((i + 1 + m : Nat) : Int), .int (j : Int)]) fpb
        refine ⟨b, pb, L, hi, wi, _, _, _, _, rfl, hTb.same ((s13.trans s6).trans (s7.trans sb)), Kk.l.rect, hi1, SqT.of upd_same, fun H8 s8 => ⟨_, rfl, ?_⟩⟩
        by_cases g2 : isSw L hi wi i l ((i + 1 + m : Nat) : Int) j
        · rw [decide_eq_true g2]
          exact iteT ⟨_, rfl, yes H8 (s7.trans (sb.trans s8)) (.inr g2)⟩
        · rw [decide_eq_false g2]
          exact iteF (no H8 (s7.trans (sb.trans s8)) fun z => z.elim g1 g2)
    rintro us σ' H4 ⟨⟨v, rfl⟩, s4, h4, l4, hor⟩
    rcases hor with ⟨_, z2⟩ | ⟨p, d, t, rfl, z2, z3, z4, z5⟩
    · refine absurd hk3 (z2 (k0 - (i + 1)) (by rw [hxl3]; omega) |> fun z => ?_)
      rw [show i + 1 + (k0 - (i + 1)) = k0 by omega] at z
      exact z
    refine ⟨D4, _, _, _, rfl, rfl, SqL.of h4, atI_nat (j := 0) rfl, ?_⟩
    exact q p i j (i + 1 + d) l H4 (s13.trans s4) z3 ⟨hi', hahead, hhere, hj, hj2, hj3, hl, hl2, hl3, ⟨by omega, z2⟩, z4, fun r hr1 hr2 => by
      have := z5 (r - (i + 1)) (by omega)
      rw [show i + 1 + (r - (i + 1)) = r by omega] at this
      exact this⟩
end
end Web
namespace Web
open PySem L2
theorem passN {P : Program} {w : World} {X : Cx} : Passes (CXE P w) X E0 := fun _ _ _ _ _ _ _ h => by
 obtain ⟨_, _, _, _, _, _, _, _, _, _, _, hE⟩ := h
 exact hE.elim
theorem tot_le {T : List (List Int)} {hi wi : Nat} (t : Tab T hi wi) (h1 : hi <= 16) (h2 : wi <= 16) : Grf.S hi (rS T wi) <= 256 := by
 have a : Grf.S hi (rS T wi) <= Grf.S hi (fun _ => (16 : Int)) := Grf.S_le fun r hr => by
  have b : rS T wi r <= Grf.S wi (fun _ => (1 : Int)) := Grf.S_le fun c hc => by
   have := t.b01 r c hr hc
   omega
  rw [Grf.S_const] at b
  omega
 rw [Grf.S_const] at a
 omega
theorem sums_neD {K : W.Frag} {A : Around} {H : Hp} {Q : VK} {p q a b c d : Addr} {rs cs rs' cs' : List Int} (hun : A.units + 64 < cLine) (gp : H p = some (.tup [.ref a, .ref b])) (gq : H q = some (.tup [.ref c, .ref d])) (ga : H a = some (.lst (rs.map V.int))) (gb : H b = some (.lst (cs.map V.int))) (gc : H c = some (.lst (rs'.map V.int))) (gd : H d = some (.lst (cs'.map V.int))) (k : Q (.bl (!decide (rs = rs' /\ cs = cs'))) H) : rEqD K A true (.ref p) (.ref q) H Q := by
 have ly : ∀ xs ys : List Int, PyData.canLay0 (.tuple [.list (xs.map .int), .list (ys.map .int)]) = true := fun xs ys => by
  have h1 := lay_li xs
  have h2 := lay_li ys
  simp only [PyData.canLay0, PyData.canLayAll0, Bool.and_true, Bool.and_eq_true] at h1 h2 ⊢
  exact ⟨h1, h2⟩
 refine ⟨.tuple [.list (rs.map .int), .list (cs.map .int)], .tuple [.list (rs'.map .int), .list (cs'.map .int)], Dt.mkT (SqT.of gp) (.mkC (Dt.mkLi (SqL.of ga)) (.mkC (Dt.mkLi (SqL.of gb)) .mkN)), Dt.mkT (SqT.of gq) (.mkC (Dt.mkLi (SqL.of gc)) (.mkC (Dt.mkLi (SqL.of gd)) .mkN)), ly _ _, ly _ _, ?_, ?_⟩
 ·refine un_lt hun (Nat.le_trans (Nat.min_le_left _ _) ?_)
  have h1 := dep_li rs
  have h2 := dep_li cs
  simp only [PyData.depth, PyData.depthAll] at h1 h2 ⊢
  omega
 ·have e : PyData.eqv (.tuple [.list (rs.map .int), .list (cs.map .int)]) (.tuple [.list (rs'.map .int), .list (cs'.map .int)]) = decide (rs = rs' /\ cs = cs') := by
   have h1 := eqv_li rs rs'
   have h2 := eqv_li cs cs'
   simp only [PyData.eqv] at h1 h2
   simp only [PyData.eqv, PyData.eqvAll, h1, h2, Bool.and_true, Bool.decide_and]
  rw [e]
  exact k
theorem rsum_get {T : List (List Int)} {hi wi r : Nat} (h : Rect T hi wi) (hr : r < hi) : (rsum T).getD r 0 = rS T wi r := by
 have go : ∀ (l : List Int), l.sum = Grf.S l.length fun c => l.getD c 0 := fun l => by
  have : ∀ (l : List Int) (n : Nat), n <= l.length -> (l.take n).sum = Grf.S n fun c => l.getD c 0 := fun l n => by
   induction n with
   | zero => intro _; rfl
   | succ n ih =>
    intro hn
    have hl : n < l.length := by omega
    rw [List.take_add_one, List.getElem?_eq_getElem hl, List.sum_append, ih (by omega)]
    show _ + [l[n]].sum = _ + l.getD n 0
    rw [List.getD_eq_getElem?_getD, List.getElem?_eq_getElem hl]
    simp
  have q := this l l.length (Nat.le_refl _)
  rw [List.take_length] at q
  exact q
 have hl : r < T.length := by rw [h.1]; exact hr
 have e : (rsum T).getD r 0 = (T.getD r []).sum := by
  unfold rsum
  rw [List.getD_eq_getElem?_getD, List.getElem?_map, List.getD_eq_getElem?_getD, List.getElem?_eq_getElem hl]
  rfl
 rw [e, go, rect_row h hr]
 rfl
theorem csum_get {T : List (List Int)} {hi wi c : Nat} (h : Rect T hi wi) (hc : c < wi) : (csum T wi).getD c 0 = cS T hi c := by
 unfold csum
 rw [List.getD_eq_getElem?_getD, List.getElem?_map, List.getElem?_range hc]
 show (T.map fun r => r.getD c 0).sum = _
 have : ∀ n, n <= T.length -> ((T.take n).map fun r => r.getD c 0).sum = Grf.S n fun r => ent T r c := fun n => by
  induction n with
  | zero => intro _; rfl
  | succ n ih =>
   intro hn
   have hl : n < T.length := by omega
   rw [List.take_add_one, List.getElem?_eq_getElem hl, List.map_append, List.sum_append, ih (by omega)]
   show _ + ([T[n].getD c 0]).sum = _ + ent T n c
   unfold ent
   rw [List.getD_eq_getElem?_getD (l := T), List.getElem?_eq_getElem hl]
   simp
 have q := this T.length (Nat.le_refl _)
 rw [List.take_length, h.1] at q
 exact q
theorem lk_of {T U : List (List Int)} {hi wi : Nat} (t : Tab T hi wi) (u : Tab U hi wi) (h1 : rsum T = rsum U) (h2 : csum T wi = csum U wi) : Lk T U hi wi :=
 ⟨t, u, fun r hr => by rw [<- rsum_get t.rect hr, <- rsum_get u.rect hr, h1], fun c hc => by rw [<- csum_get t.rect hc, <- csum_get u.rect hc, h2]⟩
seal L2.PE L2.PA L2.PS L2.PSs L2.PT
section
variable {P : Program} {w : World} {K : W.Frag} {mg : Str -> Option Value} {base : Heap}
def Ldd (K : W.Frag) (hi wi : Nat) (T U : List (List Int)) (H : Hp) (Q : VK) : Prop :=
 ∀ (p : Addr) (zs : List V) (H' : Hp), Same H H' -> H p = none -> H' p = some (.lst zs) -> Tups K H' zs ((ledF hi wi 300 T U).map q4) -> Pth hi wi T (ledF hi wi 300 T U) U -> ((ledF hi wi 300 T U).length : Int) <= Grf.S hi (rS T wi) -> Q (.ref p) H'
def spStp (K : W.Frag) (fN fC fS : Addr) : Sp := fun vs H Q _ => ∃ (a b : Addr) (T U : List (List Int)) (hi wi : Nat), vs = [.ref a, .ref b, .ref fN, .ref fC, .ref fS] /\ TTa K H a T /\ TTa K H b U /\ Lk T U hi wi /\ 1 <= hi /\ hi <= 16 /\ wi <= 16 /\ Ldd K hi wi T U H Q
theorem scStp : FnScope ["one", "two", "nearer", "can_step", "stepped", "first", "last", "from_first", "to_last", "four"] ["one", "two", "nearer", "can_step", "stepped"] (defScope sStp) := ⟨rfl, rfl, rfl, by decide +kernel, rfl, by decide +kernel, by decide +kernel⟩
structure StI (K : W.Frag) (H : Hp) (hi wi : Nat) (T U F L : List (List Int)) (fs ts : List Four) (fa la l7 l8 : Addr) (xs ys : List V) (H1 : Hp) : Prop where
 tf : TTa K H1 fa F
 tl : TTa K H1 la L
 lk : Lk F L hi wi
 rs : ∀ r, r < hi -> rS T wi r = rS F wi r
 bd : Bd hi wi (rS T wi) F L (fs.length + ts.length)
 pf : Pth hi wi T fs F
 pl : Pth hi wi L ts.reverse U
 eq : fs ++ ledF hi wi (300 - (fs.length + ts.length)) F L ++ ts.reverse = ledF hi wi 300 T U
 g7 : H1 l7 = some (.lst xs)
 t7 : Tups K H1 xs (fs.map q4)
 g8 : H1 l8 = some (.lst ys)
 t8 : Tups K H1 ys (ts.map q4)
 sm : Same H H1
theorem TTa.updL {K : W.Frag} {H : Hp} {a l : Addr} {xs zs : List V} {T : List (List Int)} (h : TTa K H a T) (hl : H l = some (.lst xs)) : TTa K (upd H l (.lst zs)) a T := let ⟨ys, h1, h2⟩ := h; ⟨ys, h1.updL hl, Tups.updL hl h2⟩
set_option maxHeartbeats 4000000 in
theorem ok_stp {f fN fC fS fB CX : Addr} {fd fdN fdC fdS fdB : FuncData} (F0 : Fun K "steps_between" "steps_between" sStp f fd) (B : Bn mg)
  (FN : Fun K "swap_nearer" "swap_nearer" sNear fN fdN) (bN : Binds K fdN ["one", "two"] []) (GN : FnOk P w K mg base CX0 3 fN fdN ["one", "two"] (spNear K))
  (FC : Fun K "can_swap" "can_swap" sCanSw fC fdC) (bC : Binds K fdC ["table", "four"] []) (GC : FnOk P w K mg base CX0 3 fC fdC ["table", "four"] (spCanSw K))
  (FS : Fun K "swapped" "swapped" sSwd fS fdS) (bS : Binds K fdS ["table", "four"] []) (GS : FnOk P w K mg base (CXE P w) 3 fS fdS ["table", "four"] (spSwd K CX))
  (FB : Fun K "led_back" "led_back" sLed fB fdB) (bB : Binds K fdB ["four"] []) (mB : mg "led_back" = some (.ref fB)) : FnOk P w K mg base CX0 4 f fd ["one", "two", "nearer", "can_step", "stepped"] (spStp K fN fC fS) := by
 have GB : FnOk P w K mg base CX0 3 fB fdB ["four"] (spLed K) := (ok_led FB).mono (by decide)
 refine F0.ok scStp (fun vs H Q E h => ?_) (fun cdv A outer s H vs Q E hr h => ?_)
 ·obtain ⟨a, b, T, U, hi, wi, rfl, _⟩ := h
  rfl
 ·obtain ⟨a, b, T, U, hi, wi, rfl, hTa, hTb, Kk, hi1, hi2, hw, q⟩ := h
  have hsl := sl1000
  have hun := hr.units
  have htot := tot_le Kk.f hi2 hw
  refine ⟨_, pss_cons (ps_set (i := 5) scStp.nd rfl (Or.inl rfl) (pv 0))
   (pss_cons (ps_set (i := 6) scStp.nd rfl (Or.inl rfl) (pv 1))
   (pss_cons (ps_set (i := 7) scStp.nd rfl (Or.inl rfl) (pe_lst pa_nil))
   (pss_cons (ps_set (i := 8) scStp.nd rfl (Or.inl rfl) (pe_lst pa_nil))
   (pss_cons (ps_while PassesOwn.never (pt_cmpR op_neD (pv 5) (pv 6) (nomark _))
    (pss_cons (ps_set (i := 9) scStp.nd rfl (Or.inl rfl) (pe_callN (i := 2) GN hr rfl (Or.inl rfl) FN.kp bN .nil pass0 (pa_cons (pv 5) (pa_cons (pv 6) pa_nil))))
    (pss_one (ps_if (pt_val (pe_callN (i := 3) GC hr rfl (Or.inl rfl) FC.kp bC .nil pass0 (pa_cons (pv 5) (pa_cons (pv 9) pa_nil))))
     (pss_cons (ps_set (i := 5) scStp.nd rfl (Or.inl rfl) (pe_callN (i := 4) GS hr rfl (Or.inl rfl) FS.kp bS .nil (passN (P := P) (w := w)) (pa_cons (pv 5) (pa_cons (pv 9) pa_nil))))
     (pss_one (ps_expr (pe_bm PySem.F.plainAttrs_list PySem.F.slot_list_append PySem.F.type_list_append mt_append (pv 7) (pa_cons (pv 9) pa_nil)))))
     (pss_cons (ps_set (i := 6) scStp.nd rfl (Or.inl rfl) (pe_callN (i := 4) GS hr rfl (Or.inl rfl) FS.kp bS .nil (passN (P := P) (w := w)) (pa_cons (pv 6) (pa_cons (pe_call GB hr (by rfl) mB FB.kp bB .nil pass0 (pa_cons (pv 9) pa_nil)) pa_nil))))
     (pss_one (ps_expr (pe_bm PySem.F.plainAttrs_list PySem.F.slot_list_append PySem.F.type_list_append mt_append (pv 8) (pa_cons (pv 9) pa_nil)))))))))
   (pss_one (ps_ret (pe_op op_cat (pv 7) (pe_lrev rfl (by rfl) B.list (by rfl) B.rev (pa_cons (pv 8) pa_nil))))))))), ?_⟩
  refine ⟨_, rfl, ?_⟩
  refine gName_to ?_
  refine ⟨_, rfl, ?_⟩
  refine gName_to ?_
  refine ⟨by show 0 <= sizeLine; omega, fun l7 f7 => ?_⟩
  refine gName_to ?_
  refine ⟨by show 0 <= sizeLine; omega, fun l8 f8 => ?_⟩
  refine gName_to ?_
  have s7 := same_upd (o := .lst []) f7
  have s8 := same_upd (o := .lst []) f8
  have f8H : H l8 = none := s7.free f8
  have n78 : l7 ≠ l8 := ne_of_none upd_same f8
  refine ⟨fun m σ H1 => ∃ (F L : List (List Int)) (fs ts : List Four) (fa la : Addr) (xs ys : List V) (e9 : Option V), m = (Grf.S hi (rS T wi) - ((fs.length + ts.length : Nat) : Int)).toNat /\ σ = [some (.ref a), some (.ref b), some (.ref fN), some (.ref fC), some (.ref fS), some (.ref fa), some (.ref la), some (.ref l7), some (.ref l8), e9] /\ StI K H hi wi T U F L fs ts fa la l7 l8 xs ys H1,
   ⟨_, T, U, [], [], a, b, [], [], none, rfl, rfl, ⟨hTa.same (s7.trans s8), hTb.same (s7.trans s8), Kk, fun _ _ => rfl, bd_first Kk fun _ _ => rfl, rfl, rfl, by show [] ++ ledF hi wi 300 T U ++ [] = _; rw [List.nil_append, List.append_nil], s8 _ _ upd_same, .nil, upd_same, .nil, s7.trans s8⟩⟩, ?_⟩
  rintro m σ H1 ⟨F, L, fs, ts, fa, la, xs, ys, e9, rfl, rfl, I⟩
  refine ⟨_, rfl, _, rfl, tt_eqD true hun I.tf I.tl ?_⟩
  rw [if_pos rfl]
  refine ⟨_, rfl, ?_⟩
  have hle := I.bd.le
  by_cases hFL : F = L
  ·rw [decide_eq_true hFL]
   refine iteF ?_
   subst hFL
   have heq := I.eq
   rw [led_same, List.append_nil] at heq
   refine ⟨_, rfl, _, rfl, l8, ys, rfl, SqL.of I.g8, fun d hd => ?_⟩
   have sd := same_upd (o := .lst ys.reverse) hd
   have lx := I.t7.len
   have ly := I.t8.len
   rw [List.length_map] at lx ly
   refine ⟨l7, d, _, _, rfl, rfl, sd _ _ I.g7, upd_same, by rw [List.length_reverse]; omega, fun z hz => ?_⟩
   have sz := same_upd (o := .lst (xs ++ ys.reverse)) hz
   refine q z _ _ (I.sm.trans (sd.trans sz)) ((I.sm.trans sd).free hz) upd_same ?_ ?_ ?_
   ·rw [<- heq, List.map_append, List.map_reverse]
    exact (sd.trans sz).tups (Tups.append I.t7 (Tups.reverse I.t8))
   ·rw [<- heq]
    exact I.pf.app I.pl
   ·rw [<- heq, List.length_append, List.length_reverse]
    exact hle
  ·rw [decide_eq_false hFL]
   refine iteT ?_
   refine ⟨fun σ' H' => ∃ (F L : List (List Int)) (fs' ts' : List Four) (fa la : Addr) (xs ys : List V) (e9 : Option V), (Grf.S hi (rS T wi) - ((fs'.length + ts'.length : Nat) : Int)).toNat < (Grf.S hi (rS T wi) - ((fs.length + ts.length : Nat) : Int)).toNat /\ σ' = [some (.ref a), some (.ref b), some (.ref fN), some (.ref fC), some (.ref fS), some (.ref fa), some (.ref la), some (.ref l7), some (.ref l8), e9] /\ StI K H hi wi T U F L fs' ts' fa la l7 l8 xs ys H',
    fun σ' H' ⟨F, L, fs', ts', fa, la, xs, ys, e9, z0, z1, z2⟩ => ⟨_, z0, F, L, fs', ts', fa, la, xs, ys, e9, rfl, z1, z2⟩, ?_⟩
   refine ⟨rfl, _, rfl, _, rfl, fa, la, F, L, hi, wi, rfl, I.tf, I.tl, I.lk, hi1, hi2, hw, hFL, fun p i j k l H2 s2 hp nx => ?_⟩
   refine gName_to ?_
   have hlt := bd_lt I.bd I.lk I.rs nx
   have lx := I.t7.len
   have ly := I.t8.len
   rw [List.length_map] at lx ly
   have efu : 300 - (fs.length + ts.length) = (300 - (fs.length + ts.length + 1)) + 1 := by omega
   have heq := I.eq
   rw [efu] at heq
   obtain ⟨st1, st2⟩ := led_step (n := 300 - (fs.length + ts.length + 1)) hFL nx
   have tf2 := I.tf.same s2
   have tl2 := I.tl.same s2
   refine ⟨rfl, _, rfl, _, rfl, fa, p, F, hi, wi, (i : Int), (j : Int), (k : Int), (l : Int), rfl, tf2, I.lk.f.rect, hi1, hp, fun H3 s3 => ⟨_, rfl, ?_⟩⟩
   have s23 := s2.trans s3
   by_cases hsw : isSw F hi wi i j k l
   ·rw [decide_eq_true hsw]
    refine iteT ?_
    refine ⟨rfl, _, rfl, _, rfl, fa, p, F, hi, wi, (i : Int), (j : Int), (k : Int), (l : Int), rfl, tf2.same s3, I.lk.f.rect, hi1, hi2, hw, s3.seqT hp, fun _ nb H4 s4 hb => ?_, fun h => absurd hsw h⟩
    rw [Int.toNat_natCast, Int.toNat_natCast, Int.toNat_natCast, Int.toNat_natCast] at hb
    refine gName_to ?_
    have s24 := s23.trans s4
    have g7 := s24 _ _ I.g7
    refine ⟨_, rfl, .inl ⟨rfl, _, SqL.of g7⟩, _, rfl, l7, xs, _, rfl, rfl, g7, by omega, ?_⟩
    rw [st1 hsw] at heq
    refine ⟨swp F i j k l, L, fs ++ [(i, j, k, l)], ts, nb, la, xs ++ [.ref p], ys, _, by rw [List.length_append, List.length_singleton]; omega, rfl,
     ⟨hb.updL g7, (I.tl.same s24).updL g7, lk_F I.lk hsw, fun r hr => by rw [I.rs r hr, (sw_tab I.lk.f hsw).2.1], ?_, I.pf.snoc hsw, I.pl, ?_, upd_same, ?_, by rw [upd_ne (Ne.symm n78)]; exact s24 _ _ I.g8, Tups.updL g7 (s24.tups I.t8), (I.sm.trans s24).upd f7⟩⟩
    ·rw [List.length_append, List.length_singleton, show fs.length + 1 + ts.length = fs.length + ts.length + 1 by omega]
     exact bd_F I.bd I.lk I.rs nx hsw
    ·rw [List.length_append, List.length_singleton, show fs.length + 1 + ts.length = fs.length + ts.length + 1 by omega, <- heq]
     simp
    ·rw [List.map_append]
     exact Tups.updL g7 (Tups.append (s24.tups I.t7) (Tups.one ((s3.trans s4).seqT hp)))
   ·rw [decide_eq_false hsw]
    refine iteF ?_
    have hsL : isSw L hi wi i l k j := nx.gk.resolve_left hsw
    refine ⟨rfl, _, rfl, _, rfl, p, (i : Int), (j : Int), (k : Int), (l : Int), rfl, s3.seqT hp, fun pb fpb => ?_⟩
    have sb := same_upd (o := .tup [.int (i : Int), .int (l : Int), .int (k : Int), .int (j : Int)]) fpb
    refine ⟨la, pb, L, hi, wi, (i : Int), (l : Int), (k : Int), (j : Int), rfl, (tl2.same s3).same sb, I.lk.l.rect, hi1, hi2, hw, SqT.of upd_same, fun _ nb H4 s4 hb => ?_, fun h => absurd hsL h⟩
    rw [Int.toNat_natCast, Int.toNat_natCast, Int.toNat_natCast, Int.toNat_natCast] at hb
    refine gName_to ?_
    have s24 := s23.trans (sb.trans s4)
    have g8 := s24 _ _ I.g8
    refine ⟨_, rfl, .inl ⟨rfl, _, SqL.of g8⟩, _, rfl, l8, ys, _, rfl, rfl, g8, by omega, ?_⟩
    rw [st2 hsw] at heq
    refine ⟨F, swp L i l k j, fs, ts ++ [(i, j, k, l)], fa, nb, xs, ys ++ [.ref p], _, by rw [List.length_append, List.length_singleton]; omega, rfl,
     ⟨(I.tf.same s24).updL g8, hb.updL g8, lk_L I.lk hsL, I.rs, ?_, I.pf, ?_, ?_, by rw [upd_ne n78]; exact s24 _ _ I.g7, Tups.updL g8 (s24.tups I.t7), upd_same, ?_, (I.sm.trans s24).upd f8H⟩⟩
    ·rw [List.length_append, List.length_singleton, <- Nat.add_assoc]
     exact bd_L I.bd I.lk I.rs nx hsL
    ·rw [List.reverse_append]
     exact I.pl.back I.lk.l.rect hsL
    ·rw [List.length_append, List.length_singleton, <- Nat.add_assoc, <- heq, List.reverse_append]
     simp
    ·rw [List.map_append]
     exact Tups.updL g8 (Tups.append (s24.tups I.t8) (Tups.one ((s3.trans (sb.trans s4)).seqT hp)))
def spSLed (K : W.Frag) (CU : Addr) : Sp := fun vs H Q E => ∃ (a b : Addr) (T U : List (List Int)) (hi wi hj wj : Nat), vs = [.ref a, .ref b] /\ TTa K H a T /\ TTa K H b U /\ Tab T hi wi /\ Tab U hj wj /\ 1 <= hi /\ hi <= 16 /\ wi <= 16 /\ 1 <= hj /\ hj <= 16 /\ wj <= 16 /\
 (rsum T = rsum U /\ csum T wi = csum U wj -> hi = hj /\ wi = wj /\ Ldd K hi wi T U H Q) /\ (¬ (rsum T = rsum U /\ csum T wi = csum U wj) -> ∀ H' : Hp, Same H H' -> E (.ref CU) none H')
theorem scSLed : FnScope ["one", "two"] ["one", "two"] (defScope sSLed) := ⟨rfl, rfl, rfl, by decide +kernel, rfl, by decide +kernel, by decide +kernel⟩
theorem ok_sled {f fU fN fC fS fP CU : Addr} {fd fdU fdP : FuncData} (F0 : Fun K "swaps_led" "swaps_led" sSLed f fd) (B : Bn mg) (FU : Fun K "sums_of" "sums_of" sSumsOf fU fdU) (bU : Binds K fdU ["table"] []) (mU : mg "sums_of" = some (.ref fU))
  (mN : mg "swap_nearer" = some (.ref fN)) (mC : mg "can_swap" = some (.ref fC)) (mS : mg "swapped" = some (.ref fS))
  (FP : Fun K "steps_between" "steps_between" sStp fP fdP) (bP : Binds K fdP ["one", "two", "nearer", "can_step", "stepped"] []) (mP : mg "steps_between" = some (.ref fP)) (GP : FnOk P w K mg base CX0 4 fP fdP ["one", "two", "nearer", "can_step", "stepped"] (spStp K fN fC fS)) (mX : mg "Unlike" = some (.ref CU)) (cX : ExcC K CU) : FnOk P w K mg base (CXE P w) 5 f fd ["one", "two"] (spSLed K CU) := by
 have GU : FnOk P w K mg base CX0 4 fU fdU ["table"] (spSumsOf K) := (ok_sumsOf FU B).mono (by decide)
 refine F0.okX scSLed (fun vs H Q E h => ?_) (fun cdv A outer s H vs Q E hr h => ?_)
 ·obtain ⟨a, b, T, U, hi, wi, hj, wj, rfl, _⟩ := h
  rfl
 ·obtain ⟨a, b, T, U, hi, wi, hj, wj, rfl, hTa, hTb, tT, tU, hi1, hi2, hw, hj1, hj2, hw2, h1, h2⟩ := h
  have hun := hr.units
  refine ⟨_, pss_cons (ps_if (pt_cmpR op_neD (pe_call GU hr (by rfl) mU FU.kp bU .nil pass0 (pa_cons (pv 0) pa_nil)) (pe_call GU hr (by rfl) mU FU.kp bU .nil pass0 (pa_cons (pv 1) pa_nil)) (nomark _)) (pss_one (ps_raise (by rfl) mX cX)) pss_nil)
   (pss_one (ps_ret (pe_call GP hr (by rfl) mP FP.kp bP .nil pass0 (pa_cons (pv 0) (pa_cons (pv 1) (pa_cons (pe_glob (v := .ref fN) (by rfl) mN rfl) (pa_cons (pe_glob (v := .ref fC) (by rfl) mC rfl) (pa_cons (pe_glob (v := .ref fS) (by rfl) mS rfl) pa_nil)))))))), ?_⟩
  refine ⟨_, rfl, a, T, hi, wi, rfl, hTa, tT.rect, hi1, by omega, by omega, fun x l m H1 s1 _ _ _ gx gl gm => ?_⟩
  refine ⟨_, rfl, b, U, hj, wj, rfl, hTb.same s1, tU.rect, hj1, by omega, by omega, fun y l' m' H2 s2 _ _ _ gy gl' gm' => ?_⟩
  refine sums_neD hun (s2 _ _ gx) gy (s2 _ _ gl) (s2 _ _ gm) gl' gm' ⟨_, rfl, ?_⟩
  have s12 := s1.trans s2
  by_cases hs : rsum T = rsum U /\ csum T wi = csum U wj
  ·rw [decide_eq_true hs]
   refine iteF ?_
   obtain ⟨rfl, rfl, q⟩ := h1 hs
   refine ⟨_, rfl, _, rfl, a, b, T, U, hi, wi, rfl, hTa.same s12, hTb.same s12, lk_of tT tU hs.1 hs.2, hi1, hi2, hw, fun p zs H' s' hp gp tp pp lp => ?_⟩
   exact q p zs H' (s12.trans s') (s12.free hp) gp tp pp lp
  ·rw [decide_eq_false hs]
   exact iteT (h2 hs _ s12)
end
end Web
namespace Web
open PySem L2
theorem k4_of {k : List Int} (h : k.length = 4) : ∃ i j m l : Int, k = [i, j, m, l] := by
 match k, h with
 | [i, j, m, l], _ => exact ⟨i, j, m, l, rfl⟩
def dR (T : List (List Int)) : List PyData := T.map fun r => .list (r.map .int)
theorem lay_R : ∀ T : List (List Int), PyData.canLayAll0 (dR T) = true
 | [] => by simp [dR, PyData.canLayAll0]
 | r :: T => by
  have h1 := lay_li r
  have h2 := lay_R T
  unfold dR at h2 ⊢
  rw [List.map_cons]
  simp only [PyData.canLayAll0, Bool.and_eq_true]
  exact ⟨h1, h2⟩
theorem dep_R : ∀ T : List (List Int), PyData.depthAll (dR T) <= 2
 | [] => by simp [dR, PyData.depthAll]
 | r :: T => by
  have h1 := dep_li r
  have h2 := dep_R T
  unfold dR at h2 ⊢
  rw [List.map_cons]
  simp only [PyData.depthAll] at h2 ⊢
  omega
theorem eqv_R : ∀ T U : List (List Int), PyData.eqvAll (dR T) (dR U) = decide (T = U)
 | [], [] => by simp [dR, PyData.eqvAll]
 | [], _ :: _ => by simp [dR, PyData.eqvAll]
 | _ :: _, [] => by simp [dR, PyData.eqvAll]
 | r :: T, u :: U => by
  have h1 := eqv_li r u
  have h2 := eqv_R T U
  unfold dR at h2 ⊢
  rw [List.map_cons, List.map_cons]
  simp only [PyData.eqvAll, h1, h2]
  by_cases c : r = u <;> simp [c]
theorem Rws.dt {K : W.Frag} {H : Hp} : ∀ {ps : List Addr} {T : List (List Int)}, Rws H ps T -> DtAll K H (dR T) (ps.map V.ref)
 | [], [], _ => DtAll.mkN
 | [], _ :: _, h => by have := h.1; simp at this
 | _ :: _, [], h => by have := h.1; simp at this
 | p :: ps, r :: T, h => by
  have h0 : H p = some (.lst (r.map V.int)) := h.2 0 p r rfl rfl
  have ht : Rws H ps T := ⟨by have := h.1; simpa using this, fun i q x e1 e2 => h.2 (i + 1) q x e1 e2⟩
  exact DtAll.mkC (Dt.mkLi (SqL.of h0)) (Rws.dt ht)
theorem ll_eqD {K : W.Frag} {A : Around} {H : Hp} {Q : VK} {a b : Addr} {ps qs : List Addr} {T U : List (List Int)} (hun : A.units + 64 < cLine) (ha : LL H a ps T) (hb : LL H b qs U) (q : Q (.bl (decide (T = U))) H) : rEqD K A false (.ref a) (.ref b) H Q := by
 refine ⟨.list (dR T), .list (dR U), Dt.mkL (SqL.of ha.lst) ha.rws.dt, Dt.mkL (SqL.of hb.lst) hb.rws.dt, by simp [PyData.canLay0, lay_R], by simp [PyData.canLay0, lay_R], ?_, ?_⟩
 ·refine un_lt hun (Nat.le_trans (Nat.min_le_left _ _) ?_)
  have := dep_R T
  simp only [PyData.depth]
  omega
 ·have e : PyData.eqv (.list (dR T)) (.list (dR U)) = decide (T = U) := by simp only [PyData.eqv, eqv_R]
  rw [e]
  exact q
theorem sw_int {T : List (List Int)} {hi wi : Nat} {i j k l : Int} (h : isSw T hi wi i j k l) : isSw T hi wi (i.toNat : Int) (j.toNat : Int) (k.toNat : Int) (l.toNat : Int) := by
 obtain ⟨⟨h1, h1'⟩, ⟨h2, h2'⟩, ⟨h3, h3'⟩, ⟨h4, h4'⟩, h5⟩ := h
 rw [Int.toNat_of_nonneg h1, Int.toNat_of_nonneg h2, Int.toNat_of_nonneg h3, Int.toNat_of_nonneg h4]
 exact ⟨⟨h1, h1'⟩, ⟨h2, h2'⟩, ⟨h3, h3'⟩, ⟨h4, h4'⟩, h5⟩
theorem rs_sum {T : List (List Int)} {hi wi : Nat} (h : Rect T hi wi) : (T.map List.sum).sum = Grf.S hi (rS T wi) := by
 have : ∀ n, n <= T.length -> ((T.take n).map List.sum).sum = Grf.S n (rS T wi) := fun n => by
  induction n with
  | zero => intro _; rfl
  | succ n ih =>
   intro hn
   have hl : n < T.length := by omega
   have e := rsum_get h (show n < hi by rw [<- h.1]; exact hl)
   unfold rsum at e
   rw [List.getD_eq_getElem?_getD, List.getElem?_map, List.getElem?_eq_getElem hl] at e
   rw [List.take_add_one, List.getElem?_eq_getElem hl, List.map_append, List.sum_append, ih (by omega)]
   show _ + [T[n].sum].sum = _ + rS T wi n
   rw [<- e]
   simp
 have q := this T.length (Nat.le_refl _)
 rw [List.take_length, h.1] at q
 exact q
seal L2.PE L2.PA L2.PS L2.PSs L2.PT
section
variable {P : Program} {w : World} {K : W.Frag} {mg : Str -> Option Value} {base : Heap}
def spIs4 (K : W.Frag) : Sp := fun vs H Q _ => ∃ (b : Addr) (k : List Int), vs = [.ref b] /\ SqT K H b (k.map V.int) /\ k.length = 4 /\ Q (.bl true) H
theorem scIs4 : FnScope ["found", "number"] ["found"] (defScope sIs4) := ⟨rfl, rfl, rfl, by decide +kernel, rfl, by decide +kernel, by decide +kernel⟩
theorem ok_is4 {f : Addr} {fd : FuncData} (F : Fun K "_law_is_four" "_law_is_four" sIs4 f fd) (B : Bn mg) : FnOk P w K mg base CX0 1 f fd ["found"] (spIs4 K) := by
 refine F.ok scIs4 (fun vs H Q E h => ?_) (fun cdv A outer s H vs Q E hr h => ?_)
 ·obtain ⟨b, k, rfl, _⟩ := h
  rfl
 ·obtain ⟨b, k, rfl, hp, hk, q⟩ := h
  refine ⟨_, pss_cons (ps_if (PW.pt (pw_or (pt_not (pt_val (pe_callB call_isinstT (by rfl) B.isin (by rfl) (pa_cons (pv 0) (pa_cons (pe_bltn (v := .ty "tuple") (by rfl) B.tuple (by rfl) rfl) pa_nil))))) (pw_or1 (pt_cmpR op_ne (pe_callB call_len_seq (by rfl) B.len PySem.boot_len (pa_cons (pv 0) pa_nil)) pe_int (nomark _))))) pss_never pss_nil)
   (pss_cons (ps_for PassesOwn.never rfl (pi_tup (pv 0)) (pg_name (i := 1) scIs4.nd rfl (Or.inl rfl))
     (pss_one (ps_if (PW.pt (pw_or (pt_not (pt_val (pe_callB (call_isinstK K rfl) (by rfl) B.isin (by rfl) (pa_cons (pv 1) (pa_cons (pe_bltn (v := .ty "int") (by rfl) B.int (by rfl) rfl) pa_nil))))) (pw_or1 (pt_val (pe_callB (call_isinstK K rfl) (by rfl) B.isin (by rfl) (pa_cons (pv 1) (pa_cons (pe_bltn (v := .ty "bool") (by rfl) B.bool (by rfl) rfl) pa_nil))))))) pss_never pss_nil)))
   (pss_one (ps_ret pe_bl))), ?_⟩
  refine ⟨_, rfl, b, _, _, true, rfl, hp, rfl, _, rfl, iteF ?_⟩
  refine ⟨_, rfl, b, _, rfl, .inr hp, rfl, _, rfl, ?_⟩
  rw [List.length_map, hk]
  refine iteNS rfl ?_
  refine ⟨_, rfl, b, rfl, ⟨_, hp⟩, for_tup (K := K) (a := b) (xs := k.map V.int) (fun _ σ H2 => ∃ e2, σ = [some (.ref b), e2] /\ H2 = H) ⟨none, rfl, rfl⟩ (fun i σ H2 _ ⟨_, _, e⟩ => by rw [e]; exact hp) ?_ ?_⟩
  ·rintro j y σ H2 hy ⟨e2', rfl, rfl⟩
   obtain ⟨z, rfl⟩ := int_at hy
   refine gName_to ?_
   refine ⟨_, rfl, _, _, _, true, rfl, .int z, rfl, _, rfl, iteF ?_⟩
   refine ⟨_, rfl, _, _, _, false, rfl, .int z, rfl, _, rfl, iteF ?_⟩
   exact ⟨_, rfl, rfl⟩
  ·rintro σ H2 ⟨e2', rfl, rfl⟩
   exact q
structure Wkd (H : Hp) (hi wi : Nat) (T : List (List Int)) (b : Addr) (ps : List Addr) (U : List (List Int)) : Prop where
 ll : LL H b ps U
 tb : Tab U hi wi
 rs : ∀ r, rS U wi r = rS T wi r
 cs : ∀ c, cS U hi c = cS T hi c
theorem Wkd.same {H H' : Hp} {hi wi : Nat} {T U : List (List Int)} {b : Addr} {ps : List Addr} (h : Wkd H hi wi T b ps U) (s : Same H H') : Wkd H' hi wi T b ps U := ⟨h.ll.same s, h.tb, h.rs, h.cs⟩
def spWalk (K : W.Frag) : Sp := fun vs H Q _ => ∃ (a sa : Addr) (ps : List Addr) (T : List (List Int)) (ns : List Int) (hi wi : Nat), vs = [.ref a, .ref sa] /\ LL H a ps T /\ Tab T hi wi /\ 1 <= hi /\ hi <= 16 /\ 1 <= wi /\ wi <= 16 /\ SqL K H sa (ns.map V.int) /\
 ∀ (b : Addr) (ps' : List Addr) (U : List (List Int)) (H' : Hp), Same H H' -> Wkd H' hi wi T b ps' U -> Q (.ref b) H'
theorem scWalk : FnScope ["cells", "some", "here", "high", "wide", "cell", "fours", "four"] ["cells", "some"] (defScope sWalk) := ⟨rfl, rfl, rfl, by decide +kernel, rfl, by decide +kernel, by decide +kernel⟩
set_option maxHeartbeats 4000000 in
theorem ok_walk {f fF fM fW fX : Addr} {fd fdF fdM fdW fdX : FuncData} (F : Fun K "_law_walked" "_law_walked" sWalk f fd) (B : Bn mg) (FF : Fun K "_law_fours" "_law_fours" sFours fF fdF) (bF : Binds K fdF ["cell", "high", "wide", "many"] []) (mF : mg "_law_fours" = some (.ref fF))
  (FM : Fun K "_law_mixed" "_law_mixed" sMixS fM fdM) (bM : Binds K fdM ["cell", "k"] []) (mM : mg "_law_mixed" = some (.ref fM))
  (FW : Fun K "_law_is_swap" "_law_is_swap" sIsSw fW fdW) (bW : Binds K fdW ["cells", "four"] []) (mW : mg "_law_is_swap" = some (.ref fW)) (FX : Fun K "_law_swapped" "_law_swapped" sSwL fX fdX) (bX : Binds K fdX ["cells", "four"] []) (mX : mg "_law_swapped" = some (.ref fX)) : FnOk P w K mg base CX0 2 f fd ["cells", "some"] (spWalk K) := by
 have GF : FnOk P w K mg base CX0 1 fF fdF ["cell", "high", "wide", "many"] (spFours K) := ok_fours FF B
 have GM : FnOk P w K mg base CX0 1 fM fdM ["cell", "k"] spMixS := ok_mixS FM
 have GW : FnOk P w K mg base CX0 1 fW fdW ["cells", "four"] (spIsSw K) := ok_isSw FW B
 have GX : FnOk P w K mg base CX0 1 fX fdX ["cells", "four"] (spSwL K) := ok_swL FX B
 refine F.ok scWalk (fun vs H Q E h => ?_) (fun cdv A outer s H vs Q E hr h => ?_)
 ·obtain ⟨a, sa, ps, T, ns, hi, wi, rfl, _⟩ := h
  rfl
 ·obtain ⟨a, sa, ps, T, ns, hi, wi, rfl, hL, tT, hi1, hi2, wi1, wi2, hS, q⟩ := h
  have hsl := sl1000
  have hR := tT.rect
  have nd1 : (["row"] : List Str).Nodup := by decide +kernel
  have nd4 : (["k", "cell", "high", "wide"] : List Str).Nodup := by decide +kernel
  have hpl : (ps.map V.ref).length = hi := by rw [List.length_map, hL.rws.1]; exact hR.1
  refine ⟨_, pss_cons (ps_setC (i := 2) (N' := ["row"]) (lk := [none]) scWalk.nd rfl rfl (by rfl) rfl (pi_list (pv 0)) (by rfl) rfl (by decide +kernel) (by exact trivial) (by rfl) (by exact LkL.ok trivial)
     (fun _ _ _ => pg_name (i := 0) nd1 rfl (Or.inl rfl)) (fun _ _ _ => pts_nil) (fun _ _ _ => pe_callTy (call_list_ofK K rfl) (by rfl) B.list (by rfl) (pa_cons (pv 0) pa_nil)))
   (pss_cons (ps_set (i := 3) scWalk.nd rfl (Or.inr rfl) (pe_callB call_len_seq (by rfl) B.len PySem.boot_len (pa_cons (pv 0) pa_nil)))
   (pss_cons (ps_set (i := 4) scWalk.nd rfl (Or.inr rfl) (pe_callB call_len_seq (by rfl) B.len PySem.boot_len (pa_cons (pe_ix ix_list (pv 0) pe_int (fun _ _ => rfl)) pa_nil)))
   (pss_cons (ps_for PassesOwn.never rfl (pi_list (pv 1)) (pg_name (i := 5) scWalk.nd rfl (Or.inr rfl))
    (pss_cons (ps_set (i := 6) scWalk.nd rfl (Or.inl rfl) (pe_call GF hr (by rfl) mF FF.kp bF .nil pass0 (pa_cons (pv 5) (pa_cons (pv 3) (pa_cons (pv 4) (pa_cons pe_int pa_nil))))))
    (pss_cons (ps_expr (pe_bm PySem.F.plainAttrs_list PySem.F.slot_list_extend PySem.F.type_list_extend mt_extend (pv 6) (pa_cons
     (pe_comp (N' := ["k", "cell", "high", "wide"]) (lk := [none, some 5, some 3, some 4]) rfl (pi_range1 rfl B.range (pa_cons pe_int pa_nil)) (by rfl) rfl (by decide +kernel) (by exact ⟨rfl, rfl, rfl, trivial⟩) (by rfl) (by exact LkL.ok ⟨⟨rfl, Or.inl rfl, rfl, Or.inl rfl⟩, ⟨rfl, Or.inl rfl, rfl, Or.inl rfl⟩, ⟨rfl, Or.inl rfl, rfl, Or.inl rfl⟩, trivial⟩)
      (fun _ _ _ => pg_name (i := 0) nd4 rfl (Or.inl rfl)) (fun _ _ _ => pts_nil) (fun _ _ _ => pe_ixSK K rfl (pe_call GF hr (by rfl) mF FF.kp bF .nil pass0 (pa_cons (pe_call GM hr (by rfl) mM FM.kp bM .nil pass0 (pa_cons (pv 1) (pa_cons (pv 0) pa_nil))) (pa_cons (pv 2) (pa_cons (pv 3) (pa_cons pe_int pa_nil))))) pe_int (fun _ _ => rfl))) pa_nil)))
    (pss_one (ps_for PassesOwn.never rfl (pi_list (pv 6)) (pg_name (i := 7) scWalk.nd rfl (Or.inl rfl))
     (pss_one (ps_if (pt_val (pe_call GW hr (by rfl) mW FW.kp bW .nil pass0 (pa_cons (pv 2) (pa_cons (pv 7) pa_nil))))
      (pss_one (ps_set (i := 2) scWalk.nd rfl (Or.inl rfl) (pe_call GX hr (by rfl) mX FX.kp bX .nil pass0 (pa_cons (pv 2) (pa_cons (pv 7) pa_nil))))) pss_nil)))))))
   (pss_one (ps_ret (pv 2)))))), ?_⟩
  refine ⟨_, rfl, a, rfl, ⟨_, SqL.of hL.lst⟩, fun D hD => comp_list (K := K) (a := a) (D := D) (ys := ps.map V.ref) (fun n xs σ' H' => (∃ v, σ' = [v]) /\ Same H H' /\ H' D = some (.lst xs) /\ ∃ ps' : List Addr, xs = ps'.map V.ref /\ New H H' D ps' (T.take n))
   ⟨⟨none, rfl⟩, same_upd hD, upd_same, [], rfl, by rw [List.take_zero]; exact New.nil⟩ (by omega) (fun n xs σ' H' hn ⟨_, s2, h2, ps', e2, n2⟩ => ⟨SqL.of (s2 _ _ hL.lst), h2, by rw [e2, List.length_map, n2.rws.1, List.length_take]; omega⟩) ?_ ?_⟩
  ·rintro n xs x σ' H' N kN hx ⟨⟨v, rfl⟩, s2, h2, ps', rfl, nw⟩
   have hn : n < hi := by
    rcases Nat.lt_or_ge n hi with l | l
    ·exact l
    ·rw [List.getElem?_eq_none (by rw [hpl]; exact l)] at hx; cases hx
   obtain ⟨p, hpr, gp, hpv, lp⟩ := hL.row hR hn
   rw [hpv] at hx
   cases hx
   refine gName_to (tTrue_if ?_)
   refine ⟨_, rfl, p, _, rfl, .inl (SqL.of (s2 _ _ gp)), fun b hb => ?_⟩
   have s3 := same_upd (o := .lst ((T.getD n []).map V.int)) hb
   refine ⟨s3 _ _ h2, kN _ _ _ ⟨⟨_, rfl⟩, (s2.trans s3).upd hD, upd_same, ps' ++ [b], by rw [List.map_append]; rfl, ?_⟩⟩
   rw [List.take_add_one, (rows_get hR hn).1]
   exact nw.add s2 h2 hb
  rintro xs σ' H1 ⟨⟨v, rfl⟩, s1, h1, ps1, rfl, nw⟩
  rw [hpl, <- hR.1, List.take_length] at nw
  have W1 : Wkd H1 hi wi T D ps1 T := ⟨⟨h1, nw.rws, nw.nd, nw.out⟩, tT, fun _ => rfl, fun _ => rfl⟩
  obtain ⟨p0, _, gp0, hy0, hn0⟩ := hL.row hR (show 0 < hi by omega)
  refine ⟨_, rfl, a, _, rfl, .inl (SqL.of (s1 _ _ hL.lst)), ?_⟩
  rw [hpl]
  refine ⟨_, rfl, a, _, _, _, rfl, rfl, SqL.of (s1 _ _ hL.lst), atI_nat (j := 0) hy0, p0, _, rfl, .inl (SqL.of (s1 _ _ gp0)), ?_⟩
  rw [List.length_map, hn0]
  refine ⟨_, rfl, sa, rfl, ⟨_, s1.seq hS⟩, for_list (K := K) (a := sa) (xs := ns.map V.int) (fun _ σ H2 => ∃ (b : Addr) (ps' : List Addr) (U : List (List Int)) (e5 e6 e7 : Option V), σ = [some (.ref a), some (.ref sa), some (.ref b), some (.int hi), some (.int wi), e5, e6, e7] /\ Same H H2 /\ Wkd H2 hi wi T b ps' U)
   ⟨D, ps1, T, none, none, none, rfl, s1, W1⟩ (fun i σ H2 _ ⟨_, _, _, _, _, _, _, s, _⟩ => s.seq hS) ?_ ?_⟩
  ·rintro i x σ H2 hx ⟨b, ps', U, e5, e6, e7, rfl, s2, W2⟩
   obtain ⟨c, rfl⟩ := int_at hx
   refine gName_to ?_
   refine ⟨_, rfl, _, rfl, _, rfl, c, hi, wi, 12, rfl, hi1, hi2, wi1, wi2, by omega, fun fl ys ks H3 s3 ffl gfl tys lks h4 => ?_⟩
   refine gName_to ?_
   refine ⟨_, rfl, .inl ⟨rfl, _, SqL.of gfl⟩, 20, rfl, by decide, by decide, fun D4 hD4 => ?_⟩
   refine comp_range (lo := 0) (n := 20) (D := D4) (fun m us σ' H' => (∃ v, σ' = [v, some (.int c), some (.int hi), some (.int wi)]) /\ Same H3 H' /\ H' D4 = some (.lst us) /\ ∃ js : List (List Int), Tups K H' us js /\ js.length = m /\ ∀ k ∈ js, k.length = 4)
    ⟨⟨none, rfl⟩, same_upd hD4, upd_same, [], .nil, rfl, fun k hk => absurd hk List.not_mem_nil⟩ (by omega) (fun m us σ' H' hm ⟨_, _, h6, js, t6, l6, _⟩ => ⟨h6, by rw [t6.len, l6]; exact Nat.le_refl _⟩) ?_ ?_
   ·rintro m us σ' H' N kN hm ⟨⟨v, rfl⟩, s6, h6, js, t6, l6, j4⟩
    refine gName_to (tTrue_if ?_)
    refine ⟨_, rfl, _, rfl, c, _, rfl, fun r => ?_⟩
    refine ⟨_, rfl, _, rfl, r, hi, wi, 1, rfl, hi1, hi2, wi1, wi2, by omega, fun f1 y1 k1 H7 s7 _ g7 t7 l7 h7 => ?_⟩
    obtain ⟨k0, rfl⟩ : ∃ k0, k1 = [k0] := by
     match k1, l7 with
     | [k0], _ => exact ⟨k0, rfl⟩
    obtain ⟨y0, rfl⟩ : ∃ y0, y1 = [y0] := by
     have := t7.len
     match y1, this with
     | [y0], _ => exact ⟨y0, rfl⟩
    refine .inl ⟨f1, _, _, _, rfl, rfl, SqL.of g7, atI_nat (j := 0) rfl, s7 _ _ h6, kN _ _ _ ⟨⟨_, rfl⟩, (s6.trans s7).upd hD4, upd_same, js ++ [k0], Tups.updL (s7 _ _ h6) (Tups.append (s7.tups t6) t7), by rw [List.length_append, l6]; rfl, fun k hk => (List.mem_append.mp hk).elim (j4 k) (h7 k)⟩⟩
   rintro us σ' H4 ⟨⟨v, rfl⟩, s4, h4', js, t4, l4, j4⟩
   have gfl4 := s4 _ _ gfl
   have hyl := tys.len
   have hul := t4.len
   refine ⟨fl, D4, ys, us, rfl, rfl, gfl4, h4', by omega, ?_⟩
   have g5 : (upd H4 fl (.lst (ys ++ us))) fl = some (.lst (ys ++ us)) := upd_same
   have t5 : Tups K (upd H4 fl (.lst (ys ++ us))) (ys ++ us) (ks ++ js) := Tups.updL gfl4 (Tups.append (s4.tups tys) t4)
   have h5 : ∀ k ∈ ks ++ js, k.length = 4 := fun k hk => (List.mem_append.mp hk).elim (h4 k) (j4 k)
   have s5 : Same H2 (upd H4 fl (.lst (ys ++ us))) := (s3.trans s4).upd ffl
   have W5 := W2.same s5
   generalize upd H4 fl (.lst (ys ++ us)) = H5 at g5 t5 s5 W5
   refine ⟨_, rfl, fl, rfl, ⟨_, SqL.of g5⟩, for_list (K := K) (a := fl) (xs := ys ++ us) (fun _ σ H6 => ∃ (b : Addr) (ps' : List Addr) (U : List (List Int)) (e7 : Option V), σ = [some (.ref a), some (.ref sa), some (.ref b), some (.int hi), some (.int wi), some (.int c), some (.ref fl), e7] /\ Same H5 H6 /\ Wkd H6 hi wi T b ps' U)
    ⟨b, ps', U, e7, rfl, Same.refl H5, W5⟩ (fun i σ H6 _ ⟨_, _, _, _, _, s, _⟩ => SqL.of (s _ _ g5)) ?_ ?_⟩
   ·rintro n x σ H6 hx ⟨b, ps', U, e7, rfl, s6, W6⟩
    obtain ⟨p, k, rfl, hk, hp⟩ := t5.get hx
    obtain ⟨i1, j1, k1, l1, rfl⟩ := k4_of (h5 k (List.mem_of_getElem? hk))
    have hp6 := s6.seqT hp
    refine gName_to ?_
    refine ⟨_, rfl, _, rfl, b, p, ps', U, hi, wi, i1, j1, k1, l1, rfl, W6.ll, W6.tb.rect, hi1, hp6, fun H7 s7 => ⟨_, rfl, ?_⟩⟩
    have W7 := W6.same s7
    by_cases hsw : isSw U hi wi i1 j1 k1 l1
    ·rw [decide_eq_true hsw]
     refine iteT ?_
     refine ⟨_, rfl, _, rfl, b, p, ps', U, hi, wi, i1, j1, k1, l1, rfl, W7.ll, W7.tb.rect, hi2, s7.seqT hp6, hsw, fun b2 ps2 H8 s8 hL8 => ?_⟩
     have hsn := sw_int hsw
     obtain ⟨c1, c2, c3, c4, _, _, _, _, c5, c6⟩ := sw_nat hsn
     rw [<- swp_eq W7.tb.rect c1 c3 c2 c4 c5 c6] at hL8
     obtain ⟨z1, z2, z3⟩ := sw_tab W7.tb hsn
     exact ⟨b2, ps2, _, _, rfl, s6.trans (s7.trans s8), hL8, z1, fun r => by rw [z2, W7.rs], fun c => by rw [z3, W7.cs]⟩
    ·rw [decide_eq_false hsw]
     exact iteF ⟨b, ps', U, _, rfl, s6.trans s7, W7⟩
   ·rintro σ H6 ⟨b, ps', U, e7, rfl, s6, W6⟩
    exact ⟨b, ps', U, _, _, _, rfl, s2.trans (s5.trans s6), W6⟩
  ·rintro σ H2 ⟨b, ps', U, e5, e6, e7, rfl, s2, W2⟩
   exact ⟨_, rfl, q b ps' U H2 s2 W2⟩
def spLeads (K : W.Frag) : Sp := fun vs H Q _ => ∃ (a sa la : Addr) (ps ps2 : List Addr) (T U : List (List Int)) (zs : List V) (qs : List Four) (hi wi : Nat), vs = [.ref a, .ref sa, .ref la] /\ LL H a ps T /\ Tab T hi wi /\ 1 <= hi /\ hi <= 16 /\ LL H la ps2 U /\ H sa = some (.lst zs) /\ Tups K H zs (qs.map q4) /\ Pth hi wi T qs U /\ (qs.length : Int) <= Grf.S hi (rS T wi) /\
 ∀ H', Same H H' -> Q (.bl true) H'
theorem scLeads : FnScope ["cells", "steps", "last", "here", "four"] ["cells", "steps", "last"] (defScope sLeads) := ⟨rfl, rfl, rfl, by decide +kernel, rfl, by decide +kernel, by decide +kernel⟩
set_option maxHeartbeats 4000000 in
theorem ok_leads {f fI fW fX : Addr} {fd fdI fdW fdX : FuncData} (F : Fun K "_law_leads" "_law_leads" sLeads f fd) (B : Bn mg) (FI : Fun K "_law_is_four" "_law_is_four" sIs4 fI fdI) (bI : Binds K fdI ["found"] []) (mI : mg "_law_is_four" = some (.ref fI))
  (FW : Fun K "_law_is_swap" "_law_is_swap" sIsSw fW fdW) (bW : Binds K fdW ["cells", "four"] []) (mW : mg "_law_is_swap" = some (.ref fW)) (FX : Fun K "_law_swapped" "_law_swapped" sSwL fX fdX) (bX : Binds K fdX ["cells", "four"] []) (mX : mg "_law_swapped" = some (.ref fX)) : FnOk P w K mg base CX0 2 f fd ["cells", "steps", "last"] (spLeads K) := by
 have GI : FnOk P w K mg base CX0 1 fI fdI ["found"] (spIs4 K) := ok_is4 FI B
 have GW : FnOk P w K mg base CX0 1 fW fdW ["cells", "four"] (spIsSw K) := ok_isSw FW B
 have GX : FnOk P w K mg base CX0 1 fX fdX ["cells", "four"] (spSwL K) := ok_swL FX B
 refine F.ok scLeads (fun vs H Q E h => ?_) (fun cdv A outer s H vs Q E hr h => ?_)
 ·obtain ⟨a, sa, la, ps, ps2, T, U, zs, qs, hi, wi, rfl, _⟩ := h
  rfl
 ·obtain ⟨a, sa, la, ps, ps2, T, U, zs, qs, hi, wi, rfl, hL, tT, hi1, hi2, hLU, gz, tz, hP, hlq, q⟩ := h
  have hsl := sl1000
  have hun := hr.units
  have hR := tT.rect
  have nd1 : (["row"] : List Str).Nodup := by decide +kernel
  have hpl : (ps.map V.ref).length = hi := by rw [List.length_map, hL.rws.1]; exact hR.1
  refine ⟨_, pss_cons (ps_setC (i := 3) (N' := ["row"]) (lk := [none]) scLeads.nd rfl rfl (by rfl) rfl (pi_list (pv 0)) (by rfl) rfl (by decide +kernel) (by exact trivial) (by rfl) (by exact LkL.ok trivial)
     (fun _ _ _ => pg_name (i := 0) nd1 rfl (Or.inl rfl)) (fun _ _ _ => pts_nil) (fun _ _ _ => pe_callTy (call_list_ofK K rfl) (by rfl) B.list (by rfl) (pa_cons (pv 0) pa_nil)))
   (pss_cons (ps_for PassesOwn.never rfl (pi_list (pv 1)) (pg_name (i := 4) scLeads.nd rfl (Or.inl rfl))
    (pss_cons (ps_if (PW.pt (pw_or (pt_not (pt_val (pe_call GI hr (by rfl) mI FI.kp bI .nil pass0 (pa_cons (pv 4) pa_nil)))) (pw_or1 (pt_not (pt_val (pe_call GW hr (by rfl) mW FW.kp bW .nil pass0 (pa_cons (pv 3) (pa_cons (pv 4) pa_nil)))))))) pss_never pss_nil)
    (pss_one (ps_set (i := 3) scLeads.nd rfl (Or.inl rfl) (pe_call GX hr (by rfl) mX FX.kp bX .nil pass0 (pa_cons (pv 3) (pa_cons (pv 4) pa_nil)))))))
   (pss_one (ps_ret (pe_and (pe_cmpR op_eqD (pv 3) (pv 2) (nomark _)) (pe_one (pe_cmpR op_le (pe_callB call_len_seq (by rfl) B.len PySem.boot_len (pa_cons (pv 1) pa_nil)) (pe_callB (call_sum rfl) (by rfl) B.sum (by rfl) (pa_cons
     (pe_comp (N' := ["row"]) (lk := [none]) rfl (pi_list (pv 0)) (by rfl) rfl (by decide +kernel) (by exact trivial) (by rfl) (by exact LkL.ok trivial) (fun _ _ _ => pg_name (i := 0) nd1 rfl (Or.inl rfl)) (fun _ _ _ => pts_nil) (fun _ _ _ => pe_callB (call_sumK K rfl rfl) (by rfl) B.sum (by rfl) (pa_cons (pv 0) pa_nil))) pa_nil)) (nomark _))))))), ?_⟩
  refine ⟨_, rfl, a, rfl, ⟨_, SqL.of hL.lst⟩, fun D hD => comp_list (K := K) (a := a) (D := D) (ys := ps.map V.ref) (fun n xs σ' H' => (∃ v, σ' = [v]) /\ Same H H' /\ H' D = some (.lst xs) /\ ∃ ps' : List Addr, xs = ps'.map V.ref /\ New H H' D ps' (T.take n))
   ⟨⟨none, rfl⟩, same_upd hD, upd_same, [], rfl, by rw [List.take_zero]; exact New.nil⟩ (by omega) (fun n xs σ' H' hn ⟨_, s2, h2, ps', e2, n2⟩ => ⟨SqL.of (s2 _ _ hL.lst), h2, by rw [e2, List.length_map, n2.rws.1, List.length_take]; omega⟩) ?_ ?_⟩
  ·rintro n xs x σ' H' N kN hx ⟨⟨v, rfl⟩, s2, h2, ps', rfl, nw⟩
   have hn : n < hi := by
    rcases Nat.lt_or_ge n hi with l | l
    ·exact l
    ·rw [List.getElem?_eq_none (by rw [hpl]; exact l)] at hx; cases hx
   obtain ⟨p, hpr, gp, hpv, lp⟩ := hL.row hR hn
   rw [hpv] at hx
   cases hx
   refine gName_to (tTrue_if ?_)
   refine ⟨_, rfl, p, _, rfl, .inl (SqL.of (s2 _ _ gp)), fun b hb => ?_⟩
   have s3 := same_upd (o := .lst ((T.getD n []).map V.int)) hb
   refine ⟨s3 _ _ h2, kN _ _ _ ⟨⟨_, rfl⟩, (s2.trans s3).upd hD, upd_same, ps' ++ [b], by rw [List.map_append]; rfl, ?_⟩⟩
   rw [List.take_add_one, (rows_get hR hn).1]
   exact nw.add s2 h2 hb
  rintro xs σ' H1 ⟨⟨v, rfl⟩, s1, h1, ps1, rfl, nw⟩
  rw [hpl, <- hR.1, List.take_length] at nw
  have hzl := tz.len
  rw [List.length_map] at hzl
  refine ⟨_, rfl, sa, rfl, ⟨_, SqL.of (s1 _ _ gz)⟩, for_list (K := K) (a := sa) (xs := zs) (fun n σ H2 => ∃ (b : Addr) (ps' : List Addr) (V1 : List (List Int)) (e4 : Option V), σ = [some (.ref a), some (.ref sa), some (.ref la), some (.ref b), e4] /\ Same H H2 /\ LL H2 b ps' V1 /\ Tab V1 hi wi /\ Pth hi wi V1 (qs.drop n) U)
   ⟨D, ps1, T, none, rfl, s1, ⟨h1, nw.rws, nw.nd, nw.out⟩, tT, by rw [List.drop_zero]; exact hP⟩ (fun i σ H2 _ ⟨_, _, _, _, _, s, _⟩ => SqL.of (s _ _ gz)) ?_ ?_⟩
  ·rintro n x σ H2 hx ⟨b, ps', V1, e4, rfl, s2, l2, tV, pV⟩
   obtain ⟨p, k, rfl, hk, hp⟩ := tz.get hx
   rw [List.getElem?_map] at hk
   cases hq : qs[n]? with
   | none => rw [hq] at hk; cases hk
   | some q0 =>
   rw [hq] at hk
   cases hk
   have hnl : n < qs.length := by
    rcases Nat.lt_or_ge n qs.length with z | z
    ·exact z
    ·rw [List.getElem?_eq_none z] at hq; cases hq
   rw [List.drop_eq_getElem_cons hnl, show qs[n] = q0 by rw [List.getElem?_eq_getElem hnl] at hq; cases hq; rfl] at pV
   obtain ⟨is, pV⟩ := pV
   have hp2 := s2.seqT hp
   refine gName_to ?_
   refine ⟨_, rfl, p, q4 q0, rfl, hp2, rfl, ⟨_, rfl, iteF ?_⟩⟩
   refine ⟨_, rfl, _, rfl, b, p, ps', V1, hi, wi, _, _, _, _, rfl, l2, tV.rect, hi1, hp2, fun H3 s3 => ⟨_, rfl, ?_⟩⟩
   have is' : isSw V1 hi wi (q0.1 : Int) (q0.2.1 : Int) (q0.2.2.1 : Int) (q0.2.2.2 : Int) := is
   rw [decide_eq_true is']
   refine iteF ?_
   refine ⟨_, rfl, _, rfl, b, p, ps', V1, hi, wi, _, _, _, _, rfl, l2.same s3, tV.rect, hi2, s3.seqT hp2, is, fun b2 ps2' H4 s4 hL4 => ?_⟩
   obtain ⟨c1, c2, c3, c4, _, _, _, _, c5, c6⟩ := sw_nat is
   rw [Int.toNat_natCast, Int.toNat_natCast, Int.toNat_natCast, Int.toNat_natCast, <- swp_eq tV.rect c1 c3 c2 c4 c5 c6] at hL4
   exact ⟨b2, ps2', _, _, rfl, s2.trans (s3.trans s4), hL4, (sw_tab tV is).1, pV⟩
  ·rintro σ H2 ⟨b, ps', V1, e4, rfl, s2, l2, tV, pV⟩
   rw [hzl, List.drop_length] at pV
   have e : V1 = U := pV
   subst e
   refine ⟨_, rfl, _, rfl, ll_eqD hun l2 (hLU.same s2) ?_⟩
   rw [decide_eq_true rfl]
   refine ⟨_, rfl, iteT ?_⟩
   refine ⟨_, rfl, sa, _, rfl, .inl (SqL.of (s2 _ _ gz)), _, rfl, a, rfl, ⟨_, SqL.of (s2 _ _ hL.lst)⟩, fun D5 hD5 => comp_list (K := K) (a := a) (D := D5) (ys := ps.map V.ref) (fun n xs σ' H' => (∃ v, σ' = [v]) /\ Same H2 H' /\ H' D5 = some (.lst xs) /\ xs = ((T.take n).map List.sum).map V.int)
    ⟨⟨none, rfl⟩, same_upd hD5, upd_same, by rw [List.take_zero]; rfl⟩ (by omega) (fun n xs σ' H' hn ⟨_, s6, h6, e6⟩ => ⟨SqL.of (s6 _ _ (s2 _ _ hL.lst)), h6, by rw [e6, List.length_map, List.length_map, List.length_take]; omega⟩) ?_ ?_⟩
   ·rintro n xs x σ' H' N kN hx ⟨⟨v, rfl⟩, s6, h6, rfl⟩
    have hn : n < hi := by
     rcases Nat.lt_or_ge n hi with l | l
     ·exact l
     ·rw [List.getElem?_eq_none (by rw [hpl]; exact l)] at hx; cases hx
    obtain ⟨p, hpr, gp, hpv, lp⟩ := hL.row hR hn
    rw [hpv] at hx
    cases hx
    refine gName_to (tTrue_if ?_)
    refine ⟨_, rfl, p, _, rfl, SqL.of (s6 _ _ (s2 _ _ gp)), h6, kN _ _ _ ⟨⟨_, rfl⟩, s6.upd hD5, upd_same, ?_⟩⟩
    rw [List.take_add_one, (rows_get hR hn).1, List.map_append, List.map_append]
    rfl
   rintro xs σ' H6 ⟨⟨v, rfl⟩, s6, h6, rfl⟩
   rw [hpl, <- hR.1, List.take_length] at h6
   refine ⟨D5, _, rfl, SqL.of h6, _, _, rfl, rfl, ?_⟩
   rw [rs_sum hR]
   have e : decide ((zs.length : Int) <= Grf.S hi (rS T wi)) = true := decide_eq_true (by rw [hzl]; exact hlq)
   show Q (.bl (decide ((zs.length : Int) <= Grf.S hi (rS T wi)))) H6
   rw [e]
   exact q _ (s2.trans s6)
structure Cl45 (K : W.Frag) (mg : Str -> Option Value) (CT CU CB CX : Addr) : Prop where
 mT : mg "TallyError" = some (.ref CT)
 mU : mg "Unlike" = some (.ref CU)
 mB : mg "BadTally" = some (.ref CB)
 mX : mg "NoExchange" = some (.ref CX)
 cU : ExcC K CU
 kU : ExcK K CU
 xU : PySem.W.exmOne K (.ref CU) (.ref CT) = some true
 eU : PySem.W.kitOne K (.ref CU) (.ref CU) = some true
 vU : PySem.W.kitOne K (.ref CU) (.type "ValueError") = some true
 aU : PySem.W.kitAny K (.ref CU) [.ref CB, .ref CX] = some false
 cX : ExcC K CX
def spRefd (K : W.Frag) : Sp := fun vs H Q _ => ∃ (a b : Addr) (T U : List (List Int)) (hi wi hj wj : Nat), vs = [.ref a, .ref b] /\ TTa K H a T /\ TTa K H b U /\ Tab T hi wi /\ Tab U hj wj /\ 1 <= hi /\ hi <= 16 /\ wi <= 16 /\ 1 <= hj /\ hj <= 16 /\ wj <= 16 /\ ¬ (rsum T = rsum U /\ csum T wi = csum U wj) /\ ∀ H' : Hp, Same H H' -> Q (.bl true) H'
theorem scRefd : FnScope ["one", "two", "right", "e"] ["one", "two"] (defScope sRef) := ⟨rfl, rfl, rfl, by decide +kernel, rfl, by decide +kernel, by decide +kernel⟩
theorem ok_refd {f fL CT CU CB CX : Addr} {fd fdL : FuncData} (F : Fun K "_law_refused" "_law_refused" sRef f fd) (B : Bn mg) (FL : Fun K "swaps_led" "swaps_led" sSLed fL fdL) (bL : Binds K fdL ["one", "two"] []) (mL : mg "swaps_led" = some (.ref fL)) (GL : FnOk P w K mg base (CXE P w) 5 fL fdL ["one", "two"] (spSLed K CU))
  (L : Cl45 K mg CT CU CB CX) : FnOk P w K mg base CX0 6 f fd ["one", "two"] (spRefd K) := by
 refine F.ok scRefd (fun vs H Q E h => ?_) (fun cdv A outer s H vs Q E hr h => ?_)
 ·obtain ⟨a, b, T, U, hi, wi, hj, wj, rfl, _⟩ := h
  rfl
 ·obtain ⟨a, b, T, U, hi, wi, hj, wj, rfl, hTa, hTb, tT, tU, hi1, hi2, hw, hj1, hj2, hw2, hn, q⟩ := h
  refine ⟨_, pss_cons (ps_set (i := 2) scRefd.nd rfl (Or.inl rfl) pe_bl)
   (pss_cons (ps_try (i := 3) scRefd.nd rfl rfl (by rfl) L.mT rfl rfl
     (fun _ _ => pss_one (ps_expr (pe_callX GL hr (by rfl) mL FL.kp bL passTry (pa_cons (pv 0) (pa_cons (pv 1) pa_nil)))))
     (fun _ => pss_one (ps_set (i := 2) scRefd.nd rfl (Or.inl rfl) (pe_and (pe_callB (call_isinstE K rfl) (by rfl) B.isin (by rfl) (pa_cons (pv 3) (pa_cons (pe_glob (v := .ref CU) (by rfl) L.mU rfl) pa_nil)))
      (pe_and (pe_callB (call_isinstE K rfl) (by rfl) B.isin (by rfl) (pa_cons (pv 3) (pa_cons (pe_bltn (v := .ty "ValueError") (by rfl) B.ve (by rfl) rfl) pa_nil)))
      (pe_one (pe_not (pe_callB (call_isinstET K rfl) (by rfl) B.isin (by rfl) (pa_cons (pv 3) (pa_cons (pe_tup (pa_cons (pe_glob (v := .ref CB) (by rfl) L.mB rfl) (pa_cons (pe_glob (v := .ref CX) (by rfl) L.mX rfl) pa_nil))) pa_nil))))))))))
   (pss_one (ps_ret (pv 2)))), ?_⟩
  refine ⟨fun σ' cls _ H' => σ' = [some (.ref a), some (.ref b), some (.bl false), none] /\ Same H H' /\ cls = .ref CU, ?_, ?_⟩
  ·exact ⟨_, rfl, _, rfl, a, b, T, U, hi, wi, hj, wj, rfl, hTa, hTb, tT, tU, hi1, hi2, hw, hj1, hj2, hw2, fun h => absurd h hn, fun _ H1 s1 => ⟨rfl, s1, rfl⟩⟩
  ·rintro σ' cls H' ⟨rfl, s0, rfl⟩
   refine ⟨L.xU, fun x hx => ?_⟩
   have s1 := same_upd (o := XO x (.ref CU)) hx
   have gx : (upd H' x (XO x (.ref CU))) x = some (XO x (.ref CU)) := upd_same
   refine ⟨_, rfl, x, CU, .ref CU, _, true, rfl, gx, L.kU, rfl, L.eU, true, rfl, iteT ⟨_, rfl, x, CU, .ty "ValueError", _, true, rfl, gx, L.kU, rfl, L.vU, true, rfl, iteT ⟨_, rfl, (by show 2 <= sizeLine; decide), fun tp htp => ?_⟩⟩⟩
   have s2 := same_upd (o := .tup [.ref CB, .ref CX]) htp
   refine ⟨x, CU, tp, [CB, CX], false, rfl, s2 _ _ gx, L.kU, upd_same, L.aU, false, rfl, ?_⟩
   exact ⟨_, rfl, q _ (s0.trans (s1.trans s2))⟩
end
end Web
namespace L2
open PySem PySem.Spec PyProof.Rows
theorem noFill_tuple_mul : fillsNumberSlot (.type "tuple") "mul" = pure false :=
 PySem.fillsNumberSlot_seq (id := "tuple.__mul__") (r := some (.builtin "tuple.__rmul__")) PySem.F.slot_tuple_mul.lookup (by decide +kernel) PySem.F.slot_tuple_rmul.lookup (by decide +kernel)
theorem repeat_tuple : seqRepeat? (.type "tuple") = pure (some (.builtin "tuple.__mul__")) := by
 unfold seqRepeat?
 rw [PySem.seqSlot_of (T := "tuple") (name := "__mul__") (id := "tuple.__mul__") PySem.F.slot_tuple_mul.lookup (by decide +kernel), PySem.seqSlot_of (T := "tuple") (name := "__rmul__") (id := "tuple.__rmul__") PySem.F.slot_tuple_rmul.lookup (by decide +kernel)]
 rfl
theorem rmul_int_tuple (a : Int) (t : Tok) (l : Addr) (items : Array Value) (n : Nat) (dd : Option Addr) (sl : Array (Option Value)) :
  Meets (Builtin.«int.__rmul__» ⟨[.int a t, .ref l], []⟩) (fun _ R s => s.heap.get? l = some { cls := .type "tuple", dict := dd, data := .seq items n, slots := sl } /\ R (.ok (.ret Value.notImplemented)) s) :=
 .of_wp fun prog w A R s h => by obtain ⟨hp, g, d, tk, os⟩ := s; obtain ⟨hl, h⟩ := h; wp_walk; exact ⟨_, rfl, h⟩
theorem tuple_mulW1 (l : Addr) (v : Value) (n : Nat) (dd : Option Addr) (sl : Array (Option Value)) (u : Tok) :
  Meets (Builtin.«tuple.__mul__» ⟨[.ref l, .int 1 u], []⟩) (fun _ R s => s.heap.get? l = some { cls := .type "tuple", dict := dd, data := .seq #[v] n, slots := sl } /\ R (.ok (.ret (Value.ref l))) s) :=
 .of_wp fun prog w A R s h => by obtain ⟨hp, g, d, tk, os⟩ := s; obtain ⟨hl, h⟩ := h; have f1 := AutoSeq1.idx_int; have f2 := AutoSeq1.sub_tuple_tuple; wp_walk using wpAny_loadPart' hl; exact ⟨_, rfl, h⟩
theorem rep_fold (v : Value) (m : Nat) : List.foldl (fun x1 x2 => x1 ++ x2) #[] (List.replicate m #[v]) = (List.replicate m [v]).flatten.toArray := by
 have := foldl_rep [v] m []
 rw [List.nil_append] at this
 exact this
theorem tuple_mulW2 (l : Addr) (v : Value) (n : Nat) (dd : Option Addr) (sl : Array (Option Value)) (x : Int) (u : Tok) (h1 : 2 <= x) (h2 : x <= 100) :
  Meets (Builtin.«tuple.__mul__» ⟨[.ref l, .int x u], []⟩) (fun _ R s => s.heap.get? l = some { cls := .type "tuple", dict := dd, data := .seq #[v] n, slots := sl } /\ R (.ok (.ret (Value.ref s.heap.objs.size))) { s with heap := s.heap.push { cls := Value.type "tuple", data := Data.seq (List.foldl (fun x1 x2 => x1 ++ x2) #[] (List.replicate x.toNat #[v])) }, toks := s.toks }) :=
 .of_wp fun prog w A R s h => by
  obtain ⟨hp, g, d, tk, os⟩ := s; obtain ⟨hl, h⟩ := h; have f1 := AutoSeq1.idx_int; have f2 := AutoSeq1.sub_tuple_tuple
  wp_walk using wpAny_loadPart' hl
  refine wpAny_ite_false (by simp; omega) ?_
  wp_walk using wpAny_loadPart' hl
  refine wpAny_ite_false (by simp; omega) ?_
  wp_walk using wpAny_loadPart' hl
  refine wpAny_ite_false (by simp; omega) ?_
  wp_walk using wpAny_loadPart' hl
  refine wpAny_ite_split (fun hab => absurd hab (by simp; omega)) (fun _ => ?_)
  wp_walk using wpAny_loadPart' hl
  refine wpAny_ite_split (fun hab => absurd hab (by unfold Builtin.Tuple.tupleTooMany; have : 1000 <= sizeLine := (by decide); simp; omega)) (fun _ => ?_)
  wp_walk using wpAny_loadPart' hl
  refine wpAny_ite_split (fun hab => absurd hab (by rw [rep_fold, List.size_toArray, len_rep]; have : 1000 <= sizeLine := (by decide); simp; omega)) (fun _ => ?_)
  wp_walk using wpAny_loadPart' hl
  exact ⟨_, rfl, h⟩
section
variable {X : Cx}
def rRepT (K : W.Frag) : R2 := fun x y H Q => ∃ (a : Addr) (z : Int) (n : Nat), x = .ref a /\ y = .int n /\ SqT K H a [.int z] /\ 1 <= n /\ n <= 100 /\ ∀ (p : Addr) (H' : Hp), Same H H' -> SqT K H' p ((List.replicate n z).map V.int) -> Q (.ref p) H'
theorem vals_rep {z : Int} {t : Tok} : ∀ n : Nat, Vals ((List.replicate n z).map V.int) (List.replicate n [Value.int z t]).flatten
 | 0 => .nil
 | n + 1 => by
  rw [List.replicate_succ, List.replicate_succ, List.map_cons, List.flatten_cons]
  exact .cons ⟨t, rfl⟩ (vals_rep n)
theorem op_repT : OpR X (binaryOp .Mult) (rRepT X.K) := by
 intro pins s σ H x y v u Q I rx ry h
 obtain ⟨a, z, n, rfl, rfl, ha, h1, h2, q⟩ := h
 cases rx
 obtain ⟨t, rfl⟩ := ry
 obtain ⟨its, r1, p1, _⟩ := I.tuple ha
 obtain ⟨w1, rfl, t', rfl⟩ := vals1 r1
 obtain ⟨⟨cls, dd, data, sl⟩, ho, hc, k, hd⟩ := id p1
 simp only at hc hd
 subst hc hd
 refine PySem.wpAny_binaryOp_repeat_ref (T := "tuple") (U := "int") (by decide) ⟨_, ho, rfl⟩ (fun s' => typeIs_int s' n t) noFill_tuple_mul PySem.F.fills_int_mul PySem.F.slot_int_rmul repeat_tuple PySem.F.slot_int_index.lookup
  (call_meets PySem.F.slot_int_rmul (typeIs_int s n t) PySem.F.entry_int_rmul (PySem.F.args_int_rmul_2 _ _) (rmul_int_tuple n t a _ k dd sl) ⟨ho, rfl, ⟨_, ho, rfl⟩, ?_⟩)
 by_cases hn : n = 1
 ·subst hn
  refine call_meets PySem.F.slot_tuple_mul ⟨_, ho, rfl⟩ PySem.F.entry_tuple_mul (PySem.F.args_tuple_mul_2 _ _) (tuple_mulW1 a (.int z t') k dd sl t) ⟨ho, ?_⟩
  exact ⟨.ref a, H, I, rfl, q a H (fun _ _ e => e) ha⟩
 ·refine call_meets PySem.F.slot_tuple_mul ⟨_, ho, rfl⟩ PySem.F.entry_tuple_mul (PySem.F.args_tuple_mul_2 _ _) (tuple_mulW2 a (.int z t') k dd sl (n : Int) t (by omega) (by omega)) ⟨ho, ?_⟩
  rw [Int.toNat_natCast, rep_fold]
  have hfr : H s.heap.objs.size = none := I.hok.fresh (Nat.le_refl _)
  refine ⟨.ref s.heap.objs.size, _, I.laid (t' := s.toks) (o := .tup ((List.replicate n z).map V.int)) (fun b ob q => Heap.get?_push_of_some _ q) (Nat.le_refl _) ?_, rfl, q _ _ (fun b o e => by rw [upd_ne (ne_of_none e hfr)]; exact e) (SqT.of upd_same)⟩
  exact ⟨by rw [List.length_map, List.length_replicate]; exact Nat.le_trans (show n <= 1000 by omega) (by decide), _, vals_rep n, IsTup.new _ _⟩
end
end L2
namespace Web
open PySem L2
theorem op_catTK {X : Cx} (K : W.Frag) (hK : X.K = K) : OpR X (binaryOp .Add) (rCatT K) := by subst hK; exact op_catT
theorem list_getD {xs ys : List Int} (hl : xs.length = ys.length) (h : ∀ j, j < ys.length -> xs.getD j 0 = ys.getD j 0) : xs = ys := by
 refine List.ext_getElem hl fun j h1 h2 => ?_
 have := h j h2
 rw [List.getD_eq_getElem?_getD, List.getD_eq_getElem?_getD, List.getElem?_eq_getElem h1, List.getElem?_eq_getElem h2] at this
 exact this
theorem ent_mem {T : List (List Int)} {hi wi r c : Nat} (h : Rect T hi wi) (hr : r < hi) (hc : c < wi) : ∃ x ∈ T, ent T r c ∈ x := by
 have hl : r < T.length := by rw [h.1]; exact hr
 have hw : (T[r]).length = wi := h.2 _ (List.getElem_mem hl)
 refine ⟨T[r], List.getElem_mem hl, ?_⟩
 unfold ent
 rw [List.getD_eq_getElem?_getD (l := T), List.getElem?_eq_getElem hl]
 show T[r].getD c 0 ∈ T[r]
 rw [List.getD_eq_getElem?_getD, List.getElem?_eq_getElem (by omega)]
 exact List.getElem_mem _
theorem tab_of {T : List (List Int)} {hi wi : Nat} (h : Rect T hi wi) (b : ∀ r ∈ T, ∀ x ∈ r, x = 0 \/ x = 1) : Tab T hi wi := ⟨h, fun r c hr hc => by
 obtain ⟨x, hx, he⟩ := ent_mem h hr hc
 exact b x hx _ he⟩
theorem tab_mem {T : List (List Int)} {hi wi : Nat} (t : Tab T hi wi) : ∀ r ∈ T, ∀ x ∈ r, x = 0 \/ x = 1 := fun r hr x hx => by
 obtain ⟨i, hi', rfl⟩ := List.mem_iff_getElem.mp hr
 obtain ⟨j, hj', rfl⟩ := List.mem_iff_getElem.mp hx
 have h1 : i < hi := by rw [<- t.rect.1]; exact hi'
 have h2 : j < wi := by rw [<- t.rect.2 _ (List.getElem_mem hi')]; exact hj'
 have := t.b01 i j h1 h2
 unfold ent at this
 rw [List.getD_eq_getElem?_getD (l := T), List.getElem?_eq_getElem hi'] at this
 change T[i].getD j 0 = 0 \/ T[i].getD j 0 = 1 at this
 rw [List.getD_eq_getElem?_getD, List.getElem?_eq_getElem hj'] at this
 exact this
theorem rsum_len {T : List (List Int)} {hi wi : Nat} (h : Rect T hi wi) : (rsum T).length = hi := by unfold rsum; rw [List.length_map]; exact h.1
theorem csum_len (T : List (List Int)) (wi : Nat) : (csum T wi).length = wi := by unfold csum; rw [List.length_map, List.length_range]
theorem sums_of {T U : List (List Int)} {hi wi : Nat} (t : Rect T hi wi) (u : Rect U hi wi) (h1 : ∀ r, rS U wi r = rS T wi r) (h2 : ∀ c, cS U hi c = cS T hi c) : rsum T = rsum U /\ csum T wi = csum U wi := by
 constructor
 ·refine list_getD (by rw [rsum_len t, rsum_len u]) fun j hj => ?_
  rw [rsum_len u] at hj
  rw [rsum_get t hj, rsum_get u hj, h1]
 ·refine list_getD (by rw [csum_len, csum_len]) fun j hj => ?_
  rw [csum_len] at hj
  rw [csum_get t hj, csum_get u hj, h2]
theorem tab_row {U : List (List Int)} {hi wi : Nat} (t : Tab U hi wi) : Tab (U ++ [List.replicate wi 0]) (hi + 1) wi := by
 refine tab_of ⟨by rw [List.length_append, t.rect.1]; rfl, fun r hr => ?_⟩ fun r hr => ?_
 ·rcases List.mem_append.mp hr with h | h
  ·exact t.rect.2 r h
  ·rw [List.mem_singleton.mp h]; exact List.length_replicate
 ·rcases List.mem_append.mp hr with h | h
  ·exact tab_mem t r h
  ·intro x hx
   rw [List.mem_singleton.mp h] at hx
   exact .inl (List.eq_of_mem_replicate hx)
theorem tab_col {U : List (List Int)} {hi wi : Nat} (t : Tab U hi wi) : Tab (U.map (· ++ [0])) hi (wi + 1) := by
 refine tab_of ⟨by rw [List.length_map, t.rect.1], fun r hr => ?_⟩ fun r hr x hx => ?_
 ·obtain ⟨r', h, rfl⟩ := List.mem_map.mp hr
  rw [List.length_append, t.rect.2 r' h]; rfl
 ·obtain ⟨r', h, rfl⟩ := List.mem_map.mp hr
  rcases List.mem_append.mp hx with hx | hx
  ·exact tab_mem t r' h x hx
  ·exact .inl (List.mem_singleton.mp hx)
theorem tab_flp {U : List (List Int)} {hi wi r c : Nat} (t : Tab U hi wi) (hr : r < hi) (hc : c < wi) : Tab (flp U r c) hi wi := ⟨rect_flp t.rect hr, fun r' c' h1 h2 => by
 rw [ent_flp t.rect hr hc]
 have := t.b01 r' c' h1 h2
 have := t.b01 r c hr hc
 split
 ·omega
 ·assumption⟩
theorem flp_sum {U : List (List Int)} {hi wi r c : Nat} (t : Tab U hi wi) (hr : r < hi) (hc : c < wi) : rS (flp U r c) wi r ≠ rS U wi r := by
 have e := ent_flp t.rect hr hc
 have h : rS (flp U r c) wi r = rS U wi r + (ent (flp U r c) r c - ent U r c) := Grf.S_pick (f := fun x => ent (flp U r c) r x) (g := fun x => ent U r x) hc fun x _ hx => by
  show ent (flp U r c) r x = ent U r x
  rw [e, if_neg fun z => hx z.2]
 rw [e, if_pos ⟨rfl, rfl⟩] at h
 have := t.b01 r c hr hc
 omega
theorem lt_neD {K : W.Frag} {A : Around} {H : Hp} {Q : VK} {l u : Addr} {zs us : List V} {ks js : List (List Int)} (hun : A.units + 64 < cLine) (gl : H l = some (.lst zs)) (tz : Tups K H zs ks) (gu : H u = some (.lst us)) (tu : Tups K H us js) (k : Q (.bl (!decide (ks = js))) H) : rEqD K A true (.ref l) (.ref u) H Q := by
 refine ⟨.list (ks.map dP), .list (js.map dP), Dt.mkL (SqL.of gl) (DtAll.tups tz), Dt.mkL (SqL.of gu) (DtAll.tups tu), by simp [PyData.canLay0, lay_pairs], by simp [PyData.canLay0, lay_pairs], ?_, ?_⟩
 ·refine un_lt hun (Nat.le_trans (Nat.min_le_left _ _) ?_)
  have := dep_pairs ks
  simp only [PyData.depth]
  omega
 ·have e : PyData.eqv (.list (ks.map dP)) (.list (js.map dP)) = decide (ks = js) := by simp only [PyData.eqv, eqv_pairs]
  rw [e]
  exact k
seal L2.PE L2.PA L2.PS L2.PSs L2.PT
section
variable {P : Program} {w : World} {K : W.Frag} {mg : Str -> Option Value} {base : Heap}
def spLaw (K : W.Frag) : Sp := fun vs H Q _ => ∃ (a : Addr) (ns : List Int), vs = [.ref a] /\ SqL K H a (ns.map V.int) /\ ns.length <= 63 /\ ∀ H', Q (.bl true) H'
theorem scLaw : FnScope ["script", "high", "wide", "cells", "last", "one", "two", "found", "kept", "cell", "at", "to"] ["script"] (defScope sLaw) := ⟨rfl, rfl, rfl, by decide +kernel, rfl, by decide +kernel, by decide +kernel⟩
set_option maxHeartbeats 4000000 in
theorem ok_law0 {f fC fD fT fW fO fL fE fR CU : Addr} {fd fdC fdD fdT fdW fdO fdL fdE fdR : FuncData} (F : Fun K "law" "law" sLaw f fd) (B : Bn mg) (FC : Fun K "_law_cell" "_law_cell" sCellS fC fdC) (bC : Binds K fdC ["script", "k"] []) (mC : mg "_law_cell" = some (.ref fC))
  (FD : Fun K "_law_sides" "_law_sides" sSides fD fdD) (bD : Binds K fdD ["script", "most"] []) (mD : mg "_law_sides" = some (.ref fD)) (GD : FnOk P w K mg base CX0 6 fD fdD ["script", "most"] (spSides K))
  (FT : Fun K "_law_table" "_law_table" sTab fT fdT) (bT : Binds K fdT ["script", "start", "high", "wide"] []) (mT : mg "_law_table" = some (.ref fT)) (GT : FnOk P w K mg base CX0 6 fT fdT ["script", "start", "high", "wide"] (spTab K))
  (FW : Fun K "_law_walked" "_law_walked" sWalk fW fdW) (bW : Binds K fdW ["cells", "some"] []) (mW : mg "_law_walked" = some (.ref fW)) (GW : FnOk P w K mg base CX0 6 fW fdW ["cells", "some"] (spWalk K))
  (FO : Fun K "_law_told" "_law_told" sToldT fO fdO) (bO : Binds K fdO ["cells"] []) (mO : mg "_law_told" = some (.ref fO))
  (FL : Fun K "swaps_led" "swaps_led" sSLed fL fdL) (bL : Binds K fdL ["one", "two"] []) (mL : mg "swaps_led" = some (.ref fL)) (GL : FnOk P w K mg base (CXE P w) 6 fL fdL ["one", "two"] (spSLed K CU))
  (FE : Fun K "_law_leads" "_law_leads" sLeads fE fdE) (bE : Binds K fdE ["cells", "steps", "last"] []) (mE : mg "_law_leads" = some (.ref fE)) (GE : FnOk P w K mg base CX0 6 fE fdE ["cells", "steps", "last"] (spLeads K))
  (FR : Fun K "_law_refused" "_law_refused" sRef fR fdR) (bR : Binds K fdR ["one", "two"] []) (mR : mg "_law_refused" = some (.ref fR)) (GR : FnOk P w K mg base CX0 6 fR fdR ["one", "two"] (spRefd K)) : FnOk P w K mg base CX0 7 f fd ["script"] (spLaw K) := by
 have GC : FnOk P w K mg base CX0 6 fC fdC ["script", "k"] (spCell K) := (ok_cell FC B).mono (by decide)
 have GO : FnOk P w K mg base CX0 6 fO fdO ["cells"] (spToldT K) := (ok_toldT FO B).mono (by decide)
 refine F.ok scLaw (fun vs H Q E h => ?_) (fun cdv A outer s H vs Q E hr h => ?_)
 ·obtain ⟨a, ns, rfl, _⟩ := h
  rfl
 ·obtain ⟨sc, ns, rfl, hS, hlen, q⟩ := h
  have hsl := sl1000
  have hun := hr.units
  have nd1 : (["row"] : List Str).Nodup := by decide +kernel
  refine ⟨_, pss_cons (ps_asg (pe_call GD hr (by rfl) mD FD.kp bD .nil pass0 (pa_cons (pv 0) (pa_cons pe_int pa_nil))) (pg_tup rfl (pgs_cons (pg_name (i := 1) scLaw.nd rfl (Or.inl rfl)) (pgs_cons (pg_name (i := 2) scLaw.nd rfl (Or.inl rfl)) pgs_nil))))
   (pss_cons (ps_set (i := 3) scLaw.nd rfl (Or.inl rfl) (pe_call GT hr (by rfl) mT FT.kp bT .nil pass0 (pa_cons (pv 0) (pa_cons pe_int (pa_cons (pv 1) (pa_cons (pv 2) pa_nil))))))
   (pss_cons (ps_set (i := 4) scLaw.nd rfl (Or.inl rfl) (pe_call GW hr (by rfl) mW FW.kp bW .nil pass0 (pa_cons (pv 3) (pa_cons (pe_op op_cat (pe_lst (pa_cons (pe_call GC hr (by rfl) mC FC.kp bC .nil pass0 (pa_cons (pv 0) (pa_cons pe_int pa_nil))) pa_nil)) (pe_slice sl_list (pv 0) (po_some pe_int) (po_some pe_int))) pa_nil))))
   (pss_cons (ps_set (i := 5) scLaw.nd rfl (Or.inl rfl) (pe_call GO hr (by rfl) mO FO.kp bO .nil pass0 (pa_cons (pv 3) pa_nil)))
   (pss_cons (ps_set (i := 6) scLaw.nd rfl (Or.inl rfl) (pe_call GO hr (by rfl) mO FO.kp bO .nil pass0 (pa_cons (pv 4) pa_nil)))
   (pss_cons (ps_set (i := 7) scLaw.nd rfl (Or.inl rfl) (pe_call GL hr (by rfl) mL FL.kp bL .nil (passN (P := P) (w := w)) (pa_cons (pv 5) (pa_cons (pv 6) pa_nil))))
   (pss_cons (ps_if (PW.pt (pw_or (pt_not (pt_val (pe_callB (call_isinstK K rfl) (by rfl) B.isin (by rfl) (pa_cons (pv 7) (pa_cons (pe_bltn (v := .ty "list") (by rfl) B.list (by rfl) rfl) pa_nil))))) (pw_or1 (pt_not (pt_val (pe_call GE hr (by rfl) mE FE.kp bE .nil pass0 (pa_cons (pv 3) (pa_cons (pv 7) (pa_cons (pv 4) pa_nil))))))))) pss_never pss_nil)
   (pss_cut (ps_if (PW.pt (pw_or (PW.pt (pw_and (pt_cmpR op_eqD (pv 5) (pv 6) (nomark _)) (pw_and1 (pt_cmpR op_neD (pv 7) (pe_lst pa_nil) (nomark _))))) (pw_or1 (pt_cmpR op_neD (pe_call GL hr (by rfl) mL FL.kp bL .nil (passN (P := P) (w := w)) (pa_cons (pv 5) (pa_cons (pv 5) pa_nil))) (pe_lst pa_nil) (nomark _))))) pss_never pss_nil)
   (pss_cons (ps_set (i := 8) scLaw.nd rfl (Or.inl rfl) (pe_callTy call_list_of (by rfl) B.list (by rfl) (pa_cons (pv 7) pa_nil)))
   (pss_cons (ps_expr (pe_bm PySem.F.plainAttrs_list PySem.F.slot_list_append PySem.F.type_list_append mt_append (pv 7) (pa_cons pe_int pa_nil)))
   (pss_cons (ps_if (pt_cmpR op_neD (pe_call GL hr (by rfl) mL FL.kp bL .nil (passN (P := P) (w := w)) (pa_cons (pv 5) (pa_cons (pv 6) pa_nil))) (pv 8) (nomark _)) pss_never pss_nil)
   (pss_cut (ps_if (PW.pt (pw_and (pt_cmpR op_lt (pv 1) pe_int (nomark _)) (pw_and1 (pt_not (pt_val (pe_call GR hr (by rfl) mR FR.kp bR .nil pass0 (pa_cons (pv 5) (pa_cons (pe_op op_catT (pv 6) (pe_tup (pa_cons (pe_op op_repT (pe_tup (pa_cons pe_int pa_nil)) (pv 2)) pa_nil))) pa_nil)))))))) pss_never pss_nil)
   (pss_cut (ps_if (PW.pt (pw_and (pt_cmpR op_lt (pv 2) pe_int (nomark _)) (pw_and1 (pt_not (pt_val (pe_call GR hr (by rfl) mR FR.kp bR .nil pass0 (pa_cons (pv 5) (pa_cons (pe_callTy call_tuple_of (by rfl) B.tuple (by rfl) (pa_cons
     (pe_comp (N' := ["row"]) (lk := [none]) rfl (pi_tup (pv 6)) (by rfl) rfl (by decide +kernel) (by exact trivial) (by rfl) (by exact LkL.ok trivial) (fun _ _ _ => pg_name (i := 0) nd1 rfl (Or.inl rfl)) (fun _ _ _ => pts_nil) (fun _ _ _ => pe_op (op_catTK K rfl) (pv 0) (pe_tup (pa_cons pe_int pa_nil)))) pa_nil)) pa_nil)))))))) pss_never pss_nil)
   (pss_cons (ps_set (i := 9) scLaw.nd rfl (Or.inl rfl) (pe_call GC hr (by rfl) mC FC.kp bC .nil pass0 (pa_cons (pv 0) (pa_cons pe_int pa_nil))))
   (pss_cons (ps_set (i := 10) scLaw.nd rfl (Or.inl rfl) (pe_op op_mod (pv 9) (pv 1)))
   (pss_cons (ps_set (i := 11) scLaw.nd rfl (Or.inl rfl) (pe_op op_mod (pe_op op_fdiv (pv 9) (pv 1)) (pv 2)))
   (pss_cons (ps_asg (pe_op op_sub pe_int (pe_ix ix_list (pe_ix ix_list (pv 4) (pv 10) (fun _ _ => rfl)) (pv 11) (fun _ _ => rfl))) (pg_sub (pe_ix ix_list (pv 4) (pv 10) (fun _ _ => rfl)) (pv 11) set_list))
   (pss_cons (ps_set (i := 6) scLaw.nd rfl (Or.inl rfl) (pe_call GO hr (by rfl) mO FO.kp bO .nil pass0 (pa_cons (pv 4) pa_nil)))
   (pss_one (ps_ret (pe_and (pe_call GR hr (by rfl) mR FR.kp bR .nil pass0 (pa_cons (pv 5) (pa_cons (pv 6) pa_nil))) (pe_one (pe_call GR hr (by rfl) mR FR.kp bR .nil pass0 (pa_cons (pv 6) (pa_cons (pv 5) pa_nil)))))))))))))))))))))))), ?_⟩
  refine ⟨_, rfl, sc, ns, rfl, hS, fun x hi wi H1 hi1 hi2 wi1 wi2 s1 gx => ⟨x, _, rfl, SqT.of gx, rfl, _, _, rfl, _, _, rfl, rfl, ?_⟩⟩
  refine ⟨_, rfl, _, rfl, _, rfl, sc, ns, 2, hi, wi, rfl, s1.seq hS, hi2, wi2, fun ca ps T H2 s2 hL2 hR hb => ?_⟩
  refine gName_to ?_
  have tT := tab_of hR hb
  have s02 := s1.trans s2
  obtain ⟨ks0, hks, hkl⟩ := cutV_ints ns (some 7) (some 30)
  refine ⟨_, rfl, _, rfl, sc, ns, 1, rfl, s02.seq hS, fun c0 => ⟨(by show 1 <= sizeLine; decide), fun l0 f0 => ?_⟩⟩
  have sl0 := same_upd (o := .lst [.int c0]) f0
  refine ⟨_, rfl, _, rfl, _, rfl, sc, ns.map V.int, rfl, (s02.trans sl0).seq hS, fun l1 f1 => ?_⟩
  rw [hks]
  have sl1 := same_upd (o := .lst (ks0.map V.int)) f1
  refine ⟨l0, l1, _, _, rfl, rfl, sl1 _ _ upd_same, upd_same, by rw [List.length_map]; show 1 + ks0.length <= sizeLine; omega, fun ld fld => ?_⟩
  have sl2 := same_upd (o := .lst ([.int c0] ++ ks0.map V.int)) fld
  have sL := sl0.trans (sl1.trans sl2)
  refine ⟨ca, ld, ps, T, [c0] ++ ks0, hi, wi, rfl, hL2.same sL, tT, hi1, hi2, wi1, wi2, SqL.of (by rw [upd_same, List.map_append]; rfl), fun b ps2 U H3 s3 W => ?_⟩
  refine gName_to ?_
  have s23 := sL.trans s3
  have s03 := s02.trans s23
  have hL3 := hL2.same s23
  refine ⟨_, rfl, ca, ps, T, hi, wi, rfl, hL3, hR, hi2, fun oa H4 s4 hT => ?_⟩
  refine gName_to ?_
  refine ⟨_, rfl, b, ps2, U, hi, wi, rfl, W.ll.same s4, W.tb.rect, hi2, fun ta H5 s5 hU => ?_⟩
  refine gName_to ?_
  have s45 := s4.trans s5
  have hL5 := hL3.same s45
  have lU5 := W.ll.same s45
  have hT5 := hT.same s5
  have tU := W.tb
  have hsum := sums_of hR tU.rect W.rs W.cs
  have s05 := s03.trans s45
  clear s45 s4 s5 hT hL3 s23 hL2 sL sl0 sl1 sl2 hks f0 f1 fld s02 s1 s2 s3 gx
  refine ⟨_, rfl, _, rfl, oa, ta, T, U, hi, wi, hi, wi, rfl, hT5, hU, tT, tU, hi1, hi2, wi2, hi1, hi2, wi2, fun _ => ⟨rfl, rfl, fun p zs H6 s6 fp gp tp pp lp => ?_⟩, fun h => absurd hsum h⟩
  refine gName_to ?_
  have hzl := tp.len
  rw [List.length_map] at hzl
  have htot := tot_le tT hi2 wi2
  refine ⟨_, rfl, _, _, _, true, rfl, .lst gp, rfl, _, rfl, iteF ?_⟩
  refine ⟨_, rfl, _, rfl, _, rfl, ca, p, b, ps, ps2, T, U, zs, _, hi, wi, rfl, hL5.same s6, tT, hi1, hi2, lU5.same s6, gp, tp, pp, lp, fun H7 s7 => ⟨_, rfl, iteF ?_⟩⟩
  have s57 := s6.trans s7
  have gp7 := s7 _ _ gp
  have tp7 := s7.tups tp
  clear s6 s7 gp tp
  refine ⟨fun σ Hn => σ = [some (.ref sc), some (.int hi), some (.int wi), some (.ref ca), some (.ref b), some (.ref oa), some (.ref ta), some (.ref p), none, none, none, none] /\ Same H7 Hn, ?_, ?_⟩
  ·refine ⟨_, rfl, _, rfl, tt_eqD false hun (hT5.same s57) (hU.same s57) ⟨_, rfl, ?_⟩⟩
   by_cases hTU : T = U
   ·rw [if_neg Bool.false_ne_true, decide_eq_true hTU]
    subst hTU
    refine iteT ⟨_, rfl, (by show 0 <= sizeLine; omega), fun le fe => ?_⟩
    have se := same_upd (o := .lst []) fe
    rw [led_same] at tp7
    refine lt_neD hun (se _ _ gp7) (se.tups tp7) upd_same .nil ⟨_, rfl, ?_⟩
    rw [decide_eq_true (show List.map q4 [] = [] from rfl)]
    refine iteF ⟨_, rfl, _, rfl, oa, oa, T, T, hi, wi, hi, wi, rfl, hT5.same (s57.trans se), hT5.same (s57.trans se), tT, tT, hi1, hi2, wi2, hi1, hi2, wi2, fun _ => ⟨rfl, rfl, fun p2 zs2 H8 s8 _ g8 t8 _ _ => ?_⟩, fun h => absurd ⟨rfl, rfl⟩ h⟩
    rw [led_same] at t8
    refine ⟨(by show 0 <= sizeLine; omega), fun l9 f9 => ?_⟩
    have s9 := same_upd (o := .lst []) f9
    refine lt_neD hun (s9 _ _ g8) (s9.tups t8) upd_same .nil ⟨_, rfl, ?_⟩
    rw [decide_eq_true (show List.map q4 [] = [] from rfl)]
    exact iteF ⟨rfl, se.trans (s8.trans s9)⟩
   ·rw [if_neg Bool.false_ne_true, decide_eq_false hTU]
    refine iteF ?_
    refine iteF ⟨_, rfl, _, rfl, oa, oa, T, T, hi, wi, hi, wi, rfl, hT5.same s57, hT5.same s57, tT, tT, hi1, hi2, wi2, hi1, hi2, wi2, fun _ => ⟨rfl, rfl, fun p2 zs2 H8 s8 _ g8 t8 _ _ => ?_⟩, fun h => absurd ⟨rfl, rfl⟩ h⟩
    rw [led_same] at t8
    refine ⟨(by show 0 <= sizeLine; omega), fun l9 f9 => ?_⟩
    have s9 := same_upd (o := .lst []) f9
    refine lt_neD hun (s9 _ _ g8) (s9.tups t8) upd_same .nil ⟨_, rfl, ?_⟩
    rw [decide_eq_true (show List.map q4 [] = [] from rfl)]
    exact iteF ⟨rfl, s8.trans s9⟩
  rintro σ' H8 ⟨rfl, s8⟩
  have gp8 := s8 _ _ gp7
  have tp8 := s8.tups tp7
  have s58 := s57.trans s8
  clear s8 gp7 tp7 s57
  refine ⟨_, rfl, p, zs, rfl, .inl (SqL.of gp8), fun kl fk => ?_⟩
  refine gName_to ?_
  have sk := same_upd (o := .lst zs) fk
  have nkp : kl ≠ p := (ne_of_none gp8 fk).symm
  have gpk := sk _ _ gp8
  refine ⟨_, rfl, .inl ⟨rfl, _, SqL.of gpk⟩, p, zs, _, rfl, rfl, gpk, by omega, ?_⟩
  have s59 : Same H5 (upd (upd H8 kl (.lst zs)) p (.lst (zs ++ [.int 7]))) := (s58.trans sk).upd fp
  have gk9 : (upd (upd H8 kl (.lst zs)) p (.lst (zs ++ [.int 7]))) kl = some (.lst zs) := by rw [upd_ne nkp, upd_same]
  have tk9 : Tups K (upd (upd H8 kl (.lst zs)) p (.lst (zs ++ [.int 7]))) zs ((ledF hi wi 300 T U).map q4) := Tups.updL gpk (sk.tups tp8)
  generalize upd (upd H8 kl (.lst zs)) p (.lst (zs ++ [.int 7])) = H9 at s59 gk9 tk9
  refine ⟨_, rfl, _, rfl, oa, ta, T, U, hi, wi, hi, wi, rfl, hT5.same s59, hU.same s59, tT, tU, hi1, hi2, wi2, hi1, hi2, wi2, fun _ => ⟨rfl, rfl, fun p2 zs2 Ha sa _ ga tza _ _ => ?_⟩, fun h => absurd hsum h⟩
  refine ⟨_, rfl, lt_neD hun ga tza (sa _ _ gk9) (sa.tups tk9) ⟨_, rfl, ?_⟩⟩
  rw [decide_eq_true rfl]
  refine iteF ?_
  have s5a := s59.trans sa
  clear s59 sa ga tza gk9 tk9
  refine ⟨fun σ Hn => σ = [some (.ref sc), some (.int hi), some (.int wi), some (.ref ca), some (.ref b), some (.ref oa), some (.ref ta), some (.ref p), some (.ref kl), none, none, none] /\ Same H5 Hn, ?_, ?_⟩
  ·refine ⟨_, rfl, _, _, rfl, rfl, _, rfl, ?_⟩
   refine ite2 (fun h => ?_) (fun h => ⟨rfl, s5a⟩)
   have h16 : (hi : Int) < 16 := of_decide_eq_true h
   refine ⟨_, rfl, _, rfl, (by show 1 <= sizeLine; decide), fun z1 fz1 => ?_⟩
   have sz1 := same_upd (o := .tup [.int 0]) fz1
   refine ⟨_, rfl, z1, 0, wi, rfl, rfl, SqT.of upd_same, wi1, by omega, fun rp Hb sb hrp => ?_⟩
   refine ⟨(by show 1 <= sizeLine; decide), fun op fop => ?_⟩
   have so := same_upd (o := .tup [.ref rp]) fop
   have s5b := s5a.trans (sz1.trans (sb.trans so))
   obtain ⟨ys, hya, hyt⟩ := hU.same s5b
   have hyl : ys.length = hi := by rw [hyt.len]; exact tU.rect.1
   refine ⟨ta, op, ys, [.ref rp], rfl, rfl, hya, SqT.of upd_same, fun z => by rw [z] at hyl; simp at hyl; omega, by rw [hyl]; show hi + 1 <= sizeLine; omega, fun h => (by cases h), fun _ np fnp => ?_⟩
   have sn := same_upd (o := .tup (ys ++ [.ref rp])) fnp
   refine ⟨oa, np, T, U ++ [List.replicate wi 0], hi, wi, hi + 1, wi, rfl, hT5.same (s5b.trans sn), ⟨_, SqT.of upd_same, sn.tups (Tups.append hyt (Tups.one (so.seqT hrp)))⟩, tT, tab_row tU, hi1, hi2, wi2, by omega, by omega, wi2, fun z => ?_, fun Hc sc' => ⟨_, rfl, iteF ⟨rfl, (s5b.trans sn).trans sc'⟩⟩⟩
   have := congrArg List.length z.1
   rw [rsum_len hR, rsum_len (tab_row tU).rect] at this
   omega
  rintro σ' Hb ⟨rfl, s5b⟩
  clear s5a
  refine ⟨fun σ Hn => σ = [some (.ref sc), some (.int hi), some (.int wi), some (.ref ca), some (.ref b), some (.ref oa), some (.ref ta), some (.ref p), some (.ref kl), none, none, none] /\ Same H5 Hn, ?_, ?_⟩
  ·refine ⟨_, rfl, _, _, rfl, rfl, _, rfl, ?_⟩
   refine ite2 (fun h => ?_) (fun h => ⟨rfl, s5b⟩)
   have h16 : (wi : Int) < 16 := of_decide_eq_true h
   obtain ⟨ys, hya, hyt⟩ := hU.same s5b
   have hyl : ys.length = hi := by rw [hyt.len]; exact tU.rect.1
   refine ⟨_, rfl, _, rfl, ta, rfl, ⟨_, hya⟩, fun D hD => comp_tup (K := K) (a := ta) (D := D) (ys := ys) (fun n xs σ' H' => (∃ v, σ' = [v]) /\ Same Hb H' /\ H' D = some (.lst xs) /\ Tups K H' xs ((U.take n).map (· ++ [0])))
    ⟨⟨none, rfl⟩, same_upd hD, upd_same, by rw [List.take_zero]; exact .nil⟩ (by omega) (fun n xs σ' H' hn ⟨_, s6, h6, t6⟩ => ⟨s6.seqT hya, h6, by have := t6.len; rw [List.length_map, List.length_take] at this; omega⟩) ?_ ?_⟩
   ·rintro n xs x σ' H' N kN hx ⟨⟨v, rfl⟩, s6, h6, t6⟩
    obtain ⟨pa, k, rfl, hk, hq⟩ := hyt.get hx
    have hkl2 : k.length = wi := tU.rect.2 k (List.mem_of_getElem? hk)
    refine gName_to (tTrue_if ?_)
    refine ⟨_, rfl, (by show 1 <= sizeLine; decide), fun z1 fz1 => ?_⟩
    have sz := same_upd (o := .tup [.int 0]) fz1
    refine ⟨pa, z1, k.map V.int, [.int 0], rfl, rfl, (s6.trans sz).seqT hq, SqT.of upd_same, fun z => by have := congrArg List.length z; rw [List.length_map, hkl2] at this; simp at this; omega, by rw [List.length_map, hkl2]; show wi + 1 <= sizeLine; omega, fun h => (by cases h), fun _ np fnp => ?_⟩
    have sn := same_upd (o := .tup (k.map V.int ++ [.int 0])) fnp
    have h6' := (sz.trans sn) _ _ h6
    refine ⟨h6', kN _ _ _ ⟨⟨_, rfl⟩, (s6.trans (sz.trans sn)).upd hD, upd_same, ?_⟩⟩
    rw [List.take_add_one, hk, List.map_append]
    refine Tups.updL h6' (Tups.append ((sz.trans sn).tups t6) (Tups.one (SqT.of ?_)))
    rw [upd_same, List.map_append]
    rfl
   ·rintro xs σ' H6 ⟨⟨v, rfl⟩, s6, h6, t6⟩
    rw [hyl, <- tU.rect.1, List.take_length] at t6
    refine ⟨D, xs, rfl, .inl ⟨SqL.of h6, fun np fnp => ?_⟩⟩
    have sn := same_upd (o := .tup xs) fnp
    have s56 := s5b.trans (s6.trans sn)
    refine ⟨oa, np, T, U.map (· ++ [0]), hi, wi, hi, wi + 1, rfl, hT5.same s56, ⟨_, SqT.of upd_same, sn.tups t6⟩, tT, tab_col tU, hi1, hi2, wi2, hi1, hi2, by omega, fun z => ?_, fun Hc sc' => ⟨_, rfl, iteF ⟨rfl, s56.trans sc'⟩⟩⟩
    have := congrArg List.length z.2
    rw [csum_len, csum_len] at this
    omega
  rintro σ' Hc ⟨rfl, s5c⟩
  clear s5b
  refine ⟨_, rfl, sc, ns, 1, rfl, (s05.trans s5c).seq hS, fun c1 => ?_⟩
  refine gName_to ?_
  obtain ⟨at_, hat, hat'⟩ := mod_nat c1 (n := hi) (by omega)
  obtain ⟨to_, hto, hto'⟩ := mod_nat (c1 / (hi : Int)) (n := wi) (by omega)
  refine ⟨_, rfl, _, rfl, _, _, rfl, rfl, (by show (0 : Int) < (hi : Int); omega), ?_⟩
  refine gName_eq (congrArg V.int hat) ?_
  refine gName_to ?_
  refine ⟨_, rfl, _, rfl, _, _, rfl, rfl, ⟨by omega, by omega⟩, _, rfl, _, _, rfl, rfl, (by show (0 : Int) < (wi : Int); omega), ?_⟩
  refine gName_eq (congrArg V.int hto) ?_
  refine gName_to ?_
  have lUc := lU5.same s5c
  obtain ⟨rp, hpr, gp, hpv, lp⟩ := lUc.row tU.rect hat'
  refine ⟨_, rfl, _, rfl, b, _, _, _, rfl, rfl, SqL.of lUc.lst, atI_nat hpv, _, rfl, rp, _, _, _, rfl, rfl, SqL.of gp, at_int (by omega), _, _, rfl, rfl, ?_⟩
  refine ⟨_, rfl, _, rfl, b, _, _, _, rfl, rfl, SqL.of lUc.lst, atI_nat hpv, _, rfl, rp, _, _, to_, rfl, rfl, gp, ixN_nat (by rw [List.length_map]; omega), ?_⟩
  rw [set_map_int]
  have lF := lUc.flp (c := to_) tU.rect hat' hpr
  have hTF := (hT5.same s5c).updL (zs := ((U.getD at_ []).set to_ (1 - ent U at_ to_)).map V.int) gp
  have tF := tab_flp tU hat' hto'
  have hnF := flp_sum tU hat' hto'
  refine ⟨_, rfl, b, ps2, flp U at_ to_, hi, wi, rfl, lF, tF.rect, hi2, fun t2 Hd sd hFd => ?_⟩
  refine gName_to ?_
  have hTd := hTF.same sd
  have hno : ¬ (rsum T = rsum (flp U at_ to_)) := fun z => hnF (by
   rw [<- rsum_get tF.rect hat', <- z, hsum.1, rsum_get tU.rect hat'])
  refine ⟨_, rfl, _, rfl, oa, t2, T, flp U at_ to_, hi, wi, hi, wi, rfl, hTd, hFd, tT, tF, hi1, hi2, wi2, hi1, hi2, wi2, fun z => hno z.1, fun He se => ?_⟩
  refine ⟨_, rfl, iteT ?_⟩
  refine ⟨_, rfl, _, rfl, t2, oa, flp U at_ to_, T, hi, wi, hi, wi, rfl, hFd.same se, hTd.same se, tF, tT, hi1, hi2, wi2, hi1, hi2, wi2, fun z => hno z.1.symm, fun Hg sg => ?_⟩
  exact q _
theorem ok_law {f fI fB fP fU fC fS fN fL fE fM fD fQ fT fO fV fX fF fJ fW fR fG CT CU CB CX : Addr} {fd fdI fdB fdP fdU fdC fdS fdN fdL fdE fdM fdD fdQ fdT fdO fdV fdX fdF fdJ fdW fdR fdG : FuncData} (F : Fun K "law" "law" sLaw f fd) (B : Bn mg)
  (FI : Fun K "is_place" "is_place" sIsP fI fdI) (bI : Binds K fdI ["places", "number"] []) (mI : mg "is_place" = some (.ref fI))
  (FB : Fun K "led_back" "led_back" sLed fB fdB) (bB : Binds K fdB ["four"] []) (mB : mg "led_back" = some (.ref fB))
  (FP : Fun K "steps_between" "steps_between" sStp fP fdP) (bP : Binds K fdP ["one", "two", "nearer", "can_step", "stepped"] []) (mP : mg "steps_between" = some (.ref fP))
  (FU : Fun K "sums_of" "sums_of" sSumsOf fU fdU) (bU : Binds K fdU ["table"] []) (mU : mg "sums_of" = some (.ref fU))
  (FC : Fun K "can_swap" "can_swap" sCanSw fC fdC) (bC : Binds K fdC ["table", "four"] []) (mC : mg "can_swap" = some (.ref fC))
  (FS : Fun K "swapped" "swapped" sSwd fS fdS) (bS : Binds K fdS ["table", "four"] []) (mS : mg "swapped" = some (.ref fS))
  (FN : Fun K "swap_nearer" "swap_nearer" sNear fN fdN) (bN : Binds K fdN ["one", "two"] []) (mN : mg "swap_nearer" = some (.ref fN))
  (FL : Fun K "swaps_led" "swaps_led" sSLed fL fdL) (bL : Binds K fdL ["one", "two"] []) (mL : mg "swaps_led" = some (.ref fL))
  (FE : Fun K "_law_cell" "_law_cell" sCellS fE fdE) (bE : Binds K fdE ["script", "k"] []) (mE : mg "_law_cell" = some (.ref fE))
  (FM : Fun K "_law_mixed" "_law_mixed" sMixS fM fdM) (bM : Binds K fdM ["cell", "k"] []) (mM : mg "_law_mixed" = some (.ref fM))
  (FD : Fun K "_law_sides" "_law_sides" sSides fD fdD) (bD : Binds K fdD ["script", "most"] []) (mD : mg "_law_sides" = some (.ref fD))
  (FQ : Fun K "_law_bit" "_law_bit" sBit fQ fdQ) (bQ : Binds K fdQ ["script", "start", "k"] []) (mQ : mg "_law_bit" = some (.ref fQ))
  (FT : Fun K "_law_table" "_law_table" sTab fT fdT) (bT : Binds K fdT ["script", "start", "high", "wide"] []) (mT : mg "_law_table" = some (.ref fT))
  (FO : Fun K "_law_told" "_law_told" sToldT fO fdO) (bO : Binds K fdO ["cells"] []) (mO : mg "_law_told" = some (.ref fO))
  (FV : Fun K "_law_is_swap" "_law_is_swap" sIsSw fV fdV) (bV : Binds K fdV ["cells", "four"] []) (mV : mg "_law_is_swap" = some (.ref fV))
  (FX : Fun K "_law_swapped" "_law_swapped" sSwL fX fdX) (bX : Binds K fdX ["cells", "four"] []) (mX : mg "_law_swapped" = some (.ref fX))
  (FF : Fun K "_law_fours" "_law_fours" sFours fF fdF) (bF : Binds K fdF ["cell", "high", "wide", "many"] []) (mF : mg "_law_fours" = some (.ref fF))
  (FJ : Fun K "_law_is_four" "_law_is_four" sIs4 fJ fdJ) (bJ : Binds K fdJ ["found"] []) (mJ : mg "_law_is_four" = some (.ref fJ))
  (FW : Fun K "_law_walked" "_law_walked" sWalk fW fdW) (bW : Binds K fdW ["cells", "some"] []) (mW : mg "_law_walked" = some (.ref fW))
  (FR : Fun K "_law_refused" "_law_refused" sRef fR fdR) (bR : Binds K fdR ["one", "two"] []) (mR : mg "_law_refused" = some (.ref fR))
  (FG : Fun K "_law_leads" "_law_leads" sLeads fG fdG) (bG : Binds K fdG ["cells", "steps", "last"] []) (mG : mg "_law_leads" = some (.ref fG))
  (Z : Cl45 K mg CT CU CB CX) : FnOk P w K mg base CX0 7 f fd ["script"] (spLaw K) := by
 have GN : FnOk P w K mg base CX0 3 fN fdN ["one", "two"] (spNear K) := ok_near FN B FI bI mI FC bC mC FB bB mB
 have GC : FnOk P w K mg base CX0 2 fC fdC ["table", "four"] (spCanSw K) := ok_canSw FC B FI bI mI
 have GS : FnOk P w K mg base (CXE P w) 3 fS fdS ["table", "four"] (spSwd K CX) := ok_swd FS B FI bI mI FC bC mC Z.mX Z.cX
 have GP : FnOk P w K mg base CX0 4 fP fdP ["one", "two", "nearer", "can_step", "stepped"] (spStp K fN fC fS) := ok_stp FP B FN bN GN FC bC (GC.mono (by decide)) FS bS GS FB bB mB
 have GL : FnOk P w K mg base (CXE P w) 5 fL fdL ["one", "two"] (spSLed K CU) := ok_sled FL B FU bU mU mN mC mS FP bP mP GP Z.mU Z.cU
 have GD : FnOk P w K mg base CX0 2 fD fdD ["script", "most"] (spSides K) := ok_sides FD B FE bE mE
 have GT : FnOk P w K mg base CX0 3 fT fdT ["script", "start", "high", "wide"] (spTab K) := ok_tab FT B FE bE mE FM bM mM FQ bQ mQ
 have GW : FnOk P w K mg base CX0 2 fW fdW ["cells", "some"] (spWalk K) := ok_walk FW B FF bF mF FM bM mM FV bV mV FX bX mX
 have GG : FnOk P w K mg base CX0 2 fG fdG ["cells", "steps", "last"] (spLeads K) := ok_leads FG B FJ bJ mJ FV bV mV FX bX mX
 have GR : FnOk P w K mg base CX0 6 fR fdR ["one", "two"] (spRefd K) := ok_refd FR B FL bL mL GL Z
 exact ok_law0 F B FE bE mE FD bD mD (GD.mono (by decide)) FT bT mT (GT.mono (by decide)) FW bW mW (GW.mono (by decide)) FO bO mO FL bL mL (GL.mono (by decide)) FG bG mG (GG.mono (by decide)) FR bR mR GR
end
end Web
namespace Web
open PySem L2
theorem all_mk {l : PySem.W.OpenLaw} {w : World} {K : W.Frag} {h : Heap} {mg : Str -> Option Value} {fa fI fB fP fU fC fS fN fL fE fM fD fQ fT fO fV fX fF fJ fW fR fG fZ CTallyError CUnlike CBadTally CNoExchange : Addr}  {cdUnlike : ClassData} {cdNoExchange : ClassData} (X : K.In h) (G : h.Ns mainGlobals mg) (hfa : mg "law" = some (.ref fa))
  {odI anI odB anB odP anP odU anU odC anC odS anS odN anN odL anL odE anE odM anM odD anD odQ anQ odT anT odO anO odV anV odX anX odF anF odJ anJ odW anW odR anR odG anG odZ anZ : Option Addr} {slI slB slP slU slC slS slN slL slE slM slD slQ slT slO slV slX slF slJ slW slR slG slZ : Array (Option Value)}
  {ocI kVI dcI pmI cdI ctI ocB kVB dcB pmB cdB ctB ocP kVP dcP pmP cdP ctP ocU kVU dcU pmU cdU ctU ocC kVC dcC pmC cdC ctC ocS kVS dcS pmS cdS ctS ocN kVN dcN pmN cdN ctN ocL kVL dcL pmL cdL ctL ocE kVE dcE pmE cdE ctE ocM kVM dcM pmM cdM ctM ocD kVD dcD pmD cdD ctD ocQ kVQ dcQ pmQ cdQ ctQ ocT kVT dcT pmT cdT ctT ocO kVO dcO pmO cdO ctO ocV kVV dcV pmV cdV ctV ocX kVX dcX pmX cdX ctX ocF kVF dcF pmF cdF ctF ocJ kVJ dcJ pmJ cdJ ctJ ocW kVW dcW pmW cdW ctW ocR kVR dcR pmR cdR ctR ocG kVG dcG pmG cdG ctG ocZ kVZ dcZ pmZ cdZ ctZ : Value}
  (aI : PySem.W.nsIn K mainGlobals "is_place" = some (some (.ref fI))) (lI : K.lookup fI = some ⟨ocI, odI, .func (PySem.W.fnOf "is_place" "is_place" (defArgs sIsP) (defBody sIsP) (defScope sIsP) .none kVI dcI pmI anI cdI ctI), slI⟩) (cI : PySem.W.codeIn K cdI "is_place" = true) (kI : PySem.W.keepIn K (.ref fI) = true)
  (aB : PySem.W.nsIn K mainGlobals "led_back" = some (some (.ref fB))) (lB : K.lookup fB = some ⟨ocB, odB, .func (PySem.W.fnOf "led_back" "led_back" (defArgs sLed) (defBody sLed) (defScope sLed) .none kVB dcB pmB anB cdB ctB), slB⟩) (cB : PySem.W.codeIn K cdB "led_back" = true) (kB : PySem.W.keepIn K (.ref fB) = true)
  (aP : PySem.W.nsIn K mainGlobals "steps_between" = some (some (.ref fP))) (lP : K.lookup fP = some ⟨ocP, odP, .func (PySem.W.fnOf "steps_between" "steps_between" (defArgs sStp) (defBody sStp) (defScope sStp) .none kVP dcP pmP anP cdP ctP), slP⟩) (cP : PySem.W.codeIn K cdP "steps_between" = true) (kP : PySem.W.keepIn K (.ref fP) = true)
  (aU : PySem.W.nsIn K mainGlobals "sums_of" = some (some (.ref fU))) (lU : K.lookup fU = some ⟨ocU, odU, .func (PySem.W.fnOf "sums_of" "sums_of" (defArgs sSumsOf) (defBody sSumsOf) (defScope sSumsOf) .none kVU dcU pmU anU cdU ctU), slU⟩) (cU : PySem.W.codeIn K cdU "sums_of" = true) (kU : PySem.W.keepIn K (.ref fU) = true)
  (aC : PySem.W.nsIn K mainGlobals "can_swap" = some (some (.ref fC))) (lC : K.lookup fC = some ⟨ocC, odC, .func (PySem.W.fnOf "can_swap" "can_swap" (defArgs sCanSw) (defBody sCanSw) (defScope sCanSw) .none kVC dcC pmC anC cdC ctC), slC⟩) (cC : PySem.W.codeIn K cdC "can_swap" = true) (kC : PySem.W.keepIn K (.ref fC) = true)
  (aS : PySem.W.nsIn K mainGlobals "swapped" = some (some (.ref fS))) (lS : K.lookup fS = some ⟨ocS, odS, .func (PySem.W.fnOf "swapped" "swapped" (defArgs sSwd) (defBody sSwd) (defScope sSwd) .none kVS dcS pmS anS cdS ctS), slS⟩) (cS : PySem.W.codeIn K cdS "swapped" = true) (kS : PySem.W.keepIn K (.ref fS) = true)
  (aN : PySem.W.nsIn K mainGlobals "swap_nearer" = some (some (.ref fN))) (lN : K.lookup fN = some ⟨ocN, odN, .func (PySem.W.fnOf "swap_nearer" "swap_nearer" (defArgs sNear) (defBody sNear) (defScope sNear) .none kVN dcN pmN anN cdN ctN), slN⟩) (cN : PySem.W.codeIn K cdN "swap_nearer" = true) (kN : PySem.W.keepIn K (.ref fN) = true)
  (aL : PySem.W.nsIn K mainGlobals "swaps_led" = some (some (.ref fL))) (lL : K.lookup fL = some ⟨ocL, odL, .func (PySem.W.fnOf "swaps_led" "swaps_led" (defArgs sSLed) (defBody sSLed) (defScope sSLed) .none kVL dcL pmL anL cdL ctL), slL⟩) (cL : PySem.W.codeIn K cdL "swaps_led" = true) (kL : PySem.W.keepIn K (.ref fL) = true)
  (aE : PySem.W.nsIn K mainGlobals "_law_cell" = some (some (.ref fE))) (lE : K.lookup fE = some ⟨ocE, odE, .func (PySem.W.fnOf "_law_cell" "_law_cell" (defArgs sCellS) (defBody sCellS) (defScope sCellS) .none kVE dcE pmE anE cdE ctE), slE⟩) (cE : PySem.W.codeIn K cdE "_law_cell" = true) (kE : PySem.W.keepIn K (.ref fE) = true)
  (aM : PySem.W.nsIn K mainGlobals "_law_mixed" = some (some (.ref fM))) (lM : K.lookup fM = some ⟨ocM, odM, .func (PySem.W.fnOf "_law_mixed" "_law_mixed" (defArgs sMixS) (defBody sMixS) (defScope sMixS) .none kVM dcM pmM anM cdM ctM), slM⟩) (cM : PySem.W.codeIn K cdM "_law_mixed" = true) (kM : PySem.W.keepIn K (.ref fM) = true)
  (aD : PySem.W.nsIn K mainGlobals "_law_sides" = some (some (.ref fD))) (lD : K.lookup fD = some ⟨ocD, odD, .func (PySem.W.fnOf "_law_sides" "_law_sides" (defArgs sSides) (defBody sSides) (defScope sSides) .none kVD dcD pmD anD cdD ctD), slD⟩) (cD : PySem.W.codeIn K cdD "_law_sides" = true) (kD : PySem.W.keepIn K (.ref fD) = true)
  (aQ : PySem.W.nsIn K mainGlobals "_law_bit" = some (some (.ref fQ))) (lQ : K.lookup fQ = some ⟨ocQ, odQ, .func (PySem.W.fnOf "_law_bit" "_law_bit" (defArgs sBit) (defBody sBit) (defScope sBit) .none kVQ dcQ pmQ anQ cdQ ctQ), slQ⟩) (cQ : PySem.W.codeIn K cdQ "_law_bit" = true) (kQ : PySem.W.keepIn K (.ref fQ) = true)
  (aT : PySem.W.nsIn K mainGlobals "_law_table" = some (some (.ref fT))) (lT : K.lookup fT = some ⟨ocT, odT, .func (PySem.W.fnOf "_law_table" "_law_table" (defArgs sTab) (defBody sTab) (defScope sTab) .none kVT dcT pmT anT cdT ctT), slT⟩) (cT : PySem.W.codeIn K cdT "_law_table" = true) (kT : PySem.W.keepIn K (.ref fT) = true)
  (aO : PySem.W.nsIn K mainGlobals "_law_told" = some (some (.ref fO))) (lO : K.lookup fO = some ⟨ocO, odO, .func (PySem.W.fnOf "_law_told" "_law_told" (defArgs sToldT) (defBody sToldT) (defScope sToldT) .none kVO dcO pmO anO cdO ctO), slO⟩) (cO : PySem.W.codeIn K cdO "_law_told" = true) (kO : PySem.W.keepIn K (.ref fO) = true)
  (aV : PySem.W.nsIn K mainGlobals "_law_is_swap" = some (some (.ref fV))) (lV : K.lookup fV = some ⟨ocV, odV, .func (PySem.W.fnOf "_law_is_swap" "_law_is_swap" (defArgs sIsSw) (defBody sIsSw) (defScope sIsSw) .none kVV dcV pmV anV cdV ctV), slV⟩) (cV : PySem.W.codeIn K cdV "_law_is_swap" = true) (kV : PySem.W.keepIn K (.ref fV) = true)
  (aX : PySem.W.nsIn K mainGlobals "_law_swapped" = some (some (.ref fX))) (lX : K.lookup fX = some ⟨ocX, odX, .func (PySem.W.fnOf "_law_swapped" "_law_swapped" (defArgs sSwL) (defBody sSwL) (defScope sSwL) .none kVX dcX pmX anX cdX ctX), slX⟩) (cX : PySem.W.codeIn K cdX "_law_swapped" = true) (kX : PySem.W.keepIn K (.ref fX) = true)
  (aF : PySem.W.nsIn K mainGlobals "_law_fours" = some (some (.ref fF))) (lF : K.lookup fF = some ⟨ocF, odF, .func (PySem.W.fnOf "_law_fours" "_law_fours" (defArgs sFours) (defBody sFours) (defScope sFours) .none kVF dcF pmF anF cdF ctF), slF⟩) (cF : PySem.W.codeIn K cdF "_law_fours" = true) (kF : PySem.W.keepIn K (.ref fF) = true)
  (aJ : PySem.W.nsIn K mainGlobals "_law_is_four" = some (some (.ref fJ))) (lJ : K.lookup fJ = some ⟨ocJ, odJ, .func (PySem.W.fnOf "_law_is_four" "_law_is_four" (defArgs sIs4) (defBody sIs4) (defScope sIs4) .none kVJ dcJ pmJ anJ cdJ ctJ), slJ⟩) (cJ : PySem.W.codeIn K cdJ "_law_is_four" = true) (kJ : PySem.W.keepIn K (.ref fJ) = true)
  (aW : PySem.W.nsIn K mainGlobals "_law_walked" = some (some (.ref fW))) (lW : K.lookup fW = some ⟨ocW, odW, .func (PySem.W.fnOf "_law_walked" "_law_walked" (defArgs sWalk) (defBody sWalk) (defScope sWalk) .none kVW dcW pmW anW cdW ctW), slW⟩) (cW : PySem.W.codeIn K cdW "_law_walked" = true) (kW : PySem.W.keepIn K (.ref fW) = true)
  (aR : PySem.W.nsIn K mainGlobals "_law_refused" = some (some (.ref fR))) (lR : K.lookup fR = some ⟨ocR, odR, .func (PySem.W.fnOf "_law_refused" "_law_refused" (defArgs sRef) (defBody sRef) (defScope sRef) .none kVR dcR pmR anR cdR ctR), slR⟩) (cR : PySem.W.codeIn K cdR "_law_refused" = true) (kR : PySem.W.keepIn K (.ref fR) = true)
  (aG : PySem.W.nsIn K mainGlobals "_law_leads" = some (some (.ref fG))) (lG : K.lookup fG = some ⟨ocG, odG, .func (PySem.W.fnOf "_law_leads" "_law_leads" (defArgs sLeads) (defBody sLeads) (defScope sLeads) .none kVG dcG pmG anG cdG ctG), slG⟩) (cG : PySem.W.codeIn K cdG "_law_leads" = true) (kG : PySem.W.keepIn K (.ref fG) = true)
  (aZ : PySem.W.nsIn K mainGlobals "law" = some (some (.ref fZ))) (lZ : K.lookup fZ = some ⟨ocZ, odZ, .func (PySem.W.fnOf "law" "law" (defArgs sLaw) (defBody sLaw) (defScope sLaw) .none kVZ dcZ pmZ anZ cdZ ctZ), slZ⟩) (cZ : PySem.W.codeIn K cdZ "law" = true) (kZ : PySem.W.keepIn K (.ref fZ) = true)
  (aTallyError : PySem.W.nsIn K mainGlobals "TallyError" = some (some (.ref CTallyError)))
  (aUnlike : PySem.W.nsIn K mainGlobals "Unlike" = some (some (.ref CUnlike)))
  (aBadTally : PySem.W.nsIn K mainGlobals "BadTally" = some (some (.ref CBadTally)))
  (aNoExchange : PySem.W.nsIn K mainGlobals "NoExchange" = some (some (.ref CNoExchange)))
  (qUnlike : PySem.W.excIn K CUnlike [.type "ValueError", .type "Exception", .type "BaseException", .type "object"] "ValueError.__new__" = true)
  (gaUnlike : PySem.W.findIn K (.ref CUnlike) "__getattribute__" = some (some (.builtin "BaseException.__getattribute__")))
  (naUnlike : PySem.W.findIn K (.ref CUnlike) "__getattr__" = some none)
  (clUnlike : PySem.W.findIn K (.ref CUnlike) "__class__" = some (some (.builtin "object.__class__")))
  (sbUnlike : PySem.W.subIn K (.ref CUnlike) (.type "BaseException") = some true)
  (soUnlike : PySem.W.subIn K (.ref CUnlike) (.type "object") = some true)
  (csUnlike : PySem.W.clsIn K CUnlike = some cdUnlike)
  (xmUnlike : PySem.W.exmOne K (.ref CUnlike) (.ref CTallyError) = some true)
  (i0Unlike : PySem.W.kitOne K (.ref CUnlike) (.ref CUnlike) = some true)
  (i1Unlike : PySem.W.kitOne K (.ref CUnlike) (.type "ValueError") = some true)
  (i2Unlike : PySem.W.kitAny K (.ref CUnlike) [.ref CBadTally, .ref CNoExchange] = some false)
  (qNoExchange : PySem.W.excIn K CNoExchange [.type "ValueError", .type "Exception", .type "BaseException", .type "object"] "ValueError.__new__" = true)
  (gaNoExchange : PySem.W.findIn K (.ref CNoExchange) "__getattribute__" = some (some (.builtin "BaseException.__getattribute__")))
  (naNoExchange : PySem.W.findIn K (.ref CNoExchange) "__getattr__" = some none)
  (clNoExchange : PySem.W.findIn K (.ref CNoExchange) "__class__" = some (some (.builtin "object.__class__")))
  (sbNoExchange : PySem.W.subIn K (.ref CNoExchange) (.type "BaseException") = some true)
  (soNoExchange : PySem.W.subIn K (.ref CNoExchange) (.type "object") = some true)
  (csNoExchange : PySem.W.clsIn K CNoExchange = some cdNoExchange)
  (xmNoExchange : PySem.W.exmOne K (.ref CNoExchange) (.ref CTallyError) = some true)
  (z1 : PySem.W.nsIn K mainGlobals "len" = some none)
  (z2 : PySem.W.nsIn K mainGlobals "range" = some none)
  (z3 : PySem.W.nsIn K mainGlobals "enumerate" = some none)
  (z4 : PySem.W.nsIn K mainGlobals "list" = some none)
  (z5 : PySem.W.nsIn K mainGlobals "tuple" = some none)
  (z6 : PySem.W.nsIn K mainGlobals "sorted" = some none)
  (z7 : PySem.W.nsIn K mainGlobals "set" = some none)
  (z8 : PySem.W.nsIn K mainGlobals "isinstance" = some none)
  (z9 : PySem.W.nsIn K mainGlobals "int" = some none)
  (z10 : PySem.W.nsIn K mainGlobals "bool" = some none)
  (z11 : PySem.W.nsIn K mainGlobals "min" = some none)
  (z12 : PySem.W.nsIn K mainGlobals "max" = some none)
  (z13 : PySem.W.nsIn K mainGlobals "sum" = some none)
  (z14 : PySem.W.nsIn K mainGlobals "str" = some none)
  (z15 : PySem.W.nsIn K mainGlobals "ValueError" = some none)
  (z16 : PySem.W.nsIn K mainGlobals "reversed" = some none)
  (z17 : PySem.W.nsIn K mainGlobals "zip" = some none) :
  ∃ fd : FuncData, (∀ (s : Shared) (v : Value), BindsTo s fd ⟨[v], []⟩ [("script", v)]) /\ ∀ base : Heap, K.In base -> base.Ns mainGlobals mg -> FnOk l.prog w K mg base CX0 7 fa fd ["script"] (spLaw K) := by
 have e := hfa.symm.trans (PySem.W.mg_of X G aZ)
 cases e
 have B : Bn mg := ⟨PySem.W.mg_none_of X G z1, PySem.W.mg_none_of X G z2, PySem.W.mg_none_of X G z3, PySem.W.mg_none_of X G z4, PySem.W.mg_none_of X G z5, PySem.W.mg_none_of X G z6, PySem.W.mg_none_of X G z7, PySem.W.mg_none_of X G z8, PySem.W.mg_none_of X G z9, PySem.W.mg_none_of X G z10, PySem.W.mg_none_of X G z11, PySem.W.mg_none_of X G z12, PySem.W.mg_none_of X G z13, PySem.W.mg_none_of X G z14, PySem.W.mg_none_of X G z15, PySem.W.mg_none_of X G z16, PySem.W.mg_none_of X G z17⟩
 have FI := fun_mk (st := sIsP) lI cI kI
 have bI := FI.binds (ps := ["places", "number"]) fun _ _ _ _ _ _ us hl => match us, hl with | [_, _], _ => rfl
 have FB := fun_mk (st := sLed) lB cB kB
 have bB := FB.binds (ps := ["four"]) fun _ _ _ _ _ _ us hl => match us, hl with | [_], _ => rfl
 have FP := fun_mk (st := sStp) lP cP kP
 have bP := FP.binds (ps := ["one", "two", "nearer", "can_step", "stepped"]) fun _ _ _ _ _ _ us hl => match us, hl with | [_, _, _, _, _], _ => rfl
 have FU := fun_mk (st := sSumsOf) lU cU kU
 have bU := FU.binds (ps := ["table"]) fun _ _ _ _ _ _ us hl => match us, hl with | [_], _ => rfl
 have FC := fun_mk (st := sCanSw) lC cC kC
 have bC := FC.binds (ps := ["table", "four"]) fun _ _ _ _ _ _ us hl => match us, hl with | [_, _], _ => rfl
 have FS := fun_mk (st := sSwd) lS cS kS
 have bS := FS.binds (ps := ["table", "four"]) fun _ _ _ _ _ _ us hl => match us, hl with | [_, _], _ => rfl
 have FN := fun_mk (st := sNear) lN cN kN
 have bN := FN.binds (ps := ["one", "two"]) fun _ _ _ _ _ _ us hl => match us, hl with | [_, _], _ => rfl
 have FL := fun_mk (st := sSLed) lL cL kL
 have bL := FL.binds (ps := ["one", "two"]) fun _ _ _ _ _ _ us hl => match us, hl with | [_, _], _ => rfl
 have FE := fun_mk (st := sCellS) lE cE kE
 have bE := FE.binds (ps := ["script", "k"]) fun _ _ _ _ _ _ us hl => match us, hl with | [_, _], _ => rfl
 have FM := fun_mk (st := sMixS) lM cM kM
 have bM := FM.binds (ps := ["cell", "k"]) fun _ _ _ _ _ _ us hl => match us, hl with | [_, _], _ => rfl
 have FD := fun_mk (st := sSides) lD cD kD
 have bD := FD.binds (ps := ["script", "most"]) fun _ _ _ _ _ _ us hl => match us, hl with | [_, _], _ => rfl
 have FQ := fun_mk (st := sBit) lQ cQ kQ
 have bQ := FQ.binds (ps := ["script", "start", "k"]) fun _ _ _ _ _ _ us hl => match us, hl with | [_, _, _], _ => rfl
 have FT := fun_mk (st := sTab) lT cT kT
 have bT := FT.binds (ps := ["script", "start", "high", "wide"]) fun _ _ _ _ _ _ us hl => match us, hl with | [_, _, _, _], _ => rfl
 have FO := fun_mk (st := sToldT) lO cO kO
 have bO := FO.binds (ps := ["cells"]) fun _ _ _ _ _ _ us hl => match us, hl with | [_], _ => rfl
 have FV := fun_mk (st := sIsSw) lV cV kV
 have bV := FV.binds (ps := ["cells", "four"]) fun _ _ _ _ _ _ us hl => match us, hl with | [_, _], _ => rfl
 have FX := fun_mk (st := sSwL) lX cX kX
 have bX := FX.binds (ps := ["cells", "four"]) fun _ _ _ _ _ _ us hl => match us, hl with | [_, _], _ => rfl
 have FF := fun_mk (st := sFours) lF cF kF
 have bF := FF.binds (ps := ["cell", "high", "wide", "many"]) fun _ _ _ _ _ _ us hl => match us, hl with | [_, _, _, _], _ => rfl
 have FJ := fun_mk (st := sIs4) lJ cJ kJ
 have bJ := FJ.binds (ps := ["found"]) fun _ _ _ _ _ _ us hl => match us, hl with | [_], _ => rfl
 have FW := fun_mk (st := sWalk) lW cW kW
 have bW := FW.binds (ps := ["cells", "some"]) fun _ _ _ _ _ _ us hl => match us, hl with | [_, _], _ => rfl
 have FR := fun_mk (st := sRef) lR cR kR
 have bR := FR.binds (ps := ["one", "two"]) fun _ _ _ _ _ _ us hl => match us, hl with | [_, _], _ => rfl
 have FG := fun_mk (st := sLeads) lG cG kG
 have bG := FG.binds (ps := ["cells", "steps", "last"]) fun _ _ _ _ _ _ us hl => match us, hl with | [_, _, _], _ => rfl
 have FZ := fun_mk (st := sLaw) lZ cZ kZ
 exact ⟨PySem.W.fnOf "law" "law" (defArgs sLaw) (defBody sLaw) (defScope sLaw) .none kVZ dcZ pmZ anZ cdZ ctZ, fun s v => .of_eq rfl, fun base _ _ => ok_law FZ B FI bI (PySem.W.mg_of X G aI) FB bB (PySem.W.mg_of X G aB) FP bP (PySem.W.mg_of X G aP) FU bU (PySem.W.mg_of X G aU) FC bC (PySem.W.mg_of X G aC) FS bS (PySem.W.mg_of X G aS) FN bN (PySem.W.mg_of X G aN) FL bL (PySem.W.mg_of X G aL) FE bE (PySem.W.mg_of X G aE) FM bM (PySem.W.mg_of X G aM) FD bD (PySem.W.mg_of X G aD) FQ bQ (PySem.W.mg_of X G aQ) FT bT (PySem.W.mg_of X G aT) FO bO (PySem.W.mg_of X G aO) FV bV (PySem.W.mg_of X G aV) FX bX (PySem.W.mg_of X G aX) FF bF (PySem.W.mg_of X G aF) FJ bJ (PySem.W.mg_of X G aJ) FW bW (PySem.W.mg_of X G aW) FR bR (PySem.W.mg_of X G aR) FG bG (PySem.W.mg_of X G aG) ⟨PySem.W.mg_of X G aTallyError, PySem.W.mg_of X G aUnlike, PySem.W.mg_of X G aBadTally, PySem.W.mg_of X G aNoExchange, ⟨qUnlike⟩, ⟨gaUnlike, naUnlike, clUnlike, sbUnlike, soUnlike, by rw [csUnlike]; rfl⟩, xmUnlike, i0Unlike, i1Unlike, i2Unlike, ⟨qNoExchange⟩⟩⟩
theorem walk {l : PySem.W.OpenLaw} {q : Program} {loose : List Str} {XP : (Str -> Option Value) -> Heap -> Prop} {YP : World -> Heap -> Prop} {d : DefRec} {K : Params -> PySem.W.Frag} (hn : l.most = some 63) (hdf : d.params.defaults = [])
  (hY : ∀ (w : World) (h : Heap), YP w h -> (K w.params).In h)
  (F : ∀ (w : World) (mg : Str -> Option Value) (fa : Addr) (h : Heap), (K w.params).In h -> h.Ns mainGlobals mg -> mg d.name = some (.ref fa) ->
   ∃ fd : FuncData, (∀ (s : Shared) (u : Value), BindsTo s fd ⟨[u], []⟩ [("script", u)]) /\ ∀ base : Heap, (K w.params).In base -> base.Ns mainGlobals mg -> FnOk l.prog w (K w.params) mg base CX0 7 fa fd ["script"] (spLaw (K w.params))) :
  PySem.W.WalkO q loose XP YP l.row.toRowW d [] (fun f vs => PySem.call f vs) :=
 L2.walk_of (n := 63) (k := 7) (x := "script") (CX := fun _ => CX0) (sp := fun w => spLaw (K w.params)) hn (by decide) hdf ⟨rfl, by decide, by decide⟩ hY F (fun _ _ a ns hl _ hS => ⟨a, ns, rfl, hS, hl, fun _ => rfl⟩) fun _ _ _ _ _ z => z
end Web
set_option Elab.async false
namespace PySem.W.Fast
def tw6943277341185058861 := 0
def tw6349267776468977221 := 0
def tw7564410113157047442 := 0
def tw15333086021878179479 := 0
def tw3795636588250893813 := 0
def tw10938618889870068162 := 0
def tw10397697059964858119 := 0
def tw10405210619839404123 := 0
def tw6943263736480497500 := 0
def tw741400882480935047 := 0
def tw6157380234428852331 := 0
def tw14184636136784940404 := 0
def tw4348593019317249008 := 0
def tw5027072302520172351 := 0
def tw12261274719490250819 := 0
def tw8231959355382568961 := 0
def tw980423215270618311 := 0
def tw8784152551798084180 := 0
def tw17361974050456422718 := 0
def tw17245057463557019971 := 0
def tw13500222255583185985 := 0
def tw1955463020261914887 := 0
def tw661423733750939336 := 0
def tw8622917243250400841 := 0
def tw13571121764169073716 := 0
def tw16987596117697939926 := 0
def tw14957771320300180009 := 0
def tw2488352369656719857 := 0
def tw14649283498974786572 := 0
def tw6458441197341034277 := 0
def tw1222581991436832425 := 0
def tw5621422259097493065 := 0
def tw17407100350122548554 := 0
def tw10148023144474302516 := 0
def tw14976791889856237018 := 0
def tw14404525701309909797 := 0
def tw9839808903392640980 := 0
def tw18322760460646660340 := 0
def tw9875880942733208930 := 0
def tw2697645555966096277 := 0
def tw4084468186949680938 := 0
def tw11300974109485095059 := 0
def tw768380042768072277 := 0
def tw7998057967371768881 := 0
def tw17695899886957312012 := 0
def tw9813699679645946350 := 0
def tw14715572533860961169 := 0
def tw9703313834392455006 := 0
def tw6220512775945897453 := 0
def tw11595892383538760167 := 0
end PySem.W.Fast
open PySem PySem.W PyProof.Rows
set_option maxRecDepth 100000 in
set_option maxHeartbeats 0 in
theorem PySem.Challenge.cw_tallyweb_k45_whole_swaps_led_holds : PySem.Challenge.rw_tallyweb_k45_whole_swaps_led.Holds := by
 w_on; o_law; k_head; (case hw => w_witness2)
 k_fill
 refine Web.walk (l := PySem.Challenge.rw_tallyweb_k45_whole_swaps_led) rfl rfl (fun w h Y => PySem.W.kIn_of Y) ?F
 case F =>
  intro w mg fa h KX G hmg
  refine' Web.all_mk KX G hmg ?aI ?lI ?cI ?kI ?aB ?lB ?cB ?kB ?aP ?lP ?cP ?kP ?aU ?lU ?cU ?kU ?aC ?lC ?cC ?kC ?aS ?lS ?cS ?kS ?aN ?lN ?cN ?kN ?aL ?lL ?cL ?kL ?aE ?lE ?cE ?kE ?aM ?lM ?cM ?kM ?aD ?lD ?cD ?kD ?aQ ?lQ ?cQ ?kQ ?aT ?lT ?cT ?kT ?aO ?lO ?cO ?kO ?aV ?lV ?cV ?kV ?aX ?lX ?cX ?kX ?aF ?lF ?cF ?kF ?aJ ?lJ ?cJ ?kJ ?aW ?lW ?cW ?kW ?aR ?lR ?cR ?kR ?aG ?lG ?cG ?kG ?aZ ?lZ ?cZ ?kZ ?aTallyError ?aUnlike ?aBadTally ?aNoExchange ?qUnlike ?gaUnlike ?naUnlike ?clUnlike ?sbUnlike ?soUnlike ?csUnlike ?xmUnlike ?i0Unlike ?i1Unlike ?i2Unlike ?qNoExchange ?gaNoExchange ?naNoExchange ?clNoExchange ?sbNoExchange ?soNoExchange ?csNoExchange ?xmNoExchange ?z1 ?z2 ?z3 ?z4 ?z5 ?z6 ?z7 ?z8 ?z9 ?z10 ?z11 ?z12 ?z13 ?z14 ?z15 ?z16 ?z17
  (case aI => k_is); (case lI => k_is); (case cI => k_is); (case kI => k_is)
  (case aB => k_is); (case lB => k_is); (case cB => k_is); (case kB => k_is)
  (case aP => k_is); (case lP => k_is); (case cP => k_is); (case kP => k_is)
  (case aU => k_is); (case lU => k_is); (case cU => k_is); (case kU => k_is)
  (case aC => k_is); (case lC => k_is); (case cC => k_is); (case kC => k_is)
  (case aS => k_is); (case lS => k_is); (case cS => k_is); (case kS => k_is)
  (case aN => k_is); (case lN => k_is); (case cN => k_is); (case kN => k_is)
  (case aL => k_is); (case lL => k_is); (case cL => k_is); (case kL => k_is)
  (case aE => k_is); (case lE => k_is); (case cE => k_is); (case kE => k_is)
  (case aM => k_is); (case lM => k_is); (case cM => k_is); (case kM => k_is)
  (case aD => k_is); (case lD => k_is); (case cD => k_is); (case kD => k_is)
  (case aQ => k_is); (case lQ => k_is); (case cQ => k_is); (case kQ => k_is)
  (case aT => k_is); (case lT => k_is); (case cT => k_is); (case kT => k_is)
  (case aO => k_is); (case lO => k_is); (case cO => k_is); (case kO => k_is)
  (case aV => k_is); (case lV => k_is); (case cV => k_is); (case kV => k_is)
  (case aX => k_is); (case lX => k_is); (case cX => k_is); (case kX => k_is)
  (case aF => k_is); (case lF => k_is); (case cF => k_is); (case kF => k_is)
  (case aJ => k_is); (case lJ => k_is); (case cJ => k_is); (case kJ => k_is)
  (case aW => k_is); (case lW => k_is); (case cW => k_is); (case kW => k_is)
  (case aR => k_is); (case lR => k_is); (case cR => k_is); (case kR => k_is)
  (case aG => k_is); (case lG => k_is); (case cG => k_is); (case kG => k_is)
  (case aZ => k_is); (case lZ => k_is); (case cZ => k_is); (case kZ => k_is)
  (case aTallyError => k_is); (case aUnlike => k_is); (case aBadTally => k_is); (case aNoExchange => k_is)
  (case qUnlike => k_exc); (case gaUnlike => k_is); (case naUnlike => k_is); (case clUnlike => k_is)
  (case sbUnlike => k_is); (case soUnlike => k_is); (case csUnlike => k_is); (case xmUnlike => kts_exm)
  (case i0Unlike => kit_is); (case i1Unlike => kit_is); (case i2Unlike => kit_is); (case qNoExchange => k_exc)
  (case gaNoExchange => k_is); (case naNoExchange => k_is); (case clNoExchange => k_is); (case sbNoExchange => k_is)
  (case soNoExchange => k_is); (case csNoExchange => k_is); (case xmNoExchange => kts_exm); (case z1 => k_is)
  (case z2 => k_is); (case z3 => k_is); (case z4 => k_is); (case z5 => k_is)
  (case z6 => k_is); (case z7 => k_is); (case z8 => k_is); (case z9 => k_is)
  (case z10 => k_is); (case z11 => k_is); (case z12 => k_is); (case z13 => k_is)
  (case z14 => k_is); (case z15 => k_is); (case z16 => k_is); (case z17 => k_is)
#print axioms PySem.Challenge.cw_tallyweb_k45_whole_swaps_led_holds
