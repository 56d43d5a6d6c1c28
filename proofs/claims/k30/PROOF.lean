import PyProof.Rows.All
import Wide.All
import OpenK.AllK
import Wide.FinOn
import Lean
import PyProof.EqAt
import PyProof.EqKinds
import PyProof.TupleCall
import PyProof.Rows.SortRunsK
import PyProof.Rows.SortShellK
import KE.KSortTup
import PyProof.TupleKey
import PySem.SetOps
import PyProof.Rows.SetFrom
import PyProof.EnumFor
import PyProof.EnumStmt
import PyProof.EnumMake
import PyProof.P3Eq
import PyProof.NeData
import PyProof.P3In
import PyProof.Rows.SumAny
import KE.KTryMore
import PyProof.NsDelKeeps
import PyProof.RulesAs
import PyProof.ExcBaseAll.ValueError
import PyProof.ExcArgsOwn
import KE.KIsAll
import KE.KLam
import KE.KSortKey
import PyProof.ListRange
import PyProof.Rows.SortRev
import PyProof.TupleOfSeq
import PyProof.Draws
import KE.KTupSum
import PyProof.ListOps
import PyProof.AutoSeq1
import Wide.Txt2
import PyProof.Cells
import PyProof.Rows.TupAdd
import PyProof.DictWalks
import PyProof.ConsumeWalk
import PyProof.DictKeyH
import PyProof.ListNew
import PyProof.ConsumeS
import PyProof.WalksMore
import KE.RegKIsAll
import KE.RegKTryMore
import PySem.Challenge.RW_tallyweb_k30_ties_in_rings
set_option Elab.async false
set_option linter.all false
set_option maxRecDepth 100000
/-! THE HAND LAYER, for ints, bools, texts, own classes, LISTS and tuples (index, slices, in, append, pop ..), calls, loops. Paste it whole ahead of your own text; what your proof does not reach may be deleted. -/
namespace L2
open PySem PySem.Spec PyProof.Rows

/-- a key: an int or a str -/
abbrev Key := Sum Int Str
def keyIs : Key → Value → Bool
  | .inl k, v => Value.isInt k v
  | .inr x, v => Value.isStrOf x v
def keyH (w : World) : Key → Int
  | .inl k => hashInt k
  | .inr x => hashStr w x
theorem keyIs_shape : ∀ {k : Key} {v : Value}, keyIs k v = true → (∃ i t, k = Sum.inl i ∧ v = Value.int i t) ∨ (∃ x t, k = Sum.inr x ∧ v = Value.str x t)
  | .inl i, v, h => by
    obtain ⟨t, e⟩ := Value.isInt_shape (k := i) (v := v) h
    exact .inl ⟨i, t, rfl, e⟩
  | .inr x, v, h => by
    obtain ⟨t, e⟩ := Value.isStrOf_shape (x := x) (v := v) h
    exact .inr ⟨x, t, rfl, e⟩
theorem keyIs_int (i : Int) (t : Tok) : keyIs (.inl i) (.int i t) = true := by simp [keyIs, Value.isInt]
theorem keyIs_str (x : Str) (t : Tok) : keyIs (.inr x) (.str x t) = true := by simp [keyIs, Value.isStrOf]
theorem key_ll (a b : Int) : decide ((Sum.inl a : Key) = Sum.inl b) = (a == b) := by
  by_cases e : a = b
  · subst e; simp
  · have h : ¬ (Sum.inl a : Key) = Sum.inl b := fun q => e (Sum.inl.inj q)
    rw [decide_eq_false h]
    exact (beq_eq_false_iff_ne.mpr e).symm
theorem key_rr (a b : Str) : decide ((Sum.inr a : Key) = Sum.inr b) = decide (a = b) := by
  by_cases e : a = b
  · subst e; simp
  · have h : ¬ (Sum.inr a : Key) = Sum.inr b := fun q => e (Sum.inr.inj q)
    rw [decide_eq_false h, decide_eq_false e]
theorem key_lr (a : Int) (b : Str) : decide ((Sum.inl a : Key) = Sum.inr b) = false := decide_eq_false (fun q => nomatch q)
theorem key_rl (a : Str) (b : Int) : decide ((Sum.inr a : Key) = Sum.inl b) = false := decide_eq_false (fun q => nomatch q)

def mixKind (prog : Program) (w : World) : PySem.KeyKind prog w Key where
  is := keyIs
  hash := keyH w
  inj := fun v a b ha hb => by
    rcases keyIs_shape ha with ⟨i, t, rfl, rfl⟩ | ⟨x, t, rfl, rfl⟩
    · rcases keyIs_shape hb with ⟨j, u, rfl, e⟩ | ⟨y, u, rfl, e⟩
      · injection e with e1 _; rw [e1]
      · exact nomatch e
    · rcases keyIs_shape hb with ⟨j, u, rfl, e⟩ | ⟨y, u, rfl, e⟩
      · exact nomatch e
      · injection e with e1 _; rw [e1]
  byValue := fun k v h => by
    rcases keyIs_shape h with ⟨i, t, rfl, rfl⟩ | ⟨x, t, rfl, rfl⟩ <;> rfl
  pyHash := fun hv h => by
    rcases keyIs_shape hv with ⟨i, t, rfl, rfl⟩ | ⟨x, t, rfl, rfl⟩
    · exact wpAny_pyHash_int h
    · exact wpAny_pyHash_str h
  eqBool := fun hu hv h => by
    rcases keyIs_shape hu with ⟨i, t, rfl, rfl⟩ | ⟨x, t, rfl, rfl⟩
    · rcases keyIs_shape hv with ⟨j, u, rfl, rfl⟩ | ⟨y, u, rfl, rfl⟩
      · rw [key_ll] at h; exact wpAny_eqBool_int h
      · rw [key_lr] at h; exact SeqAt.EqAt.int_str i t y u _ _ _ _ h
    · rcases keyIs_shape hv with ⟨j, u, rfl, rfl⟩ | ⟨y, u, rfl, rfl⟩
      · rw [key_rl] at h; exact SeqAt.EqAt.str_int x t j u _ _ _ _ h
      · rw [key_rr] at h; exact wpAny_eqBool_str h
  «strs» := fun k x t v h => by
    rcases keyIs_shape h with ⟨i, u, rfl, e⟩ | ⟨y, u, rfl, e⟩
    · exact nomatch e
    · injection e with e1 _
      subst e1
      cases v <;> rfl

theorem mixKind_int (prog : Program) (w : World) (i : Int) (t : Tok) : (mixKind prog w).is (.inl i) (.int i t) = true := keyIs_int i t
theorem mixKind_str (prog : Program) (w : World) (x : Str) (t : Tok) : (mixKind prog w).is (.inr x) (.str x t) = true := keyIs_str x t
end L2

namespace L2
open PySem PySem.Spec PyProof.Rows

/-- a value, without the heap -/
inductive V where
  | non | bl (b : Bool) | int (i : Int) | str (x : Str) | byt (b : Array UInt8) | flt (b : UInt64) | ref (a : Addr) | ty (n : String)
  deriving DecidableEq

def RelV : V → Value → Prop
  | .non, u => u = Value.none
  | .bl b, u => u = Value.bool b
  | .int i, u => ∃ t, u = Value.int i t
  | .str x, u => ∃ t, u = Value.str x t
  | .byt b, u => ∃ t, u = Value.bytes b t
  | .flt b, u => ∃ t, u = Value.float b t
  | .ref a, u => u = Value.ref a
  | .ty n, u => u = Value.type n

abbrev Vals : List V → List Value → Prop := Paired RelV
theorem Vals.length {xs : List V} {us : List Value} (r : Vals xs us) : xs.length = us.length := Paired.length r
theorem Vals.get : ∀ {xs : List V} {us : List Value} {i : Nat} {x : V}, Vals xs us → xs[i]? = some x → ∃ u, us[i]? = some u ∧ RelV x u
  | _, _, _, _, .nil, e => by simp at e
  | _, _, 0, _, .cons r _, e => by simp at e; subst e; exact ⟨_, rfl, r⟩
  | _, _, i + 1, x, .cons _ t, e => by
    obtain ⟨u, h1, h2⟩ := Vals.get (i := i) (x := x) t (by simpa using e)
    exact ⟨u, by simpa using h1, h2⟩
theorem Vals.set {x : V} {u : Value} (r : RelV x u) : ∀ {xs : List V} {us : List Value} (i : Nat), Vals xs us → Vals (xs.set i x) (us.set i u)
  | _, _, _, .nil => .nil
  | _, _, 0, .cons _ t => .cons r t
  | _, _, i + 1, .cons q t => .cons q (Vals.set r i t)
theorem Vals.append : ∀ {xs ys : List V} {us ws : List Value}, Vals xs us → Vals ys ws → Vals (xs ++ ys) (us ++ ws)
  | _, _, _, _, .nil, s => s
  | _, _, _, _, .cons r t, s => .cons r (Vals.append t s)
theorem Vals.take : ∀ {xs : List V} {us : List Value} (n : Nat), Vals xs us → Vals (xs.take n) (us.take n)
  | _, _, 0, _ => .nil
  | _, _, _ + 1, .nil => .nil
  | _, _, n + 1, .cons r t => .cons r (Vals.take n t)
theorem Vals.drop : ∀ {xs : List V} {us : List Value} (n : Nat), Vals xs us → Vals (xs.drop n) (us.drop n)
  | _, _, 0, r => r
  | _, _, _ + 1, .nil => .nil
  | _, _, n + 1, .cons _ t => Vals.drop n t
def RelO : Option V → Option Value → Prop
  | some v, some u => RelV v u
  | none, none => True
  | _, _ => False
def KV {κ : Type} : List (κ × V) → List (κ × Value) → Prop := Paired fun (p : κ × V) (q : κ × Value) => p.1 = q.1 ∧ RelV p.2 q.2

/-- a key of a dict (00_mix): an int or a text -/
def kV : Key → V
  | .inl i => .int i
  | .inr x => .str x

/-- what stands at a tracked address -/
inductive HO where
  /-- a list -/
  | lst (xs : List V)
  /-- a tuple (never changes) -/
  | tup (xs : List V)
  /-- a dict whose keys are ints and texts; one whose keys are tuples of ints and texts (the empty one is both) -/
  | dK (kvs : List (Key × V)) | dT (kvs : List (List Key × V))
  /-- a set of ints: its members, its size -/
  | set (S : Int → Bool) (n : Nat)
  /-- an instance of the class at C, its dict at dx, its attributes -/
  | ins (C dx : Addr) (fs : List (Str × V))
  /-- the dict of the instance at x -/
  | own (x : Addr)
  /-- the dict of an exception -/
  | xd (fs : List (Str × V))
  /-- a bound method, f of x -/
  | met (f x : Addr)
  /-- a range object lo, lo + 1, .. below hi -/
  | rng (lo hi : Int)
  /-- a thing that is known to the object (the script; a dict while a loop walks it): read, never written while it is so -/
  | frz (o : Obj) (u : HO)
  /-- a code object's table -/
  | tbl (ps : Array Value)
  /-- any other thing, by what is true of its one object (a def of one's own: SetO a S n := HO.ext fun h => ..) -/
  | ext (φ : Heap → Prop)

abbrev Hp := Addr → Option HO
def upd (H : Hp) (a : Addr) (o : HO) : Hp := fun b => if b = a then some o else H b
theorem upd_same {H : Hp} {a : Addr} {o : HO} : upd H a o a = some o := by unfold upd; rw [if_pos rfl]
theorem upd_ne {H : Hp} {a b : Addr} {o : HO} (h : b ≠ a) : upd H a o b = H b := by unfold upd; rw [if_neg h]
/-- two objects of different content stand apart -/
theorem ne_of {H : Hp} {a b : Addr} {o u : HO} (h : H a = some o) (h' : H b = some u) (d : o ≠ u) : a ≠ b := by
  intro e; subst e; rw [h] at h'; exact d (Option.some.inj h')
theorem ne_of_none {H : Hp} {a b : Addr} {o : HO} (h : H a = some o) (h' : H b = none) : a ≠ b := by
  intro e; subst e; rw [h] at h'; cases h'

section
variable (P : Program) (w : World)
def ObjOk (H : Hp) (h : Heap) (a : Addr) : HO → Prop
  | .lst xs => xs.length ≤ sizeLine ∧ ∃ (its : List Value) (n : Nat), Vals xs its ∧ h.get? a = some { cls := .type "list", data := .seq its.toArray n }
  | .tup xs => xs.length ≤ sizeLine ∧ ∃ its : List Value, Vals xs its ∧ IsTup h a its.toArray
  | .dK kvs => kvs.length ≤ sizeLine ∧ (a == sysModules) = false ∧ ∃ vs, KV kvs vs ∧ h.DictOf (mixKind P w) a vs
  | .dT kvs => kvs.length ≤ sizeLine ∧ (a == sysModules) = false ∧ ∃ xs : List (List Key × Addr × Value),
      Paired (fun (p : List Key × V) (q : List Key × Addr × Value) => p.1 = q.1 ∧ H q.2.1 = some (.tup (p.1.map kV)) ∧ RelV p.2 q.2.2) kvs xs ∧
      ∃ o es ep, h.get? a = some o ∧ o.ExactDict ∧ o.data = .dict es ep ∧ es.toList = xs.map (entryOfKey (tupleKind (mixKind P w))) ∧ (xs.map (·.1)).Nodup
  | .set S n => h.SetOf (intKind P w) a S n
  | .ins C dx fs => H dx = some (.own a) ∧ fs.length ≤ 1000 ∧ dx ≠ a ∧ h.get? a = some (PySem.W.instObj C dx) ∧
      ∃ mA, h.Ns1 dx mA ∧ (∀ f, RelO (fs.lookup f) (mA f)) ∧ PySem.Within mA (fs.map (·.1))
  | .own _ => ∃ o, h.get? a = some o
  | .xd fs => ∃ mA, h.Ns1 a mA ∧ ∀ f, RelO (fs.lookup f) (mA f)
  | .rng lo hi => ∃ t u v, h.get? a = some { cls := .type "range", data := .fields #[.int lo t, .int hi u, .int 1 v] }
  | .frz o u => h.get? a = some o ∧ ObjOk H h a u
  | .tbl ps => h.get? a = some { cls := .none, data := .fields ps }
  | .met f x => h.get? a = some (PySem.W.methodObj (.ref f) (.ref x))
  | .ext φ => φ h ∧ (∃ o, h.get? a = some o) ∧ ∀ h1 h2 : Heap, φ h1 → (∀ o, h1.get? a = some o → h2.get? a = some o) → φ h2
/-- the abstract heap is held -/
def HOk (H : Hp) (h : Heap) : Prop := ∀ a o, H a = some o → ObjOk P w H h a o
end

section
variable {P : Program} {w : World} {H H' : Hp} {h h' : Heap} {a : Addr} {o : HO}
theorem ObjOk.lt (x : ObjOk P w H h a o) : a < h.objs.size := by
  cases o with
  | lst xs => obtain ⟨_, _, _, _, e⟩ := x; exact Heap.lt_size e
  | tup xs => obtain ⟨_, _, _, p⟩ := x; exact p.lt
  | dK kvs => obtain ⟨_, _, _, _, o, _, _, e, _⟩ := x; exact Heap.lt_size e
  | dT kvs => obtain ⟨_, _, _, _, o, _, _, e, _⟩ := x; exact Heap.lt_size e
  | set S n => obtain ⟨o, _, _, _, e, _⟩ := x; exact Heap.lt_size e
  | ins C dx fs => obtain ⟨_, _, _, e, _⟩ := x; exact Heap.lt_size e
  | own y => obtain ⟨_, e⟩ := x; exact Heap.lt_size e
  | xd fs => obtain ⟨_, ⟨_, _, _, e, _⟩, _⟩ := x; exact Heap.lt_size e
  | rng lo hi => obtain ⟨_, _, _, e⟩ := x; exact Heap.lt_size e
  | frz ob u => obtain ⟨e, _⟩ := x; exact Heap.lt_size e
  | tbl ps => exact Heap.lt_size (show h.get? a = some _ from x)
  | met f y => exact Heap.lt_size (show h.get? a = some _ from x)
  | ext φ => obtain ⟨_, ⟨_, e⟩, _⟩ := x; exact Heap.lt_size e
theorem Paired.mapP {α β : Type} {F G : α → β → Prop} : ∀ {l₁ : List α} {l₂ : List β}, Paired F l₁ l₂ → (∀ a b, F a b → G a b) → Paired G l₁ l₂
  | _, _, .nil, _ => .nil
  | _, _, .cons r t, f => .cons (f _ _ r) (Paired.mapP t f)
/-- what an object's description leans on: its own object, its own dict, the tuples -/
theorem ObjOk.stay (x : ObjOk P w H h a o) (k : ∀ b u, (b = a ∨ H b = some (.own a)) → h.get? b = some u → h'.get? b = some u)
    (ho : ∀ b, H b = some (.own a) → H' b = some (.own a)) (ht : ∀ b xs, H b = some (.tup xs) → H' b = some (.tup xs)) : ObjOk P w H' h' a o := by
  induction o with
  | lst xs => obtain ⟨z, its, n, r, e⟩ := x; exact ⟨z, its, n, r, k _ _ (.inl rfl) e⟩
  | tup xs => obtain ⟨z, its, r, ob, e, c⟩ := x; exact ⟨z, its, r, ob, k _ _ (.inl rfl) e, c⟩
  | dK kvs => obtain ⟨z, y, vs, r, ob, es, ep, e, c⟩ := x; exact ⟨z, y, vs, r, ob, es, ep, k _ _ (.inl rfl) e, c⟩
  | dT kvs =>
    obtain ⟨z, y, xs, r, ob, es, ep, e, c⟩ := x
    exact ⟨z, y, xs, Paired.mapP r fun p q z => ⟨z.1, ht _ _ z.2.1, z.2.2⟩, ob, es, ep, k _ _ (.inl rfl) e, c⟩
  | set S n => obtain ⟨ob, es, ep, t, e, c⟩ := x; exact ⟨ob, es, ep, t, k _ _ (.inl rfl) e, c⟩
  | ins C dx fs =>
    obtain ⟨d, z, ne, e, mA, ⟨od, es, ep, e2, c⟩, r⟩ := x
    exact ⟨ho _ d, z, ne, k _ _ (.inl rfl) e, mA, ⟨od, es, ep, k _ _ (.inr d) e2, c⟩, r⟩
  | own y => obtain ⟨ob, e⟩ := x; exact ⟨ob, k _ _ (.inl rfl) e⟩
  | xd fs => obtain ⟨mA, ⟨od, es, ep, e, c⟩, r⟩ := x; exact ⟨mA, ⟨od, es, ep, k _ _ (.inl rfl) e, c⟩, r⟩
  | rng lo hi => obtain ⟨t, u, v, e⟩ := x; exact ⟨t, u, v, k _ _ (.inl rfl) e⟩
  | frz ob u ih => obtain ⟨e, q⟩ := x; exact ⟨k _ _ (.inl rfl) e, ih q⟩
  | tbl ps =>
    have e : h.get? a = some { cls := .none, data := .fields ps } := x
    show h'.get? a = some { cls := .none, data := .fields ps }
    exact k a _ (.inl rfl) e
  | met f y =>
    have e : h.get? a = some (PySem.W.methodObj (.ref f) (.ref y)) := x
    show h'.get? a = some (PySem.W.methodObj (.ref f) (.ref y))
    exact k a _ (.inl rfl) e
  | ext φ => obtain ⟨p, ⟨o, e⟩, st⟩ := x; exact ⟨st _ _ p fun o q => k _ _ (.inl rfl) q, ⟨o, k _ _ (.inl rfl) e⟩, st⟩
theorem HOk.lt (x : HOk P w H h) (e : H a = some o) : a < h.objs.size := (x a o e).lt
theorem HOk.fresh (x : HOk P w H h) (e : h.objs.size ≤ a) : H a = none := by
  cases q : H a with
  | none => rfl
  | some u => exact absurd (Nat.lt_of_lt_of_le (x.lt q) e) (Nat.lt_irrefl _)
/-- every object of the heap is kept -/
theorem HOk.kept (x : HOk P w H h) (k : ∀ b u, h.get? b = some u → h'.get? b = some u) : HOk P w H h' := fun a o e =>
  (x a o e).stay (fun b u _ q => k b u q) (fun _ q => q) fun _ _ q => q
/-- a new object is laid and tracked -/
theorem HOk.laid (x : HOk P w H h) (k : ∀ b u, h.get? b = some u → h'.get? b = some u) (hp : h.objs.size ≤ a) (new : ObjOk P w (upd H a o) h' a o) : HOk P w (upd H a o) h' := fun b u e => by
  have hn := x.fresh hp
  by_cases hb : b = a
  · subst hb; rw [upd_same] at e; cases e; exact new
  · rw [upd_ne hb] at e
    exact (x b u e).stay (fun c v _ q => k c v q) (fun c q => by rw [upd_ne (ne_of_none q hn)]; exact q) fun c xs q => by rw [upd_ne (ne_of_none q hn)]; exact q
end

/-- what may be read as u: it is u, or a known u -/
def Rd (H : Hp) (a : Addr) (u : HO) : Prop := H a = some u ∨ ∃ o, H a = some (.frz o u)
theorem Rd.of {H : Hp} {a : Addr} {u : HO} (h : H a = some u) : Rd H a u := .inl h
theorem Rd.ok {P : Program} {w : World} {H : Hp} {h : Heap} {a : Addr} {u : HO} (r : Rd H a u) (x : HOk P w H h) : ObjOk P w H h a u := by
  rcases r with r | ⟨o, r⟩
  · exact x a u r
  · obtain ⟨_, q⟩ := x a _ r
    exact q
/-- what may be written -/
def Mut : Option HO → Prop
  | some (.lst _) => True
  | some (.dK _) => True
  | some (.dT _) => True
  | some (.set _ _) => True
  | some (.ins _ _ _) => True
  | some (.ext _) => True
  | _ => False
section
variable {P : Program} {w : World} {H : Hp} {h h' : Heap} {x e : Addr} {o' : HO}
/-- the object at e is changed: x itself, or the dict of the instance x -/
theorem HOk.write (ok : HOk P w H h) (mu : Mut (H x)) (he : e = x ∨ H e = some (.own x)) (k : ∀ b u, b ≠ e → h.get? b = some u → h'.get? b = some u) (heo : ∃ u, h'.get? e = some u)
    (new : ObjOk P w (upd H x o') h' x o') : HOk P w (upd H x o') h' := fun b u q => by
  have nown : ∀ c y, H c = some (.own y) → c ≠ x := fun c y r z => by subst z; rw [r] at mu; exact mu
  have ntup : ∀ c xs, H c = some (.tup xs) → c ≠ x := fun c xs r z => by subst z; rw [r] at mu; exact mu
  by_cases hb : b = x
  · subst hb; rw [upd_same] at q; cases q; exact new
  · rw [upd_ne hb] at q
    by_cases hbe : b = e
    · have q' : H b = some (.own x) := by
        rcases he with z | z
        · exact absurd (hbe.trans z) hb
        · rw [hbe]; exact z
      rw [q] at q'; cases q'
      obtain ⟨v, hv⟩ := heo
      exact ⟨v, by rw [hbe]; exact hv⟩
    · refine (ok b u q).stay (fun c v hc r => k c v ?_ r) (fun c r => by rw [upd_ne (nown c b r)]; exact r) fun c xs r => by rw [upd_ne (ntup c xs r)]; exact r
      rcases hc with rfl | hc
      · exact hbe
      · rintro rfl
        rcases he with z | z
        · exact nown c b hc z
        · rw [hc] at z; cases z; exact hb rfl
end

/-! ### kept unless tracked; of the frames at fs (the callers') the slots may change (an exception that passes writes there); of the records at ex (iterators) nothing is said -/
structure Un (fs ex : List Addr) (H H' : Hp) (h h' : Heap) : Prop where
  keep : ∀ b o, h.get? b = some o → H b = none → b ∉ fs → b ∉ ex → h'.get? b = some o
  slot : ∀ b o, h.get? b = some o → H b = none → b ∈ fs → b ∉ ex → ∃ sl, h'.get? b = some { o with slots := sl }
  free : ∀ b o, h.get? b = some o → H b = none → b ∉ ex → H' b = none
  there : ∀ b o, h.get? b = some o → b ∉ ex → ∃ o', h'.get? b = some o'
  tups : ∀ b xs, H b = some (.tup xs) → H' b = some (.tup xs)
  frzs : ∀ b o u, H b = some (.frz o u) → H' b = some (.frz o u)
  tbls : ∀ b ps, H b = some (.tbl ps) → ∃ more, H' b = some (.tbl (ps ++ more))
section
variable {fs fs' ex ex' : List Addr} {H H1 H2 : Hp} {h h1 h2 h' : Heap} {a x e : Addr} {o : HO}
theorem Un.any (u : Un fs ex H H1 h h1) {b : Addr} {ob : Obj} (q : h.get? b = some ob) (n : H b = none) (hx : b ∉ ex) : ∃ sl, h1.get? b = some { ob with slots := sl } := by
  by_cases hb : b ∈ fs
  · exact u.slot b ob q n hb hx
  · exact ⟨ob.slots, u.keep b ob q n hb hx⟩
theorem Un.trans (a : Un fs ex H H1 h h1) (b : Un fs ex H1 H2 h1 h2) : Un fs ex H H2 h h2 where
  keep := fun c ob q n hc hx => b.keep c ob (a.keep c ob q n hc hx) (a.free c ob q n hx) hc hx
  slot := fun c ob q n hc hx => by
    obtain ⟨sl, e1⟩ := a.slot c ob q n hc hx
    obtain ⟨sl', e2⟩ := b.slot c _ e1 (a.free c ob q n hx) hc hx
    exact ⟨sl', e2⟩
  free := fun c ob q n hx => by
    obtain ⟨o', e1⟩ := a.there c ob q hx
    exact b.free c o' e1 (a.free c ob q n hx) hx
  there := fun c ob q hx => by
    obtain ⟨o', e1⟩ := a.there c ob q hx
    exact b.there c o' e1 hx
  tups := fun c xs q => b.tups c xs (a.tups c xs q)
  frzs := fun c ob xs q => b.frzs c ob xs (a.frzs c ob xs q)
  tbls := fun c ps q => by
    obtain ⟨m1, e1⟩ := a.tbls c ps q
    obtain ⟨m2, e2⟩ := b.tbls c _ e1
    exact ⟨m1 ++ m2, by rw [e2, Array.append_assoc]⟩
theorem Un.kept (k : ∀ b u, h.get? b = some u → h'.get? b = some u) : Un fs ex H H h h' :=
  ⟨fun b ob q _ _ _ => k b ob q, fun b ob q _ _ _ => ⟨ob.slots, k b ob q⟩, fun _ _ _ n _ => n, fun b ob q _ => ⟨ob, k b ob q⟩, fun _ _ q => q, fun _ _ _ q => q, fun _ ps q => ⟨#[], by rw [q]; simp⟩⟩
theorem Un.refl : Un fs ex H H h h := Un.kept fun _ _ q => q
theorem Un.laid (k : ∀ b u, h.get? b = some u → h'.get? b = some u) (hp : h.objs.size ≤ a) (hn : H a = none) : Un fs ex H (upd H a o) h h' where
  keep := fun b u q _ _ _ => k b u q
  slot := fun b u q _ _ _ => ⟨u.slots, k b u q⟩
  free := fun b u q n _ => by rw [upd_ne (Nat.ne_of_lt (Nat.lt_of_lt_of_le (Heap.lt_size q) hp))]; exact n
  there := fun b u q _ => ⟨u, k b u q⟩
  tups := fun b xs q => by rw [upd_ne (ne_of_none q hn)]; exact q
  frzs := fun b u xs q => by rw [upd_ne (ne_of_none q hn)]; exact q
  tbls := fun b ps q => ⟨#[], by rw [upd_ne (ne_of_none q hn), q]; simp⟩
theorem Un.write (mu : Mut (H x)) (he : e = x ∨ H e = some (.own x)) (k : ∀ b u, b ≠ e → h.get? b = some u → h'.get? b = some u) (heo : ∃ u, h'.get? e = some u) : Un fs ex H (upd H x o) h h' := by
  have hx : ∀ b, H b = none → b ≠ x := fun b n z => by subst z; rw [n] at mu; exact mu
  have hb : ∀ b, H b = none → b ≠ e := fun b n z => by
    subst z
    rcases he with r | r
    · exact hx b n r
    · rw [n] at r; cases r
  have hm : ∀ b u, H b = some u → ¬ Mut (some u) → b ≠ x := fun b u q nm z => by subst z; rw [q] at mu; exact nm mu
  refine ⟨fun b u q n _ _ => k b u (hb b n) q, fun b u q n _ _ => ⟨u.slots, k b u (hb b n) q⟩, fun b u q n _ => by rw [upd_ne (hx b n)]; exact n, fun b u q _ => ?_,
    fun b xs q => by rw [upd_ne (hm b _ q fun z => z)]; exact q, fun b u xs q => by rw [upd_ne (hm b _ q fun z => z)]; exact q, fun b ps q => ⟨#[], by rw [upd_ne (hm b _ q fun z => z), q]; simp⟩⟩
  by_cases hbe : b = e
  · subst hbe; exact heo
  · exact ⟨u, k b u hbe q⟩
theorem Un.mono (u : Un fs ex H H1 h h1) (hs : ∀ b ∈ fs, b ∈ fs') (hx : ∀ b ∈ ex, b ∈ ex') : Un fs' ex' H H1 h h1 :=
  ⟨fun b ob q n hb he => u.keep b ob q n (fun z => hb (hs b z)) fun z => he (hx b z), fun _ _ q n _ he => u.any q n fun z => he (hx _ z), fun b ob q n he => u.free b ob q n fun z => he (hx b z), fun b ob q he => u.there b ob q fun z => he (hx b z), u.tups, u.frzs, u.tbls⟩
end

/-! ### the heap without what is tracked -/
def trk (h : Heap) (H : Hp) : List Addr := (List.range h.objs.size).filter fun a => (H a).isSome
def hidT (h : Heap) (H : Hp) : Heap := PySem.W.hideAll h (trk h H)
theorem hidT_size (h : Heap) (H : Hp) : (hidT h H).objs.size = h.objs.size := PySem.W.hideAll_size _ _
theorem hidT_get {h : Heap} {H : Hp} {b : Addr} {o : Obj} (e : h.get? b = some o) (n : H b = none) : (hidT h H).get? b = some o :=
  PySem.W.hideAll_get _ e fun hm => by
    have q : (H b).isSome = true := (List.mem_filter.mp hm).2
    rw [n] at q; simp at q
theorem of_hidT {h : Heap} {H : Hp} {b : Addr} {o : Obj} (e : (hidT h H).get? b = some o) : h.get? b = some o ∧ H b = none := by
  have e' : h.get? b = some o := PySem.W.of_hideAll (trk h H) e
  refine ⟨e', ?_⟩
  cases q : H b with
  | none => rfl
  | some x =>
    have hm : b ∈ trk h H := List.mem_filter.mpr ⟨List.mem_range.mpr (Heap.lt_size e'), by simp [q]⟩
    have z : (hidT h H).get? b = none := PySem.W.hideAll_none (trk h H) hm
    rw [z] at e; cases e

/-! ### OpenK's ledger, filled with every new object but one -/
def allNews (g h : Heap) (L : Addr) : List (Addr × Obj) := (List.range h.objs.size).filterMap fun a => if a = L ∨ (g.get? a).isSome = true then none else (h.get? a).map fun o => (a, o)
def rest (g h : Heap) (L d : Addr) : List (Addr × Obj) := (allNews g h L).filter fun p => decide (p.1 ≠ d)
end L2

namespace L2
open PySem PySem.Spec PyProof.Rows

/-- the module's facts, over the base: the heap at the law's entry without what is tracked there -/
structure Mod (K : PySem.W.Frag) (mg : Str → Option Value) (base : Heap) : Prop where
  kin : K.In base
  glob : base.Ns mainGlobals mg
  blt : ∃ mb, base.Ns builtinsNs mb ∧ ∀ x : Str, x ≠ "__name__" → mb x = bootBuiltins x
  nolimit : base.NoLimit

/-- the context: a def's body (or a comprehension's block) running. base: fixed through the whole law; s₀, H₀: the entry; outer: the frames whose slots others may change (a def's callers); stack: all frames that run;
   ex: iterators that were made ahead of the entry and are walked here (a comprehension's); fn: the names whose cells were made at the entry (a def: all; a comprehension's block: its own); calm: not within an except suite; pn: pins that every state bears; xe: what is wanted of an exception that leaves the code -/
structure Cx where
  prog : Program
  w : World
  K : PySem.W.Frag
  mg : Str → Option Value
  base : Heap
  A : Around
  N : List Str
  s₀ : Shared
  H₀ : Hp
  env : Env
  outer : List Env
  stack : List Env
  ex : List Addr
  fn : Str → Bool
  calm : Bool
  pn : List (Addr × Obj)
  xe : Value → Shared → Prop
/-- the callers' frames -/
def frs (l : List Env) : List Addr := l.filterMap (·.frame)
abbrev Cx.fs (X : Cx) : List Addr := frs X.outer

def Vis (sc : Scope) (x : Str) : Prop := sc.names.lookup x = some .local ∨ sc.names.lookup x = some .cell ∨ sc.names.lookup x = some .free
def Loc (sc : Scope) (x : Str) : Prop := sc.names.lookup x = some .local ∨ sc.names.lookup x = some .cell
def Look (env : Env) (h : Heap) (m : Str → Option Value) (x : Str) (u : Value) : Prop :=
  (env.kindOf x = some .local ∧ m x = some u) ∨ ((env.kindOf x = some .cell ∨ env.kindOf x = some .free) ∧ ∃ c, env.cells.lookup x = some c ∧ h.IsCell c (some u))

structure Cx.Ok (X : Cx) : Prop where
  mod : Mod X.K X.mg X.base
  kind : X.env.scope.kind = .function
  glob : X.env.globals = mainGlobals
  blt : X.env.builtins = builtinsNs
  above : X.s₀.heap.objs.size ≤ X.env.locals
  inj : ∀ x y c, X.env.cells.lookup x = some c → X.env.cells.lookup y = some c → x = y
  has : ∀ x, (X.env.kindOf x = some .cell ∨ X.env.kindOf x = some .free) → ∃ c, X.env.cells.lookup x = some c
  cab : ∀ x c, X.fn x = true → X.env.cells.lookup x = some c → X.s₀.heap.objs.size ≤ c
  hd : X.calm = true → X.A.handled = none
  frames : X.A.frames = some X.stack
  stk : X.stack = X.outer ∨ (X.stack = X.env :: X.outer ∧ X.env.frame = some X.env.locals)
  exf : ∀ b ∈ X.ex, b ≠ X.env.locals ∧ ∀ x c, X.env.cells.lookup x = some c → c ≠ b
  bs : ∀ b o, X.base.get? b = some o → X.s₀.heap.get? b = some o ∧ X.H₀ b = none
  bsz : X.base.objs.size ≤ X.s₀.heap.objs.size
  noex : ∀ b o, X.base.get? b = some o → b ∉ X.ex
  exfs : ∀ b ∈ X.ex, b ∉ X.fs
  funs : X.s₀.heap.FunFrames X.base X.outer
  frf : ∀ b ∈ X.fs, X.H₀ b = none

structure Inv (X : Cx) (pins : List (Addr × Obj)) (σ : List (Option V)) (H : Hp) (s : Shared) : Prop where
  ok : X.Ok
  os : s.os = X.s₀.os
  bare : AllBare s.gens
  base : Un X.fs X.ex X.H₀ H X.s₀.heap s.heap
  loc : ∃ m, s.heap.Ns X.env.locals m ∧ ∀ (i : Nat) (x : Str) (v : V), X.N[i]? = some x → σ[i]? = some (some v) → Vis X.env.scope x → ∃ u, RelV v u ∧ Look X.env s.heap m x u
  cell : ∀ x c, X.env.cells.lookup x = some c → ∃ v, s.heap.IsCell c v
  free : H X.env.locals = none
  freeC : ∀ x c, X.env.cells.lookup x = some c → H c = none
  pin : ∀ p ∈ X.pn ++ pins, s.heap.get? p.1 = some p.2 ∧ H p.1 = none ∧ p.1 ≠ X.env.locals ∧ p.1 ∉ X.fs ∧ ∀ v, p.2.data ≠ .cell v
  hok : HOk X.prog X.w H s.heap
  len : σ.length = X.N.length

section
variable {X : Cx} {pins : List (Addr × Obj)} {σ : List (Option V)} {H H' : Hp} {s : Shared} {h' : Heap}

theorem Cx.Ok.nofr (ok : X.Ok) {b : Addr} {o : Obj} (e : X.base.get? b = some o) : b ∉ X.fs := fun hb => by
  have := (ok.funs.mem hb).1
  rw [e] at this; cases this
theorem Inv.bs (I : Inv X pins σ H s) : ∀ b o, X.base.get? b = some o → s.heap.get? b = some o ∧ H b = none := fun b o e =>
  ⟨I.base.keep b o (I.ok.bs b o e).1 (I.ok.bs b o e).2 (I.ok.nofr e) (I.ok.noex b o e), I.base.free b o (I.ok.bs b o e).1 (I.ok.bs b o e).2 (I.ok.noex b o e)⟩
theorem Inv.bk (I : Inv X pins σ H s) : ∀ b o, X.base.get? b = some o → s.heap.get? b = some o := fun b o e => (I.bs b o e).1
theorem Inv.mod (I : Inv X pins σ H s) : Mod X.K X.mg X.base := I.ok.mod
theorem Inv.kIn (I : Inv X pins σ H s) : X.K.In s.heap := I.ok.mod.kin.keeps I.bk
theorem Inv.nolimit (I : Inv X pins σ H s) : s.heap.NoLimit := I.ok.mod.nolimit.keeps I.bk
/-- the frame over the base: for OpenK's rules (K.In X.base is I.mod.kin) -/
theorem Inv.fr (I : Inv X pins σ H s) : ∃ m, Fr X.base X.env.locals s.heap m :=
  let ⟨m, hn, _⟩ := I.loc
  ⟨m, hn, I.bk, Nat.le_trans I.ok.bsz I.ok.above⟩
theorem Inv.lt (I : Inv X pins σ H s) : X.env.locals < s.heap.objs.size := let ⟨_, hn, _⟩ := I.loc; hn.lt
theorem Inv.sz (I : Inv X pins σ H s) : X.s₀.heap.objs.size ≤ s.heap.objs.size := Nat.le_trans I.ok.above (Nat.le_of_lt I.lt)
theorem Inv.nofs (I : Inv X pins σ H s) {a : Addr} (h : s.heap.objs.size ≤ a) : a ∉ X.fs := fun hb => by
  obtain ⟨_, o, ho, _⟩ := I.ok.funs.mem hb
  exact absurd (Nat.lt_of_lt_of_le (Heap.lt_size ho) (Nat.le_trans I.sz h)) (Nat.lt_irrefl _)
theorem Inv.cne (I : Inv X pins σ H s) : ∀ x c, X.env.cells.lookup x = some c → c ≠ X.env.locals := fun x c e z => by
  obtain ⟨v, o, ho, hd⟩ := I.cell x c e
  obtain ⟨m, ⟨o', es, ep, ho', hd', _⟩, _⟩ := I.loc
  rw [z, ho'] at ho; cases ho; rw [hd'] at hd; cases hd
theorem Inv.funs (I : Inv X pins σ H s) : s.heap.FunFrames X.base X.outer := by
  have all : ∀ (l : List Env), (∀ b ∈ frs l, b ∈ X.fs) → X.s₀.heap.FunFrames X.base l → s.heap.FunFrames X.base l := by
    intro l
    induction l with
    | nil => intro _ _; trivial
    | cons env r ih =>
      intro hs hl
      obtain ⟨hk, ⟨L, o, hf, hn, ho, hd⟩, hr⟩ := hl
      have hL : L ∈ X.fs := hs L (by unfold frs; rw [List.filterMap_cons, hf]; exact List.mem_cons_self)
      obtain ⟨sl, e⟩ := I.base.slot L o ho (I.ok.frf L hL) hL fun z => I.ok.exfs L z hL
      exact ⟨hk, ⟨L, _, hf, hn, e, hd⟩, ih (fun b hb => hs b (by unfold frs; rw [List.filterMap_cons, hf]; exact List.mem_cons_of_mem _ hb)) hr⟩
  exact all X.outer (fun _ hb => hb) I.ok.funs

/-- the frames that run, for a call -/
theorem Inv.stack (I : Inv X pins σ H s) : s.heap.FunFrames X.base X.stack := by
  rcases I.ok.stk with e | ⟨e, hf⟩
  · rw [e]; exact I.funs
  · rw [e]
    obtain ⟨m, hn, _⟩ := I.loc
    refine .cons (by rw [I.ok.kind]; decide) hf hn ?_ I.funs
    exact Heap.get?_none_of_le (Nat.le_trans I.ok.bsz I.ok.above)
theorem Inv.stkSub (I : Inv X pins σ H s) : ∀ b ∈ frs X.stack, b ∈ X.env.locals :: X.fs := fun b hb => by
  rcases I.ok.stk with e | ⟨e, hf⟩
  · rw [e] at hb; exact List.mem_cons_of_mem _ hb
  · rw [e] at hb
    unfold frs at hb
    rw [List.filterMap_cons, hf] at hb
    exact hb
theorem Inv.stkFree (I : Inv X pins σ H s) : ∀ b ∈ frs X.stack, H b = none := fun b hb => by
  rcases List.mem_cons.mp (I.stkSub b hb) with e | hb
  · rw [e]; exact I.free
  · obtain ⟨_, o, ho, _⟩ := I.ok.funs.mem hb
    exact I.base.free b o ho (I.ok.frf b hb) fun z => I.ok.exfs b z hb

/-- THE STEP: the untracked objects but the frame and the records at ch are kept (the callers' frames up to slots), the frame's map is kept, the new abstract heap is held -/
theorem Inv.step {g' : Array GenState} {t' : Nat} {d' : Drawn} {ch : List Addr} (I : Inv X pins σ H s)
    (hch : ∀ b ∈ ch, (b ∈ X.ex ∨ X.s₀.heap.objs.size ≤ b) ∧ b ≠ X.env.locals ∧ (∀ x c, X.env.cells.lookup x = some c → c ≠ b) ∧ ∀ p ∈ X.pn ++ pins, p.1 ≠ b)
    (keep : ∀ b o, b ≠ X.env.locals → b ∉ X.fs → b ∉ ch → s.heap.get? b = some o → H b = none → h'.get? b = some o)
    (slot : ∀ b o, b ≠ X.env.locals → b ∈ X.fs → b ∉ ch → s.heap.get? b = some o → H b = none → ∃ sl, h'.get? b = some { o with slots := sl }) (free : ∀ b o, b ∉ ch → s.heap.get? b = some o → H b = none → H' b = none)
    (there : ∀ b o, b ∉ ch → s.heap.get? b = some o → ∃ o', h'.get? b = some o')
    (tups : ∀ b xs, H b = some (.tup xs) → H' b = some (.tup xs)) (frzs : ∀ b o u, H b = some (.frz o u) → H' b = some (.frz o u)) (tbls : ∀ b ps, H b = some (.tbl ps) → ∃ more, H' b = some (.tbl (ps ++ more)))
    (ns : ∀ m, s.heap.Ns X.env.locals m → h'.Ns X.env.locals m) (hok : HOk X.prog X.w H' h') (hg : AllBare g') :
    Inv X pins σ H' { s with heap := h', gens := g', drawn := d', toks := t' } := by
  have neL : ∀ b o, X.s₀.heap.get? b = some o → b ≠ X.env.locals := fun b o e => Nat.ne_of_lt (Nat.lt_of_lt_of_le (Heap.lt_size e) I.ok.above)
  have neC : ∀ b o, X.s₀.heap.get? b = some o → b ∉ X.ex → b ∉ ch := fun b o e hx hb => by
    rcases (hch b hb).1 with z | z
    · exact hx z
    · exact absurd (Nat.lt_of_lt_of_le (Heap.lt_size e) z) (Nat.lt_irrefl _)
  have cellK : ∀ x c, X.env.cells.lookup x = some c → ∀ v, s.heap.IsCell c v → h'.IsCell c v := fun x c e v ⟨o, ho, hd⟩ => by
    have nch : c ∉ ch := fun z => (hch c z).2.2.1 x c e rfl
    by_cases hc : c ∈ X.fs
    · obtain ⟨sl, q⟩ := slot c o (I.cne x c e) hc nch ho (I.freeC x c e)
      exact ⟨_, q, hd⟩
    · exact ⟨o, keep c o (I.cne x c e) hc nch ho (I.freeC x c e), hd⟩
  refine ⟨I.ok, I.os, hg, ⟨fun b o e n hb hx => ?_, fun b o e n hb hx => ?_, fun b o e n hx => ?_, fun b o e hx => ?_, fun b xs e => tups b xs (I.base.tups b xs e), fun b o xs e => frzs b o xs (I.base.frzs b o xs e), fun b ps e => ?_⟩, ?_, fun x c e => ?_, ?_, fun x c e => ?_, fun p hp => ?_, hok, I.len⟩
  · exact keep b o (neL b o e) hb (neC b o e hx) (I.base.keep b o e n hb hx) (I.base.free b o e n hx)
  · obtain ⟨sl, e1⟩ := I.base.slot b o e n hb hx
    obtain ⟨sl', e2⟩ := slot b _ (neL b o e) hb (neC b o e hx) e1 (I.base.free b o e n hx)
    exact ⟨sl', e2⟩
  · obtain ⟨o', e1⟩ := I.base.there b o e hx
    exact free b o' (neC b o e hx) e1 (I.base.free b o e n hx)
  · obtain ⟨o', e1⟩ := I.base.there b o e hx
    exact there b o' (neC b o e hx) e1
  · obtain ⟨m1, e1⟩ := I.base.tbls b ps e
    obtain ⟨m2, e2⟩ := tbls b _ e1
    exact ⟨m1 ++ m2, by rw [e2, Array.append_assoc]⟩
  · obtain ⟨m, hn, hl⟩ := I.loc
    refine ⟨m, ns m hn, fun i x v e1 e2 e3 => ?_⟩
    obtain ⟨u, r, l⟩ := hl i x v e1 e2 e3
    refine ⟨u, r, ?_⟩
    rcases l with l | ⟨k, c, e, z⟩
    · exact .inl l
    · exact .inr ⟨k, c, e, cellK x c e _ z⟩
  · obtain ⟨v, z⟩ := I.cell x c e
    exact ⟨v, cellK x c e v z⟩
  · obtain ⟨m, ⟨o, _, _, ho, _⟩, _⟩ := I.loc
    exact free _ o (fun z => (hch _ z).2.1 rfl) ho I.free
  · obtain ⟨v, o, ho, hd⟩ := I.cell x c e
    exact free c o (fun z => (hch c z).2.2.1 x c e rfl) ho (I.freeC x c e)
  · obtain ⟨e, n, ne, nf, d⟩ := I.pin p hp
    have nch : p.1 ∉ ch := fun z => (hch p.1 z).2.2.2 p hp rfl
    exact ⟨keep p.1 p.2 ne nf nch e n, free p.1 p.2 nch e n, ne, nf, d⟩
/-- .. where the frame's own object is kept too -/
theorem Inv.un {t' : Nat} (I : Inv X pins σ H s) (u : Un X.fs [] H H' s.heap h') (hok : HOk X.prog X.w H' h') : Inv X pins σ H' { s with heap := h', toks := t' } := by
  obtain ⟨m, ⟨o, es, ep, ho, r⟩, _⟩ := id I.loc
  obtain ⟨sl, hL⟩ := u.any ho I.free (by simp)
  exact I.step (g' := s.gens) (d' := s.drawn) (ch := []) (fun _ z => nomatch z) (fun b o _ hb _ e n => u.keep b o e n hb (by simp)) (fun b o _ hb _ e n => u.slot b o e n hb (by simp)) (fun b o _ e n => u.free b o e n (by simp)) (fun b o _ e => u.there b o e (by simp)) u.tups u.frzs u.tbls (fun m' hm => by
    obtain ⟨o', es', ep', ho', r'⟩ := hm
    rw [ho] at ho'; cases ho'
    exact ⟨_, es', ep', hL, r'⟩) hok I.bare
/-- behind a call (or a comprehension's block): the slots of this frame may have changed too, the records at ch may have turned -/
theorem Inv.call {g' : Array GenState} {t' : Nat} {d' : Drawn} {ch : List Addr} (I : Inv X pins σ H s) (u : Un (frs X.stack) ch H H' s.heap h') (hok : HOk X.prog X.w H' h') (hg : AllBare g')
    (hch : ∀ b ∈ ch, (b ∈ X.ex ∨ X.s₀.heap.objs.size ≤ b) ∧ b ≠ X.env.locals ∧ (∀ x c, X.env.cells.lookup x = some c → c ≠ b) ∧ ∀ p ∈ X.pn ++ pins, p.1 ≠ b) :
    Inv X pins σ H' { s with heap := h', gens := g', drawn := d', toks := t' } := by
  obtain ⟨m, ⟨o, es, ep, ho, r⟩, _⟩ := id I.loc
  obtain ⟨sl, hL⟩ := u.any ho I.free fun z => (hch _ z).2.1 rfl
  exact I.step (ch := ch) hch (fun b o hL hb hc e n => u.keep b o e n (fun z => (List.mem_cons.mp (I.stkSub b z)).elim hL hb) hc) (fun b o _ _ hc e n => u.any e n hc) (fun b o hc e n => u.free b o e n hc) (fun b o hc e => u.there b o e hc) u.tups u.frzs u.tbls (fun m' hm => by
    obtain ⟨o', es', ep', ho', r'⟩ := hm
    rw [ho] at ho'; cases ho'
    exact ⟨_, es', ep', hL, r'⟩) hok hg
/-- an untracked record of ours (an iterator) has turned -/
theorem Inv.turned {t' : Nat} {it : Addr} (I : Inv X pins σ H s) (k : ∀ b o, b ≠ it → s.heap.get? b = some o → h'.get? b = some o) (hn : H it = none) (hL : it ≠ X.env.locals)
    (h1 : it ∈ X.ex ∨ X.s₀.heap.objs.size ≤ it) (h2 : ∀ x c, X.env.cells.lookup x = some c → c ≠ it) (h3 : ∀ p ∈ X.pn ++ pins, p.1 ≠ it) : Inv X pins σ H { s with heap := h', toks := t' } := by
  have nit : ∀ b u, H b = some u → b ≠ it := fun b u e z => by rw [z, hn] at e; cases e
  refine I.step (g' := s.gens) (d' := s.drawn) (ch := [it]) (fun b hb => ?_) (fun b o _ _ hc e _ => k b o (fun z => hc (by simp [z])) e) (fun b o _ _ hc e _ => ⟨o.slots, k b o (fun z => hc (by simp [z])) e⟩) (fun _ _ _ _ n => n)
    (fun b o hc e => ⟨o, k b o (fun z => hc (by simp [z])) e⟩) (fun _ _ e => e) (fun _ _ _ e => e) (fun b ps e => ⟨#[], by rw [e]; simp⟩) (fun m hm => ?_) (fun b u e => ?_) I.bare
  · have e : b = it := by simpa using hb
    subst e
    exact ⟨h1, hL, h2, h3⟩
  · obtain ⟨o, es, ep, ho, r⟩ := hm
    exact ⟨o, es, ep, k _ o (Ne.symm hL) ho, r⟩
  · refine (I.hok b u e).stay (fun c v hc q => k c v ?_ q) (fun _ q => q) fun _ _ q => q
    rcases hc with z | z
    · rw [z]; exact nit b u e
    · exact nit c _ z
theorem Inv.tok (I : Inv X pins σ H s) (t : Nat) : Inv X pins σ H { s with toks := t } := I.un (h' := s.heap) (t' := t) Un.refl I.hok
/-- all objects kept -/
theorem Inv.kept {t' : Nat} (I : Inv X pins σ H s) (k : ∀ b u, s.heap.get? b = some u → h'.get? b = some u) : Inv X pins σ H { s with heap := h', toks := t' } := I.un (Un.kept k) (I.hok.kept k)
/-- a new object laid and tracked -/
theorem Inv.laid {a : Addr} {o : HO} {t' : Nat} (I : Inv X pins σ H s) (k : ∀ b u, s.heap.get? b = some u → h'.get? b = some u) (hp : s.heap.objs.size ≤ a) (new : ObjOk X.prog X.w (upd H a o) h' a o) :
    Inv X pins σ (upd H a o) { s with heap := h', toks := t' } := I.un (Un.laid k hp (I.hok.fresh hp)) (I.hok.laid k hp new)
/-- an object written -/
theorem Inv.write {x e : Addr} {o : HO} {t' : Nat} (I : Inv X pins σ H s) (mu : Mut (H x)) (he : e = x ∨ H e = some (.own x)) (k : ∀ b u, b ≠ e → s.heap.get? b = some u → h'.get? b = some u) (heo : ∃ u, h'.get? e = some u)
    (new : ObjOk X.prog X.w (upd H x o) h' x o) : Inv X pins σ (upd H x o) { s with heap := h', toks := t' } := I.un (Un.write mu he k heo) (I.hok.write mu he k heo new)
theorem Inv.pins_of {pins' : List (Addr × Obj)} (I : Inv X pins σ H s) (h : ∀ p ∈ pins', s.heap.get? p.1 = some p.2 ∧ H p.1 = none ∧ p.1 ≠ X.env.locals ∧ p.1 ∉ X.fs ∧ ∀ v, p.2.data ≠ .cell v) : Inv X pins' σ H s :=
  ⟨I.ok, I.os, I.bare, I.base, I.loc, I.cell, I.free, I.freeC, fun p hp => (List.mem_append.mp hp).elim (fun z => I.pin p (List.mem_append_left _ z)) (h p), I.hok, I.len⟩

theorem nodup_ix {N : List Str} (hN : N.Nodup) {i j : Nat} {x : Str} (a : N[i]? = some x) (b : N[j]? = some x) : i = j := by
  obtain ⟨h1, e1⟩ := List.getElem?_eq_some_iff.mp a
  obtain ⟨h2, e2⟩ := List.getElem?_eq_some_iff.mp b
  exact (List.getElem_inj hN).mp (e1.trans e2.symm)

/-- a name is stored; what changed -/
theorem store_ok2 {M : Model} {A : Around} {E : Value → Shared → Prop} {i : Nat} {x : Str} {v : V} {u : Value} {Q : Unit → Shared → Prop} (I : Inv X pins σ H s) (hN : X.N.Nodup) (hi : X.N[i]? = some x) (hx : Loc X.env.scope x) (r : RelV v u)
    (h : ∀ s', Inv X pins (σ.set i (some v)) H s' → (∃ a, Heap.SameBut a s.heap s'.heap ∧ (a = X.env.locals ∨ X.env.cells.lookup x = some a)) → Q () s') (hf : X.fn x = true ∨ X.env.scope.names.lookup x = some .local := by first | exact .inl rfl | exact .inr rfl | assumption) : wpAny M A (storeName X.env x u) Q E s := by
  obtain ⟨m, hn, hl⟩ := id I.loc
  have hcls : (X.env.scope.kind == .class || (X.env.scope.kind == .module && X.env.locals != X.env.globals)) = false := by rw [I.ok.kind]; rfl
  have hiσ : i < σ.length := by rw [I.len]; exact (List.getElem?_eq_some_iff.mp hi).1
  have cne := I.cne
  have tracked : ∀ {a : Addr} {h' : Heap}, (∃ o, s.heap.get? a = some o ∧ H a = none) → Heap.SameBut a s.heap h' → HOk X.prog X.w H h' := fun {a h'} ha hs b ob e => by
    obtain ⟨_, _, hfree⟩ := ha
    refine (I.hok b ob e).stay (fun c w' hc q => (hs.2 c ?_).trans q) (fun _ q => q) fun _ _ q => q
    rintro rfl
    rcases hc with rfl | hc
    · rw [hfree] at e; cases e
    · rw [hfree] at hc; cases hc
  rcases hx with hk | hk
  · refine wpAny_storeName_local hk hn (fun h' hn' hs => ?_) hcls
    obtain ⟨oL, _, _, hoL, _⟩ := id hn
    refine h _ ⟨I.ok, I.os, I.bare, ⟨fun b o e n hb hx => ?_, fun b o e n hb hx => ?_, I.base.free, fun b o e hx => ?_, I.base.tups, I.base.frzs, I.base.tbls⟩, ⟨_, hn', fun j y v' e1 e2 e3 => ?_⟩, fun y c e => ?_, I.free, I.freeC, fun p hp => ?_, tracked ⟨oL, hoL, I.free⟩ hs, by simpa using I.len⟩ ⟨_, hs, .inl rfl⟩
    · exact (hs.2 b (Nat.ne_of_lt (Nat.lt_of_lt_of_le (Heap.lt_size e) I.ok.above))).trans (I.base.keep b o e n hb hx)
    · obtain ⟨sl, e1⟩ := I.base.slot b o e n hb hx
      exact ⟨sl, (hs.2 b (Nat.ne_of_lt (Nat.lt_of_lt_of_le (Heap.lt_size e) I.ok.above))).trans e1⟩
    · obtain ⟨o', e1⟩ := I.base.there b o e hx
      exact ⟨o', (hs.2 b (Nat.ne_of_lt (Nat.lt_of_lt_of_le (Heap.lt_size e) I.ok.above))).trans e1⟩
    · by_cases hj : j = i
      · subst hj
        rw [hi] at e1; cases e1
        rw [List.getElem?_set_self hiσ] at e2
        cases e2
        exact ⟨u, r, .inl ⟨hk, by simp⟩⟩
      · rw [List.getElem?_set_ne (Ne.symm hj)] at e2
        obtain ⟨u', r', q⟩ := hl j y v' e1 e2 e3
        refine ⟨u', r', ?_⟩
        rcases q with ⟨k, e⟩ | ⟨k, c, e, z⟩
        · refine .inl ⟨k, ?_⟩
          have : y ≠ x := fun e => hj (nodup_ix hN e1 (e ▸ hi))
          simp [this, e]
        · exact .inr ⟨k, c, e, z.sameBut hs (cne y c e)⟩
    · obtain ⟨w', z⟩ := I.cell y c e
      exact ⟨w', z.sameBut hs (cne y c e)⟩
    · obtain ⟨e, n, ne, nf, d⟩ := I.pin p hp
      exact ⟨(hs.2 p.1 ne).trans e, n, ne, nf, d⟩
  · have hfn : X.fn x = true := by
      rcases hf with z | z
      · exact z
      · rw [z] at hk; cases hk
    obtain ⟨c, hc⟩ := I.ok.has x (.inl hk)
    obtain ⟨w', z⟩ := I.cell x c hc
    refine wpAny_storeName_cell I.ok.kind hk hc z (fun h' hc' hs => ?_)
    obtain ⟨oc, hoc, hocd⟩ := id z
    refine h { s with heap := h' } ⟨I.ok, I.os, I.bare, ⟨fun b o e n hb hx => ?_, fun b o e n hb hx => ?_, I.base.free, fun b o e hx => ?_, I.base.tups, I.base.frzs, I.base.tbls⟩, ⟨m, hn.sameBut hs (Ne.symm (cne x c hc)), fun j y v' e1 e2 e3 => ?_⟩, fun y c' e => ?_, I.free, I.freeC, fun p hp => ?_, tracked ⟨oc, hoc, I.freeC x c hc⟩ hs, by simpa using I.len⟩ ⟨c, hs, .inr hc⟩
    · exact (hs.2 b (Nat.ne_of_lt (Nat.lt_of_lt_of_le (Heap.lt_size e) (I.ok.cab x c hfn hc)))).trans (I.base.keep b o e n hb hx)
    · obtain ⟨sl, e1⟩ := I.base.slot b o e n hb hx
      exact ⟨sl, (hs.2 b (Nat.ne_of_lt (Nat.lt_of_lt_of_le (Heap.lt_size e) (I.ok.cab x c hfn hc)))).trans e1⟩
    · obtain ⟨o', e1⟩ := I.base.there b o e hx
      exact ⟨o', (hs.2 b (Nat.ne_of_lt (Nat.lt_of_lt_of_le (Heap.lt_size e) (I.ok.cab x c hfn hc)))).trans e1⟩
    · by_cases hj : j = i
      · subst hj
        rw [hi] at e1; cases e1
        rw [List.getElem?_set_self hiσ] at e2
        cases e2
        exact ⟨u, r, .inr ⟨.inl hk, c, hc, hc'⟩⟩
      · rw [List.getElem?_set_ne (Ne.symm hj)] at e2
        obtain ⟨u', r', q⟩ := hl j y v' e1 e2 e3
        refine ⟨u', r', ?_⟩
        rcases q with q | ⟨k, c', e, z'⟩
        · exact .inl q
        · refine .inr ⟨k, c', e, z'.sameBut hs ?_⟩
          rintro rfl
          exact hj (nodup_ix hN e1 (I.ok.inj _ _ _ e hc ▸ hi))
    · by_cases hcc : c' = c
      · subst hcc; exact ⟨_, hc'⟩
      · obtain ⟨w2, z2⟩ := I.cell y c' e
        exact ⟨w2, z2.sameBut hs hcc⟩
    · obtain ⟨e, n, ne, nf, d⟩ := I.pin p hp
      refine ⟨(hs.2 p.1 ?_).trans e, n, ne, nf, d⟩
      intro q
      rw [q, hoc] at e
      have q' : oc = p.2 := Option.some.inj e
      exact d w' (by rw [← q']; exact hocd)
theorem store_ok {M : Model} {A : Around} {E : Value → Shared → Prop} {i : Nat} {x : Str} {v : V} {u : Value} {Q : Unit → Shared → Prop} (I : Inv X pins σ H s) (hN : X.N.Nodup) (hi : X.N[i]? = some x) (hx : Loc X.env.scope x) (r : RelV v u)
    (h : ∀ s', Inv X pins (σ.set i (some v)) H s' → Q () s') (hf : X.fn x = true ∨ X.env.scope.names.lookup x = some .local := by first | exact .inl rfl | exact .inr rfl | assumption) : wpAny M A (storeName X.env x u) Q E s :=
  store_ok2 I hN hi hx r (fun s' I' _ => h s' I') hf
/-- behind a call or a block, the state as it is -/
theorem Inv.call' {s' : Shared} {ch : List Addr} (I : Inv X pins σ H s) (ho : s'.os = s.os) (u : Un (frs X.stack) ch H H' s.heap s'.heap) (hok : HOk X.prog X.w H' s'.heap) (hg : AllBare s'.gens)
    (hch : ∀ b ∈ ch, (b ∈ X.ex ∨ X.s₀.heap.objs.size ≤ b) ∧ b ≠ X.env.locals ∧ (∀ x c, X.env.cells.lookup x = some c → c ≠ b) ∧ ∀ p ∈ X.pn ++ pins, p.1 ≠ b) : Inv X pins σ H' s' := by
  obtain ⟨h', g', d', t', o'⟩ := s'
  have e : o' = s.os := ho
  subst e
  exact I.call (g' := g') (t' := t') (d' := d') u hok hg hch
end

/-! ### the judgements -/
/-- an exception: its class, its own dict's address (where it has one), the abstract heap behind it -/
abbrev XK := Value → Option Addr → Hp → Prop
abbrev St := List (Option V)
abbrev VK := V → Hp → Prop
/-- an expression's reading; a test's; an argument list's -/
abbrev TE := St → Hp → VK → Prop
abbrev TT := St → Hp → (Bool → Hp → Prop) → Prop
abbrev TA := St → Hp → (List V → Hp → Prop) → Prop
/-- what is wanted behind a statement -/
structure Ends where
  nx : St → Hp → Prop
  rt : VK
  bk : St → Hp → Prop := fun _ _ => False
  ct : St → Hp → Prop := fun _ _ => False
abbrev TS := Ends → St → Hp → Prop

def EP (X : Cx) (pins : List (Addr × Obj)) (σ : St) (Q : VK) (u : Value) (s' : Shared) : Prop := ∃ v H', Inv X pins σ H' s' ∧ RelV v u ∧ Q v H'
def TP (X : Cx) (pins : List (Addr × Obj)) (σ : St) (Q : Bool → Hp → Prop) (b : Bool) (s' : Shared) : Prop := ∃ H', Inv X pins σ H' s' ∧ Q b H'
def AP (X : Cx) (pins : List (Addr × Obj)) (σ : St) (Q : List V → Hp → Prop) (us : List Value) (s' : Shared) : Prop := ∃ vs H', Inv X pins σ H' s' ∧ Vals vs us ∧ Q vs H'
def SP (X : Cx) (pins : List (Addr × Obj)) (D : Ends) (f : Flow) (s' : Shared) : Prop :=
  match f with
  | .next => ∃ σ' H', Inv X pins σ' H' s' ∧ D.nx σ' H'
  | .brk => ∃ σ' H', Inv X pins σ' H' s' ∧ D.bk σ' H'
  | .cont => ∃ σ' H', Inv X pins σ' H' s' ∧ D.ct σ' H'
  | .ret u => ∃ v σ' H', Inv X pins σ' H' s' ∧ RelV v u ∧ D.rt v H'

def PE (X : Cx) (e : Expr) (t : TE) : Prop :=
  ∀ (pins : List (Addr × Obj)) (s : Shared) (σ : St) (H : Hp) (Q : VK), Inv X pins σ H s → t σ H Q → wpAny (model X.prog X.w) X.A (eval e X.env) (EP X pins σ Q) X.xe s
def PT (X : Cx) (e : Expr) (t : TT) : Prop :=
  ∀ (pins : List (Addr × Obj)) (s : Shared) (σ : St) (H : Hp) (Q : Bool → Hp → Prop), Inv X pins σ H s → t σ H Q → wpAny (model X.prog X.w) X.A (isTrue e X.env (eval e X.env)) (TP X pins σ Q) X.xe s
/-- a test whatever its 'whole' is (and, or) -/
def PW (X : Cx) (e : Expr) (t : TT) : Prop :=
  ∀ (whole : Sem Value) (pins : List (Addr × Obj)) (s : Shared) (σ : St) (H : Hp) (Q : Bool → Hp → Prop), Inv X pins σ H s → t σ H Q → wpAny (model X.prog X.w) X.A (isTrue e X.env whole) (TP X pins σ Q) X.xe s
theorem PW.pt {X : Cx} {e : Expr} {t : TT} (h : PW X e t) : PT X e t := h _
/-- an argument list (no star), from the left -/
def PA (X : Cx) (es : List Expr) (t : TA) : Prop :=
  ∀ (pos : Pos) (pins : List (Addr × Obj)) (s : Shared) (σ : St) (H : Hp) (Q : List V → Hp → Prop), Inv X pins σ H s → t σ H Q → wpAny (model X.prog X.w) X.A (spliced (backTo pos (starEach es X.env))) (AP X pins σ Q) X.xe s
def PS (X : Cx) (st : Stmt) (t : TS) : Prop :=
  ∀ (pins : List (Addr × Obj)) (s : Shared) (σ : St) (H : Hp) (D : Ends), Inv X pins σ H s → t D σ H → wpAny (model X.prog X.w) X.A (exec st X.env) (SP X pins D) X.xe s
def PSs (X : Cx) (st : List Stmt) (t : TS) : Prop :=
  ∀ (pins : List (Addr × Obj)) (s : Shared) (σ : St) (H : Hp) (D : Ends), Inv X pins σ H s → t D σ H → wpAny (model X.prog X.w) X.A (execs st X.env) (SP X pins D) X.xe s
/-- weaken the end -/
theorem thn {α : Type} {t : Sem α} {Q Q' : α → Shared → Prop} {M : Model} {A : Around} {E : Value → Shared → Prop} {s : Shared} (h : wpAny M A t Q E s) (hQ : ∀ a s, Q a s → Q' a s) : wpAny M A t Q' E s := wpAny_mono h hQ fun _ _ x => x
end L2

namespace L2
open PySem PySem.Spec PyProof.Rows
section
variable {X : Cx}

/-! ### names and constants -/
def tVar (i : Nat) : TE := fun σ H Q => ∃ v, σ[i]? = some (some v) ∧ Q v H
def tC (v : V) : TE := fun _ H Q => Q v H
theorem pe_var {i : Nat} {x : Str} {pos : Pos} (hN : X.N[i]? = some x) (hv : Vis X.env.scope x) (hd : (x == ("__debug__" : Str)) = false := by decide) (hcd : (x == ("__classdict__" : Str)) = false := by decide) : PE X (.Name x pos) (tVar i) := by
  intro pins s σ H Q I h
  obtain ⟨v, e, h⟩ := h
  obtain ⟨m, hn, hl⟩ := I.loc
  obtain ⟨u, r, l⟩ := hl i x v hN e hv
  have fin : EP X pins σ Q u s := ⟨v, H, I, r, h⟩
  rcases l with ⟨hk, hm⟩ | ⟨hk, c, hc, hcell⟩
  · exact wpAny_Name (wpAny_loadName_local I.ok.kind hk hn hm fin) hd
  · rcases hk with hk | hk
    · exact wpAny_Name (wpAny_loadName_cell I.ok.kind hk hc hcell fin) hd
    · exact wpAny_Name (wpAny_loadName_free I.ok.kind hk hc hcell fin hcd) hd
theorem pe_int {i j pos} : PE X (.Constant (.int i) j pos) (tC (.int i)) := fun _ _ _ H _ I h => wpAny_Constant_int ⟨.int i, H, I.tok _, ⟨_, rfl⟩, h⟩
theorem pe_bl {b j pos} : PE X (.Constant (.bool b) j pos) (tC (.bl b)) := fun _ _ _ H _ I h => Constant_bool ⟨.bl b, H, I, rfl, h⟩
theorem pe_non {j pos} : PE X (.Constant .none j pos) (tC .non) := fun _ _ _ H _ I h => Constant_none ⟨.non, H, I, rfl, h⟩
/-- a global name of the def -/
def Gl (X : Cx) (x : Str) : Prop := X.env.kindOf x = some .globalImplicit
theorem ld_glob {E : Value → Shared → Prop} {pins : List (Addr × Obj)} {s : Shared} {σ : St} {H : Hp} {x : Str} {u : Value} {pos : Pos} {Q : Value → Shared → Prop} (I : Inv X pins σ H s) (hg : Gl X x) (hm : X.mg x = some u) (h : Q u s)
    (hd : (x == ("__debug__" : Str)) = false := by decide) : wpAny (model X.prog X.w) X.A (eval (.Name x pos) X.env) Q E s :=
  Calls.Name_function_global I.ok.kind hg (Calls.loadGlobal_global (by rw [I.ok.glob]; exact I.mod.glob.keeps I.bk) hm h) hd
theorem ld_blt {E : Value → Shared → Prop} {pins : List (Addr × Obj)} {s : Shared} {σ : St} {H : Hp} {x : Str} {u : Value} {pos : Pos} {Q : Value → Shared → Prop} (I : Inv X pins σ H s) (hg : Gl X x) (hm : X.mg x = none) (hv : bootBuiltins x = some u) (h : Q u s)
    (hn : x ≠ "__name__" := by decide) (hd : (x == ("__debug__" : Str)) = false := by decide) : wpAny (model X.prog X.w) X.A (eval (.Name x pos) X.env) Q E s := by
  obtain ⟨mb, h1, h2⟩ := I.mod.blt
  exact Calls.Name_function_global I.ok.kind hg (Calls.loadGlobal_builtin (by rw [I.ok.glob]; exact I.mod.glob.keeps I.bk) hm (by rw [I.ok.blt]; exact h1.keeps I.bk) ((h2 x hn).trans hv) h) hd
/-- a module's constant, a class, a function, as a value -/
theorem pe_glob {x : Str} {v : V} {u : Value} {pos : Pos} (hg : Gl X x) (hm : X.mg x = some u) (r : RelV v u) (hd : (x == ("__debug__" : Str)) = false := by decide) : PE X (.Name x pos) (tC v) :=
  fun _ _ _ H _ I h => ld_glob I hg hm ⟨v, H, I, r, h⟩ hd
theorem pe_bltn {x : Str} {v : V} {u : Value} {pos : Pos} (hg : Gl X x) (hm : X.mg x = none) (hv : bootBuiltins x = some u) (r : RelV v u) (hn : x ≠ "__name__" := by decide) (hd : (x == ("__debug__" : Str)) = false := by decide) : PE X (.Name x pos) (tC v) :=
  fun _ _ _ H _ I h => ld_blt I hg hm hv ⟨v, H, I, r, h⟩ hn hd

variable {a b : Expr} {ta tb : TE} {pos : Pos}
/-! ### comparisons -/
def PC (X : Cx) (op : CmpOp) (a b : Expr) (t : TE) : Prop :=
  ∀ (pins : List (Addr × Obj)) (s : Shared) (σ : St) (H : Hp) (Q : VK), Inv X pins σ H s → t σ H Q →
    wpAny (model X.prog X.w) X.A (eval a X.env) (fun v s₁ => wpAny (model X.prog X.w) X.A (eval b X.env) (fun u s₂ => wpAny (model X.prog X.w) X.A (compareOp op v u) (EP X pins σ Q) X.xe s₂) X.xe s₁) X.xe s
theorem nobehind (b : Expr) {op : CmpOp} (h : op ≠ .In) (h2 : op ≠ .NotIn) : behindInMarks op b = false := by
  have e1 : (op == CmpOp.In) = false := by cases op <;> first | rfl | exact absurd rfl h
  have e2 : (op == CmpOp.NotIn) = false := by cases op <;> first | rfl | exact absurd rfl h2
  cases b <;> simp [behindInMarks, e1, e2]
/-- a comparison as a value, as a test -/
def tB (t : TE) : TT := fun σ H Q => t σ H fun x H1 => ∃ c, x = .bl c ∧ Q c H1
theorem pt_cmp {op : CmpOp} {t : TE} (h : PC X op a b t) (h1 : behindInMarks op b = false := by first | exact nobehind _ (by decide) (by decide) | rfl) : PT X (.Compare a [op] [b] pos) (tB t) := by
  intro pins s σ H Q I hw
  refine wpAny_isTrue_Compare1 (thn (h pins s σ H _ I hw) fun v s1 h1 => thn h1 fun u s2 h2 => thn h2 fun c s3 ⟨x, H1, I1, r1, q1⟩ => ?_) h1
  obtain ⟨d, rfl, q⟩ := q1
  cases r1
  exact wpAny_truthy_bool ⟨H1, I1, q⟩
/-- an expression whose value is a bool, as a test -/
theorem pt_val {e : Expr} {t : TE} (h : PE X e t) (he : ∀ whole, isTrue e X.env whole = (do let v ← whole; standAt e.pos; holding [v] (truthy v)) := by intro _; rfl) : PT X e (tB t) := by
  intro pins s σ H Q I hw
  refine isTrue_plain (thn (h pins s σ H _ I hw) fun v s1 ⟨x, H1, I1, r1, q1⟩ => ?_) (he _)
  obtain ⟨d, rfl, q⟩ := q1
  cases r1
  exact wpAny_truthy_bool ⟨H1, I1, q⟩

/-! ### and, or, not -/
variable {tA tB' : TT} {rest : List Expr}
def tOr (t u : TT) : TT := fun σ H Q => t σ H fun c H1 => if c = true then Q true H1 else u σ H1 Q
def tNot (t : TT) : TT := fun σ H Q => t σ H fun c H1 => Q (!c) H1
theorem pw_or1 (ha : PT X a tA) : PW X (.BoolOp .Or [a] pos) tA := by
  intro wh pins s σ H Q I h
  refine isTrue_or (thn (ha pins s σ H Q I h) fun c s1 e => ?_)
  cases c with
  | false => exact isTrue_or_nil e
  | true => exact e
theorem pw_or (ha : PT X a tA) (hb : PW X (.BoolOp .Or (b :: rest) pos) tB') : PW X (.BoolOp .Or (a :: b :: rest) pos) (tOr tA tB') := by
  intro wh pins s σ H Q I h
  refine isTrue_or (thn (ha pins s σ H _ I h) fun c s1 ⟨H1, I1, q1⟩ => ?_)
  cases c with
  | true => exact ⟨H1, I1, q1⟩
  | false => exact hb wh pins s1 σ H1 Q I1 q1
theorem pt_not (ha : PT X a tA) : PT X (.UnaryOp .Not a pos) (tNot tA) := by
  intro pins s σ H Q I h
  exact isTrue_not (ha pins s σ H (fun c H1 => Q (!c) H1) I h)
end
end L2

namespace L2
open PySem PySem.Spec PyProof.Rows

/-! ### a list, a tuple that is read: tracked, frozen, or an object of the module -/
def SqL (K : PySem.W.Frag) (H : Hp) (a : Addr) (xs : List V) : Prop :=
  Rd H a (.lst xs) ∨
    ∃ (o : Obj) (its : Array Value) (n : Nat), K.lookup a = some o ∧ o.cls = .type "list" ∧ o.dict = none ∧ o.data = .seq its n ∧ its.size ≤ sizeLine ∧ Vals xs its.toList
def SqT (K : PySem.W.Frag) (H : Hp) (a : Addr) (xs : List V) : Prop :=
  Rd H a (.tup xs) ∨
    ∃ (o : Obj) (its : Array Value) (n : Nat), K.lookup a = some o ∧ o.cls = .type "tuple" ∧ o.data = .seq its n ∧ its.size ≤ sizeLine ∧ Vals xs its.toList
def absV : Value → Option V
  | .none => some .non
  | .bool b => some (.bl b)
  | .int i _ => some (.int i)
  | .str x _ => some (.str x)
  | .bytes b _ => some (.byt b)
  | .float b _ => some (.flt b)
  | .ref a => some (.ref a)
  | .type n => some (.ty n)
  | _ => none
theorem RelV.abs {x : V} {u : Value} (r : RelV x u) : absV u = some x := by
  cases x with
  | non => cases r; rfl
  | bl _ => cases r; rfl
  | int _ => obtain ⟨t, rfl⟩ := r; rfl
  | str _ => obtain ⟨t, rfl⟩ := r; rfl
  | byt _ => obtain ⟨t, rfl⟩ := r; rfl
  | flt _ => obtain ⟨t, rfl⟩ := r; rfl
  | ref _ => cases r; rfl
  | ty _ => cases r; rfl
theorem RelV.inj {x y : V} {u : Value} (r : RelV x u) (q : RelV y u) : x = y := Option.some.inj (r.abs.symm.trans q.abs)
theorem Vals.inj : ∀ {xs ys : List V} {us : List Value}, Vals xs us → Vals ys us → xs = ys
  | _, _, _, .nil, .nil => rfl
  | _, _, _, .cons r t, .cons r' t' => by rw [r.inj r', Vals.inj t t']
section
variable {X : Cx} {pins : List (Addr × Obj)} {σ : St} {H : Hp} {s : Shared} {a : Addr} {xs ys : List V}
theorem SqL.of {K : PySem.W.Frag} (h : H a = some (.lst xs)) : SqL K H a xs := .inl (.inl h)
theorem SqT.of {K : PySem.W.Frag} (h : H a = some (.tup xs)) : SqT K H a xs := .inl (.inl h)
theorem Inv.list (I : Inv X pins σ H s) (h : SqL X.K H a xs) : ∃ its : List Value, Vals xs its ∧ PlainL s.heap a its.toArray ∧ xs.length ≤ sizeLine := by
  rcases h with h | ⟨o, its, n, hk, hc, hd, hs, hz, r⟩
  · obtain ⟨z, its, n, r, e⟩ := h.ok I.hok
    exact ⟨its, r, ⟨_, n, e, rfl, rfl, rfl⟩, z⟩
  · refine ⟨its.toList, r, ⟨o, n, I.kIn a o hk, hc, hd, by simpa using hs⟩, ?_⟩
    have e := r.length
    simp only [Array.length_toList] at e
    omega
theorem Inv.tuple (I : Inv X pins σ H s) (h : SqT X.K H a xs) : ∃ its : List Value, Vals xs its ∧ IsTup s.heap a its.toArray ∧ xs.length ≤ sizeLine := by
  rcases h with h | ⟨o, its, n, hk, hc, hs, hz, r⟩
  · obtain ⟨z, its, r, p⟩ := h.ok I.hok
    exact ⟨its, r, p, z⟩
  · refine ⟨its.toList, r, ⟨o, I.kIn a o hk, hc, n, by simpa using hs⟩, ?_⟩
    have e := r.length
    simp only [Array.length_toList] at e
    omega
theorem Inv.list_inj (I : Inv X pins σ H s) (h : SqL X.K H a xs) (h' : SqL X.K H a ys) : xs = ys := by
  obtain ⟨its, r, ⟨o, n, e, _, _, d⟩, _⟩ := I.list h
  obtain ⟨its', r', ⟨o', n', e', _, _, d'⟩, _⟩ := I.list h'
  rw [e] at e'; cases e'
  rw [d] at d'
  injection d' with d1 _
  have : its = its' := by simpa using congrArg Array.toList d1
  subst this
  exact r.inj r'
theorem Inv.tuple_inj (I : Inv X pins σ H s) (h : SqT X.K H a xs) (h' : SqT X.K H a ys) : xs = ys := by
  obtain ⟨its, r, ⟨o, e, _, n, d⟩, _⟩ := I.tuple h
  obtain ⟨its', r', ⟨o', e', _, n', d'⟩, _⟩ := I.tuple h'
  rw [e] at e'; cases e'
  rw [d] at d'
  injection d' with d1 _
  have : its = its' := by simpa using congrArg Array.toList d1
  subst this
  exact r.inj r'
end

/-! ### another wish about exceptions -/
abbrev Cx.wish (X : Cx) (E : Value → Shared → Prop) : Cx := { X with xe := E }
/-- no exception leaves -/
abbrev Cx.nox (X : Cx) : Cx := X.wish fun _ _ => False
theorem Cx.Ok.wish {X : Cx} (ok : X.Ok) (E : Value → Shared → Prop) : (X.wish E).Ok :=
  ⟨ok.mod, ok.kind, ok.glob, ok.blt, ok.above, ok.inj, ok.has, ok.cab, ok.hd, ok.frames, ok.stk, ok.exf, ok.bs, ok.bsz, ok.noex, ok.exfs, ok.funs, ok.frf⟩
theorem Cx.Ok.unwish {X : Cx} {E : Value → Shared → Prop} (ok : (X.wish E).Ok) : X.Ok :=
  ⟨ok.mod, ok.kind, ok.glob, ok.blt, ok.above, ok.inj, ok.has, ok.cab, ok.hd, ok.frames, ok.stk, ok.exf, ok.bs, ok.bsz, ok.noex, ok.exfs, ok.funs, ok.frf⟩
section
variable {X : Cx} {pins : List (Addr × Obj)} {σ : St} {H : Hp} {s : Shared} {E : Value → Shared → Prop}
theorem Inv.wish (I : Inv X pins σ H s) (E : Value → Shared → Prop) : Inv (X.wish E) pins σ H s := ⟨I.ok.wish E, I.os, I.bare, I.base, I.loc, I.cell, I.free, I.freeC, I.pin, I.hok, I.len⟩
theorem Inv.unwish (I : Inv (X.wish E) pins σ H s) : Inv X pins σ H s := ⟨I.ok.unwish, I.os, I.bare, I.base, I.loc, I.cell, I.free, I.freeC, I.pin, I.hok, I.len⟩
theorem SP.unwish {D : Ends} {f : Flow} {s' : Shared} (h : SP (X.wish E) pins D f s') : SP X pins D f s' := by
  cases f with
  | next => obtain ⟨σ', H', I, q⟩ := h; exact ⟨σ', H', I.unwish, q⟩
  | brk => obtain ⟨σ', H', I, q⟩ := h; exact ⟨σ', H', I.unwish, q⟩
  | cont => obtain ⟨σ', H', I, q⟩ := h; exact ⟨σ', H', I.unwish, q⟩
  | ret u => obtain ⟨v, σ', H', I, r, q⟩ := h; exact ⟨v, σ', H', I.unwish, r, q⟩
theorem PE.nox {e : Expr} {t : TE} (h : PE X.nox e t) : PE X e t := fun pins s σ H Q I hw =>
  wpAny_mono (h pins s σ H Q (I.wish _) hw) (fun _ _ ⟨v, H', I', r, q⟩ => ⟨v, H', I'.unwish, r, q⟩) fun _ _ z => False.elim z
theorem PT.nox {e : Expr} {t : TT} (h : PT X.nox e t) : PT X e t := fun pins s σ H Q I hw =>
  wpAny_mono (h pins s σ H Q (I.wish _) hw) (fun _ _ ⟨H', I', q⟩ => ⟨H', I'.unwish, q⟩) fun _ _ z => False.elim z
theorem PSs.nox {st : List Stmt} {t : TS} (h : PSs X.nox st t) : PSs X st t := fun pins s σ H D I hw =>
  wpAny_mono (h pins s σ H D (I.wish _) hw) (fun _ _ q => q.unwish) fun _ _ z => False.elim z
end

/-! ### blocks and small statements -/
section
variable {X : Cx} {st : Stmt} {rest : List Stmt} {t u : TS} {e : Expr} {te : TE} {pos : Pos}
def tNext : TS := fun D σ H => D.nx σ H
def tSeq (t u : TS) : TS := fun D σ H => t { D with nx := u D } σ H
theorem pss_nil : PSs X [] tNext := fun _ _ σ H _ I h => wpAny_execs_nil ⟨σ, H, I, h⟩
theorem pss_cons (h1 : PS X st t) (h2 : PSs X rest u) : PSs X (st :: rest) (tSeq t u) := by
  intro pins s σ H D I h
  refine wpAny_execs_cons (thn (h1 pins s σ H { D with nx := u D } I h) fun f s1 q => ?_)
  cases f with
  | next =>
    obtain ⟨σ', H', I', q⟩ := q
    exact h2 pins s1 σ' H' D I' q
  | ret v => exact q
  | brk => exact q
  | cont => exact q
theorem pss_one (h1 : PS X st t) : PSs X [st] t := by
  intro pins s σ H D I h
  refine wpAny_execs_cons (thn (h1 pins s σ H D I h) fun f s1 q => ?_)
  cases f with
  | next => exact wpAny_execs_nil q
  | ret v => exact q
  | brk => exact q
  | cont => exact q
/-- in a def's body nothing is shown -/
theorem Inv.quiet {pins : List (Addr × Obj)} {σ : St} {H : Hp} {s : Shared} (I : Inv X pins σ H s) : interactive X.env = false := by simp [interactive, I.ok.kind]
/-- an expression whose value is dropped -/
def tDrop (te : TE) : TS := fun D σ H => te σ H fun _ H1 => D.nx σ H1
theorem ps_expr (he : PE X e te) (hs : swapsWith e none pos.line X.env = pure false := by rfl) : PS X (.Expr e pos) (tDrop te) := by
  intro pins s σ H D I h
  exact wpAny_Expr_any (thn (he pins s σ H _ I h) fun v s1 ⟨x, H1, I1, r1, q1⟩ => ⟨σ, H1, I1, q1⟩) I.quiet hs
def tRet (te : TE) : TS := fun D σ H => te σ H D.rt
theorem ps_ret (he : PE X e te) : PS X (.Return (some e) pos) (tRet te) := by
  intro pins s σ H D I h
  exact wpAny_Return_some (thn (he pins s σ H _ I h) fun v s1 ⟨x, H1, I1, r1, q1⟩ => ⟨x, σ, H1, I1, r1, q1⟩)
def tIfS (c : TT) (t u : TS) : TS := fun D σ H => c σ H fun b H1 => if b = true then t D σ H1 else u D σ H1
theorem ps_if {c : Expr} {a b : List Stmt} {tc : TT} (hc : PT X c tc) (ha : PSs X a t) (hb : PSs X b u) : PS X (.If c a b pos) (tIfS tc t u) := by
  intro pins s σ H D I h
  refine wpAny_If (thn (hc pins s σ H _ I h) fun d s1 ⟨H1, I1, q1⟩ => ?_)
  cases d with
  | true => exact ha pins s1 σ H1 D I1 q1
  | false => exact hb pins s1 σ H1 D I1 q1
/-- code that the proof never comes to -/
def tNever : TS := fun _ _ _ => False
theorem pss_never {sts : List Stmt} : PSs X sts tNever := fun _ _ _ _ _ _ h => h.elim
end

/-! ### targets -/
abbrev TG := V → St → Hp → (St → Hp → Prop) → Prop
abbrev TGs := List V → St → Hp → (St → Hp → Prop) → Prop
def PG (X : Cx) (target : Expr) (t : TG) : Prop :=
  ∀ (pins : List (Addr × Obj)) (s : Shared) (σ : St) (H : Hp) (v : V) (u : Value) (Q : St → Hp → Prop), Inv X pins σ H s → RelV v u → t v σ H Q →
    wpAny (model X.prog X.w) X.A (assign target X.env u) (fun _ s' => ∃ σ' H', Inv X pins σ' H' s' ∧ Q σ' H') X.xe s
/-- several targets, one after another -/
def PGs (X : Cx) (ts : List Expr) (t : TGs) : Prop :=
  ∀ (pins : List (Addr × Obj)) (s : Shared) (σ : St) (H : Hp) (vs : List V) (us : List Value) (Q : St → Hp → Prop), Inv X pins σ H s → Vals vs us → t vs σ H Q →
    wpAny (model X.prog X.w) X.A (assignInOrder ((assignEach ts X.env).map (·.2)) us) (fun _ s' => ∃ σ' H', Inv X pins σ' H' s' ∧ Q σ' H') X.xe s
/-- o[i] = v, by values -/
abbrev TSet := V → V → V → Hp → (Hp → Prop) → Prop
def PSet (X : Cx) (t : TSet) : Prop :=
  ∀ (pins : List (Addr × Obj)) (s : Shared) (σ : St) (H : Hp) (o i v : V) (ov iv u : Value) (Q : Hp → Prop), Inv X pins σ H s → RelV o ov → RelV i iv → RelV v u → t o i v H Q →
    wpAny (model X.prog X.w) X.A (setItem ov iv u) (fun _ s' => ∃ H', Inv X pins σ H' s' ∧ Q H') X.xe s
section
variable {X : Cx} {pos : Pos}
def gName (i : Nat) : TG := fun v σ H Q => Q (σ.set i (some v)) H
theorem pg_name {i : Nat} {x : Str} (hN : X.N.Nodup) (hi : X.N[i]? = some x) (hx : Loc X.env.scope x) (hf : X.fn x = true ∨ X.env.scope.names.lookup x = some .local := by first | exact .inl rfl | exact .inr rfl | assumption) : PG X (.Name x pos) (gName i) := by
  intro pins s σ H v u Q I r h
  exact wpAny_assign_Name (store_ok I hN hi hx r (fun s' I' => ⟨_, H, I', h⟩) hf)
def gNil : TGs := fun vs σ H Q => vs = [] ∧ Q σ H
def gCons (t : TG) (u : TGs) : TGs := fun vs σ H Q => ∃ v r, vs = v :: r ∧ t v σ H fun σ' H' => u r σ' H' Q
theorem pgs_nil : PGs X [] gNil := by
  intro pins s σ H vs us Q I r h
  obtain ⟨e, h⟩ := h
  subst e
  cases r
  exact assignInOrder_nil ⟨σ, H, I, h⟩
theorem pgs_cons {e : Expr} {es : List Expr} {t : TG} {u : TGs} (h1 : PG X e t) (h2 : PGs X es u)
    (hs : (assignEach (e :: es) X.env).map (·.2) = assign e X.env :: (assignEach es X.env).map (·.2) := by rfl) : PGs X (e :: es) (gCons t u) := by
  intro pins s σ H vs us Q I r h
  obtain ⟨v, vr, e1, h⟩ := h
  subst e1
  cases r with
  | cons r rr =>
    rw [hs]
    refine assignInOrder_cons (thn (h1 pins s σ H _ _ _ I r h) fun _ s1 ⟨σ1, H1, I1, q1⟩ => ?_)
    exact h2 pins s1 σ1 H1 _ _ Q I1 rr q1
/-- (a, b, ..) = a tuple of that length -/
def gTup (K : PySem.W.Frag) (n : Nat) (t : TGs) : TG := fun v σ H Q => ∃ a xs, v = .ref a ∧ SqT K H a xs ∧ xs.length = n ∧ t xs σ H Q
theorem pg_tup {es : List Expr} {k : Nat} {t : TGs} {n : Nat} (hc : X.calm = true) (h : PGs X es t)
    (hn : (assignEach es X.env).length = n := by rfl) (hst : (assignEach es X.env).findIdx? (·.1) = none := by rfl) : PG X (.Tuple es k pos) (gTup X.K n t) := by
  intro pins s σ H v u Q I r hw
  obtain ⟨a, xs, e1, hq, hl, hw⟩ := hw
  subst e1
  cases r
  obtain ⟨its, rv, ht, hz⟩ := I.tuple hq
  refine assign_Tuple_tuple (I.ok.hd hc) ht (by simp [hn, ← hl, rv.length]) hst fun h' hx => ?_
  have I1 : Inv X pins σ H { s with heap := h' } := I.kept (t' := s.toks) fun b o e => hx b o (Nat.ne_of_lt (Heap.lt_size e)) e
  exact h pins _ σ H xs _ Q I1 (by simpa using rv) hw
/-- o[i] = .. -/
def gSub (to ti : TE) (t : TSet) : TG := fun v σ H Q => to σ H fun o H1 => ti σ H1 fun i H2 => t o i v H2 fun H3 => Q σ H3
theorem pg_sub {o i : Expr} {to ti : TE} {t : TSet} (ho : PE X o to) (hi : PE X i ti) (hs : PSet X t)
    (ha : ∀ v, assign (.Subscript o i pos) X.env v = (do
      let ov ← holding [v] (eval o X.env)
      let iv ← holding [v, ov] (eval i X.env)
      standAt pos
      holding [v, ov, iv] (setItem ov iv v)
      release [v, ov, iv] []) := by intro _; rfl) : PG X (.Subscript o i pos) (gSub to ti t) := by
  intro pins s σ H v u Q I r h
  rw [ha]
  refine wpAny_bind (wpAny_holding (thn (ho pins s σ H _ I h) fun ov s1 ⟨x, H1, I1, r1, q1⟩ => ?_))
  refine wpAny_bind (wpAny_holding (thn (hi pins s1 σ H1 _ I1 q1) fun iv s2 ⟨y, H2, I2, r2, q2⟩ => ?_))
  refine wpAny_bind (wpAny_standAt (wpAny_bind (wpAny_holding (thn (hs pins s2 σ H2 x y v ov iv u _ I2 r1 r2 r q2) fun _ s3 ⟨H3, I3, q3⟩ => ?_))))
  exact wpAny_release ⟨σ, H3, I3, q3⟩
/-- target = value -/
def tAsg (te : TE) (g : TG) : TS := fun D σ H => te σ H fun x H1 => g x σ H1 D.nx
theorem ps_asg {tg e : Expr} {te : TE} {g : TG} (he : PE X e te) (hg : PG X tg g) (hs : swapsWithSole [tg] e pos.line X.env = pure false := by rfl) (hw : swappedStores [tg] e X.env = pure none := by rfl)
    (h1 : (assignEach [tg] X.env).map (·.2) = [assign tg X.env] := by rfl) : PS X (.Assign [tg] e pos) (tAsg te g) := by
  intro pins s σ H D I h
  refine wpAny_Assign_stores (thn (he pins s σ H _ I h) fun v s1 ⟨x, H1, I1, r1, q1⟩ => ?_) hs hw
  rw [h1]
  exact thn (hg pins s1 σ H1 x v _ I1 r1 q1) fun _ s2 q => q
/-- name = value -/
theorem ps_set {i : Nat} {x : Str} {e : Expr} {te : TE} {pos' : Pos} (hN : X.N.Nodup) (hi : X.N[i]? = some x) (hx : Loc X.env.scope x) (he : PE X e te) (hs : swapsWith e (some (.Name x pos')) pos.line X.env = pure false := by rfl) (hf : X.fn x = true ∨ X.env.scope.names.lookup x = some .local := by first | exact .inl rfl | exact .inr rfl | assumption) :
    PS X (.Assign [.Name x pos'] e pos) (tAsg te (gName i)) := by
  intro pins s σ H D I h
  refine wpAny_Assign_Name (thn (he pins s σ H _ I h) fun v s1 ⟨y, H1, I1, r1, q1⟩ => ?_) hs
  exact store_ok I1 hN hi hx r1 (fun s2 I2 => ⟨_, H1, I2, q1⟩) hf
end

/-! ### while -/
section
variable {X : Cx} {pos : Pos}
/-- the invariant W with its measure -/
def tWhile (c : TT) (tb : TS) : TS := fun D σ H => ∃ W : Nat → St → Hp → Prop, (∃ m, W m σ H) ∧ ∀ m σ H, W m σ H →
  c σ H fun b H1 => if b = true then ∃ N : St → Hp → Prop, (∀ σ' H', N σ' H' → ∃ m', m' < m ∧ W m' σ' H') ∧ tb { D with nx := N, ct := N, bk := D.nx } σ H1 else D.nx σ H1
theorem ps_while {c : Expr} {body : List Stmt} {tc : TT} {tb : TS} (hp : PassesOwn (model X.prog X.w) X.A X.env X.xe) (hc : PT X c tc) (hb : PSs X body tb) : PS X (.While c body [] pos) (tWhile tc tb) := by
  intro pins s σ H D I h
  obtain ⟨W, ⟨m0, w0⟩, turn⟩ := h
  refine wpAny_While (codeAny_whileLoop (fun n s' => ∃ σ' H', Inv X pins σ' H' s' ∧ W n σ' H') ?_ m0 ⟨σ, H, I, w0⟩)
  rintro n s1 ⟨σ1, H1, I1, w1⟩
  refine wpAny_passesOwn hp (thn (hc pins s1 σ1 H1 _ I1 (turn n σ1 H1 w1)) fun b s2 ⟨H2, I2, q2⟩ => ?_)
  cases b with
  | true =>
    obtain ⟨N, hN, q2⟩ := q2
    rw [if_pos rfl]
    refine wpAny_passesOwn hp (thn (hb pins s2 σ1 H2 _ I2 q2) fun f s3 q3 => ?_)
    cases f with
    | next =>
      obtain ⟨σ3, H3, I3, n3⟩ := q3
      obtain ⟨m', hm, w3⟩ := hN σ3 H3 n3
      exact ⟨m', hm, σ3, H3, I3, w3⟩
    | cont =>
      obtain ⟨σ3, H3, I3, n3⟩ := q3
      obtain ⟨m', hm, w3⟩ := hN σ3 H3 n3
      exact ⟨m', hm, σ3, H3, I3, w3⟩
    | brk => exact q3
    | ret v => exact q3
  | false =>
    rw [if_neg Bool.false_ne_true]
    exact wpAny_execs_nil ⟨σ1, H2, I2, q2⟩
end

/-! ### what a loop or a comprehension walks -/
/-- at turn i: it yields x (the heap may grow), or it stops -/
structure It where
  go : Nat → Hp → Prop
  yld : Nat → Hp → V → Hp → Prop
  stop : Nat → Hp → Prop
/-- the iterator's own objects may turn: they are not the frame's, not pinned, younger than the entry (or a comprehension's own) -/
def FpOk (X : Cx) (pins : List (Addr × Obj)) (H : Hp) (b : Addr) : Prop :=
  H b = none ∧ b ≠ X.env.locals ∧ b ∉ X.fs ∧ (b ∈ X.ex ∨ X.s₀.heap.objs.size ≤ b) ∧ (∀ x c, X.env.cells.lookup x = some c → c ≠ b) ∧ ∀ p ∈ X.pn ++ pins, p.1 ≠ b
theorem Inv.fpOk {X : Cx} {pins : List (Addr × Obj)} {σ : St} {H H' : Hp} {s : Shared} {b : Addr} (I : Inv X pins σ H s) (hb : s.heap.objs.size ≤ b) (hn : H' b = none) : FpOk X pins H' b := by
  refine ⟨hn, Nat.ne_of_gt (Nat.lt_of_lt_of_le I.lt hb), I.nofs hb, .inr (Nat.le_trans I.sz hb), fun x c e z => ?_, fun p hp z => ?_⟩
  · obtain ⟨v, q⟩ := I.cell x c e
    exact absurd (Nat.lt_of_lt_of_le q.lt (by rw [z]; exact hb)) (Nat.lt_irrefl _)
  · exact absurd (Nat.lt_of_lt_of_le (Heap.lt_size (I.pin p hp).1) (by rw [z]; exact hb)) (Nat.lt_irrefl _)
structure Turn (P : Program) (w : World) (K : PySem.W.Frag) (tg : Expr) (J : It) (fp : List Addr) (it : Addr) (tn : Nat → Heap → Prop) : Prop where
  mem : it ∈ fp
  obj : ∀ i h, tn i h → ∀ b ∈ fp, ∃ o, h.get? b = some o ∧ ∀ v, o.data ≠ .cell v
  keep : ∀ i h h', tn i h → (∀ b ∈ fp, ∀ o, h.get? b = some o → h'.get? b = some o) → tn i h'
  item : ∀ (X : Cx), X.prog = P → X.w = w → X.K = K → X.calm = true → ∀ (i : Nat) (pins : List (Addr × Obj)) (s : Shared) (σ : St) (H : Hp) (E : Value → Shared → Prop), Inv X pins σ H s → (∀ b ∈ fp, FpOk X pins H b) → tn i s.heap → J.go i H →
    wpAny (model P w) X.A (pyNext (.ref it)) (fun r s1 => ∃ u, r = some u ∧
      wpAny (model P w) X.A (letOwnedTupleGo tg (.ref it) u) (fun _ s2 => ∃ x H', Inv X pins σ H' s2 ∧ RelV x u ∧ J.yld i H x H' ∧ tn (i + 1) s2.heap ∧ ∀ b ∈ fp, H' b = none) E s1) E s
  done : ∀ (X : Cx), X.prog = P → X.w = w → X.K = K → X.calm = true → ∀ (i : Nat) (pins : List (Addr × Obj)) (s : Shared) (σ : St) (H : Hp) (E : Value → Shared → Prop), Inv X pins σ H s → (∀ b ∈ fp, FpOk X pins H b) → tn i s.heap → J.stop i H →
    wpAny (model P w) X.A (pyNext (.ref it)) (fun r s1 => r = none ∧ Inv X pins σ H s1) E s
  self : ∀ (A : Around) (i : Nat) (s : Shared) (Q : Value → Shared → Prop) (E : Value → Shared → Prop), tn i s.heap → Q (.ref it) s → wpAny (model P w) A (pyIter (.ref it)) Q E s
abbrev TI := St → Hp → (It → Hp → Prop) → Prop
/-- an iterator has come -/
def PIE (X : Cx) (pins : List (Addr × Obj)) (σ : St) (tg : Expr) (R : It → Hp → Prop) (itv : Value) (s2 : Shared) : Prop :=
  ∃ (it : Addr) (fp : List Addr) (tn : Nat → Heap → Prop) (J : It) (H' : Hp), itv = .ref it ∧ Inv X pins σ H' s2 ∧ Turn X.prog X.w X.K tg J fp it tn ∧ tn 0 s2.heap ∧ (∀ b ∈ fp, FpOk X pins H' b) ∧ R J H'
def PI (X : Cx) (tg iter : Expr) (wi : TI) : Prop :=
  ∀ (pins : List (Addr × Obj)) (s : Shared) (σ : St) (H : Hp) (R : It → Hp → Prop), Inv X pins σ H s → wi σ H R →
    wpAny (model X.prog X.w) X.A (eval iter X.env) (fun v s1 => wpAny (model X.prog X.w) X.A (pyIter v) (PIE X pins σ tg R) X.xe s1) X.xe s

/-- the step ahead of the store is nothing for an iterator that keeps no tuple -/
theorem go_of {M : Model} {A : Around} {E : Value → Shared → Prop} {s : Shared} {tg : Expr} {it : Addr} {u : Value} {o : Obj} {n : String} {vs : Array Value} {Q : Unit → Shared → Prop} (ho : s.heap.get? it = some o) (hc : o.cls = .type n) (hd : o.data = .fields vs)
    (hn : ["enumerate", "zip", "dict_itemiterator", "dict_reverseitemiterator", "odict_iterator", "itertools.zip_longest", "itertools.pairwise"].contains n = false) (hQ : Q () s) : wpAny M A (letOwnedTupleGo tg (.ref it) u) Q E s := by
  unfold letOwnedTupleGo
  cases tg <;> first
    | exact wpAny_pure hQ
    | (cases u <;> first
        | exact wpAny_pure hQ
        | (refine wpAny_bind (wpAny_load ho ?_)
           rw [hc, hd]
           show wpAny M A (if (["enumerate", "zip", "dict_itemiterator", "dict_reverseitemiterator", "odict_iterator", "itertools.zip_longest", "itertools.pairwise"].contains n && vs[0]? == some (rawInt _)) = true then _ else _) Q E s
           rw [if_neg (by intro h; rw [hn, Bool.false_and] at h; cases h)]
           exact wpAny_pure hQ))

/-- the list at a, as it stands at each turn (a loop may append to it) -/
def Itl (K : PySem.W.Frag) (a : Addr) : It :=
  ⟨fun i H => ∃ xs x, SqL K H a xs ∧ xs[i]? = some x, fun i H x H' => H' = H ∧ ∀ xs, SqL K H a xs → xs[i]? = some x, fun i H => ∃ xs, SqL K H a xs ∧ xs.length ≤ i⟩
def Itt (K : PySem.W.Frag) (a : Addr) : It :=
  ⟨fun i H => ∃ xs x, SqT K H a xs ∧ xs[i]? = some x, fun i H x H' => H' = H ∧ ∀ xs, SqT K H a xs → xs[i]? = some x, fun i H => ∃ xs, SqT K H a xs ∧ xs.length ≤ i⟩
/-- lo, lo + 1, .. (n of them) -/
def Itr (lo : Int) (n : Nat) : It := ⟨fun i _ => i < n, fun i H x H' => H' = H ∧ x = .int (lo + i), fun i _ => n ≤ i⟩
theorem turn_list {P : Program} {w : World} {K : PySem.W.Frag} {tg : Expr} (a it : Addr) : Turn P w K tg (Itl K a) [it] it (fun i h => h.IsListIter it a i) where
  mem := by simp
  obj := fun i h st b hb => by
    have e : b = it := by simpa using hb
    subst e
    obtain ⟨o, e, c, d⟩ := st
    exact ⟨o, e, fun v z => by rw [d] at z; cases z⟩
  keep := fun i h h' st k => st.at fun o e => k it (by simp) o e
  item := by
    intro X hP hw hK hc i pins s σ H E I hf st hg
    subst hP hw hK
    obtain ⟨xs, x, hq, hx⟩ := hg
    obtain ⟨its, rv, p, hz⟩ := I.list hq
    obtain ⟨u, hu, ru⟩ := rv.get hx
    obtain ⟨f0, f1, f2, f3, f4, f5⟩ := hf it (by simp)
    refine wpAny_pyNext_list_item st p.isList (x := u) (by simpa using hu) fun h' st' sb => ?_
    have I1 : Inv X pins σ H { s with heap := h' } := I.turned (t' := s.toks) (fun b o hb e => (sb.2 b hb).trans e) f0 f1 f3 f4 f5
    obtain ⟨o, e, c, d⟩ := id st'
    exact ⟨u, rfl, go_of (s := { s with heap := h' }) e c d (by decide) ⟨x, H, I1, ru, ⟨rfl, fun ys hy => by rw [I.list_inj hy hq]; exact hx⟩, st', fun b hb => (hf b hb).1⟩⟩
  done := by
    intro X hP hw hK hc i pins s σ H E I hf st hg
    subst hP hw hK
    obtain ⟨xs, hq, hx⟩ := hg
    obtain ⟨its, rv, p, hz⟩ := I.list hq
    obtain ⟨f0, f1, f2, f3, f4, f5⟩ := hf it (by simp)
    have hl := rv.length
    exact wpAny_pyNext_list_end (I.ok.hd hc) st p.isList (by simp; omega) fun h' eb => ⟨rfl, I.turned (t' := s.toks) (fun b o hb e => eb b o hb e) f0 f1 f3 f4 f5⟩
  self := fun _ _ _ _ _ st h => wpAny_pyIter_listiter st h
theorem turn_tuple {P : Program} {w : World} {K : PySem.W.Frag} {tg : Expr} (a it : Addr) : Turn P w K tg (Itt K a) [it] it (fun i h => h.IsTupleIter it a i) where
  mem := by simp
  obj := fun i h st b hb => by
    have e : b = it := by simpa using hb
    subst e
    obtain ⟨o, e, c, d⟩ := st
    exact ⟨o, e, fun v z => by rw [d] at z; cases z⟩
  keep := fun i h h' st k => st.at fun o e => k it (by simp) o e
  item := by
    intro X hP hw hK hc i pins s σ H E I hf st hg
    subst hP hw hK
    obtain ⟨xs, x, hq, hx⟩ := hg
    obtain ⟨its, rv, p, hz⟩ := I.tuple hq
    obtain ⟨u, hu, ru⟩ := rv.get hx
    obtain ⟨f0, f1, f2, f3, f4, f5⟩ := hf it (by simp)
    refine wpAny_pyNext_tuple_item st (show s.heap.IsTuple a its.toArray from p) (x := u) (by simpa using hu) fun h' st' sb => ?_
    have I1 : Inv X pins σ H { s with heap := h' } := I.turned (t' := s.toks) (fun b o hb e => (sb.2 b hb).trans e) f0 f1 f3 f4 f5
    obtain ⟨o, e, c, d⟩ := id st'
    exact ⟨u, rfl, go_of (s := { s with heap := h' }) e c d (by decide) ⟨x, H, I1, ru, ⟨rfl, fun ys hy => by rw [I.tuple_inj hy hq]; exact hx⟩, st', fun b hb => (hf b hb).1⟩⟩
  done := by
    intro X hP hw hK hc i pins s σ H E I hf st hg
    subst hP hw hK
    obtain ⟨xs, hq, hx⟩ := hg
    obtain ⟨its, rv, p, hz⟩ := I.tuple hq
    obtain ⟨f0, f1, f2, f3, f4, f5⟩ := hf it (by simp)
    have hl := rv.length
    exact wpAny_pyNext_tuple_end (I.ok.hd hc) st (show s.heap.IsTuple a its.toArray from p) (by simp; omega) fun h' eb => ⟨rfl, I.turned (t' := s.toks) (fun b o hb e => eb b o hb e) f0 f1 f3 f4 f5⟩
  self := fun _ _ _ _ _ st h => wpAny_pyIter_tupleiter st h
theorem turn_range {P : Program} {w : World} {K : PySem.W.Frag} {tg : Expr} (it : Addr) (lo : Int) (n : Nat) : Turn P w K tg (Itr lo n) [it] it (fun i h => IsRangeIter h it (lo + (i : Nat) * 1) ((n : Int) - (i : Nat)) 1) where
  mem := by simp
  obj := fun i h st b hb => by
    have e : b = it := by simpa using hb
    subst e
    exact ⟨_, st, fun v z => by
      have z' : Data.fields _ = Data.cell v := z
      cases z'⟩
  keep := fun i h h' st k => k it (by simp) _ st
  item := by
    intro X hP hw hK hc i pins s σ H E I hf st hg
    subst hP hw hK
    obtain ⟨f0, f1, f2, f3, f4, f5⟩ := hf it (by simp)
    have W := Walks.range (prog := X.prog) (w := X.w) (I.ok.hd hc) it lo 1 n
    refine W.item i s _ _ hg st fun v h' tk hv st' kk => ?_
    obtain ⟨t, rfl⟩ := hv
    have I1 : Inv X pins σ H { s with heap := h', toks := tk } := I.turned (fun b o hb e => kk b o (by simpa using hb) e) f0 f1 f3 f4 f5
    refine ⟨_, rfl, go_of (s := { s with heap := h', toks := tk }) (n := "range_iterator") st' rfl rfl (by decide) ⟨.int (lo + i), H, I1, ⟨t, ?_⟩, ⟨rfl, rfl⟩, st', fun b hb => (hf b hb).1⟩⟩
    rw [Int.mul_one]
  done := by
    intro X hP hw hK hc i pins s σ H E I hf st hg
    subst hP hw hK
    obtain ⟨f0, f1, f2, f3, f4, f5⟩ := hf it (by simp)
    exact wpAny_pyNext_range_end (I.ok.hd hc) st (by have : n ≤ i := hg; omega) fun h' eb => ⟨rfl, I.turned (t' := s.toks) (fun b o hb e => eb b o hb e) f0 f1 f3 f4 f5⟩
  self := fun _ _ _ _ _ st h => wpAny_pyIter_rangeiter st h
end L2

namespace L2
open PySem PySem.Spec PyProof.Rows
section
variable {X : Cx} {tg : Expr}
def iList (K : PySem.W.Frag) (tl : TE) : TI := fun σ H R => tl σ H fun x H1 => ∃ a, x = .ref a ∧ (∃ xs, SqL K H1 a xs) ∧ R (Itl K a) H1
def iTup (K : PySem.W.Frag) (tl : TE) : TI := fun σ H R => tl σ H fun x H1 => ∃ a, x = .ref a ∧ (∃ xs, SqT K H1 a xs) ∧ R (Itt K a) H1
theorem pi_list {l : Expr} {tl : TE} (hl : PE X l tl) : PI X tg l (iList X.K tl) := by
  intro pins s σ H R I h
  refine thn (hl pins s σ H _ I h) fun v s1 ⟨x, H1, I1, r1, q1⟩ => ?_
  obtain ⟨a, e, ⟨xs, hq⟩, q⟩ := q1
  subst e
  cases r1
  obtain ⟨its, rv, p, hz⟩ := I1.list hq
  refine wpAny_pyIter_list p.isList ?_
  refine ⟨s1.heap.objs.size, [s1.heap.objs.size], _, _, H1, rfl, I1.kept (t' := s1.toks) fun b o e => Heap.get?_push_of_some _ e, turn_list a _, ⟨_, Heap.get?_push_size _ rfl, rfl, rfl⟩, fun b hb => ?_, q⟩
  have e : b = s1.heap.objs.size := by simpa using hb
  subst e
  exact I1.fpOk (Nat.le_refl _) (I1.hok.fresh (Nat.le_refl _))
theorem pi_tup {l : Expr} {tl : TE} (hl : PE X l tl) : PI X tg l (iTup X.K tl) := by
  intro pins s σ H R I h
  refine thn (hl pins s σ H _ I h) fun v s1 ⟨x, H1, I1, r1, q1⟩ => ?_
  obtain ⟨a, e, ⟨xs, hq⟩, q⟩ := q1
  subst e
  cases r1
  obtain ⟨its, rv, p, hz⟩ := I1.tuple hq
  refine wpAny_pyIter_tuple (show s1.heap.IsTuple a its.toArray from p) ?_
  refine ⟨s1.heap.objs.size, [s1.heap.objs.size], _, _, H1, rfl, I1.kept (t' := s1.toks) fun b o e => Heap.get?_push_of_some _ e, turn_tuple a _, ⟨_, Heap.get?_push_size _ rfl, rfl, rfl⟩, fun b hb => ?_, q⟩
  have e : b = s1.heap.objs.size := by simpa using hb
  subst e
  exact I1.fpOk (Nat.le_refl _) (I1.hok.fresh (Nat.le_refl _))
/-- a range object just made, walked -/
theorem range_it {pins : List (Addr × Obj)} {σ : St} {H : Hp} {s : Shared} {R : It → Hp → Prop} {E : Value → Shared → Prop} {lo hi : Int} {t u v : Tok} {tk : Nat} (I : Inv X pins σ H s) (h1 : -(2 ^ 62) ≤ lo) (h2 : lo < 2 ^ 62) (h3 : -(2 ^ 62) ≤ hi) (h4 : hi < 2 ^ 62)
    (q : R (Itr lo (hi - lo).toNat) H) : wpAny (model X.prog X.w) X.A (pyIter (.ref s.heap.objs.size)) (PIE X pins σ tg R) E { s with heap := s.heap.push { cls := .type "range", data := .fields #[.int lo t, .int hi u, .int 1 v] }, toks := tk } := by
  refine wpAny_pyIter_range (IsRange.new ..) (small_one h1 h2 h3 h4) ?_
  have I1 : Inv X pins σ H { s with heap := s.heap.push { cls := .type "range", data := .fields #[.int lo t, .int hi u, .int 1 v] }, toks := tk } := I.kept fun b o e => Heap.get?_push_of_some _ e
  refine ⟨(s.heap.push { cls := .type "range", data := .fields #[.int lo t, .int hi u, .int 1 v] }).objs.size, [(s.heap.push { cls := .type "range", data := .fields #[.int lo t, .int hi u, .int 1 v] }).objs.size], _, _, H, rfl,
    I1.kept (t' := tk) fun b o e => Heap.get?_push_of_some _ e, turn_range _ lo (hi - lo).toNat, ?_, fun b hb => ?_, q⟩
  · have e1 : lo + ((0 : Nat) : Int) * 1 = lo := by simp
    have e2 : (((hi - lo).toNat : Nat) : Int) - ((0 : Nat) : Int) = Builtin.Range.rangeSize lo hi 1 := by rw [rangeSize_one]; split <;> omega
    show IsRangeIter _ _ (lo + ((0 : Nat) : Int) * 1) ((((hi - lo).toNat : Nat) : Int) - ((0 : Nat) : Int)) 1
    rw [e1, e2]
    exact Heap.get?_push_size _ rfl
  · have e : b = (s.heap.push { cls := .type "range", data := .fields #[.int lo t, .int hi u, .int 1 v] }).objs.size := by simpa using hb
    subst e
    exact I1.fpOk (Nat.le_refl _) (I1.hok.fresh (Nat.le_refl _))
def iRng1 (ta : TA) : TI := fun σ H R => ta σ H fun vs H1 => ∃ j : Int, vs = [.int j] ∧ -(2 ^ 62) ≤ j ∧ j < 2 ^ 62 ∧ R (Itr 0 j.toNat) H1
def iRng2 (ta : TA) : TI := fun σ H R => ta σ H fun vs H1 => ∃ i j : Int, vs = [.int i, .int j] ∧ (-(2 ^ 62) ≤ i ∧ i < 2 ^ 62 ∧ -(2 ^ 62) ≤ j ∧ j < 2 ^ 62) ∧ R (Itr i (j - i).toNat) H1
theorem pi_range1 {a : Expr} {ta : TA} {p pos : Pos} (hg : Gl X "range") (hm : X.mg "range" = none) (ha : PA X [a] ta) (hs : starEach [a] X.env = [(false, eval a X.env)] := by rfl) : PI X tg (.Call (.Name "range" p) [a] [] pos) (iRng1 ta) := by
  intro pins s σ H R I h
  refine Call_ (ld_blt I hg hm boot_range (PyProof.Rows.callWith_type1 (thn (ha pos pins s σ H _ I h) fun us s1 ⟨vs, H1, I1, r1, q1⟩ => ?_) hs rfl))
  obtain ⟨j, e, q1, q2, q⟩ := q1
  subst e
  cases r1 with
  | cons r rr =>
    cases rr
    obtain ⟨t, rfl⟩ := r
    exact call_range_1 (range_it I1 (by omega) (by omega) q1 q2 (by simpa using q))
theorem pi_range2 {a b : Expr} {ta : TA} {p pos : Pos} (hg : Gl X "range") (hm : X.mg "range" = none) (ha : PA X [a, b] ta) (hs : starEach [a, b] X.env = [(false, eval a X.env), (false, eval b X.env)] := by rfl) (hs2 : starEach [b] X.env = [(false, eval b X.env)] := by rfl) :
    PI X tg (.Call (.Name "range" p) [a, b] [] pos) (iRng2 ta) := by
  intro pins s σ H R I h
  refine Call_ (ld_blt I hg hm boot_range (PyProof.Rows.callWith_type1 (thn (ha pos pins s σ H _ I h) fun us s1 ⟨vs, H1, I1, r1, q1⟩ => ?_) (by rw [hs, hs2]) (by rw [hs2]; rfl)))
  obtain ⟨i, j, e, ⟨q1, q2, q3, q4⟩, q⟩ := q1
  subst e
  cases r1 with
  | cons r rr =>
    cases rr with
    | cons r' rr =>
      cases rr
      obtain ⟨t, rfl⟩ := r
      obtain ⟨t', rfl⟩ := r'
      exact call_range_2 (range_it I1 q1 q2 q3 q4 q)

/-! ### for -/
/-- W: the invariant by the turn and a measure; N: what the body is to reach -/
def tFor (wi : TI) (g : TG) (tb : TS) : TS := fun D σ H => wi σ H fun J H1 => ∃ W : Nat → Nat → St → Hp → Prop, (∃ m, W 0 m σ H1) ∧ ∀ i m σ H, W i m σ H →
  (J.stop i H ∧ D.nx σ H) ∨ (J.go i H ∧ ∃ N : St → Hp → Prop, (∀ σ' H', N σ' H' → ∃ m', m' < m ∧ W (i + 1) m' σ' H') ∧ ∀ x H', J.yld i H x H' → g x σ H' fun σ2 H2 => tb { D with nx := N, ct := N, bk := D.nx } σ2 H2)
/-- the records at fp as they stand -/
def pinsAt (fp : List Addr) (h : Heap) : List (Addr × Obj) := fp.filterMap fun b => (h.get? b).map fun o => (b, o)
theorem mem_pinsAt {fp : List Addr} {h : Heap} {b : Addr} {o : Obj} (hb : b ∈ fp) (e : h.get? b = some o) : (b, o) ∈ pinsAt fp h := List.mem_filterMap.mpr ⟨b, hb, by rw [e]; rfl⟩
theorem of_pinsAt {fp : List Addr} {h : Heap} {p : Addr × Obj} (hp : p ∈ pinsAt fp h) : p.1 ∈ fp ∧ h.get? p.1 = some p.2 := by
  obtain ⟨b, hb, e⟩ := List.mem_filterMap.mp hp
  cases q : h.get? b with
  | none => rw [q] at e; cases e
  | some o =>
    rw [q] at e
    have e' : (b, o) = p := Option.some.inj e
    subst e'
    exact ⟨hb, q⟩
theorem Inv.pinned {pins : List (Addr × Obj)} {σ : St} {H : Hp} {s : Shared} {fp : List Addr} (I : Inv X pins σ H s) (hf : ∀ b ∈ fp, FpOk X pins H b) (ho : ∀ b ∈ fp, ∃ o, s.heap.get? b = some o ∧ ∀ v, o.data ≠ .cell v) : Inv X (pins ++ pinsAt fp s.heap) σ H s :=
  I.pins_of fun p hp => (List.mem_append.mp hp).elim (fun z => I.pin p (List.mem_append_right _ z)) fun z => by
    obtain ⟨hb, e⟩ := of_pinsAt z
    obtain ⟨f0, f1, f2, _⟩ := hf p.1 hb
    obtain ⟨o, e', d⟩ := ho p.1 hb
    rw [e] at e'; cases e'
    exact ⟨e, f0, f1, f2, d⟩
theorem Inv.unpinned {pins pl : List (Addr × Obj)} {σ : St} {H : Hp} {s : Shared} (I : Inv X (pins ++ pl) σ H s) : Inv X pins σ H s := I.pins_of fun p hp => I.pin p (List.mem_append_right _ (List.mem_append_left _ hp))
theorem ps_for {iter : Expr} {body : List Stmt} {wi : TI} {g : TG} {tb : TS} {pos : Pos} (hp : PassesOwn (model X.prog X.w) X.A X.env X.xe) (hc : X.calm = true) (hi : PI X tg iter wi) (hg : PG X tg g) (hb : PSs X body tb)
    (hs : ∀ x, foldedSetIterable iter X.env x = pure x := by intro _; rfl) : PS X (.For tg iter body [] pos) (tFor wi g tb) := by
  intro pins s σ H D I h
  refine wpAny_For (thn (hi pins s σ H _ I h) fun v s1 h1 => thn h1 fun itv s2 h2 => ?_) hs
  obtain ⟨it, fp, tn, J, H2, e, I2, T, st2, f2, W, ⟨m0, w0⟩, turn⟩ := h2
  subst e
  -- what stays true of the iterator's objects through the loop
  have stat : ∀ {H' : Hp}, (∀ b ∈ fp, H' b = none) → ∀ b ∈ fp, FpOk X pins H' b := fun hn b hb => ⟨hn b hb, (f2 b hb).2⟩
  refine codeAny_forLoop_any (fun n s' => ∃ i σ' H', Inv X pins σ' H' s' ∧ tn i s'.heap ∧ (∀ b ∈ fp, H' b = none) ∧ W i n σ' H') ?_ m0 ⟨0, σ, H2, I2, st2, fun b hb => (f2 b hb).1, w0⟩
  rintro n s3 ⟨i, σ3, H3, I3, st3, fr3, w3⟩
  rcases turn i n σ3 H3 w3 with ⟨stop, qn⟩ | ⟨go, N, hN, step⟩
  · refine wpAny_passesOwn hp (thn (T.done X rfl rfl rfl hc i pins s3 σ3 H3 X.xe I3 (stat fr3) st3 stop) fun r s4 ⟨hr, I4⟩ => ?_)
    subst hr
    exact wpAny_execs_nil ⟨σ3, H3, I4, qn⟩
  · refine wpAny_passesOwn hp (thn (T.item X rfl rfl rfl hc i pins s3 σ3 H3 X.xe I3 (stat fr3) st3 go) fun r s4 ⟨u, hr, h4⟩ => ?_)
    subst hr
    refine wpAny_passesOwn hp (thn h4 fun _ s5 ⟨x, H5, I5, r5, y5, st5, fr5⟩ => ?_)
    have I5' := I5.pinned (stat fr5) (T.obj _ _ st5)
    refine wpAny_passesOwn hp (thn (hg _ s5 σ3 H5 x u _ I5' r5 (step x H5 y5)) fun _ s6 ⟨σ6, H6, I6, q6⟩ => ?_)
    refine wpAny_passesOwn hp (thn (hb _ s6 σ6 H6 _ I6 q6) fun f s7 q7 => ?_)
    have again : ∀ {σ7 : St} {H7 : Hp}, Inv X (pins ++ pinsAt fp s5.heap) σ7 H7 s7 → N σ7 H7 → ∃ m, m < n ∧ ∃ i σ' H', Inv X pins σ' H' s7 ∧ tn i s7.heap ∧ (∀ b ∈ fp, H' b = none) ∧ W i m σ' H' := fun {σ7 H7} I7 n7 => by
      obtain ⟨m', hm, w7⟩ := hN σ7 H7 n7
      refine ⟨m', hm, i + 1, σ7, H7, I7.unpinned, T.keep _ _ _ st5 fun b hb o e => (I7.pin (b, o) (List.mem_append_right _ (List.mem_append_right _ (mem_pinsAt hb e)))).1, fun b hb => ?_, w7⟩
      obtain ⟨o, e, d⟩ := T.obj _ _ st5 b hb
      exact (I7.pin (b, o) (List.mem_append_right _ (List.mem_append_right _ (mem_pinsAt hb e)))).2.1
    cases f with
    | next => obtain ⟨σ7, H7, I7, n7⟩ := q7; exact again I7 n7
    | cont => obtain ⟨σ7, H7, I7, n7⟩ := q7; exact again I7 n7
    | brk => obtain ⟨σ7, H7, I7, q7⟩ := q7; exact ⟨σ7, H7, I7.unpinned, q7⟩
    | ret v => obtain ⟨x7, σ7, H7, I7, r7, q7⟩ := q7; exact ⟨x7, σ7, H7, I7.unpinned, r7, q7⟩
end

/-! ### the forms one uses -/
/-- over a list that the body leaves as it is -/
theorem for_list {K : PySem.W.Frag} {a : Addr} {xs : List V} {g : TG} {tb : TS} {D : Ends} {σ : St} {H : Hp} (Pv : Nat → St → Hp → Prop) (h0 : Pv 0 σ H) (hl : ∀ i σ H, i ≤ xs.length → Pv i σ H → SqL K H a xs)
    (hs : ∀ i x σ H, xs[i]? = some x → Pv i σ H → g x σ H fun σ2 H2 => tb { D with nx := Pv (i + 1), ct := Pv (i + 1), bk := D.nx } σ2 H2) (hd : ∀ σ H, Pv xs.length σ H → D.nx σ H) :
    ∃ W : Nat → Nat → St → Hp → Prop, (∃ m, W 0 m σ H) ∧ ∀ i m σ H, W i m σ H →
      ((Itl K a).stop i H ∧ D.nx σ H) ∨ ((Itl K a).go i H ∧ ∃ N : St → Hp → Prop, (∀ σ' H', N σ' H' → ∃ m', m' < m ∧ W (i + 1) m' σ' H') ∧ ∀ x H', (Itl K a).yld i H x H' → g x σ H' fun σ2 H2 => tb { D with nx := N, ct := N, bk := D.nx } σ2 H2) := by
  refine ⟨fun i m σ H => m = xs.length - i ∧ i ≤ xs.length ∧ Pv i σ H, ⟨xs.length, by simp, Nat.zero_le _, h0⟩, ?_⟩
  rintro i m σ H ⟨rfl, hi, p⟩
  have q := hl i σ H hi p
  by_cases hlt : i < xs.length
  · refine .inr ⟨⟨xs, xs[i], q, by simp [hlt]⟩, Pv (i + 1), fun σ' H' p' => ⟨xs.length - (i + 1), by omega, rfl, hlt, p'⟩, fun x H' y => ?_⟩
    obtain ⟨e, y⟩ := y
    subst e
    exact hs i x σ _ (y xs q) p
  · have e : i = xs.length := by omega
    subst e
    exact .inl ⟨⟨xs, q, Nat.le_refl _⟩, hd σ H p⟩
theorem for_range {lo : Int} {n : Nat} {g : TG} {tb : TS} {D : Ends} {σ : St} {H : Hp} (Pv : Nat → St → Hp → Prop) (h0 : Pv 0 σ H)
    (hs : ∀ i σ H, i < n → Pv i σ H → g (.int (lo + i)) σ H fun σ2 H2 => tb { D with nx := Pv (i + 1), ct := Pv (i + 1), bk := D.nx } σ2 H2) (hd : ∀ σ H, Pv n σ H → D.nx σ H) :
    ∃ W : Nat → Nat → St → Hp → Prop, (∃ m, W 0 m σ H) ∧ ∀ i m σ H, W i m σ H →
      ((Itr lo n).stop i H ∧ D.nx σ H) ∨ ((Itr lo n).go i H ∧ ∃ N : St → Hp → Prop, (∀ σ' H', N σ' H' → ∃ m', m' < m ∧ W (i + 1) m' σ' H') ∧ ∀ x H', (Itr lo n).yld i H x H' → g x σ H' fun σ2 H2 => tb { D with nx := N, ct := N, bk := D.nx } σ2 H2) := by
  refine ⟨fun i m σ H => m = n - i ∧ i ≤ n ∧ Pv i σ H, ⟨n, by simp, Nat.zero_le _, h0⟩, ?_⟩
  rintro i m σ H ⟨rfl, hi, p⟩
  by_cases hlt : i < n
  · refine .inr ⟨hlt, Pv (i + 1), fun σ' H' p' => ⟨n - (i + 1), by omega, rfl, hlt, p'⟩, fun x H' y => ?_⟩
    obtain ⟨e, y⟩ := y
    subst e y
    exact hs i σ _ hlt p
  · have e : i = n := by omega
    subst e
    exact .inl ⟨Nat.le_refl _, hd σ H p⟩
end L2

namespace L2
open PySem PySem.Spec PyProof.Rows

abbrev R2 := V → V → Hp → VK → Prop
/-- a two-place operation on values: f is binaryOp op, inplaceOp op or compareOp op -/
def OpR (X : Cx) (f : Value → Value → Sem Value) (r : R2) : Prop :=
  ∀ (pins : List (Addr × Obj)) (s : Shared) (σ : St) (H : Hp) (x y : V) (v u : Value) (Q : VK), Inv X pins σ H s → RelV x v → RelV y u → r x y H Q →
    wpAny (model X.prog X.w) X.A (f v u) (EP X pins σ Q) X.xe s
/-- a one-place operation -/
def UnR (X : Cx) (f : Value → Sem Value) (r : V → Hp → VK → Prop) : Prop :=
  ∀ (pins : List (Addr × Obj)) (s : Shared) (σ : St) (H : Hp) (x : V) (v : Value) (Q : VK), Inv X pins σ H s → RelV x v → r x H Q →
    wpAny (model X.prog X.w) X.A (f v) (EP X pins σ Q) X.xe s
/-- a call of a value that is known (a builtin, a type) with values -/
def CallR (X : Cx) (f : Value) (r : List V → Hp → VK → Prop) : Prop :=
  ∀ (pins : List (Addr × Obj)) (s : Shared) (σ : St) (H : Hp) (xs : List V) (us : List Value) (Q : VK), Inv X pins σ H s → Vals xs us → r xs H Q →
    wpAny (model X.prog X.w) X.A (call f us) (EP X pins σ Q) X.xe s
/-- a value's truth -/
def TruR (X : Cx) (r : V → Hp → (Bool → Hp → Prop) → Prop) : Prop :=
  ∀ (pins : List (Addr × Obj)) (s : Shared) (σ : St) (H : Hp) (x : V) (v : Value) (Q : Bool → Hp → Prop), Inv X pins σ H s → RelV x v → r x H Q →
    wpAny (model X.prog X.w) X.A (truthy v) (TP X pins σ Q) X.xe s

def tOp (r : R2) (ta tb : TE) : TE := fun σ H Q => ta σ H fun x H1 => tb σ H1 fun y H2 => r x y H2 Q
def tUn (r : V → Hp → VK → Prop) (ta : TE) : TE := fun σ H Q => ta σ H fun x H1 => r x H1 Q
/-- ints in, under C, and a value out -/
def rI (C : Int → Int → Prop) (g : Int → Int → V) : R2 := fun x y H Q => ∃ i j, x = .int i ∧ y = .int j ∧ C i j ∧ Q (g i j) H
def rI0 (g : Int → Int → V) : R2 := fun x y H Q => ∃ i j, x = .int i ∧ y = .int j ∧ Q (g i j) H
def rU (g : Int → V) : V → Hp → VK → Prop := fun x H Q => ∃ i, x = .int i ∧ Q (g i) H

section
variable {X : Cx} {a b c : Expr} {ta tb tc : TE} {pos : Pos}

theorem binT (ha : PE X a ta) (hb : PE X b tb) {pins : List (Addr × Obj)} {s : Shared} {σ : St} {H : Hp} {R : V → V → Hp → Prop} (I : Inv X pins σ H s)
    (h : ta σ H fun x H1 => tb σ H1 fun y H2 => R x y H2) {Q : Value → Shared → Prop} {f : Value → Value → Sem Value}
    (hf : ∀ v u s2 x y H2, Inv X pins σ H2 s2 → RelV x v → RelV y u → R x y H2 → wpAny (model X.prog X.w) X.A (f v u) Q X.xe s2) :
    wpAny (model X.prog X.w) X.A (eval a X.env) (fun v s₁ => wpAny (model X.prog X.w) X.A (eval b X.env) (fun u s₂ => wpAny (model X.prog X.w) X.A (f v u) Q X.xe s₂) X.xe s₁) X.xe s := by
  refine thn (ha pins s σ H _ I h) fun v s1 ⟨x, H1, I1, r1, q1⟩ => ?_
  refine thn (hb pins s1 σ H1 _ I1 q1) fun u s2 ⟨y, H2, I2, r2, q2⟩ => ?_
  exact hf v u s2 x y H2 I2 r1 r2 q2

theorem pe_op {op : Operator} {r : R2} (ho : OpR X (binaryOp op) r) (ha : PE X a ta) (hb : PE X b tb) : PE X (.BinOp a op b pos) (tOp r ta tb) := by
  intro pins s σ H Q I h
  exact wpAny_BinOp (binT ha hb I h fun v u s2 x y H2 I2 rx ry q => ho pins s2 σ H2 x y v u Q I2 rx ry q)
theorem pe_un {op : UnaryOp} {r : V → Hp → VK → Prop} (ho : UnR X (unaryOp op) r) (ha : PE X a ta) : PE X (.UnaryOp op a pos) (tUn r ta) := by
  intro pins s σ H Q I h
  exact UnaryOp_ (thn (ha pins s σ H _ I h) fun v s1 ⟨x, H1, I1, r1, q1⟩ => ho pins s1 σ H1 x v Q I1 r1 q1)
/-! ### ints -/
theorem opI {f : Value → Value → Sem Value} {C : Int → Int → Prop} {g : Int → Int → Int}
    (rule : ∀ (i j : Int) (t u : Tok) (s : Shared) (Q : Value → Shared → Prop) (E : Value → Shared → Prop), C i j → Q (.int (g i j) s.toks) { s with toks := s.toks + 1 } → wpAny (model X.prog X.w) X.A (f (.int i t) (.int j u)) Q E s) :
    OpR X f (rI C fun i j => .int (g i j)) := by
  intro pins s σ H x y v u Q I rx ry h
  obtain ⟨i, j, rfl, rfl, hc, q⟩ := h
  obtain ⟨t, rfl⟩ := rx
  obtain ⟨t', rfl⟩ := ry
  exact rule i j t t' s _ _ hc ⟨.int (g i j), H, I.tok _, ⟨_, rfl⟩, q⟩
theorem opI0 {f : Value → Value → Sem Value} {g : Int → Int → Int}
    (rule : ∀ (i j : Int) (t u : Tok) (s : Shared) (Q : Value → Shared → Prop) (E : Value → Shared → Prop), Q (.int (g i j) s.toks) { s with toks := s.toks + 1 } → wpAny (model X.prog X.w) X.A (f (.int i t) (.int j u)) Q E s) :
    OpR X f (rI0 fun i j => .int (g i j)) := by
  intro pins s σ H x y v u Q I rx ry h
  obtain ⟨i, j, rfl, rfl, q⟩ := h
  obtain ⟨t, rfl⟩ := rx
  obtain ⟨t', rfl⟩ := ry
  exact rule i j t t' s _ _ ⟨.int (g i j), H, I.tok _, ⟨_, rfl⟩, q⟩
theorem opB0 {f : Value → Value → Sem Value} {g : Int → Int → Bool}
    (rule : ∀ (i j : Int) (t u : Tok) (s : Shared) (Q : Value → Shared → Prop) (E : Value → Shared → Prop), Q (.bool (g i j)) s → wpAny (model X.prog X.w) X.A (f (.int i t) (.int j u)) Q E s) :
    OpR X f (rI0 fun i j => .bl (g i j)) := by
  intro pins s σ H x y v u Q I rx ry h
  obtain ⟨i, j, rfl, rfl, q⟩ := h
  obtain ⟨t, rfl⟩ := rx
  obtain ⟨t', rfl⟩ := ry
  exact rule i j t t' s _ _ ⟨.bl (g i j), H, I, rfl, q⟩

def CDiv (i j : Int) : Prop := 0 < j ∧ j < 1073741824
def CPow (i j : Int) : Prop := 0 ≤ j ∧ j ≤ 1000000 ∧ i.natAbs < 2 ^ 64
def CMul (i j : Int) : Prop := (-(2 ^ 64) < i ∧ i < 2 ^ 64) ∨ (-(2 ^ 64) < j ∧ j < 2 ^ 64)
theorem CMul.ok {i j : Int} (h : CMul i j) : IntMulOk i j := by
  rcases h with ⟨h1, h2⟩ | ⟨h1, h2⟩
  · exact .of_left (intBits_le_64 h1 h2)
  · exact .of_right (intBits_le_64 h1 h2)
theorem op_add : OpR X (binaryOp .Add) (rI0 fun i j => .int (i + j)) := opI0 fun _ _ _ _ _ _ _ q => add_int q
theorem op_sub : OpR X (binaryOp .Sub) (rI0 fun i j => .int (i - j)) := opI0 fun _ _ _ _ _ _ _ q => sub_int q
theorem op_mul : OpR X (binaryOp .Mult) (rI CMul fun i j => .int (i * j)) := opI fun _ _ _ _ _ _ _ hc q => mul_int q hc.ok
/-- // by a positive divisor -/
theorem op_fdiv : OpR X (binaryOp .FloorDiv) (rI CDiv fun i j => .int (i / j)) := opI fun i j _ _ _ _ _ hc q => by
  have h1 : (0 : Int) < j := hc.1
  have h2 : j < 1073741824 := hc.2
  exact floordiv_int (by omega) (by rw [Int.fdiv_eq_ediv_of_nonneg i (by omega)]; exact q) (.inl (PyProof.noPylong_small (by omega)))
/-- % by a positive divisor of any size -/
theorem op_mod : OpR X (binaryOp .Mod) (rI (fun _ j => 0 < j) fun i j => .int (i % j)) := opI fun i j _ _ _ _ _ hc q => by
  have h1 : (0 : Int) < j := hc
  exact mod_int' (by omega) (by rw [Int.fmod_eq_emod_of_nonneg i (by omega)]; exact q)
theorem op_pow : OpR X (binaryOp .Pow) (rI CPow fun i j => .int (i ^ j.toNat)) := opI fun _ _ _ _ _ _ _ hc q => pow_int_small hc.1 hc.2.1 hc.2.2 q
theorem unI {f : Value → Sem Value} {g : Int → Int}
    (rule : ∀ (i : Int) (t : Tok) (s : Shared) (Q : Value → Shared → Prop) (E : Value → Shared → Prop), Q (.int (g i) s.toks) { s with toks := s.toks + 1 } → wpAny (model X.prog X.w) X.A (f (.int i t)) Q E s) :
    UnR X f (rU fun i => .int (g i)) := by
  intro pins s σ H x v Q I rx h
  obtain ⟨i, rfl, q⟩ := h
  obtain ⟨t, rfl⟩ := rx
  exact rule i t s _ _ ⟨.int (g i), H, I.tok _, ⟨_, rfl⟩, q⟩
theorem un_neg : UnR X (unaryOp .USub) (rU fun i => .int (-i)) := unI fun _ _ _ _ _ q => neg_int q
end

/-! ### comparisons -/
/-- the scalars that == tells apart as data does -/
def scal : V → V → Bool
  | .non, .non => true | .non, .int _ => true | .int _, .non => true | .non, .bl _ => true | .bl _, .non => true | .non, .str _ => true | .str _, .non => true
  | .int _, .int _ => true | .bl _, .bl _ => true | .str _, .str _ => true | .byt _, .byt _ => true
  | .int _, .str _ => true | .str _, .int _ => true | .bl _, .str _ => true | .str _, .bl _ => true
  | _, _ => false
def rEq : R2 := fun x y H Q => scal x y = true ∧ Q (.bl (decide (x = y))) H
def rNe : R2 := fun x y H Q => scal x y = true ∧ Q (.bl (!decide (x = y))) H

theorem dec_int {i j : Int} : decide (V.int i = V.int j) = (i == j) := by
  rw [Bool.eq_iff_iff]
  simp
theorem dec_bl {i j : Bool} : decide (V.bl i = V.bl j) = (i == j) := by
  rw [Bool.eq_iff_iff]
  simp
theorem dec_str {i j : Str} : decide (V.str i = V.str j) = (i == j) := by
  rw [Bool.eq_iff_iff]
  simp
theorem dec_byt {i j : Array UInt8} : decide (V.byt i = V.byt j) = (i.toList == j.toList) := by
  rw [Bool.eq_iff_iff]
  cases i
  cases j
  simp

section
variable {X : Cx} {a b c : Expr} {ta tb tc : TE} {pos : Pos}
theorem fin_bl {pins : List (Addr × Obj)} {σ : St} {H : Hp} {s : Shared} {Q : VK} {k k' : Bool} (I : Inv X pins σ H s) (q : Q (.bl k) H) (e : k = k') : EP X pins σ Q (.bool k') s := by
  subst e
  exact ⟨.bl k, H, I, rfl, q⟩
theorem op_eq : OpR X (compareOp .Eq) rEq := by
  intro pins s σ H x y v u Q I rx ry h
  obtain ⟨hs, q⟩ := h
  cases x with
  | non =>
    cases rx
    cases y with
    | non => cases ry; exact PySem.EqNone.eq_none_none (fin_bl I q (by simp))
    | bl j => cases ry; exact PySem.EqNone.eq_none_bool (fin_bl I q (by simp))
    | int j => obtain ⟨t', rfl⟩ := ry; exact PySem.EqNone.eq_none_int (fin_bl I q (by simp))
    | str j => obtain ⟨t', rfl⟩ := ry; exact PySem.EqNone.eq_none_str (fin_bl I q (by simp))
    | _ => exact absurd (show false = true from hs) Bool.false_ne_true
  | bl i =>
    cases rx
    cases y with
    | non => cases ry; exact PySem.EqNone.eq_bool_none (fin_bl I q (by simp))
    | bl j => cases ry; exact eq_bool (fin_bl I q dec_bl)
    | str j => obtain ⟨t', rfl⟩ := ry; exact PySem.EqMixed.eq_bool_str (fin_bl I q (by simp))
    | _ => exact absurd (show false = true from hs) Bool.false_ne_true
  | int i =>
    obtain ⟨t, rfl⟩ := rx
    cases y with
    | non => cases ry; exact PySem.EqNone.eq_int_none (fin_bl I q (by simp))
    | int j => obtain ⟨t', rfl⟩ := ry; exact eq_int (fin_bl I q dec_int)
    | str j => obtain ⟨t', rfl⟩ := ry; exact PySem.EqMixed.eq_int_str (fin_bl I q (by simp))
    | _ => exact absurd (show false = true from hs) Bool.false_ne_true
  | str i =>
    obtain ⟨t, rfl⟩ := rx
    cases y with
    | non => cases ry; exact PySem.EqNone.eq_str_none (fin_bl I q (by simp))
    | bl j => cases ry; exact PySem.EqMixed.eq_str_bool (fin_bl I q (by simp))
    | int j => obtain ⟨t', rfl⟩ := ry; exact PySem.EqMixed.eq_str_int (fin_bl I q (by simp))
    | str j => obtain ⟨t', rfl⟩ := ry; exact eq_str (fin_bl I q dec_str)
    | _ => exact absurd (show false = true from hs) Bool.false_ne_true
  | byt i =>
    obtain ⟨t, rfl⟩ := rx
    cases y with
    | byt j => obtain ⟨t', rfl⟩ := ry; exact PySem.W.eq_bytes (fin_bl I q dec_byt)
    | _ => exact absurd (show false = true from hs) Bool.false_ne_true
  | _ => cases y <;> exact absurd (show false = true from hs) Bool.false_ne_true
theorem op_ne : OpR X (compareOp .NotEq) rNe := by
  intro pins s σ H x y v u Q I rx ry h
  obtain ⟨hs, q⟩ := h
  cases x with
  | non =>
    cases rx
    cases y with
    | non => cases ry; exact PySem.EqNone.ne_none_none (fin_bl I q (by simp))
    | bl j => cases ry; exact PySem.EqNone.ne_none_bool (fin_bl I q (by simp))
    | int j => obtain ⟨t', rfl⟩ := ry; exact PySem.EqNone.ne_none_int (fin_bl I q (by simp))
    | str j => obtain ⟨t', rfl⟩ := ry; exact PySem.EqNone.ne_none_str (fin_bl I q (by simp))
    | _ => exact absurd (show false = true from hs) Bool.false_ne_true
  | bl i =>
    cases rx
    cases y with
    | non => cases ry; exact PySem.EqNone.ne_bool_none (fin_bl I q (by simp))
    | bl j => cases ry; exact ne_bool (fin_bl I q (congrArg not dec_bl))
    | str j => obtain ⟨t', rfl⟩ := ry; exact PySem.EqMixed.ne_bool_str (fin_bl I q (by simp))
    | _ => exact absurd (show false = true from hs) Bool.false_ne_true
  | int i =>
    obtain ⟨t, rfl⟩ := rx
    cases y with
    | non => cases ry; exact PySem.EqNone.ne_int_none (fin_bl I q (by simp))
    | int j => obtain ⟨t', rfl⟩ := ry; exact ne_int (fin_bl I q (congrArg not dec_int))
    | str j => obtain ⟨t', rfl⟩ := ry; exact PySem.EqMixed.ne_int_str (fin_bl I q (by simp))
    | _ => exact absurd (show false = true from hs) Bool.false_ne_true
  | str i =>
    obtain ⟨t, rfl⟩ := rx
    cases y with
    | non => cases ry; exact PySem.EqNone.ne_str_none (fin_bl I q (by simp))
    | bl j => cases ry; exact PySem.EqMixed.ne_str_bool (fin_bl I q (by simp))
    | int j => obtain ⟨t', rfl⟩ := ry; exact PySem.EqMixed.ne_str_int (fin_bl I q (by simp))
    | str j => obtain ⟨t', rfl⟩ := ry; exact ne_str (fin_bl I q (congrArg not dec_str))
    | _ => exact absurd (show false = true from hs) Bool.false_ne_true
  | byt i =>
    obtain ⟨t, rfl⟩ := rx
    cases y with
    | byt j => obtain ⟨t', rfl⟩ := ry; exact PySem.W.ne_bytes (fin_bl I q (congrArg not dec_byt))
    | _ => exact absurd (show false = true from hs) Bool.false_ne_true
  | _ => cases y <;> exact absurd (show false = true from hs) Bool.false_ne_true

theorem op_lt : OpR X (compareOp .Lt) (rI0 fun i j => .bl (decide (i < j))) := opB0 fun _ _ _ _ _ _ _ q => lt_int q
theorem op_le : OpR X (compareOp .LtE) (rI0 fun i j => .bl (decide (i ≤ j))) := opB0 fun _ _ _ _ _ _ _ q => le_int q
theorem op_gt : OpR X (compareOp .Gt) (rI0 fun i j => .bl (decide (j < i))) := opB0 fun _ _ _ _ _ _ _ q => gt_int q
/-- two rules for one operation: by cases -/
theorem OpR.or {f : Value → Value → Sem Value} {r r' : R2} (h : OpR X f r) (h' : OpR X f r') : OpR X f (fun x y H Q => r x y H Q ∨ r' x y H Q) := by
  intro pins s σ H x y v u Q I rx ry q
  rcases q with q | q
  · exact h pins s σ H x y v u Q I rx ry q
  · exact h' pins s σ H x y v u Q I rx ry q

theorem nomark (b : Expr) {op : CmpOp} (h : op ≠ .In := by decide) (h2 : op ≠ .NotIn := by decide) : behindInMarks op b = false := by
  have e1 : (op == CmpOp.In) = false := by cases op <;> first | rfl | exact absurd rfl h
  have e2 : (op == CmpOp.NotIn) = false := by cases op <;> first | rfl | exact absurd rfl h2
  cases b <;> simp [behindInMarks, e1, e2]
/-- a comparison as a value; hm: nomark b, or (for in, not in) by with_unfolding_all rfl -/
theorem pe_cmpR {op : CmpOp} {r : R2} (ho : OpR X (compareOp op) r) (ha : PE X a ta) (hb : PE X b tb) (hm : behindInMarks op b = false) : PE X (.Compare a [op] [b] pos) (tOp r ta tb) := by
  intro pins s σ H Q I h
  exact wpAny_Compare1 (binT ha hb I h fun v u s2 x y H2 I2 rx ry q => ho pins s2 σ H2 x y v u Q I2 rx ry q) hm
/-- a reading of a value as a test -/
def tTest (t : TE) : TT := fun σ H Q => t σ H fun x H' => ∃ k, x = .bl k ∧ Q k H'
theorem pt_cmpR {op : CmpOp} {r : R2} (ho : OpR X (compareOp op) r) (ha : PE X a ta) (hb : PE X b tb) (hm : behindInMarks op b = false) : PT X (.Compare a [op] [b] pos) (tTest (tOp r ta tb)) := by
  intro pins s σ H Q I h
  refine wpAny_isTrue_Compare1 (thn (ha pins s σ H _ I h) fun v s1 ⟨x, H1, I1, r1, q1⟩ => thn (hb pins s1 σ H1 _ I1 q1) fun u s2 ⟨y, H2, I2, r2, q2⟩ =>
    thn (ho pins s2 σ H2 x y v u _ I2 r1 r2 q2) fun c s3 ⟨z, H3, I3, r3, k, e, q3⟩ => ?_) hm
  subst e
  cases r3
  exact wpAny_truthy_bool ⟨H3, I3, q3⟩
/-- a op1 b op2 c -/
def tChain (r r' : R2) (ta tb tc : TE) : TE := fun σ H Q => ta σ H fun x H1 => tb σ H1 fun y H2 => r x y H2 fun z H3 => ∃ k, z = .bl k ∧
  (if k = true then tc σ H3 fun w' H4 => r' y w' H4 Q else Q (.bl false) H3)
theorem pe_chain {op op' : CmpOp} {r r' : R2} (ho : OpR X (compareOp op) r) (ho' : OpR X (compareOp op') r') (ha : PE X a ta) (hb : PE X b tb) (hc : PE X c tc)
    (hm : lastMarks [op, op'] [b, c] = false := by with_unfolding_all rfl) : PE X (.Compare a [op, op'] [b, c] pos) (tChain r r' ta tb tc) := by
  intro pins s σ H Q I h
  refine Compare_chain (thn (ha pins s σ H _ I h) fun v s1 ⟨x, H1, I1, r1, q1⟩ => chain_link (thn (hb pins s1 σ H1 _ I1 q1) fun u s2 ⟨y, H2, I2, r2, q2⟩ =>
    thn (ho pins s2 σ H2 x y v u _ I2 r1 r2 q2) fun d s3 ⟨z, H3, I3, r3, k, e, q3⟩ => ?_)) hm
  subst e
  cases r3
  refine wpAny_truthy_bool ?_
  cases k with
  | false => exact ite_ff ⟨.bl false, H3, I3, rfl, q3⟩
  | true => exact ite_tt (chain_last (thn (hc pins s3 σ H3 _ I3 q3) fun w' s4 ⟨z', H4, I4, r4, q4⟩ => ho' pins s4 σ H4 y z' u w' Q I4 r2 r4 q4))
theorem pt_chain {op op' : CmpOp} {r r' : R2} (ho : OpR X (compareOp op) r) (ho' : OpR X (compareOp op') r') (ha : PE X a ta) (hb : PE X b tb) (hc : PE X c tc)
    (hm : lastMarks [op, op'] [b, c] = false := by with_unfolding_all rfl) : PT X (.Compare a [op, op'] [b, c] pos) (tTest (tChain r r' ta tb tc)) := by
  intro pins s σ H Q I h
  refine isTrue_chain (thn (ha pins s σ H _ I h) fun v s1 ⟨x, H1, I1, r1, q1⟩ => test_link (thn (hb pins s1 σ H1 _ I1 q1) fun u s2 ⟨y, H2, I2, r2, q2⟩ =>
    thn (ho pins s2 σ H2 x y v u _ I2 r1 r2 q2) fun d s3 ⟨z, H3, I3, r3, k, e, q3⟩ => ?_)) hm
  subst e
  cases r3
  refine wpAny_truthy_bool ?_
  cases k with
  | false =>
    obtain ⟨k', e', q'⟩ := q3
    cases e'
    exact ite_ff ⟨H3, I3, q'⟩
  | true =>
    refine ite_tt (test_last (thn (hc pins s3 σ H3 _ I3 q3) fun w' s4 ⟨z', H4, I4, r4, q4⟩ => thn (ho' pins s4 σ H4 y z' u w' _ I4 r2 r4 q4) fun d' s5 ⟨z2, H5, I5, r5, k2, e2, q5⟩ => ?_))
    subst e2
    cases r5
    exact wpAny_truthy_bool ⟨H5, I5, q5⟩

/-! ### truth -/
/-- a value's truth by the abstract heap -/
def TruV (K : PySem.W.Frag) (x : V) (H : Hp) (k : Bool) : Prop :=
  match x with
  | .non => k = false
  | .bl b => k = b
  | .int i => k = (i != 0)
  | .str y => y.length ≤ sizeLine ∧ k = ((y.length : Int) != 0)
  | .byt y => y.size ≤ sizeLine ∧ k = ((y.size : Int) != 0)
  | .ref p => (∃ xs, SqL K H p xs ∧ k = !xs.isEmpty) ∨ (∃ xs, SqT K H p xs ∧ k = !xs.isEmpty) ∨ ∃ kvs, H p = some (.dK kvs) ∧ k = !kvs.isEmpty
  | _ => False
theorem isEmpty_kv {κ : Type} {kvs : List (κ × V)} {vs : List (κ × Value)} (r : KV kvs vs) : (!vs.isEmpty) = !kvs.isEmpty := by
  cases r <;> rfl
theorem isEmpty_of {xs : List V} {its : List Value} (r : Vals xs its) : (!its.toArray.isEmpty) = !xs.isEmpty := by
  cases r <;> simp
theorem line63 : (sizeLine : Nat) < 2 ^ 63 := by rw [sizeLine_eq]; decide
theorem tru_ok : TruR X (fun x H Q => ∃ k, TruV X.K x H k ∧ Q k H) := by
  intro pins s σ H x v Q I rx h
  obtain ⟨k, e, q⟩ := h
  have hl := line63
  have hs : sizeLine = 16777216 := sizeLine_eq
  cases x with
  | non =>
    cases rx
    have e' : k = false := e
    subst e'
    exact truthy_none ⟨H, I, q⟩
  | bl b =>
    cases rx
    have e' : k = b := e
    subst e'
    exact wpAny_truthy_bool ⟨H, I, q⟩
  | int i =>
    obtain ⟨t, rfl⟩ := rx
    have e' : k = (i != 0) := e
    subst e'
    exact PySem.P.truthy_int ⟨H, I, q⟩
  | str y =>
    obtain ⟨t, rfl⟩ := rx
    obtain ⟨hy, e'⟩ : y.length ≤ sizeLine ∧ k = ((y.length : Int) != 0) := e
    subst e'
    exact PySem.P.truthy_str (by omega) ⟨H, I.tok _, q⟩
  | byt y =>
    obtain ⟨t, rfl⟩ := rx
    obtain ⟨hy, e'⟩ : y.size ≤ sizeLine ∧ k = ((y.size : Int) != 0) := e
    subst e'
    exact PySem.W.truthy_bytes (by omega) ⟨H, I.tok _, q⟩
  | ref p =>
    cases rx
    have e' : (∃ xs, SqL X.K H p xs ∧ k = !xs.isEmpty) ∨ (∃ xs, SqT X.K H p xs ∧ k = !xs.isEmpty) ∨ ∃ kvs, H p = some (.dK kvs) ∧ k = !kvs.isEmpty := e
    rcases e' with ⟨xs, hx, e'⟩ | ⟨xs, hx, e'⟩ | ⟨kvs, hx, e'⟩
    · subst e'
      obtain ⟨its, r, pl, hz⟩ := I.list hx
      have hlen := r.length
      exact wpAny_truthy_list pl.isList (by simp only [List.size_toArray]; omega) ⟨H, I.tok _, by rw [isEmpty_of r]; exact q⟩
    · subst e'
      obtain ⟨its, r, pl, hz⟩ := I.tuple hx
      have hlen := r.length
      exact truthy_tuple pl (by simp only [List.size_toArray]; omega) ⟨H, I.tok _, by rw [isEmpty_of r]; exact q⟩
    · subst e'
      obtain ⟨hz, hS, vs, r, m⟩ : kvs.length ≤ sizeLine ∧ (p == sysModules) = false ∧ ∃ vs, KV kvs vs ∧ s.heap.DictOf (mixKind X.prog X.w) p vs := I.hok p _ hx
      have hlen : kvs.length = vs.length := Paired.length r
      exact wpAny_truthy_dict hS m (by omega) ⟨H, I.tok _, by rw [isEmpty_kv r]; exact q⟩
  | _ => exact (show False from e).elim
/-- any expression whose test is its value's truth (a name, a call, a subscript, a field ..: he by fun _ => rfl) -/
theorem pt_truth (ha : PE X a ta) (he : ∀ whole, isTrue a X.env whole = (do let v ← whole; standAt a.pos; holding [v] (truthy v))) :
    PT X a (fun σ H Q => ta σ H fun x H' => ∃ k, TruV X.K x H' k ∧ Q k H') := by
  intro pins s σ H Q I h
  exact isTrue_plain (thn (ha pins s σ H _ I h) fun v s1 ⟨x, H1, I1, r1, q1⟩ => tru_ok pins s1 σ H1 x v Q I1 r1 q1) (he _)

/-! ### scalar builtins, by CallR -/
theorem vals1 {x : V} {us : List Value} (r : Vals [x] us) : ∃ u, us = [u] ∧ RelV x u := by
  cases r with
  | cons r1 r2 => cases r2; exact ⟨_, rfl, r1⟩
theorem vals2 {x y : V} {us : List Value} (r : Vals [x, y] us) : ∃ u w', us = [u, w'] ∧ RelV x u ∧ RelV y w' := by
  cases r with
  | cons r1 r2 =>
    cases r2 with
    | cons r3 r4 => cases r4; exact ⟨_, _, rfl, r1, r3⟩
theorem call_max2 (hc : X.calm = true) : CallR X (.builtin "max") (fun xs H Q => ∃ i j, xs = [.int i, .int j] ∧ Q (.int (if j > i then j else i)) H) := by
  intro pins s σ H xs us Q I r h
  obtain ⟨i, j, rfl, q⟩ := h
  obtain ⟨u, w', rfl, ⟨t, rfl⟩, ⟨t', rfl⟩⟩ := vals2 r
  refine max_two_ints (I.ok.hd hc) fun h' tk k => ⟨_, H, I.kept k, ?_, q⟩
  by_cases hj : j > i
  · rw [if_pos hj, if_pos hj]; exact ⟨_, rfl⟩
  · rw [if_neg hj, if_neg hj]; exact ⟨_, rfl⟩
theorem call_min2 (hc : X.calm = true) : CallR X (.builtin "min") (fun xs H Q => ∃ i j, xs = [.int i, .int j] ∧ Q (.int (if j < i then j else i)) H) := by
  intro pins s σ H xs us Q I r h
  obtain ⟨i, j, rfl, q⟩ := h
  obtain ⟨u, w', rfl, ⟨t, rfl⟩, ⟨t', rfl⟩⟩ := vals2 r
  refine min_two_ints (I.ok.hd hc) fun h' tk k => ⟨_, H, I.kept k, ?_, q⟩
  by_cases hj : j < i
  · rw [if_pos hj, if_pos hj]; exact ⟨_, rfl⟩
  · rw [if_neg hj, if_neg hj]; exact ⟨_, rfl⟩
end
end L2

namespace L2
open PySem PySem.Spec PyProof.Rows

/-! ### an instance, its attributes a map -/
structure ObjM (h : Heap) (x dx C : Addr) (mA : Str → Option Value) : Prop where
  obj : h.get? x = some (PySem.W.instObj C dx)
  ns : h.Ns1 dx mA
  ne : dx ≠ x

theorem lookIn_ns {h : Heap} {dx : Addr} {mA : Str → Option Value} (n : h.Ns1 dx mA) : ∃ od, h.get? dx = some od ∧ ∀ name, PySem.W.lookIn name od = some (mA name) := by
  obtain ⟨o, es, ep, ho, hd, hk, _, hm⟩ := n
  refine ⟨o, ho, fun name => ?_⟩
  have e := hm name
  unfold nsFind findBy at e
  rw [← Array.find?_toList] at e
  unfold PySem.W.lookIn
  rw [hd]
  dsimp only
  split
  · rename_i y q
    rw [q] at e
    exact congrArg some e
  · rename_i q
    rw [q] at e
    have a : es.toList.any (·.refKey) = false := by
      rw [List.any_eq_false]
      intro y hy
      obtain ⟨z, t, hkey⟩ := hk y (Array.mem_toList_iff.mp hy)
      simp [DictEntry.refKey, hkey]
    have a' : ¬ es.toList.any (·.refKey) = true := by rw [a]; exact Bool.false_ne_true
    rw [if_neg a']
    exact congrArg some e

theorem ObjM.look {h : Heap} {x dx C : Addr} {mA : Str → Option Value} (I : ObjM h x dx C mA) : ∃ od, PySem.W.InstAt h x (PySem.W.instObj C dx) C (some od) ∧ ∀ name, PySem.W.lookIn name od = some (mA name) :=
  let ⟨od, ho, hl⟩ := lookIn_ns I.ns
  ⟨od, ⟨I.obj, rfl, rfl, ho⟩, hl⟩

section
variable {prog : Program} {w : World} {A : Around} {E : Value → Shared → Prop} {s : Shared} {K : PySem.W.Frag} {x dx C f : Addr} {mA : Str → Option Value} {name : Str} {v : Value}

end

section
variable {P : Program} {w : World} {H H' : Hp} {h h' : Heap} {a C dx : Addr} {fs fs' : List (Str × V)}
theorem ins_get (hok : HOk P w H h) (e : H a = some (.ins C dx fs)) : ∃ mA, ObjM h a dx C mA ∧ (∀ f, RelO (fs.lookup f) (mA f)) ∧ PySem.Within mA (fs.map (·.1)) ∧ fs.length ≤ 1000 ∧ H dx = some (.own a) := by
  obtain ⟨d, z, ne, ob, mA, n, r, q⟩ := (show ObjOk P w H h a (.ins C dx fs) from hok a _ e)
  exact ⟨mA, ⟨ob, n, ne⟩, r, q, z, d⟩
end

/-! ### what of the text a class must have -/
structure Cls (K : PySem.W.Frag) (C : Addr) : Prop where
  pg : PySem.W.plainGet K C Str.empty = true
  hd : PySem.W.hasDictIn K C = true
  po : PySem.W.plainOver K C = true
  sa : PySem.W.findIn K (.ref C) "__setattr__" = some (some (.builtin "object.__setattr__"))
theorem Cls.get {K : PySem.W.Frag} {C : Addr} (c : Cls K C) (f : Str) : PySem.W.plainGet K C f = true := c.pg
/-- a constant of the class -/
structure Con (K : PySem.W.Frag) (C : Addr) (f : Str) (v : V) (u : Value) : Prop where
  at_ : PySem.W.findIn K (.ref C) f = some (some u)
  rel : RelV v u
  get : PySem.W.specialIn K u "__get__" = some none
  cp : PySem.W.copiedNames.contains f = false
/-- a method: a plain def of the class or of one above it -/
structure Meth (K : PySem.W.Frag) (C : Addr) (m : Str) (f : Addr) : Prop where
  at_ : PySem.W.findIn K (.ref C) m = some (some (.ref f))
  fn : PySem.W.isFn K (.ref f) = true
  kp : PySem.W.keepIn K (.ref f) = true

section
variable {X : Cx} {pins : List (Addr × Obj)} {σ : St} {H : Hp} {s : Shared} {a C dx : Addr} {fs : List (Str × V)} {f : Str} {v : V} {A : Around} {E : Value → Shared → Prop}

/-- a new instance, tracked, without attributes -/
theorem Inv.made (I : Inv X pins σ H s) : Inv X pins σ (upd (upd H s.heap.objs.size (.own (s.heap.objs.size + 1))) (s.heap.objs.size + 1) (.ins C s.heap.objs.size []))
    { s with heap := (s.heap.push PySem.W.emptyDict).push (PySem.W.instObj C s.heap.objs.size) } := by
  have e1 : (s.heap.push PySem.W.emptyDict).get? s.heap.objs.size = some PySem.W.emptyDict := Heap.get?_push_size s.heap rfl
  have e2 : ((s.heap.push PySem.W.emptyDict).push (PySem.W.instObj C s.heap.objs.size)).get? (s.heap.objs.size + 1) = some (PySem.W.instObj C s.heap.objs.size) := by
    have := Heap.get?_push_size (s.heap.push PySem.W.emptyDict) (o := PySem.W.instObj C s.heap.objs.size) rfl
    rwa [Heap.size_push] at this
  have e3 : (s.heap.push PySem.W.emptyDict).Ns s.heap.objs.size (fun _ => none) := ⟨PySem.W.emptyDict, #[], _, e1, rfl, (fun e he => absurd he (by simp)), fun _ => rfl⟩
  have I1 := I.laid (a := s.heap.objs.size) (o := .own (s.heap.objs.size + 1)) (h' := s.heap.push PySem.W.emptyDict) (t' := s.toks) (fun b u q => Heap.get?_push_of_some _ q) (Nat.le_refl _) ⟨_, e1⟩
  refine I1.laid (a := s.heap.objs.size + 1) (o := .ins C s.heap.objs.size []) (t' := s.toks) (fun b u q => Heap.get?_push_of_some _ q) (Nat.le_of_eq (Heap.size_push _ _)) ?_
  have ne : s.heap.objs.size ≠ s.heap.objs.size + 1 := Nat.ne_of_lt (Nat.lt_succ_self _)
  refine ⟨by rw [upd_ne ne, upd_same], Nat.zero_le _, ne, e2, fun _ => none, (Heap.Ns1.of_empty e3).at fun o q => Heap.get?_push_of_some _ q, fun _ => True.intro, fun y hy => absurd rfl hy⟩

end

section
variable {X : Cx} {o e value : Expr} {f : Str} {pos pos' tpos : Pos} {ta tv : TE}
end

/-! ### isinstance -/
section
variable {X : Cx} {pins : List (Addr × Obj)} {σ : St} {H : Hp} {s : Shared} {A : Around} {E : Value → Shared → Prop} {Q : Value → Shared → Prop} {c : Value} {b : Bool}
/-- the type of a value, as the fragment's deciders take it; for an instance its class -/
inductive TyOf (K : PySem.W.Frag) (H : Hp) : V → Value → Prop where
  | non : TyOf K H .non (.type "NoneType")
  | bl (x : Bool) : TyOf K H (.bl x) (.type "bool")
  | int (i : Int) : TyOf K H (.int i) (.type "int")
  | str (x : Str) : TyOf K H (.str x) (.type "str")
  | flt (x : UInt64) : TyOf K H (.flt x) (.type "float")
  | lst {a : Addr} {xs : List V} (e : H a = some (.lst xs)) : TyOf K H (.ref a) (.type "list")
  | frz {a : Addr} {o : Obj} {xs : List V} (e : H a = some (.frz o (.lst xs))) : TyOf K H (.ref a) (.type "list")
  | tup {a : Addr} {xs : List V} (e : H a = some (.tup xs)) : TyOf K H (.ref a) (.type "tuple")
  | dK {a : Addr} {kvs : List (Key × V)} (e : H a = some (.dK kvs)) : TyOf K H (.ref a) (.type "dict")
  | dT {a : Addr} {kvs : List (List Key × V)} (e : H a = some (.dT kvs)) : TyOf K H (.ref a) (.type "dict")
  | ins {a C dx : Addr} {fs : List (Str × V)} (e : H a = some (.ins C dx fs)) (cl : Cls K C) (ha : PySem.W.findIn K (.ref C) "__class__" = some (some (.builtin "object.__class__")))
      (hn : PySem.W.specialIn K (.builtin "object.__class__") "__get__" = some (some (.builtin "getset_descriptor.__get__"))) (htk : PySem.W.takesIn K (.builtin "object.__class__") = some true)
      (hm : PySem.W.mroIn K C (.type "object") = some true) : TyOf K H (.ref a) (.ref C)
/-- isinstance(x, c) for one class c, a built-in or an own one: kitOne's answer -/
theorem isinst_ok {x : V} {u t : Value} (I : Inv X pins σ H s) (rx : RelV x u) (ty : TyOf X.K H x t) (e : PySem.W.kitOne X.K t c = some b) (h : ∀ tk, Q (.bool b) { s with toks := tk }) :
    wpAny (model X.prog X.w) A (call (.builtin "isinstance") [u, c]) Q E s := by
  cases ty with
  | non => cases (show u = Value.none from rx); exact PySem.W.kia_one PySem.W.kitx_none I.kIn True.intro e (fun z => nomatch z) h
  | bl y => cases (show u = Value.bool y from rx); exact PySem.W.kia_one PySem.W.kitx_bool I.kIn True.intro e (fun z => nomatch z) h
  | int i => obtain ⟨t, q⟩ := (show ∃ t, u = Value.int i t from rx); cases q; exact PySem.W.kia_one PySem.W.kitx_int I.kIn True.intro e (fun z => nomatch z) h
  | str y => obtain ⟨t, q⟩ := (show ∃ t, u = Value.str y t from rx); cases q; exact PySem.W.kia_one PySem.W.kitx_str I.kIn True.intro e (fun z => nomatch z) h
  | flt y => obtain ⟨t, q⟩ := (show ∃ t, u = Value.float y t from rx); cases q; exact PySem.W.kia_one PySem.W.kitx_float I.kIn True.intro e (fun z => nomatch z) h
  | @lst a xs ea =>
    cases (show u = Value.ref a from rx)
    obtain ⟨_, _, n, _, h1⟩ := (show ObjOk X.prog X.w H s.heap a (.lst xs) from I.hok a _ ea)
    exact PySem.W.kia_one PySem.W.kitx_list I.kIn ⟨_, h1, rfl⟩ e (fun z => nomatch z) h
  | @frz a ob xs ea =>
    cases (show u = Value.ref a from rx)
    obtain ⟨_, _, _, n, _, h1⟩ := (show ObjOk X.prog X.w H s.heap a (.frz ob (.lst xs)) from I.hok a _ ea)
    exact PySem.W.kia_one PySem.W.kitx_list I.kIn ⟨_, h1, rfl⟩ e (fun z => nomatch z) h
  | @tup a xs ea =>
    cases (show u = Value.ref a from rx)
    obtain ⟨_, _, _, p⟩ := (show ObjOk X.prog X.w H s.heap a (.tup xs) from I.hok a _ ea)
    obtain ⟨o, h1, h2, _⟩ := p
    exact PySem.W.kia_one PySem.W.kitx_tuple I.kIn ⟨o, h1, h2⟩ e (fun z => nomatch z) h
  | @dK a kvs ea =>
    cases (show u = Value.ref a from rx)
    obtain ⟨_, _, vs, _, p⟩ := (show ObjOk X.prog X.w H s.heap a (.dK kvs) from I.hok a _ ea)
    obtain ⟨o, es, ep, h1, h2, _⟩ := p
    exact PySem.W.kia_one PySem.W.kitx_dict I.kIn ⟨o, h1, h2.1⟩ e (fun z => nomatch z) h
  | @dT a kvs ea =>
    cases (show u = Value.ref a from rx)
    obtain ⟨_, _, xs, _, o, es, ep, h1, h2, _⟩ := (show ObjOk X.prog X.w H s.heap a (.dT kvs) from I.hok a _ ea)
    exact PySem.W.kia_one PySem.W.kitx_dict I.kIn ⟨o, h1, h2.1⟩ e (fun z => nomatch z) h
  | @ins a C dx fs ea cl ha hn htk hm =>
    cases (show u = Value.ref a from rx)
    obtain ⟨mA, O, _⟩ := ins_get I.hok ea
    obtain ⟨od, J, _⟩ := O.look
    exact PySem.W.kia_one (PySem.W.kitx_own (cl.get _) cl.hd ha hn htk hm) I.kIn J e (fun z => nomatch z) h
end
end L2

namespace L2
open PySem PySem.Spec PyProof.Rows

/-! ### room -/
structure Room (k : Nat) (A : Around) : Prop where
  hd : A.handled = none
  dp : A.depth + 3 * k + 5 < recursionLimit
  un : A.units + 16 * k + 200 < cLine
theorem Room.mono {j k : Nat} {A : Around} (r : Room k A) (h : j ≤ k) : Room j A := ⟨r.hd, by have := r.dp; omega, by have := r.un; omega⟩
theorem Room.deeper {k : Nat} {A : Around} (r : Room (k + 1) A) (env : Env) : Room k (A.deeper env) :=
  ⟨r.hd, by have := r.dp; show A.depth + 1 + 3 * k + 5 < _; omega, by have := r.un; show A.units + 3 + 16 * k + 200 < _; omega⟩
theorem Room.in1 {k : Nat} {A : Around} (r : Room (k + 1) A) : Room k A.in1 :=
  ⟨r.hd, by have := r.dp; show A.depth + 3 * k + 5 < _; omega, by have := r.un; show A.units + 1 + 16 * k + 200 < _; omega⟩
theorem Room.depth {k : Nat} {A : Around} (r : Room k A) : A.depth < recursionLimit := by have := r.dp; omega
theorem Room.units {k : Nat} {A : Around} (r : Room k A) : A.units + 64 < cLine := by have := r.un; omega
/-! ### argument lists and displays -/
def tNil : TA := fun _ H Q => Q [] H
def tCons (ta : TE) (tr : TA) : TA := fun σ H Q => ta σ H fun x H1 => tr σ H1 fun xs H2 => Q (x :: xs) H2
section
variable {X : Cx} {e : Expr} {es : List Expr} {te : TE} {t : TA} {pos : Pos}
theorem pa_nil : PA X [] tNil := fun _ _ _ _ H Q I h => Calls.spliced_nil ⟨[], H, I, .nil, h⟩
theorem pa_cons (ha : PE X e te) (hr : PA X es t) (hs : starEach (e :: es) X.env = (false, eval e X.env) :: starEach es X.env := by rfl) : PA X (e :: es) (tCons te t) := by
  intro pos pins s σ H Q I h
  rw [hs]
  show wpAny _ _ (spliced ((false, eval e X.env) :: backTo pos (starEach es X.env))) _ _ s
  refine Calls.spliced_cons (thn (ha pins s σ H _ I h) fun u s1 ⟨x, H1, I1, r1, q1⟩ => ?_)
  exact thn (hr pos pins s1 σ H1 _ I1 q1) fun us s2 ⟨xs, H2, I2, r2, q2⟩ => ⟨x :: xs, H2, I2, .cons r1 r2, q2⟩

/-- a tuple, a list of written items -/
def tTup (t : TA) : TE := fun σ H Q => t σ H fun xs H1 => xs.length ≤ sizeLine ∧ ∀ p, H1 p = none → Q (.ref p) (upd H1 p (.tup xs))
def tLst (t : TA) : TE := fun σ H Q => t σ H fun xs H1 => xs.length ≤ sizeLine ∧ ∀ p, H1 p = none → Q (.ref p) (upd H1 p (.lst xs))
theorem pe_tup {x1} (h : PA X es t) : PE X (.Tuple es x1 pos) (tTup t) := by
  intro pins s σ H Q I hq
  refine wpAny_Tuple_spliced (thn (h pos pins s σ H _ I hq) fun us s1 ⟨xs, H1, I1, r, z, q⟩ => ⟨by rw [← r.length]; exact z, ?_⟩)
  have hf : H1 s1.heap.objs.size = none := I1.hok.fresh (Nat.le_refl _)
  refine ⟨.ref s1.heap.objs.size, upd H1 s1.heap.objs.size (.tup xs), I1.laid (t' := s1.toks) (fun b u e => Heap.get?_push_of_some _ e) (Nat.le_refl _) ?_, rfl, q _ hf⟩
  exact ⟨z, us, r, ⟨_, Heap.get?_push_size _ rfl, rfl, _, rfl⟩⟩
theorem pe_lst (h : PA X es t) : PE X (.List es pos) (tLst t) := by
  intro pins s σ H Q I hq
  refine wpAny_List_spliced (thn (h pos pins s σ H _ I hq) fun us s1 ⟨xs, H1, I1, r, z, q⟩ => ⟨by rw [← r.length]; exact z, ?_⟩)
  have hf : H1 s1.heap.objs.size = none := I1.hok.fresh (Nat.le_refl _)
  refine ⟨.ref s1.heap.objs.size, upd H1 s1.heap.objs.size (.lst xs), I1.laid (t' := s1.toks) (fun b u e => Heap.get?_push_of_some _ e) (Nat.le_refl _) ?_, rfl, q _ hf⟩
  exact ⟨z, us, 0, r, Heap.get?_push_size _ rfl⟩
end

/-! ### what a def promises -/
/-- a def's promise: the bound arguments in the parameters' order, the heap, the wanted end, the wanted exception -/
abbrev Sp := List V → Hp → VK → XK → Prop
/-- how an exception lies behind a call (file 08 gives it): the callers' frames, abstract heap and state ahead of the call, the wish, the exception, the state -/
abbrev CXT := List Env → Hp → Shared → XK → Value → Shared → Prop

/-- the state at a call -/
structure Env0 (P : Program) (w : World) (K : PySem.W.Frag) (mg : Str → Option Value) (base : Heap) (A : Around) (outer : List Env) (s : Shared) (H : Hp) : Prop where
  frames : A.frames = some outer
  mod : Mod K mg base
  bs : ∀ b o, base.get? b = some o → s.heap.get? b = some o ∧ H b = none
  bsz : base.objs.size ≤ s.heap.objs.size
  funs : s.heap.FunFrames base outer
  frf : ∀ b ∈ frs outer, H b = none
  hok : HOk P w H s.heap
  bare : AllBare s.gens
/-- a call's end -/
def CE (outer : List Env) (P : Program) (w : World) (H : Hp) (s : Shared) (Q : VK) (u : Value) (s' : Shared) : Prop :=
  ∃ v H', s'.os = s.os ∧ AllBare s'.gens ∧ Un (frs outer) [] H H' s.heap s'.heap ∧ HOk P w H' s'.heap ∧ RelV v u ∧ Q v H'
def CR (CX : CXT) (outer : List Env) (P : Program) (w : World) (H : Hp) (s : Shared) (Q : VK) (E : XK) (r : Result) (s' : Shared) : Prop :=
  match r with
  | .ok (.ret u) => CE outer P w H s Q u s'
  | .ok _ => False
  | .error e => CX outer H s E e s'
structure FnOk (P : Program) (w : World) (K : PySem.W.Frag) (mg : Str → Option Value) (base : Heap) (CX : CXT) (k : Nat) (f : Addr) (fd : FuncData) (ps : List Str) (sp : Sp) : Prop where
  len : ∀ vs H Q E, sp vs H Q E → vs.length = ps.length
  run : ∀ (A : Around) (outer : List Env) (s : Shared) (H : Hp) (args : Args) (us : List Value) (vs : List V) (Q : VK) (E : XK), Room k A → Env0 P w K mg base A outer s H → BindsTo s fd args (ps.zip us) → Vals vs us → sp vs H Q E →
    codeAny (model P w) A (.call (.ref f) args) (CR CX outer P w H s Q E) s
theorem FnOk.mono {P : Program} {w : World} {K : PySem.W.Frag} {mg : Str → Option Value} {base : Heap} {CX : CXT} {j k : Nat} {f : Addr} {fd : FuncData} {ps : List Str} {sp : Sp} (F : FnOk P w K mg base CX j f fd ps sp) (h : j ≤ k) :
    FnOk P w K mg base CX k f fd ps sp := ⟨F.len, fun A outer s H args us vs Q E hr => F.run A outer s H args us vs Q E (hr.mono h)⟩
/-- a weaker promise -/
theorem FnOk.imp {P : Program} {w : World} {K : PySem.W.Frag} {mg : Str → Option Value} {base : Heap} {CX : CXT} {k : Nat} {f : Addr} {fd : FuncData} {ps : List Str} {sp sp' : Sp} (F : FnOk P w K mg base CX k f fd ps sp)
    (h : ∀ vs H Q E, sp' vs H Q E → sp vs H Q E) : FnOk P w K mg base CX k f fd ps sp' :=
  ⟨fun vs H Q E q => F.len vs H Q E (h _ _ _ _ q), fun A outer s H args us vs Q E hr he hb hv hs => F.run A outer s H args us vs Q E hr he hb hv (h _ _ _ _ hs)⟩

theorem Env0.in1 {P : Program} {w : World} {K : PySem.W.Frag} {mg : Str → Option Value} {base : Heap} {A : Around} {outer : List Env} {s : Shared} {H : Hp} (e : Env0 P w K mg base A outer s H) :
    Env0 P w K mg base A.in1 outer s H := ⟨e.frames, e.mod, e.bs, e.bsz, e.funs, e.frf, e.hok, e.bare⟩

section
variable {X : Cx} {pins : List (Addr × Obj)} {σ : St} {H : Hp} {s s' : Shared}
/-- from a body: what a callee wants -/
theorem Inv.env0 (I : Inv X pins σ H s) : Env0 X.prog X.w X.K X.mg X.base X.A X.stack s H :=
  ⟨I.ok.frames, I.ok.mod, I.bs, Nat.le_trans I.ok.bsz I.sz, I.stack, I.stkFree, I.hok, I.bare⟩
/-- behind a call -/
theorem Inv.after {Q : VK} {u : Value} (I : Inv X pins σ H s) (h : CE X.stack X.prog X.w H s Q u s') : EP X pins σ Q u s' := by
  obtain ⟨v, H', os, bare, un, hok, r, q⟩ := h
  obtain ⟨hh, g, d, t, os'⟩ := s'
  obtain rfl : os' = s.os := os
  exact ⟨v, H', I.call (h' := hh) (g' := g) (d' := d) (t' := t) (ch := []) un hok bare (fun b z => absurd z (by simp)), r, q⟩
end

/-! ### calls -/
/-- f(..): the written arguments, then the defaults dvs; E: what is wanted of an exception -/
def tCall (sp : Sp) (dvs : List V) (E : XK) (t : TA) : TE := fun σ H Q => t σ H fun vs H1 => sp (vs ++ dvs) H1 Q E
/-- how the parameters are bound: us the positional arguments, kw the keywords' values by name, ds the defaults that fill up -/
def Binds (K : PySem.W.Frag) (fd : FuncData) (ps : List Str) (ds : List Value) : Prop :=
  ∀ (s : Shared) (us : List Value), K.In s.heap → (us ++ ds).length = ps.length → BindsTo s fd ⟨us, []⟩ (ps.zip (us ++ ds))
/-- every parameter is given -/
theorem Binds.all {K : PySem.W.Frag} {fd : FuncData} {ps : List Str} (h : ∀ us : List Value, us.length = ps.length → bindArgs fd ⟨us, []⟩ = pure (ps.zip us)) : Binds K fd ps [] := fun s us _ hl => by
  rw [List.append_nil] at hl ⊢
  exact .of_eq (h us hl)

/-- an exception of a callee reaches what this body wants of exceptions -/
def Passes (CX : CXT) (X : Cx) (E : XK) : Prop := ∀ (pins : List (Addr × Obj)) (σ : St) (H : Hp) (s : Shared) (e : Value) (s' : Shared), Inv X pins σ H s → CX X.stack H s E e s' → X.xe e s'

section
variable {X : Cx} {CX : CXT} {k : Nat} {f C : Addr} {fd : FuncData} {ps : List Str} {sp : Sp} {dvs : List V} {ds : List Value} {E : XK} {x m : Str} {p pos apos : Pos} {e o : Expr} {es : List Expr} {ta : TE} {t : TA}

/-- the callee runs -/
theorem run_fn {pins : List (Addr × Obj)} {σ : St} {H : Hp} {s : Shared} {Q : VK} {us : List Value} {vs : List V} (F : FnOk X.prog X.w X.K X.mg X.base CX k f fd ps sp) (hr : Room k X.A) (hb : Binds X.K fd ps ds) (hd : Vals dvs ds) (hx : Passes CX X E)
    (I : Inv X pins σ H s) (r : Vals vs us) (h : sp (vs ++ dvs) H Q E) : wpAny (model X.prog X.w) X.A (call (.ref f) us) (EP X pins σ Q) X.xe s := by
  have r2 : Vals (vs ++ dvs) (us ++ ds) := r.append hd
  have hl : (us ++ ds).length = ps.length := by rw [← r2.length]; exact F.len _ _ _ _ h
  refine wpAny_call (codeAny_mono (F.run X.A X.stack s H ⟨us, []⟩ (us ++ ds) (vs ++ dvs) Q E hr I.env0 (hb s us I.kIn hl) r2 h) fun r s' hq => ?_)
  cases r with
  | error e => exact hx pins σ H s e s' I hq
  | ok fl =>
    cases fl with
    | ret u => exact I.after hq
    | next => exact False.elim hq
    | brk => exact False.elim hq
    | cont => exact False.elim hq

theorem pe_call (F : FnOk X.prog X.w X.K X.mg X.base CX k f fd ps sp) (hr : Room k X.A) (hg : Gl X x) (hm : X.mg x = some (.ref f)) (hk : PySem.W.keepIn X.K (.ref f) = true) (hb : Binds X.K fd ps ds) (hd : Vals dvs ds) (hx : Passes CX X E)
    (ha : PA X (e :: es) t) (hdb : (x == ("__debug__" : Str)) = false := by decide) (he : starEach (e :: es) X.env = (false, eval e X.env) :: starEach es X.env := by rfl) (hpl : (backTo pos (starEach es X.env)).any (·.1) = false := by rfl) :
    PE X (.Call (.Name x p) (e :: es) [] pos) (tCall sp dvs E t) := by
  intro pins s σ H Q I h
  refine wpAny_Call_Name_kw (ld_glob I hg hm ?_ hdb)
  refine PySem.W.callWith_K (h₀ := X.base) I.ok.mod.kin hk (thn (ha pos pins s σ H _ I h) fun us s1 ⟨vs, H1, I1, r, q⟩ => ⟨I1.kIn, ?_⟩) he hpl
  exact run_fn F hr hb hd hx I1 r q
/-- what a class must have to be made -/
structure Mk (K : PySem.W.Frag) (C f : Addr) : Prop where
  makes : PySem.W.makesIn K C = true
  init : PySem.W.findIn K (.ref C) "__init__" = some (some (.ref f))
  fn : PySem.W.isFn K (.ref f) = true
  kp : PySem.W.keepIn K (.ref C) = true

end

section
variable {X : Cx} {CX : CXT} {k : Nat} {f C : Addr} {fd : FuncData} {ps ks : List Str} {sp : Sp} {E : XK} {x m : Str} {p pos apos kpos : Pos} {e o : Expr} {es : List Expr} {kws : List Keyword} {te ta : TE} {t tk : TA} {nm : Option Str}
/-- how a call with keywords binds: g puts the positional values us and the keywords' values ws (names ks) in the parameters' order, defaults among them -/
structure KBinds (K : PySem.W.Frag) (fd : FuncData) (ps ks : List Str) (g : List Value → List Value → List Value) (gV : List V → List V → List V) : Prop where
  to : ∀ (s : Shared) (us ws : List Value), K.In s.heap → (g us ws).length = ps.length → BindsTo s fd ⟨us, ks.zip ws⟩ (ps.zip (g us ws))
  rel : ∀ {vs : List V} {us : List Value} {zs : List V} {ws : List Value}, Vals vs us → Vals zs ws → Vals (gV vs zs) (g us ws)
variable {g : List Value → List Value → List Value} {gV : List V → List V → List V}
end

/-! ### a def's body keeps its promise -/
/-- names: the parameters first -/
structure FnScope (N P : List Str) (sc : Scope) : Prop where
  kind : sc.kind = .function
  co : sc.isCoroutine = false
  gen : sc.isGenerator = false
  nd : N.Nodup
  pre : N.take P.length = P
  par : ∀ x ∈ P, sc.names.lookup x = some .local ∨ sc.names.lookup x = some .cell
  nofree : ∀ y ∈ sc.names, y.2 ≠ .free

theorem bindL_out {kindOf : Str → Option NameKind} {x : Str} : ∀ {binds : List (Str × Value)} {m : Str → Option Value}, (∀ v, (x, v) ∉ binds) → bindL kindOf binds m x = m x
  | [], _, _ => rfl
  | (n, v) :: r, m, h => by
    unfold bindL
    rw [bindL_out fun w hw => h w (List.mem_cons_of_mem _ hw)]
    split
    · have : x ≠ n := by rintro rfl; exact h v List.mem_cons_self
      simp [this]
    · rfl
theorem bindC_out {kindOf : Str → Option NameKind} {x : Str} : ∀ {binds : List (Str × Value)} {m : Str → Option Value}, (∀ v, (x, v) ∉ binds) → bindC kindOf binds m x = m x
  | [], _, _ => rfl
  | (n, v) :: r, m, h => by
    unfold bindC
    rw [bindC_out fun w hw => h w (List.mem_cons_of_mem _ hw)]
    split
    · rfl
    · have : x ≠ n := by rintro rfl; exact h v List.mem_cons_self
      simp [this]
theorem bindL_get {kindOf : Str → Option NameKind} {x : Str} {v : Value} : ∀ {P : List Str} {vs : List Value} {i : Nat} {m : Str → Option Value}, P.Nodup → P[i]? = some x → vs[i]? = some v → kindOf x = some .local →
    bindL kindOf (P.zip vs) m x = some v
  | [], _, _, _, _, h, _, _ => by simp at h
  | _ :: _, [], _, _, _, _, h, _ => by simp at h
  | p :: P, w :: vs, 0, m, nd, h1, h2, hk => by
    simp at h1 h2; subst h1; subst h2
    show bindL kindOf ((p, w) :: P.zip vs) m p = _
    unfold bindL
    rw [bindL_out fun v hv => (List.nodup_cons.mp nd).1 (List.of_mem_zip hv).1, if_pos hk]
    simp
  | p :: P, w :: vs, i + 1, m, nd, h1, h2, hk => by
    show bindL kindOf ((p, w) :: P.zip vs) m x = _
    unfold bindL
    exact bindL_get (i := i) (List.nodup_cons.mp nd).2 (by simpa using h1) (by simpa using h2) hk
theorem bindC_get {kindOf : Str → Option NameKind} {x : Str} {v : Value} : ∀ {P : List Str} {vs : List Value} {i : Nat} {m : Str → Option Value}, P.Nodup → P[i]? = some x → vs[i]? = some v → kindOf x ≠ some .local →
    bindC kindOf (P.zip vs) m x = some v
  | [], _, _, _, _, h, _, _ => by simp at h
  | _ :: _, [], _, _, _, _, h, _ => by simp at h
  | p :: P, w :: vs, 0, m, nd, h1, h2, hk => by
    simp at h1 h2; subst h1; subst h2
    show bindC kindOf ((p, w) :: P.zip vs) m p = _
    unfold bindC
    rw [bindC_out fun v hv => (List.nodup_cons.mp nd).1 (List.of_mem_zip hv).1, if_neg hk]
    simp
  | p :: P, w :: vs, i + 1, m, nd, h1, h2, hk => by
    show bindC kindOf ((p, w) :: P.zip vs) m x = _
    unfold bindC
    exact bindC_get (i := i) (List.nodup_cons.mp nd).2 (by simpa using h1) (by simpa using h2) hk

/-- the names' values at the entry -/
def start (N : List Str) (vs : List V) : St := vs.map some ++ List.replicate (N.length - vs.length) none

/-- the context of a def's body, at its entry; an exception leaves the frame, then lies as CX says -/
def cxOf (CX : CXT) (P : Program) (w : World) (K : PySem.W.Frag) (mg : Str → Option Value) (base : Heap) (N : List Str) (qual : Str) (scope : Scope) (f : Addr) (cd : Value) (A : Around) (outer : List Env) (s : Shared) (H : Hp) (E : XK) : Cx where
  prog := P
  w := w
  K := K
  mg := mg
  base := base
  A := A.deeper (envOfC qual scope s.heap.objs.size f cd)
  N := N
  s₀ := s
  H₀ := H
  env := envOfC qual scope s.heap.objs.size f cd
  outer := outer
  stack := envOfC qual scope s.heap.objs.size f cd :: outer
  ex := []
  calm := true
  fn := fun _ => true
  pn := []
  xe := fun e s' => wpAny (model P w) (A.deeper (envOfC qual scope s.heap.objs.size f cd)) (leaving (envOfC qual scope s.heap.objs.size f cd) e) (fun _ s'' => CX outer H s E e s'') (fun e' s'' => CX outer H s E e' s'') s'

theorem cell_has {sc : Scope} {n : Nat} {x : Str} (h : sc.names.lookup x = some .cell) : ∃ c, (cellsFrom n sc.names []).lookup x = some c := by
  have q := PySem.W.cellsFrom_some sc.names n [] (.inl h)
  exact Option.isSome_iff_exists.mp q

theorem inv_start {CX : CXT} {P : Program} {w : World} {K : PySem.W.Frag} {mg : Str → Option Value} {base : Heap} {N ps : List Str} {qual : Str} {scope : Scope} {f : Addr} {cd : Value} {A : Around} {outer : List Env} {s s1 : Shared} {H : Hp} {E : XK} {us : List Value} {vs : List V}
    (S : FnScope N ps scope) (hd : A.handled = none) (e0 : Env0 P w K mg base A outer s H) (hl : vs.length = ps.length) (r : Vals vs us)
    (x : InCallC s s.heap.objs.size (bindL (envOfC qual scope s.heap.objs.size f cd).kindOf (ps.zip us) fun _ => none) (cellsFrom (s.heap.objs.size + 1) scope.names []) (bindC (envOfC qual scope s.heap.objs.size f cd).kindOf (ps.zip us) fun _ => none) s1) :
    Inv (cxOf CX P w K mg base N qual scope f cd A outer s H E) [] (start N vs) H s1 := by
  have hpl : ps.length ≤ N.length := by have := congrArg List.length S.pre; rw [List.length_take] at this; omega
  obtain ⟨h1, tk, rfl, hk⟩ := x.done
  have noA : ∀ b : Addr, b ∉ (cxOf CX P w K mg base N qual scope f cd A outer s H E).ex := fun b z => absurd (show b ∈ ([] : List Addr) from z) (by simp)
  refine ⟨⟨e0.mod, S.kind, rfl, rfl, Nat.le_refl _, fun y z c h1 h2 => ?_, fun y hy => ?_, fun y c _ h => ?_, fun _ => hd, Around.frames_deeper e0.frames, .inr ⟨rfl, rfl⟩, fun b z => absurd z (noA b), e0.bs, e0.bsz, fun b _ _ => noA b, fun b z => absurd z (noA b), e0.funs, e0.frf⟩,
    rfl, e0.bare, Un.kept hk, ⟨_, x.toInCall.ns, fun i y v h1 h2 h3 => ?_⟩, fun y c h => ⟨_, x.cell y c h⟩, e0.hok.fresh (Nat.le_refl _), fun y c h => ?_, fun p hp => absurd (show p ∈ ([] : List (Addr × Obj)) from hp) (by simp), e0.hok.kept hk, ?_⟩
  · exact name_of_addr x.apart (PySem.mem_of_lookup h1) (PySem.mem_of_lookup h2)
  · have hy : scope.names.lookup y = some .cell ∨ scope.names.lookup y = some .free := hy
    rcases hy with hy | hy
    · exact cell_has hy
    · exact absurd rfl (S.nofree _ (PySem.mem_of_lookup hy))
  · exact Nat.le_of_lt (x.above y c (PySem.mem_of_lookup h))
  · have hi : i < vs.length := by
      unfold start at h2
      by_cases hi : i < vs.length
      · exact hi
      · rw [List.getElem?_append_right (by simpa using hi)] at h2
        rw [List.getElem?_replicate] at h2
        split at h2 <;> cases h2
    have ha : vs[i]? = some v := by
      unfold start at h2
      rw [List.getElem?_append_left (by simpa using hi), List.getElem?_map] at h2
      cases e : vs[i]? with
      | none => rw [e] at h2; cases h2
      | some a => rw [e] at h2; cases h2; rfl
    obtain ⟨u, hu, rv⟩ := r.get ha
    have hp : ps[i]? = some y := by
      rw [← S.pre, List.getElem?_take_of_lt (by omega)]; exact h1
    have ndP : ps.Nodup := by rw [← S.pre]; exact S.nd.sublist (List.take_sublist _ _)
    refine ⟨u, rv, ?_⟩
    rcases S.par y (List.mem_of_getElem? hp) with k | k
    · exact .inl ⟨k, bindL_get ndP hp hu k⟩
    · obtain ⟨c, e⟩ := cell_has (n := s.heap.objs.size + 1) k
      refine .inr ⟨.inl k, c, e, ?_⟩
      have q := x.cell y c e
      rw [bindC_get ndP hp hu (by show scope.names.lookup y ≠ _; rw [k]; decide)] at q
      exact q
  · exact e0.hok.fresh (Nat.le_of_lt (x.above y c (PySem.mem_of_lookup h)))
  · unfold start
    show _ = N.length
    rw [List.length_append, List.length_map, List.length_replicate]
    omega

/-- THE RULE: a def (or a method) of the text, by its body. The body's reading t is chosen for each entry; it is run at the parameters' values -/
theorem fn_of {CX : CXT} {P : Program} {w : World} {K : PySem.W.Frag} {mg : Str → Option Value} {base : Heap} {k : Nat} {f : Addr} {name qual : Str} {params : Arguments} {body : List Stmt} {scope : Scope} {dV kV doc pm cdv ct oc : Value} {an od : Option Addr}
    {osl : Array (Option Value)} {N ps : List Str} {sp : Sp} (lk : K.lookup f = some ⟨oc, od, .func (PySem.W.fnOf name qual params body scope dV kV doc pm an cdv ct), osl⟩) (hcd : PySem.W.codeIn K cdv qual = true) (S : FnScope N ps scope)
    (len : ∀ vs H Q E, sp vs H Q E → vs.length = ps.length)
    (hbody : ∀ (A : Around) (outer : List Env) (s : Shared) (H : Hp) (vs : List V) (Q : VK) (E : XK), Room k (A.deeper (envOfC qual scope s.heap.objs.size f cdv)) → sp vs H Q E →
      ∃ t, PSs (cxOf CX P w K mg base N qual scope f cdv A outer s H E) body t ∧ t { nx := fun _ H' => Q .non H', rt := Q } (start N vs) H) :
    FnOk P w K mg base CX (k + 1) f (PySem.W.fnOf name qual params body scope dV kV doc pm an cdv ct) ps sp := by
  refine ⟨len, fun A outer s H args us vs Q E hr e0 hb r hsp => ?_⟩
  have hl := len _ _ _ _ hsp
  have KX : K.In s.heap := e0.mod.kin.keeps fun b o e => (e0.bs b o e).1
  have lim : s.heap.NoLimit := e0.mod.nolimit.keeps fun b o e => (e0.bs b o e).1
  have hkind : ∀ y ∈ ps.zip us, scope.names.lookup y.1 = some .local ∨ (scope.names.lookup y.1 = some .cell ∧ ((cellsFrom (s.heap.objs.size + 1) scope.names []).lookup y.1).isSome = true) := fun ⟨n, v⟩ hy => by
    rcases S.par n (List.of_mem_zip hy).1 with q | q
    · exact .inl q
    · exact .inr ⟨q, PySem.W.cellsFrom_some _ _ _ (.inl q)⟩
  refine codeAny_call_function hr.depth (KX _ _ lk) rfl S.co S.gen rfl (PySem.W.codeRec_of KX hcd) (hb _ _ _ _ ?_)
  refine wpAny_newFunctionEnv_cells S.kind hkind fun env he s1 x => ?_
  subst he
  refine ⟨lim.keeps x.toInCall.keep, codeAny_func ?_⟩
  obtain ⟨t, ht, hq⟩ := hbody A outer s H vs Q E (hr.deeper _) hsp
  have I : Inv (cxOf CX P w K mg base N qual scope f cdv A outer s H E) [] (start N vs) H s1 := inv_start S hr.hd e0 hl r x
  refine wpAny_mono (ht [] s1 (start N vs) H _ I hq) (fun fl s' hs => ?_) fun e s' hs => hs
  have fin : ∀ {σ' : St} {H' : Hp} {v : V} {u : Value}, Inv (cxOf CX P w K mg base N qual scope f cdv A outer s H E) [] σ' H' s' → RelV v u → Q v H' → CE outer P w H s Q u s' :=
    fun {σ' H' v u} J rv q => ⟨v, H', J.os, J.bare, J.base, J.hok, rv, q⟩
  cases fl with
  | ret u =>
    obtain ⟨v, σ', H', J, rv, q⟩ := hs
    exact fin J rv q
  | next =>
    obtain ⟨σ', H', J, q⟩ := hs
    exact fin (v := V.non) (u := Value.none) J rfl q
  | brk =>
    obtain ⟨_, _, _, q⟩ := hs
    exact False.elim q
  | cont =>
    obtain ⟨_, _, _, q⟩ := hs
    exact False.elim q
end L2

namespace L2
open PySem PySem.Spec PyProof.Rows
section
variable {X : Cx} {x : Str} {p pos : Pos} {e : Expr} {es : List Expr} {t : TA} {id T : String} {r : List V → Hp → VK → Prop}

def tCB (r : List V → Hp → VK → Prop) (t : TA) : TE := fun σ H Q => t σ H fun vs H1 => r vs H1 Q
/-- f(e, ..), f a built-in function -/
theorem pe_callB (hc : CallR X (.builtin id) r) (hg : Gl X x) (hm : X.mg x = none) (hv : bootBuiltins x = some (.builtin id)) (ha : PA X (e :: es) t) (hn : x ≠ "__name__" := by decide) (hdb : (x == ("__debug__" : Str)) = false := by decide)
    (he : starEach (e :: es) X.env = (false, eval e X.env) :: starEach es X.env := by rfl) (hpl : (backTo pos (starEach es X.env)).any (·.1) = false := by rfl) : PE X (.Call (.Name x p) (e :: es) [] pos) (tCB r t) := by
  intro pins s σ H Q I h
  refine wpAny_Call_Name_kw (ld_blt I hg hm hv ?_ hn hdb)
  exact PyProof.Rows.callWith_builtin1 (thn (ha pos pins s σ H _ I h) fun us s1 ⟨vs, H1, I1, r1, q1⟩ => hc pins s1 σ H1 vs us Q I1 r1 q1) he hpl
/-- T(e, ..), T a built-in type -/
theorem pe_callTy (hc : CallR X (.type T) r) (hg : Gl X x) (hm : X.mg x = none) (hv : bootBuiltins x = some (.type T)) (ha : PA X (e :: es) t) (hn : x ≠ "__name__" := by decide) (hdb : (x == ("__debug__" : Str)) = false := by decide)
    (he : starEach (e :: es) X.env = (false, eval e X.env) :: starEach es X.env := by rfl) (hpl : (backTo pos (starEach es X.env)).any (·.1) = false := by rfl) : PE X (.Call (.Name x p) (e :: es) [] pos) (tCB r t) := by
  intro pins s σ H Q I h
  refine wpAny_Call_Name_kw (ld_blt I hg hm hv ?_ hn hdb)
  exact PyProof.Rows.callWith_type1 (thn (ha pos pins s σ H _ I h) fun us s1 ⟨vs, H1, I1, r1, q1⟩ => hc pins s1 σ H1 vs us Q I1 r1 q1) he hpl
end
end L2

namespace HT
open PySem PyProof.Rows

section
open PySem.SeqAt
open PySem.AutoSeq1 (wpAny_loadPart')
open PySem.MeetsSeq PySem.MeetsSeq2 PySem.MeetsSeq3

end

section
variable {prog : Program} {w : World} {A : Around} {E : Value → Shared → Prop} {s : Shared}

/-! ### t[a:b], not the whole -/
/-- a slice's bound as a place among n (d where it is left out) -/
def sIx (n d : Nat) : Option Int → Nat
  | none => d
  | some v => if v < 0 then (v + (n : Int)).toNat else min v.toNat n
end
end HT

namespace L2
open PySem PySem.Spec PyProof.Rows

/-! ### the parts of a slice -/
abbrev TO := St → Hp → (Option Int → Hp → Prop) → Prop
/-- a slice's part (left out, or an int) -/
def PO (X : Cx) (e : Option Expr) (t : TO) : Prop :=
  ∀ (pins : List (Addr × Obj)) (s : Shared) (σ : St) (H : Hp) (Q : Option Int → Hp → Prop), Inv X pins σ H s → t σ H Q →
    wpAny (model X.prog X.w) X.A (evalPart e X.env) (fun u s' => ∃ o H', Inv X pins σ H' s' ∧ IsPart u o ∧ Q o H') X.xe s
def tPart (t : TE) : TO := fun σ H Q => t σ H fun x H1 => ∃ i, x = .int i ∧ Q (some i) H1

section
variable {X : Cx} {e : Expr} {te : TE} {lo hi : Option Expr} {tl th : TO} {pos p2 : Pos}

theorem po_some (h : PE X e te) : PO X (some e) (tPart te) := by
  intro pins s σ H Q I hw
  rw [evalPart_some]
  refine thn (h pins s σ H _ I hw) fun u s1 ⟨x, H1, I1, r1, q1⟩ => ?_
  obtain ⟨i, rfl, q⟩ := q1
  obtain ⟨t, rfl⟩ := r1
  exact ⟨some i, H1, I1, .int i t, q⟩

/-- what a slice of a value is, by values: the slice object stands at sl -/
def SlR (X : Cx) (r : V → Option Int → Option Int → Hp → VK → Prop) : Prop :=
  ∀ (pins : List (Addr × Obj)) (s : Shared) (σ : St) (H : Hp) (x : V) (v vl vu : Value) (lo hi : Option Int) (sl : Addr) (Q : VK), Inv X pins σ H s → RelV x v → s.heap.IsSliceOf sl vl vu .none → IsPart vl lo → IsPart vu hi → r x lo hi H Q →
    ∃ T id, typeLookup (.type T) "__getitem__" = pure (some (.builtin id)) ∧ s.TypeIs v T ∧ wpAny (model X.prog X.w) X.A (getItem v (.ref sl)) (EP X pins σ Q) X.xe s
theorem SlR.or {r r' : V → Option Int → Option Int → Hp → VK → Prop} (h : SlR X r) (h' : SlR X r') : SlR X (fun x lo hi H Q => r x lo hi H Q ∨ r' x lo hi H Q) := by
  intro pins s σ H x v vl vu lo hi sl Q I rx hs pl pu q
  rcases q with q | q
  · exact h pins s σ H x v vl vu lo hi sl Q I rx hs pl pu q
  · exact h' pins s σ H x v vl vu lo hi sl Q I rx hs pl pu q
def tSl (r : V → Option Int → Option Int → Hp → VK → Prop) (te : TE) (tl th : TO) : TE := fun σ H Q => te σ H fun x H1 => tl σ H1 fun l H2 => th σ H2 fun u H3 => r x l u H3 Q
/-- a[lo:hi], any a -/
theorem pe_slice {r : V → Option Int → Option Int → Hp → VK → Prop} (hr : SlR X r) (he : PE X e te) (hl : PO X lo tl) (hu : PO X hi th) : PE X (.Subscript e (.Slice lo hi none p2) pos) (tSl r te tl th) := by
  intro pins s σ H Q I h
  refine Subscript_ (thn (he pins s σ H _ I h) fun v s1 ⟨x, H1, I1, r1, q1⟩ => ?_)
  refine wpAny_Slice (thn (hl pins s1 σ H1 _ I1 q1) fun vl s2 ⟨l, H2, I2, pl, q2⟩ => thn (hu pins s2 σ H2 _ I2 q2) fun vu s3 ⟨u, H3, I3, pu, q3⟩ => ?_)
  rw [evalPart_none]
  refine wpAny_pure ?_
  have I4 : Inv X pins σ H3 { s3 with heap := s3.heap.push { cls := .type "slice", data := .fields #[vl, vu, .none] } } := I3.kept (t' := s3.toks) fun b ob q => Heap.get?_push_of_some _ q
  obtain ⟨T, id, hT, ht, hg⟩ := hr pins { s3 with heap := s3.heap.push { cls := .type "slice", data := .fields #[vl, vu, .none] } } σ H3 x v vl vu l u s3.heap.objs.size Q I4 r1 (Heap.IsSliceOf.new ..) pl pu q3
  show wpAny (model X.prog X.w) X.A (subscriptTail e (.Slice lo hi none p2) v (.ref s3.heap.objs.size)) (EP X pins σ Q) X.xe { s3 with heap := s3.heap.push { cls := .type "slice", data := .fields #[vl, vu, .none] } }
  exact tail_any (ops := [.ref s3.heap.objs.size, v]) ht hT hg (by with_unfolding_all rfl)

/-- the items of xs[lo:hi] -/
def cutV (xs : List V) (lo hi : Option Int) : List V := (xs.drop (HT.sIx xs.length 0 lo)).take (HT.sIx xs.length xs.length hi - HT.sIx xs.length 0 lo)
theorem cutV_length (xs : List V) (lo hi : Option Int) : (cutV xs lo hi).length ≤ xs.length := by
  unfold cutV
  rw [List.length_take, List.length_drop]
  omega
end
end L2

namespace L2
open PySem PySem.Spec PyProof.Rows

/-! ### places -/
/-- the place that an index of any sign means -/
def ixN (n : Nat) (i : Int) : Option Nat := if 0 ≤ i then (if i < n then some i.toNat else none) else if -(n : Int) ≤ i then some (i + n).toNat else none
def atI {α : Type} (xs : List α) (i : Int) : Option α := (ixN xs.length i).bind fun j => xs[j]?
theorem ixN_seq {n : Nat} {i : Int} {j : Nat} (h : ixN n i = some j) : seqIndex? i n = some j ∧ j < n ∧ -(n : Int) ≤ i ∧ i < n := by
  unfold ixN at h
  by_cases h0 : 0 ≤ i
  · rw [if_pos h0] at h
    by_cases h1 : i < n
    · rw [if_pos h1] at h
      have e : i.toNat = j := Option.some.inj h
      exact ⟨by rw [seqIndex_of h0 h1, e], by omega, by omega, h1⟩
    · rw [if_neg h1] at h; cases h
  · rw [if_neg h0] at h
    by_cases h1 : -(n : Int) ≤ i
    · rw [if_pos h1] at h
      have e : (i + n).toNat = j := Option.some.inj h
      exact ⟨by rw [seqIndex_neg (by omega) h1, e], by omega, h1, by omega⟩
    · rw [if_neg h1] at h; cases h
theorem atI_get {α : Type} {xs : List α} {i : Int} {v : α} (h : atI xs i = some v) : ∃ j, seqIndex? i xs.length = some j ∧ xs[j]? = some v ∧ j < xs.length ∧ -(xs.length : Int) ≤ i ∧ i < xs.length := by
  unfold atI at h
  cases e : ixN xs.length i with
  | none => rw [e] at h; cases h
  | some j =>
    rw [e] at h
    obtain ⟨h1, h2, h3, h4⟩ := ixN_seq e
    exact ⟨j, h1, h, h2, h3, h4⟩
theorem atI_nat {α : Type} {xs : List α} {j : Nat} {v : α} (h : xs[j]? = some v) : atI xs (j : Int) = some v := by
  have hj : j < xs.length := (List.getElem?_eq_some_iff.mp h).1
  have e : ixN xs.length (j : Int) = some j := by
    unfold ixN
    rw [if_pos (by omega), if_pos (by omega)]; simp
  unfold atI; rw [e]; exact h
/-! ### what may be subscripted -/
/-- what stands as an index of a plain subscript -/
def PlainIx (b : Expr) : Prop := ∀ o i, subscripted b false o i = operate [o, i] (getItem o i)
/-- a subscript by values -/
def IxR (X : Cx) (r : R2) : Prop :=
  ∀ (value slice : Expr) (pins : List (Addr × Obj)) (s : Shared) (σ : St) (H : Hp) (x y : V) (v u : Value) (Q : VK), Inv X pins σ H s → RelV x v → RelV y u → r x y H Q →
    subscripted slice false v u = operate [v, u] (getItem v u) → wpAny (model X.prog X.w) X.A (subscriptTail value slice v u) (EP X pins σ Q) X.xe s
/-- a call of a builtin's method by values: the receiver, the arguments -/
def MtR (X : Cx) (id : String) (r : V → List V → Hp → VK → Prop) : Prop :=
  ∀ (pins : List (Addr × Obj)) (s : Shared) (σ : St) (H : Hp) (x : V) (xs : List V) (v : Value) (us : List Value) (Q : VK), Inv X pins σ H s → RelV x v → Vals xs us → r x xs H Q →
    wpAny (model X.prog X.w) X.A (call (.builtin id) (v :: us)) (EP X pins σ Q) X.xe s
section
variable {X : Cx} {a b : Expr} {ta tb : TE} {pos : Pos}
theorem IxR.or {r r' : R2} (h : IxR X r) (h' : IxR X r') : IxR X (fun x y H Q => r x y H Q ∨ r' x y H Q) := by
  intro value slice pins s σ H x y v u Q I rx ry q hs
  rcases q with q | q
  · exact h value slice pins s σ H x y v u Q I rx ry q hs
  · exact h' value slice pins s σ H x y v u Q I rx ry q hs
theorem MtR.or {id : String} {r r' : V → List V → Hp → VK → Prop} (h : MtR X id r) (h' : MtR X id r') : MtR X id (fun x xs H Q => r x xs H Q ∨ r' x xs H Q) := by
  intro pins s σ H x xs v us Q I rx rs q
  rcases q with q | q
  · exact h pins s σ H x xs v us Q I rx rs q
  · exact h' pins s σ H x xs v us Q I rx rs q
/-- a[b] -/
theorem pe_ix {r : R2} (hr : IxR X r) (ha : PE X a ta) (hb : PE X b tb) (hs : PlainIx b) : PE X (.Subscript a b pos) (tOp r ta tb) := by
  intro pins s σ H Q I h
  exact Subscript_ (binT ha hb I h fun v u s2 x y H2 I2 rx ry q => hr a b pins s2 σ H2 x y v u Q I2 rx ry q (hs _ _))

def rIxL (K : PySem.W.Frag) : R2 := fun x y H Q => ∃ p xs i v, x = .ref p ∧ y = .int i ∧ SqL K H p xs ∧ atI xs i = some v ∧ Q v H
def rIxT (K : PySem.W.Frag) : R2 := fun x y H Q => ∃ p xs i v, x = .ref p ∧ y = .int i ∧ SqT K H p xs ∧ atI xs i = some v ∧ Q v H
def rIxS : R2 := fun x y H Q => ∃ z i c, x = .str z ∧ y = .int i ∧ z.length ≤ sizeLine ∧ atI z.cps.toList i = some c ∧ Q (.str ⟨#[c]⟩) H
theorem ix_list : IxR X (rIxL X.K) := by
  intro value slice pins s σ H x y v u Q I rx ry h hs
  obtain ⟨p, xs, i, z, rfl, rfl, hq, he, q⟩ := h
  cases rx
  obtain ⟨t, rfl⟩ := ry
  obtain ⟨its, r, pl, hz⟩ := I.list hq
  obtain ⟨j, h1, h2, h3, h4, h5⟩ := atI_get he
  obtain ⟨w, ew, rw'⟩ := r.get h2
  have hl := r.length
  have hn := line63
  have fin : EP X pins σ Q w s := ⟨z, H, I, rw', q⟩
  by_cases h0 : 0 ≤ i
  · have hj : i.toNat = j := by
      rw [seqIndex_of h0 h5] at h1
      exact Option.some.inj h1
    exact item_listR pl.isList h0 (by omega) (by rw [hj]; simpa using ew) fin hs
  · have hj : (i + (its.toArray.size : Int)).toNat = j := by
      rw [seqIndex_neg (by omega) h4] at h1
      rw [List.size_toArray, ← hl]
      exact Option.some.inj h1
    exact subscriptTail_builtinR (x := w) pl.isList.typeIs slot_list_getitem.lookup
      (wpAny_getItem_list_neg (Q := fun r s' => r = w ∧ EP X pins σ Q r s') pl.isList (by omega) (by rw [List.size_toArray] <;> omega) (by omega) (by rw [hj]; simpa using ew) ⟨rfl, fin⟩) hs
theorem ix_tup : IxR X (rIxT X.K) := by
  intro value slice pins s σ H x y v u Q I rx ry h hs
  obtain ⟨p, xs, i, z, rfl, rfl, hq, he, q⟩ := h
  cases rx
  obtain ⟨t, rfl⟩ := ry
  obtain ⟨its, r, pl, hz⟩ := I.tuple hq
  obtain ⟨j, h1, h2, h3, h4, h5⟩ := atI_get he
  obtain ⟨w, ew, rw'⟩ := r.get h2
  have hl := r.length
  have hn := line63
  have fin : EP X pins σ Q w s := ⟨z, H, I, rw', q⟩
  exact subscriptTail_builtinR (x := w) pl.typeIs slot_tuple_getitem.lookup
    (getItem_tuple (j := j) (Q := fun r s' => r = w ∧ EP X pins σ Q r s') pl (by omega) (by omega) (by rw [List.size_toArray, ← hl]; exact h1) (by simpa using ew) ⟨rfl, fin⟩) hs
theorem ix_str : IxR X rIxS := by
  intro value slice pins s σ H x y v u Q I rx ry h hs
  obtain ⟨z, i, c, rfl, rfl, hz, he, q⟩ := h
  obtain ⟨t, rfl⟩ := rx
  obtain ⟨t', rfl⟩ := ry
  obtain ⟨j, h1, h2, h3, h4, h5⟩ := atI_get he
  have hl : z.cps.toList.length = z.length := by simp [Str.length]
  rw [hl] at h1 h4 h5
  have hn := line63
  exact tail_any (typeIs_str s z t) slot_str_getitem.lookup (getItem_str (c := c) (by
    have e1 : decide (i < -(2 ^ 63 : Int)) = false := decide_eq_false (by omega)
    have e2 : decide (i ≥ 2 ^ 63) = false := decide_eq_false (by omega)
    rw [e1, e2, Bool.or_false]) (by rw [h1]; simpa using h2) ⟨.str ⟨#[c]⟩, H, I.tok _, ⟨_, rfl⟩, q⟩) hs
/-- list, tuple or str -/
def rIx (K : PySem.W.Frag) : R2 := fun x y H Q => rIxL K x y H Q ∨ rIxT K x y H Q ∨ rIxS x y H Q
theorem ix_seq : IxR X (rIx X.K) := ix_list.or (ix_tup.or ix_str)

/-! ### xs[i] = v, any sign -/
/-- the list's object behind a store -/
theorem mapSeq_set (its : List Value) (n j : Nat) (u : Value) : Obj.mapSeq (·.setIfInBounds j u) { cls := .type "list", data := .seq its.toArray n } = { cls := .type "list", data := .seq (its.set j u).toArray n } := by
  simp [Obj.mapSeq]
theorem Inv.lst {pins : List (Addr × Obj)} {σ : St} {H : Hp} {s : Shared} {p : Addr} {xs : List V} (I : Inv X pins σ H s) (h : H p = some (.lst xs)) :
    ∃ (its : List Value) (n : Nat), Vals xs its ∧ s.heap.get? p = some { cls := .type "list", data := .seq its.toArray n } ∧ xs.length ≤ sizeLine := by
  obtain ⟨z, its, n, r, e⟩ := I.hok p _ h
  exact ⟨its, n, r, e, z⟩
/-- the list at p is written by an update of its object -/
theorem Inv.lstUpd {pins : List (Addr × Obj)} {σ : St} {H : Hp} {s : Shared} {p : Addr} {xs ys : List V} {its its' : List Value} {n n' : Nat} {f : Obj → Obj} (I : Inv X pins σ H s) (h : H p = some (.lst xs))
    (ho : s.heap.get? p = some { cls := .type "list", data := .seq its.toArray n }) (hf : f { cls := .type "list", data := .seq its.toArray n } = { cls := .type "list", data := .seq its'.toArray n' }) (r : Vals ys its') (hz : ys.length ≤ sizeLine) (t : Nat) :
    Inv X pins σ (upd H p (.lst ys)) { s with heap := s.heap.update p f, toks := t } := by
  have e : (s.heap.update p f).get? p = some { cls := .type "list", data := .seq its'.toArray n' } := by
    rw [Heap.get?_update_self f ho (by rw [hf] <;> rfl), hf]
  refine I.write (x := p) (e := p) (by rw [h]; trivial) (.inl rfl) (fun b u hb q => (Heap.get?_update_other _ _ (Ne.symm hb)).trans q) ⟨_, e⟩ ?_
  exact ⟨hz, its', n', r, e⟩
def rSetL : V → V → V → Hp → (Hp → Prop) → Prop := fun o i v H Q => ∃ p xs k j, o = .ref p ∧ i = .int k ∧ H p = some (.lst xs) ∧ ixN xs.length k = some j ∧ Q (upd H p (.lst (xs.set j v)))
theorem set_list : PSet X rSetL := by
  intro pins s σ H o i v ov iv u Q I ro ri rv h
  obtain ⟨p, xs, k, j, rfl, rfl, hp, hj, q⟩ := h
  cases ro
  obtain ⟨t, rfl⟩ := ri
  obtain ⟨its, n, r, ho, hz⟩ := I.lst hp
  obtain ⟨h1, h2, h3, h4⟩ := ixN_seq hj
  have hl := r.length
  have hn := line63
  have I' : Inv X pins σ (upd H p (.lst (xs.set j v))) { s with heap := s.heap.update p (Obj.mapSeq (·.setIfInBounds j u)) } :=
    I.lstUpd hp ho (mapSeq_set its n j u) (r.set rv j) (by rw [List.length_set]; exact hz) s.toks
  by_cases h0 : 0 ≤ k
  · have hk : k.toNat = j := by
      rw [seqIndex_of h0 h4] at h1
      exact Option.some.inj h1
    exact PySem.W.ki_setAt ho h0 (by omega) (by rw [List.size_toArray, ← hl]; exact h4) (by rw [hk]; exact ⟨_, I', q⟩)
  · have hk : (k + (its.toArray.size : Int)).toNat = j := by
      rw [seqIndex_neg (by omega) h3] at h1
      rw [List.size_toArray, ← hl]
      exact Option.some.inj h1
    exact PySem.W.ki_setBack ho (by omega) (by rw [List.size_toArray, ← hl]; exact h3) (by omega) (by rw [hk]; exact ⟨_, I', q⟩)

/-! ### slices -/
theorem slice_bounds (lo hi : Option Int) (n : Nat) : (sliceBounds lo hi none n).1 = ((HT.sIx n 0 lo : Nat) : Int) ∧ (sliceBounds lo hi none n).2.1 = ((HT.sIx n n hi : Nat) : Int) ∧ (sliceBounds lo hi none n).2.2 = 1 := by
  refine ⟨?_, ?_, rfl⟩
  · cases lo with
    | none => simp [sliceBounds, HT.sIx]
    | some i =>
      simp only [sliceBounds, HT.sIx, Option.getD_none, show (1 : Int) > 0 by decide, if_true]
      by_cases h : i < 0
      · simp only [h, if_true] <;> omega
      · simp only [h, if_false] <;> omega
  · cases hi with
    | none => simp [sliceBounds, HT.sIx]
    | some i =>
      simp only [sliceBounds, HT.sIx, Option.getD_none, show (1 : Int) > 0 by decide, if_true]
      by_cases h : i < 0
      · simp only [h, if_true] <;> omega
      · simp only [h, if_false] <;> omega
theorem slicePick_cut (its : List Value) (lo hi : Option Int) : slicePick its.toArray lo hi none = ((its.drop (HT.sIx its.length 0 lo)).take (HT.sIx its.length its.length hi - HT.sIx its.length 0 lo)).toArray := by
  obtain ⟨h1, h2, h3⟩ := slice_bounds lo hi its.toArray.size
  unfold slicePick
  rw [h1, h2, h3]
  simp only [sliceRange_one, pick_run, List.size_toArray] <;> rfl
/-- xs[lo:hi] of a list: a new list -/
def rSlL (K : PySem.W.Frag) : V → Option Int → Option Int → Hp → VK → Prop := fun x lo hi H Q => ∃ a xs, x = .ref a ∧ SqL K H a xs ∧ ∀ p, H p = none → Q (.ref p) (upd H p (.lst (cutV xs lo hi)))
theorem sl_list : SlR X (rSlL X.K) := by
  intro pins s σ H x v vl vu lo hi sl Q I rx hs pl pu h
  obtain ⟨a, xs, rfl, hx, q⟩ := h
  cases rx
  obtain ⟨its, r, ht, hz⟩ := I.list hx
  have hlen := r.length
  refine ⟨"list", _, slot_list_getitem.lookup, ht.isList.typeIs, ?_⟩
  refine wpAny_getItem_list_slice ht.isList hs pl pu .none (by simp) ?_ (by rw [List.size_toArray] <;> omega)
  rw [slicePick_cut, ← hlen]
  refine ⟨.ref s.heap.objs.size, _, I.laid (t' := s.toks) (o := .lst (cutV xs lo hi)) (fun b ob q => Heap.get?_push_of_some _ q) (Nat.le_refl _) ?_, rfl, q _ (I.hok.fresh (Nat.le_refl _))⟩
  exact ⟨Nat.le_trans (cutV_length xs lo hi) hz, _, 0, (r.drop (HT.sIx xs.length 0 lo)).take (HT.sIx xs.length xs.length hi - HT.sIx xs.length 0 lo), Heap.get?_push_size _ rfl⟩

/-! ### in, not in: flat items -/
def flatV : V → Bool
  | .non => true
  | .bl _ => true
  | .int _ => true
  | .str _ => true
  | _ => false
/-- == of flat values -/
def eqV : V → V → Bool
  | .non, .non => true
  | .bl a, .bl b => a == b
  | .bl a, .int b => (if a then 1 else 0) == b
  | .int a, .bl b => a == (if b then 1 else 0)
  | .int a, .int b => a == b
  | .str a, .str b => a == b
  | _, _ => false
theorem eqAt_V {A : Around} {s : Shared} {y x : V} {u v : Value} (ry : RelV y u) (rx : RelV x v) (fy : flatV y = true) (fx : flatV x = true) : SeqAt.EqAt A s u v (eqV y x) := by
  cases y with
  | non =>
    cases ry
    cases x with
    | non => cases rx; exact SeqAt.EqAt.same _
    | bl b => cases rx; exact SeqAt.EqAt.none_bool b
    | int b => obtain ⟨t, rfl⟩ := rx; exact SeqAt.EqAt.none_int b t
    | str b => obtain ⟨t, rfl⟩ := rx; exact SeqAt.EqAt.none_str b t
    | _ => exact absurd (show false = true from fx) Bool.false_ne_true
  | bl a =>
    cases ry
    cases x with
    | non => cases rx; exact SeqAt.EqAt.bool_none a
    | bl b => cases rx; exact SeqAt.EqAt.bool_bool a b
    | int b => obtain ⟨t, rfl⟩ := rx; exact SeqAt.EqAt.bool_int a b t
    | str b => obtain ⟨t, rfl⟩ := rx; exact SeqAt.EqAt.bool_str a b t
    | _ => exact absurd (show false = true from fx) Bool.false_ne_true
  | int a =>
    obtain ⟨t', rfl⟩ := ry
    cases x with
    | non => cases rx; exact SeqAt.EqAt.int_none a t'
    | bl b => cases rx; exact SeqAt.EqAt.int_bool a t' b
    | int b => obtain ⟨t, rfl⟩ := rx; exact SeqAt.EqAt.int_int a t' b t
    | str b => obtain ⟨t, rfl⟩ := rx; exact SeqAt.EqAt.int_str a t' b t
    | _ => exact absurd (show false = true from fx) Bool.false_ne_true
  | str a =>
    obtain ⟨t', rfl⟩ := ry
    cases x with
    | non => cases rx; exact SeqAt.EqAt.str_none a t'
    | bl b => cases rx; exact SeqAt.EqAt.str_bool a t' b
    | int b => obtain ⟨t, rfl⟩ := rx; exact SeqAt.EqAt.str_int a t' b t
    | str b => obtain ⟨t, rfl⟩ := rx; exact SeqAt.EqAt.str_str a t' b t
    | _ => exact absurd (show false = true from fx) Bool.false_ne_true
  | _ => exact absurd (show false = true from fy) Bool.false_ne_true
/-- the items' answers, read off the values (a value's own answer does not lean on its token) -/
def eqU (x : V) (u : Value) : Bool := match u with
  | .none => eqV .non x
  | .bool b => eqV (.bl b) x
  | .int i _ => eqV (.int i) x
  | .str z _ => eqV (.str z) x
  | _ => false
theorem eqU_of {x y : V} {u : Value} (r : RelV y u) (f : flatV y = true) : eqU x u = eqV y x := by
  cases y with
  | non => cases r; rfl
  | bl b => cases r; rfl
  | int i => obtain ⟨t, rfl⟩ := r; rfl
  | str z => obtain ⟨t, rfl⟩ := r; rfl
  | _ => exact absurd (show false = true from f) Bool.false_ne_true
theorem any_eqU {x : V} : ∀ {xs : List V} {us : List Value}, Vals xs us → xs.all flatV = true → us.any (eqU x) = xs.any fun y => eqV y x
  | _, _, .nil, _ => rfl
  | y :: xs, u :: us, .cons r t, f => by
    rw [List.all_cons, Bool.and_eq_true] at f
    rw [List.any_cons, List.any_cons, eqU_of r f.1, any_eqU t f.2]
theorem mem_eqAt {A : Around} {s : Shared} {x : V} {v : Value} (rx : RelV x v) (fx : flatV x = true) : ∀ {xs : List V} {us : List Value}, Vals xs us → xs.all flatV = true → ∀ u ∈ us, SeqAt.EqAt A s u v (eqU x u)
  | _, _, .nil, _ => fun u hu => by cases hu
  | y :: xs, u :: us, .cons r t, f => fun u' hu => by
    rw [List.all_cons, Bool.and_eq_true] at f
    rcases List.mem_cons.mp hu with rfl | hu
    · rw [eqU_of r f.1]; exact eqAt_V r rx f.1 fx
    · exact mem_eqAt rx fx t f.2 u' hu
def inV (x : V) (xs : List V) : Bool := xs.any fun y => eqV y x
/-- x in a list or tuple of flat items -/
def rIn (K : PySem.W.Frag) (neg : Bool) : R2 := fun x y H Q => ∃ p xs, y = .ref p ∧ (SqL K H p xs ∨ SqT K H p xs) ∧ flatV x = true ∧ xs.all flatV = true ∧ Q (.bl (if neg then !inV x xs else inV x xs)) H
theorem op_in_seq : OpR X (compareOp .In) (rIn X.K false) := by
  intro pins s σ H x y v u Q I rx ry h
  obtain ⟨p, xs, rfl, hq, fx, fs, q⟩ := h
  cases ry
  rcases hq with hq | hq
  · obtain ⟨its, r, pl, hz⟩ := I.list hq
    refine SeqAt.in_listAt (eqU x) pl.isList (fun w hw => mem_eqAt rx fx r fs w (by simpa using hw)) ⟨.bl _, H, I, rfl, ?_⟩
    rw [show its.toArray.any (eqU x) = its.any (eqU x) by simp, any_eqU r fs]
    exact q
  · obtain ⟨its, r, pl, hz⟩ := I.tuple hq
    refine SeqAt.in_tupleAt (eqU x) pl (fun w hw => mem_eqAt rx fx r fs w (by simpa using hw)) ⟨.bl _, H, I, rfl, ?_⟩
    rw [show its.toArray.any (eqU x) = its.any (eqU x) by simp, any_eqU r fs]
    exact q
/-! ### len, list(x), tuple(x) of any list or tuple that is read -/
theorem call_len_seq : CallR X (.builtin "len") (fun xs H Q => ∃ p ys, xs = [.ref p] ∧ (SqL X.K H p ys ∨ SqT X.K H p ys) ∧ Q (.int ys.length) H) := by
  intro pins s σ H xs us Q I r h
  obtain ⟨p, ys, rfl, hq, q⟩ := h
  obtain ⟨u, rfl, rx⟩ := vals1 r
  cases rx
  have hn := line63
  rcases hq with hq | hq
  · obtain ⟨its, r', pl, hz⟩ := I.list hq
    have hlen := r'.length
    exact Calls.call_len_list pl.isList (by simp only [List.size_toArray] <;> omega) ⟨.int ys.length, H, I.tok _, ⟨s.toks + 1, by rw [List.size_toArray, hlen]⟩, q⟩
  · obtain ⟨its, r', pl, hz⟩ := I.tuple hq
    have hlen := r'.length
    exact len_tuple pl (by simp only [List.size_toArray] <;> omega) ⟨.int ys.length, H, I.tok _, ⟨s.toks + 1, by rw [List.size_toArray, hlen]⟩, q⟩
theorem CallR.or {f : Value} {r r' : List V → Hp → VK → Prop} (h : CallR X f r) (h' : CallR X f r') : CallR X f (fun xs H Q => r xs H Q ∨ r' xs H Q) := by
  intro pins s σ H xs us Q I rs q
  rcases q with q | q
  · exact h pins s σ H xs us Q I rs q
  · exact h' pins s σ H xs us Q I rs q
theorem call_tuple_of : CallR X (.type "tuple") (fun xs H Q => ∃ p ys, xs = [.ref p] ∧ ((SqL X.K H p ys ∧ ∀ l, H l = none → Q (.ref l) (upd H l (.tup ys))) ∨ (SqT X.K H p ys ∧ Q (.ref p) H))) := by
  intro pins s σ H xs us Q I r h
  obtain ⟨p, ys, rfl, h⟩ := h
  obtain ⟨u, rfl, rx⟩ := vals1 r
  cases rx
  rcases h with ⟨hq, q⟩ | ⟨hq, q⟩
  · obtain ⟨its, r', pl, hz⟩ := I.list hq
    have hlen := r'.length
    refine call_tuple_list pl.isList (fun h' kp => ?_) (by simp only [List.size_toArray] <;> omega)
    have I1 : Inv X pins σ H { s with heap := h' } := I.kept (t' := s.toks) kp
    have I2 : Inv X pins σ (upd H h'.objs.size (.tup ys)) { s with heap := h'.push { cls := .type "tuple", data := .seq its.toArray } } :=
      I1.laid (t' := s.toks) (fun b o e => Heap.get?_push_of_some _ e) (Nat.le_refl _) (show ObjOk X.prog X.w _ _ _ (.tup ys) from ⟨hz, its, r', IsTup.new _ _⟩)
    exact ⟨.ref h'.objs.size, _, I2, rfl, q _ (I1.hok.fresh (Nat.le_refl _))⟩
  · obtain ⟨its, r', pl, hz⟩ := I.tuple hq
    exact call_tuple_same pl ⟨.ref p, H, I, rfl, q⟩

/-! ### the call of a builtin's method: o.m(..) -/
/-- the value is of that builtin type -/
def tyV (K : PySem.W.Frag) (T : String) (x : V) (H : Hp) : Prop := match x with
  | .str _ => T = "str"
  | .int _ => T = "int"
  | .ref p => (T = "list" ∧ ∃ xs, SqL K H p xs) ∨ (T = "tuple" ∧ ∃ o, K.lookup p = some o ∧ o.cls = .type "tuple" ∧ o.dict = none) ∨
      (T = "dict" ∧ ((∃ kvs, H p = some (.dK kvs)) ∨ ∃ kvs, H p = some (.dT kvs))) ∨ (T = "set" ∧ ∃ S n, H p = some (.set S n))
  | _ => False
theorem tyV_is {pins : List (Addr × Obj)} {σ : St} {H : Hp} {s : Shared} {T : String} {x : V} {v : Value} (I : Inv X pins σ H s) (r : RelV x v) (ty : tyV X.K T x H) :
    s.TypeIs v T ∧ ∀ a, v = .ref a → ∃ ob, s.heap.get? a = some ob ∧ ob.dict = none := by
  cases x with
  | str z =>
    obtain ⟨t, rfl⟩ := r
    cases (show T = "str" from ty)
    exact ⟨typeIs_str s z t, fun _ e => nomatch e⟩
  | int i =>
    obtain ⟨t, rfl⟩ := r
    cases (show T = "int" from ty)
    exact ⟨typeIs_int s i t, fun _ e => nomatch e⟩
  | ref p =>
    cases r
    rcases ty with ⟨rfl, xs, hq⟩ | ⟨rfl, o, hk, hc, hd⟩ | ⟨rfl, hk⟩ | ⟨rfl, S, n, hk⟩
    · obtain ⟨its, _, pl, _⟩ := I.list hq
      refine ⟨pl.isList.typeIs, fun a e => ?_⟩
      cases e
      obtain ⟨o, n, e, c, hd, _⟩ := pl
      exact ⟨o, e, hd⟩
    · refine ⟨⟨o, I.kIn p o hk, hc⟩, fun a e => ?_⟩
      cases e
      exact ⟨o, I.kIn _ o hk, hd⟩
    · have z : ∃ o, s.heap.get? p = some o ∧ o.ExactDict := by
        rcases hk with ⟨kvs, hk⟩ | ⟨kvs, hk⟩
        · obtain ⟨_, _, _, _, o, _, _, e, ex, _⟩ := I.hok p _ hk
          exact ⟨o, e, ex⟩
        · obtain ⟨_, _, _, _, o, _, _, e, ex, _⟩ := I.hok p _ hk
          exact ⟨o, e, ex⟩
      obtain ⟨o, e, ex⟩ := z
      refine ⟨⟨o, e, ex.1⟩, fun a e2 => ?_⟩
      cases e2
      exact ⟨o, e, ex.2.1⟩
    · obtain ⟨o, _, _, _, e, ex, _⟩ := I.hok p _ hk
      refine ⟨⟨o, e, ex.1⟩, fun a e2 => ?_⟩
      cases e2
      exact ⟨o, e, ex.2.1⟩
  | _ => exact False.elim ty
def tBM0 (K : PySem.W.Frag) (T : String) (r : V → List V → Hp → VK → Prop) (to : TE) : TE := fun σ H Q => to σ H fun x H1 => tyV K T x H1 ∧ r x [] H1 Q
def tBM (K : PySem.W.Frag) (T : String) (r : V → List V → Hp → VK → Prop) (to : TE) (t : TA) : TE := fun σ H Q => to σ H fun x H1 => tyV K T x H1 ∧ t σ H1 fun xs H2 => r x xs H2 Q
variable {o e : Expr} {es : List Expr} {to : TE} {t : TA} {name : Str} {apos cpos : Pos} {T id : String} {r : V → List V → Hp → VK → Prop}
theorem pe_bm0 (pa : PlainAttrs T) (slot : Slot T name id) (hty : typeOf (.builtin id) = pure (.type "method_descriptor")) (hm : MtR X id r) (ho : PE X o to)
    (hbase : attributeBase o name X.env (eval o X.env) = eval o X.env := by rfl) (hline : (apos.endLine == cpos.line) = true := by rfl) : PE X (.Call (.Attribute o name apos) [] [] cpos) (tBM0 X.K T r to) := by
  intro pins s σ H Q I h
  refine wpAny_Call_method0_late hbase hline (thn (ho pins s σ H _ I h) fun v s1 ⟨x, H1, I1, r1, ty, q1⟩ => ?_)
  obtain ⟨h1, h2⟩ := tyV_is I1 r1 ty
  exact ⟨T, id, pa, slot, hty, h1, h2, Calls.callWith_builtin rfl (PySem.evalArgs_none (hm pins s1 σ H1 x [] v [] Q I1 r1 .nil q1))⟩
theorem pe_bm (pa : PlainAttrs T) (slot : Slot T name id) (hty : typeOf (.builtin id) = pure (.type "method_descriptor")) (hm : MtR X id r) (ho : PE X o to) (ha : PA X (e :: es) t)
    (hbase : attributeBase o name X.env (eval o X.env) = eval o X.env := by rfl)
    (hfew : ((backTo cpos (starEach (e :: es) X.env)).all (fun x => !x.1) && (backToKw cpos (keywordEach [] X.env)).all (fun x => x.1.isSome)
      && decide ((e :: es).length + ([] : List Keyword).length + (if ([] : List Keyword).isEmpty then 0 else 1) < 30)) = true := by rfl)
    (hline : (apos.endLine == cpos.line) = true := by rfl) (hs : starEach (e :: es) X.env = (false, eval e X.env) :: starEach es X.env := by rfl) (hplain : (backTo cpos (starEach es X.env)).any (·.1) = false := by rfl) :
    PE X (.Call (.Attribute o name apos) (e :: es) [] cpos) (tBM X.K T r to t) := by
  intro pins s σ H Q I h
  refine wpAny_Call_method_late hbase hfew hline rfl (thn (ho pins s σ H _ I h) fun v s1 ⟨x, H1, I1, r1, ty, q1⟩ => ?_)
  obtain ⟨h1, h2⟩ := tyV_is I1 r1 ty
  refine ⟨T, id, pa, slot, hty, h1, h2, ?_⟩
  have hA := ha cpos pins s1 σ H1 _ I1 q1
  rw [hs] at hA ⊢
  refine Calls.callWith_builtin (by show (false || (backTo cpos (starEach es X.env)).any (·.1)) = false; rw [hplain] <;> rfl) (Calls.evalArgs_plain ?_)
  exact thn hA fun us s2 ⟨vs, H2, I2, r2, q2⟩ => hm pins s2 σ H2 x vs v us Q I2 r1 r2 q2
/- xs.append(e), list.index on a module's tuple .. are MtR facts of 06m -/
end
end L2

namespace L2
open PySem PySem.Spec PyProof.Rows

def MtM (X : Cx) (id : String) (r : V → List V → Hp → VK → Prop) : Prop :=
  ∀ (pins : List (Addr × Obj)) (s : Shared) (σ : St) (H : Hp) (x : V) (xs : List V) (v : Value) (us : List Value) (Q : VK), Inv X pins σ H s → RelV x v → Vals xs us → r x xs H Q →
    wpAny (model X.prog X.w) X.A (call (.builtin id) (v :: us)) (EP X pins σ Q) X.xe s

/-! ### lists of values -/
theorem Vals.one : ∀ {x : V} {us : List Value}, Vals [x] us → ∃ u, us = [u] ∧ RelV x u
  | _, _, .cons r .nil => ⟨_, rfl, r⟩
theorem Vals.two : ∀ {x y : V} {us : List Value}, Vals [x, y] us → ∃ u v, us = [u, v] ∧ RelV x u ∧ RelV y v
  | _, _, _, .cons r (.cons q .nil) => ⟨_, _, rfl, r, q⟩
theorem Vals.zero : ∀ {us : List Value}, Vals [] us → us = []
  | _, .nil => rfl
theorem Vals.dropLast {xs : List V} {us : List Value} (h : Vals xs us) : Vals xs.dropLast us.dropLast := by
  induction h with
  | nil => exact .nil
  | cons r t ih =>
    cases t with
    | nil => exact .nil
    | cons q t' => exact .cons r ih
theorem Vals.eraseIdx : ∀ {xs : List V} {us : List Value} (i : Nat), Vals xs us → Vals (xs.eraseIdx i) (us.eraseIdx i)
  | _, _, _, .nil => .nil
  | _, _, 0, .cons _ t => t
  | _, _, i + 1, .cons r t => .cons r (Vals.eraseIdx i t)
theorem Vals.reverse {xs : List V} {us : List Value} (h : Vals xs us) : Vals xs.reverse us.reverse := by
  induction h with
  | nil => exact .nil
  | cons r t ih => rw [List.reverse_cons, List.reverse_cons]; exact Vals.append ih (.cons r .nil)
theorem erase_last {α : Type} (l : List α) : l.eraseIdx (l.length - 1) = l.dropLast := by
  induction l with
  | nil => rfl
  | cons a r ih =>
    cases r with
    | nil => rfl
    | cons b r =>
      have e : (a :: b :: r).length - 1 = ((b :: r).length - 1) + 1 := by
        have h1 : (a :: b :: r).length = r.length + 2 := rfl
        have h2 : (b :: r).length = r.length + 1 := rfl
        omega
      rw [e, List.eraseIdx_cons_succ, ih]
      all_goals rfl
section
variable {X : Cx} {pins : List (Addr × Obj)} {σ : St} {H : Hp} {s : Shared} {l b : Addr} {xs ys zs : List V}

/-! ### the two steps: a tracked list is rewritten, a new list is laid -/
theorem Inv.lset {its its' : List Value} {n : Nat} {f : Array Value → Array Value} {t' : Nat} (I : Inv X pins σ H s) (hH : H l = some (.lst xs))
    (e : s.heap.get? l = some { cls := .type "list", data := .seq its.toArray n }) (hf : f its.toArray = its'.toArray) (hv : Vals ys its') (hz : ys.length ≤ sizeLine) :
    Inv X pins σ (upd H l (.lst ys)) { s with heap := s.heap.update l (Obj.mapSeq f), toks := t' } := by
  have q := PySem.IsL.update e f
  rw [hf] at q
  refine I.write (x := l) (e := l) (by rw [hH]; exact trivial) (.inl rfl) (fun b' u hb hu => (Heap.get?_update_other s.heap (Obj.mapSeq f) (Ne.symm hb)).trans hu) ⟨_, q⟩ ?_
  exact ⟨hz, its', _, hv, q⟩
theorem Inv.lnew {its : List Value} {t' : Nat} (I : Inv X pins σ H s) (hv : Vals ys its) (hz : ys.length ≤ sizeLine) :
    Inv X pins σ (upd H s.heap.objs.size (.lst ys)) { s with heap := s.heap.push { cls := .type "list", data := .seq its.toArray }, toks := t' } :=
  I.laid (fun _ _ q => Heap.get?_push_of_some _ q) (Nat.le_refl _) ⟨hz, its, 0, hv, Heap.get?_push_size _ rfl⟩
theorem Inv.fresh (I : Inv X pins σ H s) : H s.heap.objs.size = none := I.hok.fresh (Nat.le_refl _)
theorem Inv.lstM (I : Inv X pins σ H s) (hH : H l = some (.lst xs)) : xs.length ≤ sizeLine ∧ ∃ (its : List Value) (n : Nat), Vals xs its ∧ xs.length = its.length ∧ s.heap.get? l = some { cls := .type "list", data := .seq its.toArray n } := by
  obtain ⟨z, its, n, r, e⟩ := I.hok l _ hH
  exact ⟨z, its, n, r, r.length, e⟩

end

section
variable {X : Cx}

/-! ### methods -/
def rAppend : V → List V → Hp → VK → Prop := fun x vs H Q => ∃ l xs y, x = .ref l ∧ vs = [y] ∧ H l = some (.lst xs) ∧ xs.length < sizeLine ∧ Q .non (upd H l (.lst (xs ++ [y])))
theorem mt_append : MtM X "list.append" rAppend := by
  intro pins s σ H x vs v us Q I rx rv h
  obtain ⟨l, xs, y, rfl, rfl, hH, hz, q⟩ := h
  cases rx
  obtain ⟨u, rfl, ru⟩ := rv.one
  obtain ⟨z, its, n, r, hl, e⟩ := I.lstM hH
  refine call_meets F.slot_list_append ⟨_, e, rfl⟩ F.entry_list_append (F.args_list_append_2 _ _) (PySem.list_append l its.toArray n u (by rw [List.size_toArray]; omega)) ⟨e, ?_⟩
  refine ⟨.non, _, I.lset (its' := its ++ [u]) hH e (by simp) (r.append (.cons ru .nil)) ?_, rfl, q⟩
  rw [List.length_append, List.length_singleton]
  omega

def rPop : V → List V → Hp → VK → Prop := fun x vs H Q => ∃ l xs y, x = .ref l ∧ vs = [] ∧ H l = some (.lst xs) ∧ xs[xs.length - 1]? = some y ∧ Q y (upd H l (.lst xs.dropLast))
theorem mt_pop : MtM X "list.pop" rPop := by
  intro pins s σ H x vs v us Q I rx rv h
  obtain ⟨l, xs, y, rfl, rfl, hH, hy, q⟩ := h
  cases rx
  have hus := rv.zero
  subst hus
  obtain ⟨z, its, n, r, hl, e⟩ := I.lstM hH
  obtain ⟨u, hu, ru⟩ := r.get hy
  have hy' : its.toArray[its.toArray.size - 1]? = some u := by
    show its.toArray[its.length - 1]? = some u
    rw [← Array.getElem?_toList, ← hl]
    exact hu
  refine call_meets F.slot_list_pop ⟨_, e, rfl⟩ F.entry_list_pop (F.args_list_pop_1 _) (MeetsSeq.list_pop_last l its.toArray n u hy' (by rw [List.size_toArray]; omega)) ⟨e, ?_⟩
  refine ⟨y, _, I.lset (its' := its.dropLast) hH e ?_ r.dropLast ?_, ru, q⟩
  · show its.toArray.eraseIdxIfInBounds (its.toArray.size - 1) = its.dropLast.toArray
    rw [List.size_toArray, List.eraseIdxIfInBounds_toArray, erase_last]
  · rw [List.length_dropLast]
    omega

/-! ### list + list, list += list, list * int -/
def rCat : R2 := fun x y H Q => ∃ l b xs zs, x = .ref l ∧ y = .ref b ∧ H l = some (.lst xs) ∧ H b = some (.lst zs) ∧ xs.length + zs.length ≤ sizeLine ∧ ∀ p, H p = none → Q (.ref p) (upd H p (.lst (xs ++ zs)))
theorem op_cat : OpR X (binaryOp .Add) rCat := by
  intro pins s σ H x y v u Q I rx ry h
  obtain ⟨l, b, xs, zs, rfl, rfl, hH, hB, hz, q⟩ := h
  cases rx
  cases ry
  obtain ⟨z, its, n, r, hl, e⟩ := I.lstM hH
  obtain ⟨z2, its2, n2, r2, hl2, e2⟩ := I.lstM hB
  refine PySem.P.add_list e e2 ?_ (by rw [List.size_toArray, List.size_toArray]; omega)
  have ea : its.toArray ++ its2.toArray = (its ++ its2).toArray := by simp
  rw [ea]
  exact ⟨.ref _, _, I.lnew (t' := s.toks) (r.append r2) (by rw [List.length_append]; omega), rfl, q _ I.fresh⟩
end

/-! ### xs[a:b] = ys -/
section
variable {prog : Program} {w : World} {A : Around} {E : Value → Shared → Prop} {s : Shared}
end

section
variable {X : Cx}
end
end L2

namespace Att
open PySem PySem.W PySem.Calls PyProof.Rows

/-! ### the script -/
theorem ints_of_wellAll {P : Params} {h : Heap} : ∀ (ns : List Int) (vs : List Value), WellAll P h vs (ns.map WData.int) → IntsAre vs ns := by
  intro ns
  induction ns with
  | nil =>
    intro vs w
    rw [List.map_nil] at w
    cases w
    exact .nil
  | cons n ns ih =>
    intro vs w
    rw [List.map_cons] at w
    cases w with
    | cons a b =>
      cases a
      exact .cons _ _ (ih _ b)

theorem script_of {l : OpenLaw} {n : Nat} (hn : l.most = some n) {P : Params} {h : Heap} {args : List WData} {vals : List Value}
    (hpre : l.row.toRowW.claim.pre args = true) (hwl : WellAll P h vals args) :
    ∃ a vs ns, vals = [Value.ref a] ∧ args = [WData.list (ns.map WData.int)] ∧ h.get? a = some { cls := .type "list", data := .seq vs.toArray } ∧ IntsAre vs ns ∧ ns.length ≤ n := by
  have hsh : WShape.hasAll [] args [.list .int] = true := (pre_splitW hpre).1
  have hc : l.pre.holds [] { args := args } = true := (pre_splitW hpre).2
  obtain ⟨d, r, rfl, h1, h2⟩ := hasAllW_cons hsh
  obtain rfl := hasAllW_nil h2
  obtain ⟨xs, rfl, h3⟩ := hasW_list h1
  obtain ⟨ns, rfl⟩ := items_int h3
  have hlen : ns.length ≤ n := by
    unfold OpenLaw.pre at hc
    have h4 : (WTm.not (.lt (.lit (.int (n : Int))) (.len (.arg 0)))).holds [] { args := [.list (ns.map .int)] } = true := by
      have h4 := (holds_andW hc).1
      rw [hn] at h4
      exact h4
    have h5 := condW_of h4 (w_not (w_lt w_lit (w_len_list (w_arg rfl))))
    rw [List.length_map] at h5
    refine Nat.le_of_not_lt fun q => ?_
    have q' : (n : Int) < ((ns.length : Nat) : Int) := by omega
    first
      | (rw [decide_eq_true q'] at h5; exact absurd h5 (by decide))
      | (simp at h5; omega)
  cases hwl with
  | cons w1 w2 =>
    cases w2
    cases w1 with
    | list ho hall => exact ⟨_, _, ns, rfl, rfl, ho, ints_of_wellAll ns _ hall, hlen⟩

theorem post_true (l : OpenLaw) (args : List WData) : l.row.toRowW.claim.post args (.bool true) args = true :=
  postW_of (r := l.row.toRowW) (X := (true == true))
    (show WShape.has [] (.bool true) .bool = true by first | rfl | decide | simp [WShape.has, WShape.arms, WShape.armsAll])
    (show (WTm.eq .res (.lit (.bool true))).value [] { args := args, res := some (.bool true), after := args } = some (.bool (true == true)) from w_eq_bool (w_res rfl) w_lit) rfl

/-- the same from a codeAny of the CALL (for a layer whose function contracts speak of calls) -/
theorem attach_call {l : OpenLaw} {n : Nat} {q : Program} {loose : List Str} {XP : (Str → Option Value) → Heap → Prop} {YP : World → Heap → Prop} {d : DefRec}
    (hn : l.most = some n) (hdf : d.params.defaults = [])
    (call : ∀ (w : World) (s₀ s₁ : Shared) (mg mb : Str → Option Value) (fa : Addr) (o : Obj) (pm cd doc : Value) (a : Addr) (vs : List Value) (ns : List Int),
      Ground q loose [] XP w s₀ mg mb s₁.heap → YP w s₁.heap →
      s₁.heap.get? fa = some o → o.data = .func (docDef d.name d.params d.body d.scope pm cd doc) → s₁.heap.CodeRec cd d.name → mg d.name = some (.ref fa) →
      s₁.heap.get? a = some { cls := .type "list", data := .seq vs.toArray } → IntsAre vs ns → ns.length ≤ n → s₁.gens = #[] →
      codeAny (model l.prog w) callerA (.call (.ref fa) ⟨[.ref a], []⟩) (fun r s' => r = .ok (.ret (.bool true)) ∧ OldK s₁.heap s'.heap ∧ s'.os = s₁.os ∧ AllBare s'.gens) s₁) :
    WalkO q loose XP YP l.row.toRowW d [] (fun f vs => PySem.call f vs) := by
  intro w s₀ s₁ mg mb G Y fa o pm cd doc dV kV ho hd hcd hD hmg hg args vals as hpre hlay hrd hwl hlo
  obtain rfl : dV = .none := Dflts.none hD hdf
  obtain rfl : kV = .none := Dflts.noKw hD
  obtain ⟨a, vs, ns, rfl, rfl, hobj, hints, hlen⟩ := script_of hn hpre hwl
  refine enter_call (codeAny_mono (call w s₀ s₁ mg mb fa o pm cd doc a vs ns G Y ho (fd_plain hd) hcd hmg hobj hints hlen hg) fun r s' hq => ?_)
  obtain ⟨rfl, h2, h3, h4⟩ := hq
  exact ⟨.inl ⟨.bool true, .bool true, [], rfl, fun _ => rfl, .bool true, post_true l _, fun _ => ⟨List.Pairwise.nil, fun _ hm => (nomatch hm)⟩⟩, h2, h3, h4⟩

/-! ### rules over ANY heap (no ledger) from facts about the written part K: the library's own take a ledger (News) for what they write -/
section
variable {prog : Program} {w : World} {A : Around} {E : Value → Shared → Prop} {s : Shared} {K : Frag}

end
end Att

namespace L2
open PySem PySem.Spec PyProof.Rows

theorem vals_ints : ∀ {vs : List Value} {ns : List Int}, IntsAre vs ns → Vals (ns.map V.int) vs
  | _, _, .nil => .nil
  | _, _, .cons n t h => .cons ⟨t, rfl⟩ (vals_ints h)

/-- nothing is tracked but the script, known to the object (or it is an object of the module) -/
def Only (H : Hp) : Prop := ∀ b, H b = none ∨ ∃ o xs, H b = some (.frz o (.lst xs))

/-- THE HEAD: the law's promise, at the heap behind the top. F, the promise of the law's def, may use that base is part of the heap (so K.In base, base.Ns mainGlobals mg stand in Mod) -/
theorem law_call {P : Program} {w : World} {K : PySem.W.Frag} {mg mb : Str → Option Value} {CX : CXT} {k : Nat} {fa a : Addr} {fd : FuncData} {x : Str} {sp : Sp} {s₁ : Shared} {vs : List Value} {ns : List Int}
    (KX : K.In s₁.heap) (hns : s₁.heap.Ns mainGlobals mg) (hb : s₁.heap.Ns builtinsNs mb) (hbb : ∀ x : Str, x ≠ "__name__" → mb x = bootBuiltins x) (hlim : s₁.heap.NoLimit) (hg : s₁.gens = #[])
    (ha : s₁.heap.get? a = some { cls := .type "list", data := .seq vs.toArray }) (hi : IntsAre vs ns) (hl : ns.length ≤ sizeLine) (hr : Room k callerA)
    (F : ∀ base : Heap, K.In base → base.Ns mainGlobals mg → FnOk P w K mg base CX k fa fd [x] sp) (hbind : ∀ (s : Shared) (u : Value), BindsTo s fd ⟨[u], []⟩ [(x, u)])
    (hsp : ∀ H : Hp, Only H → SqL K H a (ns.map V.int) → sp [.ref a] H (fun v _ => v = .bl true) fun _ _ _ => False)
    (hCX : ∀ H e s', CX [] H s₁ (fun _ _ _ => False) e s' → False) :
    codeAny (model P w) callerA (.call (.ref fa) ⟨[.ref a], []⟩) (fun r s' => r = .ok (.ret (.bool true)) ∧ OldK s₁.heap s'.heap ∧ s'.os = s₁.os ∧ AllBare s'.gens) s₁ := by
  have rv := vals_ints hi
  have lenV := hi.length
  -- from an abstract heap in which nothing but the script may be tracked
  have core : ∀ H : Hp, Only H → SqL K H a (ns.map V.int) → HOk P w H s₁.heap → (∀ b, H b ≠ none → b = a) → (H a ≠ none → K.lookup a = none) →
      codeAny (model P w) callerA (.call (.ref fa) ⟨[.ref a], []⟩) (fun r s' => r = .ok (.ret (.bool true)) ∧ OldK s₁.heap s'.heap ∧ s'.os = s₁.os ∧ AllBare s'.gens) s₁ := by
    intro H hO hS hok hA hK
    have base_of : ∀ {b : Addr} {o : Obj}, s₁.heap.get? b = some o → H b = none → (hidT s₁.heap H).get? b = some o := fun e n => hidT_get e n
    have noA : ∀ {b : Addr} {o : Obj} {es : Array DictEntry} {ep : Nat}, s₁.heap.get? b = some o → o.data = .dict es ep → H b = none := fun {b o es ep} e d => by
      cases q : H b with
      | none => rfl
      | some u =>
        have e' : b = a := hA b (by rw [q]; simp)
        subst e'
        rw [ha] at e; cases e
        have d' : Data.seq vs.toArray _ = Data.dict es ep := d
        cases d'
    have nsK : ∀ {b : Addr} {m : Str → Option Value}, s₁.heap.Ns b m → (hidT s₁.heap H).Ns b m := fun {b m} ⟨o, es, ep, e, d, r⟩ => ⟨o, es, ep, base_of e (noA e d), d, r⟩
    have hKb : K.In (hidT s₁.heap H) := fun b o e => base_of (KX b o e) (by
      cases q : H b with
      | none => rfl
      | some u =>
        have e' : b = a := hA b (by rw [q]; simp)
        subst e'
        rw [hK (by rw [q]; simp)] at e; cases e)
    have hM : Mod K mg (hidT s₁.heap H) := ⟨hKb, nsK hns, ⟨mb, nsK hb, hbb⟩, let ⟨mc, h1, h2⟩ := hlim; ⟨mc, nsK h1, h2⟩⟩
    have e0 : Env0 P w K mg (hidT s₁.heap H) callerA [] s₁ H := ⟨rfl, hM, fun b o e => of_hidT e, Nat.le_of_eq (hidT_size _ _), trivial, fun b hb => absurd (show b ∈ ([] : List Addr) from hb) (by simp), hok, .of_eq hg⟩
    refine codeAny_mono ((F _ hKb (nsK hns)).run callerA [] s₁ H ⟨[.ref a], []⟩ [.ref a] [.ref a] _ _ hr e0 (hbind s₁ (.ref a)) (.cons rfl .nil) (hsp H hO hS)) fun r s' h => ?_
    cases r with
    | error e => exact (hCX H e s' h).elim
    | ok fl =>
      cases fl with
      | next => exact False.elim h
      | brk => exact False.elim h
      | cont => exact False.elim h
      | ret u =>
        obtain ⟨v, H', os, bare, un, hok', r', q⟩ := h
        have q' : v = .bl true := q
        subst q'
        obtain rfl : u = Value.bool true := r'
        refine ⟨rfl, OldK.of_keep fun b o e => ?_, os, bare⟩
        cases q : H b with
        | none => exact un.keep b o e q (by intro z; exact absurd (show b ∈ ([] : List Addr) from z) (by simp)) (by simp)
        | some u =>
          rcases hO b with z | ⟨ob, xs, z⟩
          · rw [q] at z; cases z
          · have z2 := un.frzs b ob _ z
            obtain ⟨e1, _⟩ := hok b _ z
            obtain ⟨e2, _⟩ := hok' b _ z2
            rw [e] at e1; cases e1
            exact e2
  cases hk : K.lookup a with
  | some o =>
    -- the script is one of the module's own objects
    have e := KX a o hk
    rw [ha] at e
    cases e
    refine core (fun _ => none) (fun _ => .inl rfl) (.inr ⟨_, vs.toArray, _, hk, rfl, rfl, rfl, by rw [List.size_toArray, lenV]; exact hl, by simpa using rv⟩) (fun b u z => by have z' : (none : Option HO) = some u := z; cases z') (fun b z => absurd rfl z) fun z => absurd rfl z
  | none =>
    refine core (fun b => if b = a then some (.frz { cls := .type "list", data := .seq vs.toArray } (.lst (ns.map V.int))) else none) (fun b => ?_) (.inl (.inr ⟨{ cls := .type "list", data := .seq vs.toArray }, if_pos rfl⟩)) (fun b u z => ?_) (fun b z => ?_) fun _ => hk
    · by_cases hb : b = a
      · exact .inr ⟨_, _, if_pos hb⟩
      · exact .inl (if_neg hb)
    · by_cases hb : b = a
      · have z' := (if_pos hb).symm.trans z
        cases z'
        subst hb
        exact ⟨ha, by rw [List.length_map]; exact hl, vs, _, rv, ha⟩
      · have z' := (if_neg hb).symm.trans z
        cases z'
    · by_cases hb : b = a
      · exact hb
      · exact absurd (if_neg hb) z
end L2

namespace L2
open PySem PySem.Spec PyProof.Rows

/-- the goal that k_head leaves (case hc), from the law's promise. F gives the function object fd (K's own) once, then the promise over every base -/
theorem walk_of {l : PySem.W.OpenLaw} {n k : Nat} {q : Program} {loose : List Str} {XP : (Str → Option Value) → Heap → Prop} {YP : World → Heap → Prop} {d : DefRec} {K : Params → PySem.W.Frag} {CX : World → CXT} {sp : World → Sp} {x : Str}
    (hn : l.most = some n) (hn2 : n ≤ sizeLine) (hdf : d.params.defaults = []) (hr : Room k callerA)
    (hY : ∀ (w : World) (h : Heap), YP w h → (K w.params).In h)
    (F : ∀ (w : World) (mg : Str → Option Value) (fa : Addr) (h : Heap), (K w.params).In h → h.Ns mainGlobals mg → mg d.name = some (.ref fa) →
      ∃ fd : FuncData, (∀ (s : Shared) (u : Value), BindsTo s fd ⟨[u], []⟩ [(x, u)]) ∧
        ∀ base : Heap, (K w.params).In base → base.Ns mainGlobals mg → FnOk l.prog w (K w.params) mg base (CX w) k fa fd [x] (sp w))
    (hsp : ∀ (w : World) (H : Hp) (a : Addr) (ns : List Int), ns.length ≤ n → Only H → SqL (K w.params) H a (ns.map V.int) → sp w [.ref a] H (fun v _ => v = .bl true) fun _ _ _ => False)
    (hCX : ∀ (w : World) (H : Hp) (s : Shared) (e : Value) (s' : Shared), CX w [] H s (fun _ _ _ => False) e s' → False) :
    PySem.W.WalkO q loose XP YP l.row.toRowW d [] (fun f vs => PySem.call f vs) := by
  refine Att.attach_call hn hdf fun w s₀ s₁ mg mb fa o pm cd doc a vs ns G Y ho hd hcd hmg hobj hints hlen hg => ?_
  have KX := hY w _ Y
  obtain ⟨fd, hb, hF⟩ := F w mg fa _ KX G.T.g hmg
  exact law_call KX G.T.g G.T.b G.T.builtins G.T.nolimit hg hobj hints (Nat.le_trans hlen hn2) hr hF hb (fun H hO hS => hsp w H a ns hlen hO hS) fun H e s' => hCX w H s₁ e s'
end L2

/- THE LAST THEOREM (shape; LID, My.* are yours):
   My.Adr: a structure of the addresses that your layer names (classes, functions); My.Txt K t: a structure (Prop) of the equations over K;
   My.txt_mk : {K} {implicit addresses ..} (e1 : nsIn K mainGlobals "law" = some (some (.ref f))) (e2 : K.lookup f = some ⟨oc, od, .func (fnOf "law" "law" params body scope dV kV doc pm an cdv ct), sl⟩) (e3 : codeIn K cdv "law" = true) .. : ∃ t, My.Txt K t

set_option maxRecDepth 100000 in
set_option maxHeartbeats 0 in
theorem PySem.Challenge.cw_LID_holds : PySem.Challenge.rw_LID.Holds := by
  w_on; o_law; k_head; (case hw => w_witness2)
  k_fill
  refine L2.walk_of (l := PySem.Challenge.rw_LID) (n := 63) (k := 40) (x := "script") (CX := fun w => ..) (sp := fun _ => My.sp_law) rfl (by decide) rfl ⟨rfl, by decide, by decide⟩ (fun w h Y => PySem.W.kIn_of Y) ?F ?S ?C
  case F =>
    intro w mg fa h KX G hmg
    have T : ∃ t, My.Txt (L2.KOf KX) t := by
      dsimp only [L2.KOf]                          -- K must stand as «<heap const> w.params» for k_is
      refine' My.txt_mk ?e1 ?e2 ?e3 ..
      (case e1 => PySem.W.k_is)                    -- in the order: a name -> its address -> its object -> its parts
      (case e2 => PySem.W.k_is)
      ..
    obtain ⟨t, T⟩ := T
    have e0 := hmg.symm.trans (PySem.W.mg_of KX G T.law)
    cases e0                                       -- fa is the law's own address
    exact ⟨_, fun s u => .of_eq rfl, fun base kb nb => My.law_fn T kb nb⟩     -- if «.of_eq rfl» comes too early: refine' ⟨_, ?b, fun base kb nb => My.law_fn T kb nb⟩; exact fun s u => .of_eq rfl
  case S => exact fun w H a ns hl hO hS => ..
  case C => exact ..
(the tactic k_is has no namespace: write k_is) -/
/-! SHORT WORDS over the layer: a def of the text, its body, what a loop and a test want. -/
namespace L2
open PySem PySem.Spec PyProof.Rows

def defArgs (s : Stmt) : Arguments := match s with
  | .FunctionDef _ a _ _ _ _ _ _ _ _ => a
  | _ => { posonlyargs := [], args := [], vararg := none, kwonlyargs := [], kw_defaults := [], kwarg := none, defaults := [] }
def defBody (s : Stmt) : List Stmt := match s with
  | .FunctionDef _ _ b _ _ _ _ _ _ _ => b
  | _ => []
def defScope (s : Stmt) : Scope := match s with
  | .FunctionDef _ _ _ _ _ _ sc _ _ _ => sc
  | _ => { kind := .function, names := [], isGenerator := false, isCoroutine := false }

/-! ### no exception leaves a def -/
abbrev CX0 : CXT := fun _ _ _ _ _ _ => False
abbrev E0 : XK := fun _ _ _ => False
theorem pass0 {X : Cx} : Passes CX0 X E0 := fun _ _ _ _ _ _ _ h => h.elim

/-! ### a def (or method) of the text as it stands behind the top -/
structure Fun (K : PySem.W.Frag) (x qual : Str) (st : Stmt) (f : Addr) (fd : FuncData) : Prop where
  ex : ∃ (oc : Value) (od : Option Addr) (kV doc pm : Value) (an : Option Addr) (cdv ct : Value) (osl : Array (Option Value)),
    fd = PySem.W.fnOf x qual (defArgs st) (defBody st) (defScope st) .none kV doc pm an cdv ct ∧ K.lookup f = some ⟨oc, od, .func fd, osl⟩ ∧ PySem.W.codeIn K cdv qual = true
  kp : PySem.W.keepIn K (.ref f) = true
section
variable {P : Program} {w : World} {K : PySem.W.Frag} {mg : Str → Option Value} {base : Heap}
/-- THE RULE for a def: its body as a term of rules, and the reading of that term -/
theorem Fun.ok {x qual : Str} {st : Stmt} {f : Addr} {fd : FuncData} {N ps : List Str} {k : Nat} {sp : Sp} (F : Fun K x qual st f fd) (S : FnScope N ps (defScope st)) (len : ∀ vs H Q E, sp vs H Q E → vs.length = ps.length)
    (hbody : ∀ (cdv : Value) (A : Around) (outer : List Env) (s : Shared) (H : Hp) (vs : List V) (Q : VK) (E : XK), Room k (A.deeper (envOfC qual (defScope st) s.heap.objs.size f cdv)) → sp vs H Q E →
      ∃ t, PSs (cxOf CX0 P w K mg base N qual (defScope st) f cdv A outer s H E).nox (defBody st) t ∧ t { nx := fun _ H' => Q .non H', rt := Q } (start N vs) H) : FnOk P w K mg base CX0 (k + 1) f fd ps sp := by
  obtain ⟨oc, od, kV, doc, pm, an, cdv, ct, osl, rfl, lk, hcd⟩ := F.ex
  refine fn_of lk hcd S len fun A outer s H vs Q E hr hsp => ?_
  obtain ⟨t, h, q⟩ := hbody cdv A outer s H vs Q E hr hsp
  exact ⟨t, h.nox, q⟩
/-- how its arguments bind (no defaults): h is «fun _ _ _ _ _ _ us hl => match us, hl with | [_, _], _ => rfl», one _ a parameter -/
theorem Fun.binds {x qual : Str} {st : Stmt} {f : Addr} {fd : FuncData} {ps : List Str} (F : Fun K x qual st f fd)
    (h : ∀ (kV doc pm : Value) (an : Option Addr) (cdv ct : Value) (us : List Value), us.length = ps.length → bindArgs (PySem.W.fnOf x qual (defArgs st) (defBody st) (defScope st) .none kV doc pm an cdv ct) ⟨us, []⟩ = pure (ps.zip us)) : Binds K fd ps [] := by
  obtain ⟨oc, od, kV, doc, pm, an, cdv, ct, osl, rfl, lk, hcd⟩ := F.ex
  exact .all (h kV doc pm an cdv ct)
theorem fun_mk {x qual : Str} {st : Stmt} {f : Addr} {oc : Value} {od an : Option Addr} {osl : Array (Option Value)} {kV doc pm cdv ct : Value} (l : K.lookup f = some ⟨oc, od, .func (PySem.W.fnOf x qual (defArgs st) (defBody st) (defScope st) .none kV doc pm an cdv ct), osl⟩)
    (c : PySem.W.codeIn K cdv qual = true) (k : PySem.W.keepIn K (.ref f) = true) : Fun K x qual st f (PySem.W.fnOf x qual (defArgs st) (defBody st) (defScope st) .none kV doc pm an cdv ct) := ⟨⟨oc, od, kV, doc, pm, an, cdv, ct, osl, rfl, l, c⟩, k⟩
end
/-! ### expressions in short: the name that stands in the i-th slot -/
section
variable {X : Cx}
theorem pv (i : Nat) {x : Str} {pos : Pos} (hN : X.N[i]? = some x := by rfl) (hv : Vis X.env.scope x := by first | exact Or.inl rfl | exact Or.inr (Or.inl rfl) | exact Or.inr (Or.inr rfl)) (hd : (x == ("__debug__" : Str)) = false := by decide)
    (hcd : (x == ("__classdict__" : Str)) = false := by decide) : PE X (.Name x pos) (tVar i) := pe_var hN hv hd hcd
end

/-! ### tests -/
theorem iteF {A B : Prop} (h : B) : if false = true then A else B := by
  rw [if_neg Bool.false_ne_true]
  exact h
theorem iteT {A B : Prop} (h : A) : if true = true then A else B := by
  rw [if_pos rfl]
  exact h
theorem ite2 {c A B : Prop} [Decidable c] (h1 : c → A) (h2 : ¬ c → B) : if c then A else B := by
  by_cases h : c
  · rw [if_pos h]
    exact h1 h
  · rw [if_neg h]
    exact h2 h
theorem iteNS {c A B : Prop} [Decidable c] (hc : c) (h : B) : if (!decide c) = true then A else B := by
  rw [decide_eq_true hc]
  exact iteF h

/-! ### heaps -/
/-- all that was tracked is as it was -/
def Same (H H' : Hp) : Prop := ∀ b o, H b = some o → H' b = some o
theorem Same.refl (H : Hp) : Same H H := fun _ _ h => h
theorem Same.trans {H H1 H2 : Hp} (a : Same H H1) (b : Same H1 H2) : Same H H2 := fun c o h => b c o (a c o h)
theorem Same.free {H H' : Hp} (e : Same H H') {l : Addr} (h : H' l = Option.none) : H l = Option.none := by
  cases q : H l with
  | none => rfl
  | some o =>
    rw [e l o q] at h
    cases h
theorem Same.seq {K : PySem.W.Frag} {H H' : Hp} {a : Addr} {xs : List V} (e : Same H H') (h : SqL K H a xs) : SqL K H' a xs := by
  rcases h with (h | ⟨o, h⟩) | h
  · exact .inl (.inl (e _ _ h))
  · exact .inl (.inr ⟨o, e _ _ h⟩)
  · exact .inr h

end L2

set_option Elab.async false
set_option linter.all false
set_option maxRecDepth 100000
namespace L2
open PySem PySem.Spec PyProof.Rows



end L2

namespace L2
open PySem PySem.Spec PyProof.Rows








section
variable (P : Program) (w : World)
end

section
variable {P : Program} {w : World} {H H' : Hp} {h h' : Heap} {a : Addr} {o : HO}
end

section
variable {P : Program} {w : World} {H : Hp} {h h' : Heap} {x e : Addr} {o' : HO}
end

section
variable {fs fs' ex ex' : List Addr} {H H1 H2 : Hp} {h h1 h2 h' : Heap} {a x e : Addr} {o : HO}
end


end L2

namespace L2
open PySem PySem.Spec PyProof.Rows






section
variable {X : Cx} {pins : List (Addr × Obj)} {σ : List (Option V)} {H H' : Hp} {s : Shared} {h' : Heap}





end



end L2

namespace L2
open PySem PySem.Spec PyProof.Rows
section
variable {X : Cx}




variable {a b : Expr} {ta tb : TE} {pos : Pos}


variable {tA tB' : TT} {rest : List Expr}
end
end L2

namespace L2
open PySem PySem.Spec PyProof.Rows

section
variable {X : Cx} {pins : List (Addr × Obj)} {σ : St} {H : Hp} {s : Shared} {a : Addr} {xs ys : List V}
end

section
variable {X : Cx} {pins : List (Addr × Obj)} {σ : St} {H : Hp} {s : Shared} {E : Value → Shared → Prop}
end

section
variable {X : Cx} {st : Stmt} {rest : List Stmt} {t u : TS} {e : Expr} {te : TE} {pos : Pos}
end

section
variable {X : Cx} {pos : Pos}
end

section
variable {X : Cx} {pos : Pos}
end



end L2

namespace L2
open PySem PySem.Spec PyProof.Rows
section
variable {X : Cx} {tg : Expr}

end

end L2

namespace L2
open PySem PySem.Spec PyProof.Rows



section
variable {X : Cx} {a b c : Expr} {ta tb tc : TE} {pos : Pos}








end



section
variable {X : Cx} {a b c : Expr} {ta tb tc : TE} {pos : Pos}









end
end L2

namespace L2
open PySem PySem.Spec PyProof.Rows




section
variable {prog : Program} {w : World} {A : Around} {E : Value → Shared → Prop} {s : Shared} {K : PySem.W.Frag} {x dx C f : Addr} {mA : Str → Option Value} {name : Str} {v : Value}





end



section
variable {P : Program} {w : World} {H H' : Hp} {h h' : Heap} {a C dx : Addr} {fs fs' : List (Str × V)}
end


section
variable {X : Cx} {pins : List (Addr × Obj)} {σ : St} {H : Hp} {s : Shared} {a C dx : Addr} {fs : List (Str × V)} {f : Str} {v : V} {A : Around} {E : Value → Shared → Prop}






end


section
variable {X : Cx} {o e value : Expr} {f : Str} {pos pos' tpos : Pos} {ta tv : TE}

end

section
variable {X : Cx} {pins : List (Addr × Obj)} {σ : St} {H : Hp} {s : Shared} {A : Around} {E : Value → Shared → Prop} {Q : Value → Shared → Prop} {c : Value} {b : Bool}
end
end L2

namespace L2
open PySem PySem.Spec PyProof.Rows


section
variable {X : Cx} {e : Expr} {es : List Expr} {te : TE} {t : TA} {pos : Pos}

end




section
variable {X : Cx} {pins : List (Addr × Obj)} {σ : St} {H : Hp} {s s' : Shared}
end




section
variable {X : Cx} {CX : CXT} {k : Nat} {f C : Addr} {fd : FuncData} {ps : List Str} {sp : Sp} {dvs : List V} {ds : List Value} {E : XK} {x m : Str} {p pos apos : Pos} {e o : Expr} {es : List Expr} {ta : TE} {t : TA}





end

section
variable {X : Cx} {CX : CXT} {k : Nat} {f C : Addr} {fd : FuncData} {ps ks : List Str} {sp : Sp} {E : XK} {x m : Str} {p pos apos kpos : Pos} {e o : Expr} {es : List Expr} {kws : List Keyword} {te ta : TE} {t tk : TA} {nm : Option Str}

variable {g : List Value → List Value → List Value} {gV : List V → List V → List V}
end







end L2

namespace L2
open PySem PySem.Spec PyProof.Rows
section
variable {X : Cx} {x : Str} {p pos : Pos} {e : Expr} {es : List Expr} {t : TA} {id T : String} {r : List V → Hp → VK → Prop}

end
end L2

namespace L2
open PySem PySem.Spec PyProof.Rows

section
variable {κ : Type} [DecidableEq κ]
def valV (kvs : List (κ × V)) (k : κ) : Option V := (kvs.find? fun kv => decide (kv.1 = k)).map (·.2)
/-- in its place, or at the end -/
def putK (kvs : List (κ × V)) (k : κ) (v : V) : List (κ × V) :=
  if (kvs.any fun kv => decide (kv.1 = k)) = true then kvs.map (fun kv => if kv.1 = k then (kv.1, v) else kv) else kvs ++ [(k, v)]
def dropK (kvs : List (κ × V)) (k : κ) : List (κ × V) := kvs.filter fun kv => decide (kv.1 ≠ k)

theorem valV_pos {p : κ × V} {r : List (κ × V)} {k : κ} (e : p.1 = k) : valV (p :: r) k = some p.2 := by simp [valV, List.find?_cons, e]
theorem valV_neg {p : κ × V} {r : List (κ × V)} {k : κ} (e : ¬ p.1 = k) : valV (p :: r) k = valV r k := by simp [valV, List.find?_cons, e]
theorem valV_any (k : κ) : ∀ kvs : List (κ × V), (kvs.any fun kv => decide (kv.1 = k)) = (valV kvs k).isSome
  | [] => rfl
  | p :: r => by
    rw [List.any_cons]
    by_cases e : p.1 = k
    · simp only [valV_pos e, decide_eq_true e, Bool.true_or, Option.isSome_some]
    · rw [valV_neg e, decide_eq_false e, Bool.false_or]; exact valV_any k r
theorem length_putK (kvs : List (κ × V)) (k : κ) (v : V) : (putK kvs k v).length ≤ kvs.length + 1 := by
  unfold putK
  split
  · rw [List.length_map]; omega
  · rw [List.length_append, List.length_cons, List.length_nil]; omega
theorem putK_new {kvs : List (κ × V)} {k : κ} (v : V) (h : valV kvs k = none) : putK kvs k v = kvs ++ [(k, v)] := by
  unfold putK
  rw [valV_any, h]
  exact if_neg (by decide)

theorem RelO.isSome_eq {o : Option V} {u : Option Value} (r : RelO o u) : o.isSome = u.isSome := by
  cases o with
  | none => cases u with
    | none => rfl
    | some _ => exact (show False from r).elim
  | some _ => cases u with
    | none => exact (show False from r).elim
    | some _ => rfl
theorem RelO.getD {o : Option V} {u : Option Value} {d : V} {d' : Value} (r : RelO o u) (rd : RelV d d') : RelV (o.getD d) (u.getD d') := by
  cases o with
  | none => cases u with
    | none => exact rd
    | some _ => exact (show False from r).elim
  | some _ => cases u with
    | none => exact (show False from r).elim
    | some _ => exact r

/-- raw tables of the same keys -/
theorem KV.val {kvs : List (κ × V)} {vs : List (κ × Value)} (r : KV kvs vs) (k : κ) : RelO (valV kvs k) (valueAt vs k) := by
  unfold KV at r
  induction r with
  | nil => exact True.intro
  | @cons p q ps qs h t ih =>
    obtain ⟨h1, h2⟩ := h
    by_cases e : p.1 = k
    · have e' : q.1 = k := h1.symm.trans e
      have b : valueAt (q :: qs) k = some q.2 := by simp [valueAt, List.find?_cons, e']
      rw [valV_pos e, b]; exact h2
    · have e' : ¬ q.1 = k := fun z => e (h1.trans z)
      have b : valueAt (q :: qs) k = valueAt qs k := by simp [valueAt, List.find?_cons, e']
      rw [valV_neg e, b]; exact ih
theorem KV.any {kvs : List (κ × V)} {vs : List (κ × Value)} (r : KV kvs vs) (k : κ) : (kvs.any fun kv => decide (kv.1 = k)) = vs.any fun kv => decide (kv.1 = k) := by
  unfold KV at r
  induction r with
  | nil => rfl
  | cons h t ih => rw [List.any_cons, List.any_cons, ih, h.1]
theorem KV.repl {kvs : List (κ × V)} {vs : List (κ × Value)} (r : KV kvs vs) (k : κ) {y : V} {u : Value} (ry : RelV y u) :
    KV (kvs.map fun kv => if kv.1 = k then (kv.1, y) else kv) (vs.map fun kv => if kv.1 = k then (kv.1, u) else kv) := by
  unfold KV at r ⊢
  induction r with
  | nil => exact .nil
  | @cons p q ps qs h t ih =>
    rw [List.map_cons, List.map_cons]
    refine .cons ?_ ih
    obtain ⟨h1, h2⟩ := h
    by_cases e : p.1 = k
    · rw [if_pos e, if_pos (h1.symm.trans e)]; exact ⟨h1, ry⟩
    · rw [if_neg e, if_neg (fun z => e (h1.trans z))]; exact ⟨h1, h2⟩
theorem KV.put {kvs : List (κ × V)} {vs : List (κ × Value)} (r : KV kvs vs) (k : κ) {y : V} {u : Value} (ry : RelV y u) : KV (putK kvs k y) (stored vs k u) := by
  unfold putK stored
  rw [r.any k]
  by_cases e : (vs.any fun kv => decide (kv.1 = k)) = true
  · rw [if_pos e, if_pos e]; exact r.repl k ry
  · rw [if_neg e, if_neg e]; exact Paired.snoc r ⟨rfl, ry⟩
theorem KV.drop {kvs : List (κ × V)} {vs : List (κ × Value)} (r : KV kvs vs) (k : κ) : KV (dropK kvs k) (without vs k) := by
  unfold KV at r ⊢
  unfold dropK without
  induction r with
  | nil => exact .nil
  | @cons p q ps qs h t ih =>
    obtain ⟨h1, h2⟩ := h
    rw [List.filter_cons, List.filter_cons]
    by_cases e : p.1 = k
    · have a : ¬ decide (p.1 ≠ k) = true := by simp [e]
      have b : ¬ decide (q.1 ≠ k) = true := by simp [h1.symm.trans e]
      rw [if_neg a, if_neg b]; exact ih
    · have e' : ¬ q.1 = k := fun z => e (h1.trans z)
      have a : decide (p.1 ≠ k) = true := by simp [e]
      have b : decide (q.1 ≠ k) = true := by simp [e']
      rw [if_pos a, if_pos b]; exact .cons ⟨h1, h2⟩ ih
theorem KV.keys {kvs : List (κ × V)} {vs : List (κ × Value)} (r : KV kvs vs) : kvs.map (·.1) = vs.map (·.1) := by
  unfold KV at r
  induction r with
  | nil => rfl
  | cons h t ih => rw [List.map_cons, List.map_cons, ih, h.1]
theorem KV.length {kvs : List (κ × V)} {vs : List (κ × Value)} (r : KV kvs vs) : kvs.length = vs.length := Paired.length r
end


theorem kV_is {P : Program} {w : World} {k : Key} {u : Value} (r : RelV (kV k) u) : (mixKind P w).is k u = true := by
  cases k with
  | inl i => obtain ⟨t, e⟩ := (show ∃ t, u = Value.int i t from r); subst e; exact mixKind_int P w i t
  | inr x => obtain ⟨t, e⟩ := (show ∃ t, u = Value.str x t from r); subst e; exact mixKind_str P w x t
theorem items_are {P : Program} {w : World} : ∀ {ks : List Key} {us : List Value}, Vals (ks.map kV) us → ItemsAre (mixKind P w) ks us
  | [], _, r => by rw [List.map_nil] at r; cases r; exact .nil
  | k :: ks, _, r => by
    rw [List.map_cons] at r
    cases r with
    | cons h t => exact .cons (kV_is h) (items_are t)

/-- raw entries of a dict with tuple keys -/
abbrev KT (H : Hp) : List (List Key × V) → List (List Key × Addr × Value) → Prop := Paired fun p q => p.1 = q.1 ∧ H q.2.1 = some (.tup (p.1.map kV)) ∧ RelV p.2 q.2.2
theorem KT.val {H : Hp} {kvs : List (List Key × V)} {xs : List (List Key × Addr × Value)} (r : KT H kvs xs) (k : List Key) : RelO (valV kvs k) ((atKey xs k).map (·.2)) := by
  induction r with
  | nil => exact True.intro
  | @cons p q ps qs h t ih =>
    obtain ⟨h1, _, h2⟩ := h
    by_cases e : p.1 = k
    · have e' : q.1 = k := h1.symm.trans e
      have b : atKey (q :: qs) k = some q.2 := by simp [atKey, List.find?_cons, e']
      rw [valV_pos e, b]; exact h2
    · have e' : ¬ q.1 = k := fun z => e (h1.trans z)
      have b : atKey (q :: qs) k = atKey qs k := by simp [atKey, List.find?_cons, e']
      rw [valV_neg e, b]; exact ih
theorem KT.repl {H : Hp} {kvs : List (List Key × V)} {xs : List (List Key × Addr × Value)} (r : KT H kvs xs) (k : List Key) {y : V} {u : Value} (ry : RelV y u) :
    KT H (kvs.map fun kv => if kv.1 = k then (kv.1, y) else kv) (xs.map (putAt k u)) := by
  induction r with
  | nil => exact .nil
  | @cons p q ps qs h t ih =>
    rw [List.map_cons, List.map_cons]
    refine .cons ?_ ih
    obtain ⟨h1, h2, h3⟩ := h
    unfold putAt
    by_cases e : p.1 = k
    · rw [if_pos e, if_pos (h1.symm.trans e)]; exact ⟨h1, h2, ry⟩
    · rw [if_neg e, if_neg (fun z => e (h1.trans z))]; exact ⟨h1, h2, h3⟩
theorem KT.put {H : Hp} {kvs : List (List Key × V)} {xs : List (List Key × Addr × Value)} (r : KT H kvs xs) (k : List Key) {b : Addr} {y : V} {u : Value} (hb : H b = some (.tup (k.map kV))) (ry : RelV y u) :
    KT H (putK kvs k y) (storedH xs k b u) := by
  have e : (kvs.any fun kv => decide (kv.1 = k)) = (atKey xs k).isSome := by
    rw [valV_any, (r.val k).isSome_eq, Option.isSome_map]
  unfold putK storedH
  rw [e]
  by_cases q : (atKey xs k).isSome = true
  · rw [if_pos q, if_pos q]; exact r.repl k ry
  · rw [if_neg q, if_neg q]; exact Paired.snoc r ⟨rfl, hb, ry⟩
theorem KT.keeps {H H' : Hp} {kvs : List (List Key × V)} {xs : List (List Key × Addr × Value)} (r : KT H kvs xs) (ht : ∀ b ys, H b = some (.tup ys) → H' b = some (.tup ys)) : KT H' kvs xs :=
  Paired.mapP r fun _ _ z => ⟨z.1, ht _ _ z.2.1, z.2.2⟩

section
variable {P : Program} {w : World} {H : Hp} {h : Heap} {a : Addr}
theorem rd_of {u : HO} (ok : HOk P w H h) (e : Rd H a u) : ObjOk P w H h a u := e.ok ok
theorem dk_rd {kvs : List (Key × V)} (ok : HOk P w H h) (e : Rd H a (.dK kvs)) : kvs.length ≤ sizeLine ∧ (a == sysModules) = false ∧ ∃ vs, KV kvs vs ∧ h.DictOf (mixKind P w) a vs :=
  show ObjOk P w H h a (.dK kvs) from rd_of ok e
theorem dk_of {kvs : List (Key × V)} (ok : HOk P w H h) (e : H a = some (.dK kvs)) : kvs.length ≤ sizeLine ∧ (a == sysModules) = false ∧ ∃ vs, KV kvs vs ∧ h.DictOf (mixKind P w) a vs := dk_rd ok (.inl e)
/-- a tracked tuple of ints and texts is a key -/
theorem key_of {ks : List Key} (ok : HOk P w H h) (e : H a = some (.tup (ks.map kV))) : (tupleKind (mixKind P w)).is h ks a := by
  obtain ⟨_, its, r, o, h1, h2, n, h3⟩ := (show ObjOk P w H h a (.tup (ks.map kV)) from ok a _ e)
  exact ⟨o, its.toArray, n, h1, h2, h3, by simpa using items_are r⟩
theorem dt_rd {kvs : List (List Key × V)} (ok : HOk P w H h) (e : Rd H a (.dT kvs)) : kvs.length ≤ sizeLine ∧ (a == sysModules) = false ∧
    ∃ xs, KT H kvs xs ∧ h.DictOfH (tupleKind (mixKind P w)) a xs := by
  obtain ⟨z, y, xs, r, o, es, ep, h1, h2, h3, h4, h5⟩ := (show ObjOk P w H h a (.dT kvs) from rd_of ok e)
  refine ⟨z, y, xs, r, o, es, ep, h1, h2, h3, h4, fun x hx => ?_, h5⟩
  have all : ∀ {l : List (List Key × V)} {m : List (List Key × Addr × Value)}, KT H l m → ∀ x ∈ m, (tupleKind (mixKind P w)).is h x.1 x.2.1 := by
    intro l m q
    induction q with
    | nil => intro x hx; exact nomatch hx
    | @cons p q ps qs hq t ih =>
      intro x hx
      rcases List.mem_cons.mp hx with e | hx
      · subst e
        exact key_of ok (by rw [← hq.1]; exact hq.2.1)
      · exact ih x hx
  exact all r x hx
theorem dt_of {kvs : List (List Key × V)} (ok : HOk P w H h) (e : H a = some (.dT kvs)) : kvs.length ≤ sizeLine ∧ (a == sysModules) = false ∧
    ∃ xs, KT H kvs xs ∧ h.DictOfH (tupleKind (mixKind P w)) a xs := dt_rd ok (.inl e)
end

/-- what the dict at a holds at the key y -/
def DGet (H : Hp) (a : Addr) (y : V) (r : Option V) : Prop :=
  (∃ kvs k, Rd H a (.dK kvs) ∧ y = kV k ∧ r = valV kvs k) ∨ ∃ kvs k b, Rd H a (.dT kvs) ∧ y = .ref b ∧ H b = some (.tup (k.map kV)) ∧ r = valV kvs k
/-- the heap behind a[y] = v -/
def DPut (H : Hp) (a : Addr) (y v : V) (H' : Hp) : Prop :=
  (∃ kvs k, H a = some (.dK kvs) ∧ y = kV k ∧ kvs.length < sizeLine ∧ H' = upd H a (.dK (putK kvs k v))) ∨
  ∃ kvs k b, H a = some (.dT kvs) ∧ y = .ref b ∧ H b = some (.tup (k.map kV)) ∧ kvs.length < sizeLine ∧ H' = upd H a (.dT (putK kvs k v))
theorem DGet.k {H : Hp} {a : Addr} {kvs : List (Key × V)} {k : Key} (e : H a = some (.dK kvs)) : DGet H a (kV k) (valV kvs k) := .inl ⟨kvs, k, .inl e, rfl, rfl⟩
theorem DGet.t {H : Hp} {a b : Addr} {kvs : List (List Key × V)} {k : List Key} (e : H a = some (.dT kvs)) (eb : H b = some (.tup (k.map kV))) : DGet H a (.ref b) (valV kvs k) := .inr ⟨kvs, k, b, .inl e, rfl, eb, rfl⟩
theorem DPut.k {H : Hp} {a : Addr} {kvs : List (Key × V)} {k : Key} {v : V} (e : H a = some (.dK kvs)) (hl : kvs.length < sizeLine) : DPut H a (kV k) v (upd H a (.dK (putK kvs k v))) := .inl ⟨kvs, k, e, rfl, hl, rfl⟩
theorem DPut.t {H : Hp} {a b : Addr} {kvs : List (List Key × V)} {k : List Key} {v : V} (e : H a = some (.dT kvs)) (eb : H b = some (.tup (k.map kV))) (hl : kvs.length < sizeLine) :
    DPut H a (.ref b) v (upd H a (.dT (putK kvs k v))) := .inr ⟨kvs, k, b, e, rfl, eb, hl, rfl⟩


section
variable {X : Cx} {pins : List (Addr × Obj)} {σ : St} {H : Hp} {s : Shared} {a : Addr} {y v : V} {u r : Value} {o : Option V} {A : Around} {E : Value → Shared → Prop}

theorem Inv.big (I : Inv X pins σ H s) : sysModules < s.heap.objs.size := by
  have h : mainGlobals < s.heap.objs.size := (I.mod.glob.keeps I.bk).lt
  exact Nat.lt_trans (by decide) h

theorem d_notIn {Q : Value → Shared → Prop} (hu : A.units + 1 < cLine) (I : Inv X pins σ H s) (g : DGet H a y o) (ry : RelV y u) (h : ∀ s', Inv X pins σ H s' → Q (.bool (!o.isSome)) s') :
    wpAny (model X.prog X.w) A (compareOp .NotIn u (.ref a)) Q E s := by
  rcases g with ⟨kvs, k, e, ey, l⟩ | ⟨kvs, k, b, e, ey, eb, l⟩
  · subst ey
    obtain ⟨z, hd, vs, rel, dd⟩ := dk_rd I.hok e
    refine wpAny_notIn_of (kV_is ry) hd dd.mapOf ?_
    rw [← (rel.val k).isSome_eq, ← l]
    exact h _ (I.tok _)
  · subst ey
    cases (show u = Value.ref b from ry)
    obtain ⟨z, hd, xs, rel, dd⟩ := dt_rd I.hok e
    refine wpAny_notIn_heap (tupleKind_room_in1 hu) (key_of I.hok eb) hd dd ?_
    have q := (rel.val k).isSome_eq
    rw [Option.isSome_map] at q
    rw [← q, ← l]
    exact h _ (I.tok _)
/-- a dict's object is replaced -/
theorem d_write {h' : Heap} {t' : Nat} {ob : HO} (I : Inv X pins σ H s) (mu : Mut (H a)) (hs : Heap.SameBut a s.heap h') (he : ∃ q, h'.get? a = some q) (new : ObjOk X.prog X.w (upd H a ob) h' a ob) :
    Inv X pins σ (upd H a ob) { s with heap := h', toks := t' } :=
  I.write (x := a) (e := a) mu (.inl rfl) (fun b q hb z => (hs.2 b hb).trans z) he new
theorem dk_new {P : Program} {w : World} {H' : Hp} {h' : Heap} {kvs : List (Key × V)} {vs : List (Key × Value)} (z : kvs.length ≤ sizeLine) (hd : (a == sysModules) = false) (rel : KV kvs vs) (dd : h'.DictOf (mixKind P w) a vs) :
    ObjOk P w H' h' a (.dK kvs) := ⟨z, hd, vs, rel, dd⟩
/-- d[y] = v -/
theorem d_setItem {H' : Hp} {Q : Unit → Shared → Prop} (hu : A.units + 1 < cLine) (I : Inv X pins σ H s) (g : DPut H a y v H') (ry : RelV y u) (rv : RelV v r) (h : ∀ s', Inv X pins σ H' s' → Q () s') :
    wpAny (model X.prog X.w) A (setItem (.ref a) u r) Q E s := by
  rcases g with ⟨kvs, k, e, ey, l, eH⟩ | ⟨kvs, k, b, e, ey, eb, l, eH⟩
  · subst ey eH
    obtain ⟨z, hd, vs, rel, dd⟩ := dk_of I.hok e
    have hz : vs.length ≤ sizeLine := by rw [← rel.length]; exact z
    have hl : (putK kvs k v).length ≤ sizeLine := by have := length_putK kvs k v; omega
    refine wpAny_setItem_pairs (hsz := hz) (kV_is ry) dd fun h' dd' hs => h _ ?_
    have he : ∃ q, h'.get? a = some q := let ⟨q, _, _, hq, _⟩ := dd'; ⟨q, hq⟩
    exact d_write I (by rw [e]; exact True.intro) hs he (dk_new hl hd (rel.put k rv) dd')
  · subst ey eH
    cases (show u = Value.ref b from ry)
    obtain ⟨z, hd, xs, rel, dd⟩ := dt_of I.hok e
    have hz : xs.length ≤ sizeLine := by rw [← Paired.length rel]; exact z
    have hl : (putK kvs k v).length ≤ sizeLine := by have := length_putK kvs k v; omega
    refine wpAny_setItem_heap (hsz := hz) (tupleKind_room_in1 hu) (key_of I.hok eb) dd fun h' dd' hs => h _ ?_
    obtain ⟨q, es, ep, hq, h2, h3, h4, _, h5⟩ := dd'
    refine d_write I (by rw [e]; exact True.intro) hs ⟨q, hq⟩ ⟨hl, hd, _, (rel.put k eb rv).keeps fun c ys ec => ?_, q, es, ep, hq, h2, h3, h4, h5⟩
    rw [upd_ne (ne_of ec e (fun z => nomatch z))]
    exact ec
end

section
variable {X : Cx} {pins : List (Addr × Obj)} {σ : St} {H : Hp} {s : Shared} {a : Addr} {kvs : List (Key × V)} {k : Key} {u : Value} {A : Around} {E : Value → Shared → Prop}
end


def tDNotIn (ty td : TE) : TE := fun σ H Q => ty σ H fun y H1 => td σ H1 fun x H2 => ∃ a o, x = .ref a ∧ DGet H2 a y o ∧ Q (.bl (!o.isSome)) H2
/-- d[y] = v -/
def sDPut (td ty tv : TE) : TS := fun D σ H => tv σ H fun v H1 => td σ H1 fun x H2 => ty σ H2 fun y H3 => ∃ a H4, x = .ref a ∧ DPut H3 a y v H4 ∧ D.nx σ H4
section
variable {X : Cx} {o i e value : Expr} {pos pos' tpos : Pos} {td ty tv : TE}
theorem pc_dnotin (hu : X.A.units + 1 < cLine) (hi : PE X i ty) (ho : PE X o td) : PC X .NotIn i o (tDNotIn ty td) := by
  intro pins s σ H Q I h
  refine thn (hi pins s σ H _ I h) fun iv s1 ⟨y, H1, I1, ry, q1⟩ => thn (ho pins s1 σ H1 _ I1 q1) fun u s2 ⟨x, H2, I2, rx, a, ov, ex, g, q2⟩ => ?_
  subst ex
  obtain rfl : u = Value.ref a := rx
  exact d_notIn hu I2 g ry fun s3 I3 => ⟨.bl (!ov.isSome), H2, I3, rfl, q2⟩
theorem ps_dput (hu : X.A.units + 1 < cLine) (ho : PE X o td) (hi : PE X i ty) (hv : PE X value tv) (hs : swapsWith value (some (.Subscript o i pos')) pos.line X.env = pure false) :
    PS X (.Assign [.Subscript o i pos'] value pos) (sDPut td ty tv) := by
  intro pins s σ H D I h
  refine wpAny_Assign_Subscript (thn (hv pins s σ H _ I h) fun r s1 ⟨v, H1, I1, rv, q1⟩ => thn (ho pins s1 σ H1 _ I1 q1) fun u s2 ⟨x, H2, I2, rx, q2⟩ => thn (hi pins s2 σ H2 _ I2 q2) fun iv s3 ⟨y, H3, I3, ry, a, H4, ex, g, q3⟩ => ?_) hs
  subst ex
  obtain rfl : u = Value.ref a := rx
  exact d_setItem hu I3 g ry rv fun s4 I4 => ⟨σ, H4, I4, q3⟩
end


theorem dk_empty {P : Program} {w : World} {H : Hp} (h : Heap) (hb : sysModules < h.objs.size) : ObjOk P w H (h.push { cls := .type "dict", data := .dict #[] }) h.objs.size (.dK []) :=
  ⟨Nat.zero_le _, beq_eq_false_iff_ne.mpr (Ne.symm (Nat.ne_of_lt hb)), [], .nil, Heap.DictOf.new h⟩
section
variable {X : Cx} {pos : Pos}
end

/-- the pairs of a display, from the left -/
def tPairs : List (TE × TE) → St → Hp → (List (V × V) → Hp → Prop) → Prop
  | [], _, H, Q => Q [] H
  | (tk, tv) :: r, σ, H, Q => tk σ H fun x H1 => tv σ H1 fun y H2 => tPairs r σ H2 fun ps H3 => Q ((x, y) :: ps) H3
abbrev VV : List (V × V) → List (Value × Value) → Prop := Paired fun p q => RelV p.1 q.1 ∧ RelV p.2 q.2
def PPs (X : Cx) (pos : Pos) (keys : List (Option Expr)) (values : List Expr) (trs : List (TE × TE)) : Prop :=
  ∀ (pins : List (Addr × Obj)) (s : Shared) (σ : St) (H : Hp) (Q : List (V × V) → Hp → Prop), Inv X pins σ H s → tPairs trs σ H Q →
    wpAny (model X.prog X.w) X.A (evalPairs (pairTrees keys values X.env pos)) (fun vs s' => ∃ ps H', Inv X pins σ H' s' ∧ VV ps vs ∧ Q ps H') X.xe s
theorem pps_nil {X : Cx} {pos : Pos} : PPs X pos [] [] [] := fun pins s σ H Q I h => pairTrees_nil_walk ⟨[], H, I, .nil, h⟩
theorem pps_cons {X : Cx} {pos : Pos} {k v : Expr} {ks : List (Option Expr)} {vs : List Expr} {tk tv : TE} {trs : List (TE × TE)} (hk : PE X k tk) (hv : PE X v tv) (hr : PPs X pos ks vs trs) :
    PPs X pos (some k :: ks) (v :: vs) ((tk, tv) :: trs) := fun pins s σ H Q I h =>
  pairTrees_cons_walk (thn (hk pins s σ H _ I h) fun u s1 ⟨x, H1, I1, rx, q1⟩ => thn (hv pins s1 σ H1 _ I1 q1) fun w2 s2 ⟨y, H2, I2, ry, q2⟩ =>
    thn (hr pins s2 σ H2 _ I2 q2) fun ws s3 ⟨ps, H3, I3, rel, q3⟩ => ⟨(x, y) :: ps, H3, I3, .cons ⟨rx, ry⟩ rel, q3⟩)

def mergeK (kvs more : List (Key × V)) : List (Key × V) := more.foldl (fun acc kv => putK acc kv.1 kv.2) kvs
theorem KV.merge : ∀ {more : List (Key × V)} {rs : List (Key × Value)} {kvs : List (Key × V)} {vs : List (Key × Value)}, KV more rs → KV kvs vs → KV (mergeK kvs more) (merged vs rs) := by
  intro more rs kvs vs r
  unfold KV at r
  induction r generalizing kvs vs with
  | nil => intro q; exact q
  | @cons p q ps qs h t ih =>
    intro r0
    have e : KV (putK kvs p.1 p.2) (stored vs q.1 q.2) := by
      have := r0.put p.1 h.2
      rw [← h.1]; exact this
    exact ih e
theorem length_mergeK : ∀ (more kvs : List (Key × V)), (mergeK kvs more).length ≤ kvs.length + more.length
  | [], kvs => by show kvs.length ≤ kvs.length + 0; omega
  | p :: r, kvs => by
    have h1 := length_mergeK r (putK kvs p.1 p.2)
    have h2 := length_putK kvs p.1 p.2
    show (mergeK (putK kvs p.1 p.2) r).length ≤ _
    rw [List.length_cons]; omega
theorem carries_of {P : Program} {w : World} : ∀ {kvs : List (Key × V)} {ws : List (Value × Value)}, VV (kvs.map fun kv => (kV kv.1, kv.2)) ws → ∃ rs, Carries (mixKind P w) ws rs ∧ KV kvs rs
  | [], _, r => by rw [List.map_nil] at r; cases r; exact ⟨[], True.intro, .nil⟩
  | p :: kvs, _, r => by
    rw [List.map_cons] at r
    cases r with
    | @cons a b as bs h t =>
      obtain ⟨rs, c, q⟩ := carries_of (P := P) (w := w) t
      obtain ⟨b1, b2⟩ := b
      exact ⟨(p.1, b2) :: rs, ⟨kV_is h.1, rfl, c⟩, .cons ⟨rfl, h.2⟩ q⟩
/-- {k: v, ..} with keys ints and texts; the new dict stands empty while the pairs are made -/
def tDisp (trs : List (TE × TE)) : TE := fun σ H Q => ∀ p, H p = none → tPairs trs σ (upd H p (.dK [])) fun ps H2 => H2 p = some (.dK []) ∧ ∃ kvs : List (Key × V), ps = kvs.map (fun kv => (kV kv.1, kv.2)) ∧ kvs.length ≤ 15 ∧ Q (.ref p) (upd H2 p (.dK (mergeK [] kvs)))
theorem pe_disp {X : Cx} {pos : Pos} {keys : List (Option Expr)} {values : List Expr} {trs : List (TE × TE)} (h : PPs X pos keys values trs) (hall : keys.all (·.isSome) = true) (hl : keys.length = values.length) (h0 : keys ≠ [])
    (h15 : keys.length ≤ 15) : PE X (.Dict keys values pos) (tDisp trs) := by
  intro pins s σ H Q I q
  have hn := I.hok.fresh (Nat.le_refl s.heap.objs.size)
  have I1 := I.laid (a := s.heap.objs.size) (o := .dK []) (h' := s.heap.push { cls := .type "dict", data := .dict #[] }) (t' := s.toks) (fun _ _ q => Heap.get?_push_of_some _ q) (Nat.le_refl _) (dk_empty s.heap I.big)
  refine wpAny_Dict_walk (knd := mixKind X.prog X.w) hall hl h0 h15 (thn (h pins _ σ _ _ I1 (q _ hn)) fun ws s2 ⟨ps, H2, I2, rel, e, kvs, ep, lk, q2⟩ => ?_)
  subst ep
  obtain ⟨rs, c, rk⟩ := carries_of (P := X.prog) (w := X.w) rel
  obtain ⟨z, hd, vs0, r0, dd⟩ := dk_of I2.hok e
  cases r0
  refine ⟨rs, c, dd, fun h' dd' hs => ⟨.ref s.heap.objs.size, _, ?_, rfl, q2⟩⟩
  have hz : (mergeK [] kvs).length ≤ sizeLine := by
    have h1 := length_mergeK kvs []
    rw [List.length_nil] at h1
    rw [sizeLine_eq]; omega
  have he : ∃ q, h'.get? s.heap.objs.size = some q := let ⟨q, _, _, hq, _⟩ := dd'; ⟨q, hq⟩
  exact d_write I2 (by rw [e]; exact True.intro) hs he (dk_new hz hd (rk.merge .nil) dd')


/-- a method call o.m(e) of a built-in, with one argument: what must be seen of the text -/
structure M1 (X : Cx) (o : Expr) (m : Str) (apos : Pos) (e : Expr) (cpos : Pos) : Prop where
  base : attributeBase o m X.env (eval o X.env) = eval o X.env
  few : ((backTo cpos (starEach [e] X.env)).all (fun x => !x.1) && (backToKw cpos (keywordEach [] X.env)).all (fun x => x.1.isSome)
    && decide (([e] : List Expr).length + ([] : List Keyword).length + (if ([] : List Keyword).isEmpty then 0 else 1) < 30)) = true
  line : (apos.endLine == cpos.line) = true
  trees : backTo cpos (starEach [e] X.env) = [(false, eval e X.env)]
structure M2 (X : Cx) (o : Expr) (m : Str) (apos : Pos) (e f : Expr) (cpos : Pos) : Prop where
  base : attributeBase o m X.env (eval o X.env) = eval o X.env
  few : ((backTo cpos (starEach [e, f] X.env)).all (fun x => !x.1) && (backToKw cpos (keywordEach [] X.env)).all (fun x => x.1.isSome)
    && decide (([e, f] : List Expr).length + ([] : List Keyword).length + (if ([] : List Keyword).isEmpty then 0 else 1) < 30)) = true
  line : (apos.endLine == cpos.line) = true
  trees : backTo cpos (starEach [e, f] X.env) = [(false, eval e X.env), (false, eval f X.env)]

section
variable {X : Cx} {pins : List (Addr × Obj)} {σ : St} {H : Hp} {s : Shared} {a : Addr} {y d : V} {u r : Value} {o : Option V} {A : Around} {E : Value → Shared → Prop}
end

section
variable {X : Cx} {o e f : Expr} {apos cpos : Pos} {td ty tx : TE}
end

section
variable {X : Cx} {pins : List (Addr × Obj)} {σ : St} {H : Hp} {s : Shared} {a : Addr} {kvs : List (Key × V)} {A : Around} {E : Value → Shared → Prop}
end


section
variable {X : Cx} {pins : List (Addr × Obj)} {σ : St} {H : Hp} {s : Shared} {a : Addr} {y : V} {u : Value} {A : Around} {E : Value → Shared → Prop}
end
end L2

namespace Att
open PySem PySem.W PySem.Calls PyProof.Rows







section
variable {prog : Program} {w : World} {A : Around} {E : Value → Shared → Prop} {s : Shared} {K : Frag}






end
end Att

namespace L2
open PySem PySem.Spec PyProof.Rows



end L2

namespace L2
open PySem PySem.Spec PyProof.Rows


end L2


namespace L2
open PySem PySem.Spec PyProof.Rows



section
variable {P : Program} {w : World} {K : PySem.W.Frag} {mg : Str → Option Value} {base : Heap}
end

section
variable {X : Cx}
end



section
variable {κ : Type} [DecidableEq κ]
theorem valV_not {kvs : List (κ × V)} {k : κ} (h : valV kvs k = none) : ¬ k ∈ kvs.map (·.1) := by
  intro m
  obtain ⟨p, hp, e⟩ := List.mem_map.mp m
  have q : (kvs.any fun kv => decide (kv.1 = k)) = true := List.any_eq_true.mpr ⟨p, hp, decide_eq_true e⟩
  rw [valV_any, h] at q
  exact absurd q (by simp)
theorem valV_in {kvs : List (κ × V)} {k : κ} {v : V} (h : valV kvs k = some v) : k ∈ kvs.map (·.1) := by
  have q : (kvs.any fun kv => decide (kv.1 = k)) = true := by
    rw [valV_any, h]
    all_goals rfl
  obtain ⟨p, hp, e⟩ := List.any_eq_true.mp q
  exact List.mem_map.mpr ⟨p, hp, of_decide_eq_true e⟩
theorem nd_snoc : ∀ {l : List κ} {k : κ}, l.Nodup → ¬ k ∈ l → (l ++ [k]).Nodup
  | [], k, _, _ => by simp
  | a :: r, k, h, hk => by
    obtain ⟨h1, h2⟩ := List.nodup_cons.mp h
    show (a :: (r ++ [k])).Nodup
    refine List.nodup_cons.mpr ⟨fun m => ?_, nd_snoc h2 fun m => hk (List.mem_cons.mpr (Or.inr m))⟩
    rcases List.mem_append.mp m with q | q
    · exact h1 q
    · exact hk (List.mem_cons.mpr (Or.inl (List.mem_singleton.mp q).symm))
end
end L2


namespace Tim
open PySem PyProof.Rows
set_option autoImplicit false
set_option linter.all false

/-! ### the order, and what a comparison gives -/
structure Ord (B : Keyed → Keyed → Bool) : Prop where
  irr : ∀ x, B x x = false
  tr : ∀ x y z, B x y = true → B y z = true → B x z = true
  ng : ∀ x y z, B x z = true → B x y = true ∨ B y z = true
def le (B : Keyed → Keyed → Bool) (x y : Keyed) : Prop := B y x = false
theorem Ord.rf {B : Keyed → Keyed → Bool} (o : Ord B) (x : Keyed) : le B x x := o.irr x
theorem Ord.trans {B : Keyed → Keyed → Bool} (o : Ord B) {x y z : Keyed} (h1 : le B x y) (h2 : le B y z) : le B x z := by
  unfold le at *
  cases e : B z x with
  | false => rfl
  | true =>
    rcases o.ng _ y _ e with h | h
    · rw [h2] at h; cases h
    · rw [h1] at h; cases h
section
variable {prog : Program} {w : World} {A : Around} {E : Value → Shared → Prop} {s : Shared} {κ : SortKind} {S : Keyed → Prop} {B : Keyed → Keyed → Bool}

/-- comparisons of what is sorted come out as B says, and touch nothing -/
def Cmp (prog : Program) (w : World) (A : Around) (E : Value → Shared → Prop) (s : Shared) (κ : SortKind) (S : Keyed → Prop) (B : Keyed → Keyed → Bool) : Prop :=
  ∀ (x y : Keyed), S x → S y → ∀ (Q : Bool → Shared → Prop), Q (B x y) s → wpAny (model prog w) A (keyLt' κ x.1 y.1) Q (fun _ _ => False) s

theorem wpS_lt (C : Cmp prog w A E s κ S B) {x y : Keyed} {st : SortSt} {Q : Option Bool → SortSt → Prop} (hk : kindOf st = κ) (hx : S x) (hy : S y) (h : Q (some (B x y)) st) : wpS (model prog w) A E s (lt' x y) Q st := by
  rw [lt'_eq]
  refine wpS_bind (wpS_get ?_)
  rw [hk]
  refine wpS_bind (wpS_lift (wpAny_attempt ?_))
  refine wpAny_mono (C x y hx hy (fun b s' => s' = s ∧ b = B x y) ⟨rfl, rfl⟩) (fun b s' hb => ?_) (fun _ _ f => f.elim)
  obtain ⟨rfl, rfl⟩ := hb
  exact ⟨rfl, wpS_pure h⟩
theorem wpS_elem {arr : Array Keyed} {i : Nat} {x : Keyed} {st : SortSt} {Q : Keyed → SortSt → Prop} (hi : arr[i]? = some x) (h : Q x st) : wpS (model prog w) A E s (elem' arr i) Q st := by
  rw [elem'_eq, hi]
  exact wpS_pure h
theorem wpS_ltAt' (C : Cmp prog w A E s κ S B) {i j : Nat} {x y : Keyed} {st : SortSt} {Q : Option Bool → SortSt → Prop} (hk : kindOf st = κ) (hi : (arrOf st)[i]? = some x) (hj : (arrOf st)[j]? = some y) (hx : S x) (hy : S y) (h : Q (some (B x y)) st) :
    wpS (model prog w) A E s (ltAt' i j) Q st := by
  rw [ltAt'_eq]
  refine wpS_bind (wpS_get ?_)
  show wpS _ _ _ _ (do let x ← elem' (arrOf st) i; let y ← elem' (arrOf st) j; lt' x y) Q st
  exact wpS_bind (wpS_elem hi (wpS_bind (wpS_elem hj (wpS_lt C hk hx hy h))))
theorem wpS_rule {n : String} {st : SortSt} {Q : Unit → SortSt → Prop} (h : Q () st) : wpS (model prog w) A E s (liftM (rule n) : StateT SortSt Sem Unit) Q st := wpS_lift (wpAny_rule ⟨rfl, h⟩)

end
end Tim

namespace Tim
open PySem PyProof.Rows
set_option autoImplicit false
set_option linter.all false

/-! ### two lists become one -/
structure MI (R : Keyed → Keyed → Prop) (out ra rb all : List Keyed) : Prop where
  so : out.Pairwise R
  oa : ∀ x ∈ out, ∀ y ∈ ra, R x y
  ob : ∀ x ∈ out, ∀ y ∈ rb, R x y
  sa : ra.Pairwise R
  sb : rb.Pairwise R
  pm : (out ++ (ra ++ rb)).Perm all
/-- of the sort's state all but the gallop's measure is as it was -/
structure Sm (st st' : SortSt) : Prop where
  k : kindOf st' = kindOf st
  a : arrOf st' = arrOf st
  p : pendingOf st' = pendingOf st
  f : failedOf st' = failedOf st
theorem Sm.mg {st st' : SortSt} (h : Sm st st') (g : Nat) : Sm st (SortSt.mk' (kindOf st') (arrOf st') (pendingOf st') g (failedOf st')) := ⟨h.k, h.a, h.p, h.f⟩

section
variable {prog : Program} {w : World} {A : Around} {E : Value → Shared → Prop} {s : Shared} {κ : SortKind} {S : Keyed → Prop} {B : Keyed → Keyed → Bool}

/-- between two turns of mergeLo -/
structure LoI (B : Keyed → Keyed → Bool) (a b out : Array Keyed) (ia ib : Nat) : Prop where
  m : MI (le B) out.toList (a.toList.drop ia) (b.toList.drop ib) (a.toList ++ b.toList)
  ha : ia + 1 < a.size
  hb : ib < b.size
  sz : out.size = ia + ib
def Good (B : Keyed → Keyed → Bool) (a b r : Array Keyed) : Prop := r.toList.Pairwise (le B) ∧ r.toList.Perm (a.toList ++ b.toList)

end
end Tim

namespace Tim
open PySem PyProof.Rows
set_option autoImplicit false
set_option linter.all false

section
variable {prog : Program} {w : World} {A : Around} {E : Value → Shared → Prop} {s : Shared} {κ : SortKind} {S : Keyed → Prop} {B : Keyed → Keyed → Bool}

abbrev HM (B : Keyed → Keyed → Bool) (a b out : Array Keyed) (na nb : Nat) : Prop := MI (fun x y => le B y x) out.toList (a.toList.take na).reverse (b.toList.take nb).reverse (a.toList ++ b.toList)
/-- between two turns of mergeHi -/
structure HiI (B : Keyed → Keyed → Bool) (a b out : Array Keyed) (na nb : Nat) : Prop where
  m : HM B a b out na nb
  ha : 0 < na
  ha' : na ≤ a.size
  hb : 1 < nb
  hb' : nb ≤ b.size
  sz : out.size + na + nb = a.size + b.size

end
end Tim

namespace Tim
open PySem PyProof.Rows
set_option autoImplicit false
set_option linter.all false

/-! ### keys by a function -/
def KF {O : KeyOrd} (f : Keyed → O.α) (d : O.α) (xs : Array Keyed) (i : Nat) : O.α := match xs[i]? with
  | some p => f p
  | none => d
def Bf {O : KeyOrd} (f : Keyed → O.α) (x y : Keyed) : Bool := O.blt (f x) (f y)
section
variable {O : KeyOrd} {f : Keyed → O.α} {d : O.α}
theorem KF_congr {xs ys : Array Keyed} {i j : Nat} (h : xs[i]? = ys[j]?) : KF f d xs i = KF f d ys j := by unfold KF; rw [h]
theorem KF_some {xs : Array Keyed} {i : Nat} {x : Keyed} (h : xs[i]? = some x) : KF f d xs i = f x := by unfold KF; rw [h]
theorem KF_bubble {xs : Array Keyed} {src dd : Nat} (hs : src < xs.size) (hd : dd ≤ src) (k : Nat) :
    KF f d (bubble xs src dd) k = if k = src - dd then KF f d xs src else if src - dd < k ∧ k ≤ src then KF f d xs (k - 1) else KF f d xs k := by
  have e := getElem?_bubble hs dd hd k
  repeat' split at e
  all_goals first
    | (rw [if_pos (by assumption)]; exact KF_congr e)
    | (rw [if_neg (by assumption), if_pos (by assumption)]; exact KF_congr e)
    | (rw [if_neg (by assumption), if_neg (by assumption)]; exact KF_congr e)
theorem KF_mirror {xs : Array Keyed} {i j : Nat} (hj : j ≤ xs.size) (k : Nat) : KF f d (mirror xs i j ((j - i) / 2)) k = if i ≤ k ∧ k < j then KF f d xs (i + j - 1 - k) else KF f d xs k := by
  have e := getElem?_mirror_all (i := i) hj k
  split at e
  · rw [if_pos (by assumption)]; exact KF_congr e
  · rw [if_neg (by assumption)]; exact KF_congr e
theorem KF_mirror_equal {xs : Array Keyed} {i j : Nat} (hj : j ≤ xs.size) (heq : ∀ k, i ≤ k → k < j → KF f d xs k = KF f d xs (j - 1)) (k : Nat) : KF f d (mirror xs i j ((j - i) / 2)) k = KF f d xs k := by
  rw [KF_mirror hj]
  split
  · rw [heq _ (by omega) (by omega), heq k (by omega) (by omega)]
  · rfl
end
def SortedF {O : KeyOrd} (f : Keyed → O.α) (d : O.α) (lo : Nat) (xs : Array Keyed) (k : Nat) : Prop := ∀ i j, i ≤ j → j < k → O.kle (KF f d xs (lo + i)) (KF f d xs (lo + j))
def NonIncF {O : KeyOrd} (f : Keyed → O.α) (d : O.α) (lo : Nat) (xs : Array Keyed) (k : Nat) : Prop := ∀ i j, i ≤ j → j < k → O.kle (KF f d xs (lo + j)) (KF f d xs (lo + i))
/-- ahead of lo nothing is touched -/
def Pre (lo : Nat) (xs ys : Array Keyed) : Prop := ∀ k, k < lo → ys[k]? = xs[k]?
theorem Pre.rf (lo : Nat) (xs : Array Keyed) : Pre lo xs xs := fun _ _ => rfl
theorem Pre.trans {lo : Nat} {xs ys zs : Array Keyed} (a : Pre lo xs ys) (b : Pre lo ys zs) : Pre lo xs zs := fun k hk => (b k hk).trans (a k hk)
theorem Pre.mirror {lo i j : Nat} {xs : Array Keyed} (hj : j ≤ xs.size) (hi : lo ≤ i) : Pre lo xs (mirror xs i j ((j - i) / 2)) := fun k hk => by
  rw [getElem?_mirror_all hj, if_neg (by omega)]
theorem Pre.bubble {lo src dd : Nat} {xs : Array Keyed} (hs : src < xs.size) (hd : dd ≤ src) (hl : lo ≤ src - dd) : Pre lo xs (bubble xs src dd) := fun k hk => by
  rw [getElem?_bubble hs dd hd, if_neg (by omega), if_neg (by omega)]

structure SI (a₀ : Array Keyed) (κ : SortKind) (p : Array (Nat × Nat × Nat)) (st : SortSt) : Prop where
  perm : (arrOf st).Perm a₀
  kind : kindOf st = κ
  failed : failedOf st = none
  pend : pendingOf st = p
section
variable {prog : Program} {w : World} {A : Around} {E : Value → Shared → Prop} {s : Shared} {κ : SortKind} {a₀ : Array Keyed} {p : Array (Nat × Nat × Nat)} {O : KeyOrd} {f : Keyed → O.α} {d : O.α}

theorem SI.size {st : SortSt} (h : SI a₀ κ p st) : (arrOf st).size = a₀.size := h.perm.size_eq
theorem SI.setArr {st : SortSt} (h : SI a₀ κ p st) {xs : Array Keyed} (hp : xs.Perm (arrOf st)) : SI a₀ κ p (setArr st xs) := ⟨hp.trans h.perm, h.kind, h.failed, h.pend⟩
theorem SI.at {st : SortSt} (h : SI a₀ κ p st) {i : Nat} (hi : i < a₀.size) : ∃ x, (arrOf st)[i]? = some x ∧ x ∈ a₀.toList := by
  have hi' : i < (arrOf st).size := by rw [h.size]; exact hi
  exact ⟨(arrOf st)[i], getElem?_pos _ i hi', (Array.perm_iff_toList_perm.mp h.perm).mem_iff.mp (by simp)⟩
theorem SI.mem {st : SortSt} (h : SI a₀ κ p st) {x : Keyed} (hx : x ∈ (arrOf st).toList) : x ∈ a₀.toList := (Array.perm_iff_toList_perm.mp h.perm).mem_iff.mp hx

abbrev CmpA (prog : Program) (w : World) (A : Around) (E : Value → Shared → Prop) (s : Shared) (κ : SortKind) (a₀ : Array Keyed) {O : KeyOrd} (f : Keyed → O.α) : Prop := Cmp prog w A E s κ (· ∈ a₀.toList) (Bf f)
theorem wpS_ltF (C : CmpA prog w A E s κ a₀ f) {st : SortSt} {i j : Nat} {Q : Option Bool → SortSt → Prop} (hB : SI a₀ κ p st) (hi : i < a₀.size) (hj : j < a₀.size)
    (h : Q (some (O.blt (KF f d (arrOf st) i) (KF f d (arrOf st) j))) st) : wpS (model prog w) A E s (ltAt' i j) Q st := by
  obtain ⟨x, e1, hx⟩ := hB.at hi
  obtain ⟨y, e2, hy⟩ := hB.at hj
  rw [KF_some e1, KF_some e2] at h
  exact wpS_ltAt' C hB.kind e1 e2 hx hy h

theorem wpS_asc {st : SortSt} {lo a nrem : Nat} {Q : Option (Option Nat) × Nat → SortSt → Prop} {b : Nat → Option (Option Nat) × Nat → StateT SortSt Sem (ForInStep (Option (Option Nat) × Nat))} (ha : 1 ≤ a) (han : a ≤ nrem)
    (hb : ∀ x n (R : ForInStep (Option (Option Nat) × Nat) → SortSt → Prop), 1 ≤ n → n < nrem → (O.klt (KF f d (arrOf st) (lo + n)) (KF f d (arrOf st) (lo + n - 1)) → R (.done (none, n)) st) →
      (O.kle (KF f d (arrOf st) (lo + n - 1)) (KF f d (arrOf st) (lo + n)) → R (.yield (none, n + 1)) st) → wpS (model prog w) A E s (b x (none, n)) R st)
    (hs : SortedF f d lo (arrOf st) a)
    (h : ∀ n, a ≤ n → n ≤ nrem → SortedF f d lo (arrOf st) n → (n = nrem ∨ O.klt (KF f d (arrOf st) (lo + n)) (KF f d (arrOf st) (lo + n - 1))) → Q (none, n) st) :
    wpS (model prog w) A E s (forIn [a:nrem] (none, a) b) Q st := by
  refine wpS_forRange (I := fun x c st' => st' = st ∧ c = (none, x) ∧ SortedF f d lo (arrOf st) x) ?step ?fin ⟨rfl, rfl, hs⟩
  case fin =>
    rintro c st' ⟨rfl, rfl, hs'⟩
    rw [show max a nrem = nrem by omega] at hs' ⊢
    exact h nrem han (Nat.le_refl _) hs' (.inl rfl)
  case step =>
    rintro x c st' hax hxn ⟨rfl, rfl, hs'⟩
    refine hb x x _ (by omega) hxn (fun q => h x hax (by omega) hs' (.inr q)) (fun q => ⟨rfl, rfl, fun i j hij hj => ?_⟩)
    by_cases hjx : j < x
    · exact hs' i j hij hjx
    · have hj' : j = x := by omega
      subst hj'
      by_cases hi' : i = j
      · subst hi'; exact KeyOrd.kle_refl _
      · refine KeyOrd.kle_trans (hs' i (j - 1) (by omega) (by omega)) ?_
        rw [show lo + (j - 1) = lo + j - 1 by omega]
        exact q

theorem wpS_desc {st : SortSt} {lo n nrem : Nat} {Q : Option (Option Nat) × Nat × Nat → SortSt → Prop} {b : Nat → Option (Option Nat) × Nat × Nat → StateT SortSt Sem (ForInStep (Option (Option Nat) × Nat × Nat))} (hn : lo + nrem ≤ a₀.size) (h1 : 1 ≤ n) (hnn : n ≤ nrem) (hB : SI a₀ κ p st)
    (hb : ∀ y x neq st' (R : ForInStep (Option (Option Nat) × Nat × Nat) → SortSt → Prop), SI a₀ κ p st' → 1 ≤ x → x < nrem →
      (O.klt (KF f d (arrOf st') (lo + x)) (KF f d (arrOf st') (lo + x - 1)) → 0 < neq → R (.yield (none, x + 1, 0)) (setArr st' (mirror (arrOf st') (lo + x - (neq + 1)) (lo + x) ((lo + x - (lo + x - (neq + 1))) / 2)))) →
      (O.klt (KF f d (arrOf st') (lo + x)) (KF f d (arrOf st') (lo + x - 1)) → R (.yield (none, x + 1, 0)) st') →
      (R (.done (none, x, neq)) st') →
      (O.kle (KF f d (arrOf st') (lo + x - 1)) (KF f d (arrOf st') (lo + x)) → O.kle (KF f d (arrOf st') (lo + x)) (KF f d (arrOf st') (lo + x - 1)) → R (.yield (none, x + 1, neq + 1)) st') → wpS (model prog w) A E s (b y (none, x, neq)) R st')
    (hs : NonIncF f d lo (arrOf st) n)
    (h : ∀ m neq st', SI a₀ κ p st' → Pre lo (arrOf st) (arrOf st') → n ≤ m → m ≤ nrem → NonIncF f d lo (arrOf st') m → neq + 1 ≤ m → (∀ i, m - (neq + 1) ≤ i → i < m → KF f d (arrOf st') (lo + i) = KF f d (arrOf st') (lo + m - 1)) → Q (none, m, neq) st') :
    wpS (model prog w) A E s (forIn [n:nrem] (none, n, 0) b) Q st := by
  refine wpS_forRange (I := fun x c st' => ∃ neq, c = (none, x, neq) ∧ SI a₀ κ p st' ∧ Pre lo (arrOf st) (arrOf st') ∧ NonIncF f d lo (arrOf st') x ∧ neq + 1 ≤ x ∧
      (∀ i, x - (neq + 1) ≤ i → i < x → KF f d (arrOf st') (lo + i) = KF f d (arrOf st') (lo + x - 1))) ?step ?fin ⟨0, rfl, hB, Pre.rf _ _, hs, by omega, fun i h1 h2 => by congr 1; omega⟩
  case fin =>
    rintro c st' ⟨neq, rfl, hB', hp', hs', hq, he⟩
    rw [show max n nrem = nrem by omega] at hs' hq he ⊢
    exact h nrem neq st' hB' hp' hnn (Nat.le_refl _) hs' hq he
  case step =>
    rintro x c st' hax hxn ⟨neq, rfl, hB', hp', hs', hq, he⟩
    have hsz : lo + x ≤ (arrOf st').size := by rw [hB'.size]; omega
    have step1 : O.klt (KF f d (arrOf st') (lo + x)) (KF f d (arrOf st') (lo + x - 1)) → ∀ xs : Array Keyed, (∀ k, KF f d xs k = KF f d (arrOf st') k) → NonIncF f d lo xs (x + 1) := by
      intro hless xs hk i j hij hj
      rw [hk, hk]
      by_cases hjx : j < x
      · exact hs' i j hij hjx
      · have hj' : j = x := by omega
        subst hj'
        by_cases hi' : i = j
        · subst hi'; exact KeyOrd.kle_refl _
        · refine KeyOrd.kle_trans (KeyOrd.kle_of_klt hless) ?_
          rw [show lo + j - 1 = lo + (j - 1) by omega]
          exact hs' i (j - 1) (by omega) (by omega)
    have he' : ∀ k, lo + x - (neq + 1) ≤ k → k < lo + x → KF f d (arrOf st') k = KF f d (arrOf st') (lo + x - 1) := fun k h1 h2 => by
      have := he (k - lo) (by omega) (by omega)
      rw [show lo + (k - lo) = k by omega] at this
      exact this
    refine hb x x neq st' _ hB' (by omega) hxn (fun q hneq => ?_) (fun q => ?_) (h x neq st' hB' hp' hax (by omega) hs' hq he) (fun q q' => ?_)
    · exact ⟨0, rfl, hB'.setArr (mirror_perm _ _ _ _), hp'.trans (Pre.mirror hsz (by omega)), step1 q _ (KF_mirror_equal hsz he'), by omega, fun i h1 h2 => by congr 1; omega⟩
    · exact ⟨0, rfl, hB', hp', step1 q _ (fun _ => rfl), by omega, fun i h1 h2 => by congr 1; omega⟩
    · have heqx : KF f d (arrOf st') (lo + x) = KF f d (arrOf st') (lo + x - 1) := KeyOrd.kle_antisymm q' q
      refine ⟨neq + 1, rfl, hB', hp', fun i j hij hj => ?_, by omega, fun i h1 h2 => ?_⟩
      · by_cases hjx : j < x
        · exact hs' i j hij hjx
        · have hj' : j = x := by omega
          subst hj'
          by_cases hi' : i = j
          · subst hi'; exact KeyOrd.kle_refl _
          · rw [heqx, show lo + j - 1 = lo + (j - 1) by omega]; exact hs' i (j - 1) (by omega) (by omega)
      · rw [show lo + (x + 1) - 1 = lo + x by omega]
        by_cases hix : i = x
        · subst hix; rfl
        · rw [heqx]; exact he i (by omega) (by omega)

theorem wpS_countRun (C : CmpA prog w A E s κ a₀ f) {st : SortSt} {lo nrem : Nat} {Q : Option Nat → SortSt → Prop} (d : O.α) (hn : lo + nrem ≤ a₀.size) (h1 : 1 ≤ nrem) (hB : SI a₀ κ p st)
    (h : ∀ m st', SI a₀ κ p st' → Pre lo (arrOf st) (arrOf st') → 1 ≤ m → m ≤ nrem → SortedF f d lo (arrOf st') m → Q (some m) st') :
    wpS (model prog w) A E s (countRun' lo nrem) Q st := by
  rw [countRun'_eq]
  dsimp only
  refine wpS_bind (wpS_asc (f := f) (d := d) (lo := lo) (Nat.le_refl 1) h1 (fun x n R hn1 hn2 q1 q2 => ?_) (fun i j hij hj => by have : i = j := (by omega); subst this; exact KeyOrd.kle_refl _) fun n hn1 hn2 hsn hor => ?_)
  · dsimp only
    refine wpS_bind (wpS_ltF (d := d) C hB (by omega) (by omega) ?_)
    cases e : O.blt (KF f d (arrOf st) (lo + n)) (KF f d (arrOf st) (lo + n - 1)) with
    | true => exact wpS_pure (q1 e)
    | false => exact wpS_pure (q2 e)
  dsimp only
  by_cases hnn : n = nrem
  · rw [if_pos (by simpa using hnn)]
    exact wpS_pure (h n st hB (Pre.rf _ _) hn1 hn2 hsn)
  rw [if_neg (by simpa using hnn)]
  have hlt := hor.resolve_left hnn
  by_cases hrose : 1 < n ∧ O.blt (KF f d (arrOf st) lo) (KF f d (arrOf st) (lo + n - 1)) = true
  · rw [if_pos hrose.1]
    refine wpS_bind (wpS_ltF (d := d) C hB (by omega) (by omega) ?_)
    rw [hrose.2]
    exact wpS_pure (h n st hB (Pre.rf _ _) hn1 hn2 hsn)
  have hfell : 1 < n → O.blt (KF f d (arrOf st) lo) (KF f d (arrOf st) (lo + n - 1)) = false := fun hgt => by
    cases e : O.blt (KF f d (arrOf st) lo) (KF f d (arrOf st) (lo + n - 1)) with
    | false => rfl
    | true => exact absurd ⟨hgt, e⟩ hrose
  -- a falling run
  have fall : ∃ st2, SI a₀ κ p st2 ∧ Pre lo (arrOf st) (arrOf st2) ∧ NonIncF f d lo (arrOf st2) (n + 1) ∧ (n > 1 → st2 = setArr st (mirror (arrOf st) lo (lo + n) ((lo + n - lo) / 2))) ∧ (¬ n > 1 → st2 = st) := by
    by_cases hgt : 1 < n
    · have hfell := hfell hgt
      have hsz : lo + n ≤ (arrOf st).size := by rw [hB.size]; omega
      have hall : ∀ k, lo ≤ k → k < lo + n → KF f d (arrOf st) k = KF f d (arrOf st) (lo + n - 1) := by
        intro k hk0 hk
        have a1 := hsn 0 (k - lo) (by omega) (by omega)
        have a2 := hsn (k - lo) (n - 1) (by omega) (by omega)
        rw [show lo + 0 = lo by omega, show lo + (k - lo) = k by omega] at a1
        rw [show lo + (k - lo) = k by omega, show lo + (n - 1) = lo + n - 1 by omega] at a2
        exact KeyOrd.kle_antisymm a2 (KeyOrd.kle_trans hfell a1)
      refine ⟨_, hB.setArr (mirror_perm _ _ _ _), Pre.mirror hsz (Nat.le_refl _), ?_, fun _ => rfl, fun e => by omega⟩
      intro i j hij hj
      show O.kle (KF f d (mirror (arrOf st) _ _ _) (lo + j)) (KF f d (mirror (arrOf st) _ _ _) (lo + i))
      rw [KF_mirror_equal hsz hall, KF_mirror_equal hsz hall]
      by_cases hjn : j < n
      · rw [hall (lo + i) (by omega) (by omega), hall (lo + j) (by omega) (by omega)]; exact KeyOrd.kle_refl _
      · have hj' : j = n := by omega
        subst hj'
        by_cases hi' : i = j
        · subst hi'; exact KeyOrd.kle_refl _
        · rw [hall (lo + i) (by omega) (by omega)]; exact KeyOrd.kle_of_klt hlt
    · have hn1' : n = 1 := by omega
      subst hn1'
      refine ⟨st, hB, Pre.rf _ _, ?_, fun q => by omega, fun _ => rfl⟩
      intro i j hij hj
      by_cases hi' : i = j
      · subst hi'; exact KeyOrd.kle_refl _
      · have hi0 : i = 0 := by omega
        have hj1 : j = 1 := by omega
        subst hi0; subst hj1
        rw [show lo + 0 = lo + 1 - 1 by omega]
        exact KeyOrd.kle_of_klt hlt
  obtain ⟨st2, hB2, hp2, hs2, e2, e3⟩ := fall
  by_cases hgt : n > 1
  all_goals first
    | (rw [if_pos hgt]
       refine wpS_bind (wpS_ltF (d := d) C hB (by omega) (by omega) ?_)
       rw [hfell hgt]
       dsimp only
       rw [if_neg Bool.false_ne_true]
       refine wpS_bind (wpS_reverse ?_)
       rw [← e2 hgt])
    | (rw [if_neg hgt]
       have e3 := e3 hgt
       rw [← e3])
  all_goals
    clear e2 e3
    refine wpS_bind (wpS_rule ?_)
    refine wpS_bind (wpS_desc (f := f) (d := d) (lo := lo) hn (by omega) (by omega) hB2 (fun y x neq st' R hB' x1 x2 q1 q2 q3 q4 => ?_) hs2 fun m neq st' hB' hp' hm1 hm2 hs' hq he => ?_)
    · dsimp only
      refine wpS_bind (wpS_ltF (d := d) C hB' (by omega) (by omega) ?_)
      cases e : O.blt (KF f d (arrOf st') (lo + x)) (KF f d (arrOf st') (lo + x - 1)) with
      | true =>
        dsimp only
        rw [if_pos rfl]
        split
        · rename_i hz
          exact wpS_bind (wpS_reverse (wpS_pure (q1 e hz)))
        · exact wpS_pure (q2 e)
      | false =>
        dsimp only
        rw [if_neg Bool.false_ne_true]
        refine wpS_bind (wpS_ltF (d := d) C hB' (by omega) (by omega) ?_)
        cases e' : O.blt (KF f d (arrOf st') (lo + x - 1)) (KF f d (arrOf st') (lo + x)) with
        | true => exact wpS_pure q3
        | false => exact wpS_pure (q4 e e')
    · dsimp only
      have hsz : lo + m ≤ (arrOf st').size := by rw [hB'.size]; omega
      have he' : ∀ k, lo + m - (neq + 1) ≤ k → k < lo + m → KF f d (arrOf st') k = KF f d (arrOf st') (lo + m - 1) := fun k h1 h2 => by
        have := he (k - lo) (by omega) (by omega)
        rw [show lo + (k - lo) = k by omega] at this
        exact this
      have tailOk : ∀ st3, SI a₀ κ p st3 → Pre lo (arrOf st) (arrOf st3) → NonIncF f d lo (arrOf st3) m → SI a₀ κ p (setArr st3 (mirror (arrOf st3) lo (lo + m) ((lo + m - lo) / 2))) ∧ Pre lo (arrOf st) (mirror (arrOf st3) lo (lo + m) ((lo + m - lo) / 2)) ∧ SortedF f d lo (mirror (arrOf st3) lo (lo + m) ((lo + m - lo) / 2)) m := fun st3 hB3 hp3 hs3 => by
        have hsz3 : lo + m ≤ (arrOf st3).size := by rw [hB3.size]; omega
        refine ⟨hB3.setArr (mirror_perm _ _ _ _), hp3.trans (Pre.mirror hsz3 (Nat.le_refl _)), fun i j hij hj => ?_⟩
        rw [KF_mirror hsz3, KF_mirror hsz3, if_pos (by omega), if_pos (by omega), show lo + (lo + m) - 1 - (lo + i) = lo + (m - 1 - i) by omega, show lo + (lo + m) - 1 - (lo + j) = lo + (m - 1 - j) by omega]
        exact hs3 _ _ (by omega) (by omega)
      have mm : NonIncF f d lo (mirror (arrOf st') (lo + m - (neq + 1)) (lo + m) ((lo + m - (lo + m - (neq + 1))) / 2)) m := fun i j hij hj => by
        rw [KF_mirror_equal hsz he', KF_mirror_equal hsz he']
        exact hs' i j hij hj
      by_cases hneq : neq > 0
      all_goals first
        | (rw [if_pos hneq]
           refine wpS_bind (wpS_reverse (wpS_bind (wpS_reverse ?_)))
           obtain ⟨hB4, hp4, hs4⟩ := tailOk (setArr st' (mirror (arrOf st') (lo + m - (neq + 1)) (lo + m) ((lo + m - (lo + m - (neq + 1))) / 2))) (hB'.setArr (mirror_perm _ _ _ _)) ((hp2.trans hp').trans (Pre.mirror hsz (by omega))) mm)
        | (rw [if_neg hneq]
           refine wpS_bind (wpS_reverse ?_)
           obtain ⟨hB4, hp4, hs4⟩ := tailOk st' hB' (hp2.trans hp') hs')
      all_goals
        refine wpS_bind (wpS_asc (f := f) (d := d) (lo := lo) (by omega) hm2 (fun x n R hn1 hn2 q1 q2 => ?_) hs4 fun n' hn1' hn2' hsn' _ => wpS_pure (h n' _ hB4 hp4 (by omega) hn2' hsn'))
        dsimp only
        refine wpS_bind (wpS_ltF (d := d) C hB4 (by omega) (by omega) ?_)
        revert q1 q2
        generalize KF f d (arrOf _) (lo + n) = u
        generalize KF f d (arrOf _) (lo + n - 1) = v
        intro q1 q2
        cases e : O.blt u v with
        | true => exact wpS_pure (q1 e)
        | false => exact wpS_pure (q2 e)

theorem wpS_binarySort' (C : CmpA prog w A E s κ a₀ f) {st : SortSt} {lo n ok : Nat} {Q : Bool → SortSt → Prop} (d : O.α) (hn : lo + n ≤ a₀.size) (hok : ok ≤ n) (hB : SI a₀ κ p st) (hs : SortedF f d lo (arrOf st) ok)
    (h : ∀ st', SI a₀ κ p st' → Pre lo (arrOf st) (arrOf st') → SortedF f d lo (arrOf st') n → Q true st') : wpS (model prog w) A E s (binarySort' lo n ok) Q st := by
  rw [binarySort'_eq]
  refine wpS_bind (wpS_mono (wpS_forRange (I := fun k c st' => c = (none, ()) ∧ SI a₀ κ p st' ∧ Pre lo (arrOf st) (arrOf st') ∧ SortedF f d lo (arrOf st') (min k n))
    (Q := fun c st' => c = (none, ()) ∧ SI a₀ κ p st' ∧ Pre lo (arrOf st) (arrOf st') ∧ SortedF f d lo (arrOf st') n) ?step ?fin ?init) ?post)
  case post =>
    rintro c st' ⟨rfl, hB', hp', hs'⟩
    exact wpS_pure (h st' hB' hp' hs')
  case init =>
    refine ⟨rfl, hB, Pre.rf _ _, fun i j hij hj => ?_⟩
    by_cases h1 : ok = 0
    · have : i = j := by omega
      subst this; exact KeyOrd.kle_refl _
    · exact hs i j hij (by omega)
  case fin =>
    rintro c st' ⟨hc, hB', hp', hs'⟩
    refine ⟨hc, hB', hp', ?_⟩
    rwa [show min (max (max ok 1) n) n = n by omega] at hs'
  case step =>
    rintro k c st' hak hkn ⟨rfl, hB', hp', hs'⟩
    rw [show min k n = k by omega] at hs'
    have hk : lo + k < a₀.size := by omega
    refine wpS_bind (wpS_mono (wpS_forRange (I := fun x c st'' => st'' = st' ∧ ∃ l r, c = (none, l, r) ∧ l ≤ r ∧ r ≤ k ∧ r - l ≤ k - x ∧
        (∀ i, i < l → O.kle (KF f d (arrOf st') (lo + i)) (KF f d (arrOf st') (lo + k))) ∧ (∀ i, r ≤ i → i < k → O.klt (KF f d (arrOf st') (lo + k)) (KF f d (arrOf st') (lo + i))))
      (Q := fun c st'' => st'' = st' ∧ ∃ l r, c = (none, l, r) ∧ l ≤ k ∧
        (∀ i, i < l → O.kle (KF f d (arrOf st') (lo + i)) (KF f d (arrOf st') (lo + k))) ∧ (∀ i, l ≤ i → i < k → O.klt (KF f d (arrOf st') (lo + k)) (KF f d (arrOf st') (lo + i)))) ?istep ?ifin ?iinit) ?ipost)
    case iinit => exact ⟨rfl, 0, k, rfl, by omega, by omega, by omega, fun i hi => by omega, fun i h1 h2 => by omega⟩
    case ifin =>
      rintro c st'' ⟨rfl, l, r, rfl, hlr, hrk, hm, hlo, hhi⟩
      have : l = r := by omega
      subst this
      exact ⟨rfl, l, l, rfl, hrk, hlo, hhi⟩
    case istep =>
      rintro x c st'' _ hxk ⟨rfl, l, r, rfl, hlr, hrk, hm, hlo, hhi⟩
      dsimp only
      by_cases hge : l ≥ r
      · rw [if_pos hge]
        have : l = r := by omega
        subst this
        exact wpS_pure ⟨rfl, l, l, rfl, hrk, hlo, hhi⟩
      · rw [if_neg hge]
        refine wpS_bind (wpS_ltF (d := d) C hB' hk (by omega) ?_)
        cases hless : O.blt (KF f d (arrOf st'') (lo + k)) (KF f d (arrOf st'') (lo + (l + r) / 2))
        case true =>
          simp only [if_true]
          refine wpS_pure ⟨rfl, l, (l + r) / 2, rfl, by omega, by omega, by omega, hlo, fun i h1 h2 => ?_⟩
          exact KeyOrd.klt_of_klt_of_kle hless (hs' _ _ h1 h2)
        case false =>
          simp only [Bool.false_eq_true, if_false]
          refine wpS_pure ⟨rfl, (l + r) / 2 + 1, r, rfl, by omega, by omega, by omega, fun i h1 => ?_, hhi⟩
          exact KeyOrd.kle_trans (hs' i ((l + r) / 2) (by omega) (by omega)) (show O.kle _ _ from hless)
    case ipost =>
      rintro c st'' ⟨rfl, l, r, rfl, hlk, hlo, hhi⟩
      show wpS _ _ _ _ (do moveDown' (lo + k) (lo + l); pure (ForInStep.yield (none, ()))) _ _
      rw [moveDown'_eq]
      have hks : lo + k < (arrOf st'').size := by rw [hB'.size]; exact hk
      refine wpS_bind (wpS_modify (wpS_pure ⟨rfl, hB'.setArr (bubble_perm _ _ _), hp'.trans (Pre.bubble hks (by omega) (by omega)), ?_⟩))
      rw [show min (k + 1) n = k + 1 by omega]
      intro i j hij hj
      show O.kle (KF f d (bubble (arrOf st'') (lo + k) (lo + k - (lo + l))) (lo + i)) (KF f d (bubble (arrOf st'') (lo + k) (lo + k - (lo + l))) (lo + j))
      rw [KF_bubble hks (by omega), KF_bubble hks (by omega), show lo + k - (lo + k - (lo + l)) = lo + l by omega]
      have e1 : ∀ t : Nat, 0 < t → lo + t - 1 = lo + (t - 1) := fun t ht => by omega
      repeat' split
      all_goals first
        | (exfalso; omega)
        | exact KeyOrd.kle_refl _
        | exact hlo _ (by omega)
        | (rw [e1 _ (by omega)]; exact KeyOrd.kle_of_klt (hhi _ (by omega) (by omega)))
        | exact KeyOrd.kle_of_klt (hhi _ (by omega) (by omega))
        | exact hs' _ _ (by omega) (by omega)
        | (rw [e1 _ (by omega)]; exact hs' _ _ (by omega) (by omega))
        | (rw [e1 _ (by omega), e1 _ (by omega)]; exact hs' _ _ (by omega) (by omega))
end
end Tim

namespace Tim
open PySem PyProof.Rows
set_option autoImplicit false
set_option linter.all false

def shape (ps : List (Nat × Nat × Nat)) : List (Nat × Nat) := ps.map fun x => (x.1, x.2.1)
def offs : Nat → List (List Keyed) → List (Nat × Nat)
  | _, [] => []
  | k, r :: rs => (k, r.length) :: offs (k + r.length) rs
/-- the sort between two steps: the runs ahead, what is behind them -/
structure SR (a₀ : Array Keyed) (κ : SortKind) (B : Keyed → Keyed → Bool) (runs : List (List Keyed)) (suf : List Keyed) (st : SortSt) : Prop where
  perm : (arrOf st).Perm a₀
  kind : kindOf st = κ
  failed : failedOf st = none
  sh : shape (pendingOf st).toList = offs 0 runs
  ok : ∀ r ∈ runs, r ≠ [] ∧ r.Pairwise (le B)
  arr : (arrOf st).toList = runs.flatten ++ suf

section
variable {prog : Program} {w : World} {A : Around} {E : Value → Shared → Prop} {s : Shared} {κ : SortKind} {a₀ : Array Keyed} {B : Keyed → Keyed → Bool}

end

section
variable {prog : Program} {w : World} {A : Around} {E : Value → Shared → Prop} {s : Shared} {κ : SortKind} {a₀ : Array Keyed} {O : KeyOrd} {f : Keyed → O.α}

/-- a stretch sorted by places is a sorted list -/
theorem run_of {d : O.α} {xs : Array Keyed} {lo n : Nat} (hs : SortedF f d lo xs n) (hn : lo + n ≤ xs.size) : ((xs.toList.drop lo).take n).Pairwise (le (Bf f)) ∧ ((xs.toList.drop lo).take n).length = n := by
  refine ⟨List.pairwise_iff_getElem.mpr fun i j hi hj hij => ?_, by rw [List.length_take, List.length_drop, Array.length_toList]; omega⟩
  have hjn : j < n := by rw [List.length_take] at hj; omega
  have gi : ∀ k, (hk : k < n) → (xs.toList.drop lo)[k]? = some (xs[lo + k]'(by omega)) := fun k hk => by
    rw [List.getElem?_drop, Array.getElem?_toList]
    exact getElem?_pos xs _ _
  have e1 : ((xs.toList.drop lo).take n)[i] = xs[lo + i]'(by omega) := by
    have := gi i (by omega)
    rw [← List.getElem?_take_of_lt (show i < n by omega), List.getElem?_eq_getElem hi] at this
    exact Option.some.inj this
  have e2 : ((xs.toList.drop lo).take n)[j] = xs[lo + j]'(by omega) := by
    have := gi j hjn
    rw [← List.getElem?_take_of_lt hjn, List.getElem?_eq_getElem hj] at this
    exact Option.some.inj this
  rw [e1, e2]
  have := hs i j (Nat.le_of_lt hij) hjn
  rw [KF_some (getElem?_pos xs (lo + i) (by omega)), KF_some (getElem?_pos xs (lo + j) (by omega))] at this
  exact this
end
end Tim

namespace Tim
open PySem PyProof.Rows PySem.W
set_option autoImplicit false
set_option linter.all false

/-! ### tuples of ints, as they compare -/
def lexB : List Int → List Int → Bool
  | [], [] => false
  | [], _ :: _ => true
  | _ :: _, [] => false
  | a :: x, b :: y => if a = b then lexB x y else decide (a < b)
theorem lexB_irr : ∀ x, lexB x x = false
  | [] => rfl
  | a :: x => by unfold lexB; rw [if_pos rfl]; exact lexB_irr x
theorem lexB_tr : ∀ x y z, lexB x y = true → lexB y z = true → lexB x z = true
  | [], [], z, h, _ => by cases h
  | [], _ :: _, [], _, h => by cases h
  | [], _ :: _, _ :: _, _, _ => rfl
  | _ :: _, [], z, h, _ => by cases h
  | _ :: _, _ :: _, [], _, h => by cases h
  | a :: x, b :: y, c :: z, h1, h2 => by
    unfold lexB at h1 h2 ⊢
    by_cases e1 : a = b
    · subst e1
      rw [if_pos rfl] at h1
      by_cases e2 : a = c
      · rw [if_pos e2] at h2 ⊢
        exact lexB_tr x y z h1 h2
      · rw [if_neg e2] at h2 ⊢
        exact h2
    · rw [if_neg e1, decide_eq_true_eq] at h1
      by_cases e2 : b = c
      · subst e2
        rw [if_neg e1, decide_eq_true_eq]
        exact h1
      · rw [if_neg e2, decide_eq_true_eq] at h2
        rw [if_neg (by omega), decide_eq_true_eq]
        omega
theorem lexB_tot : ∀ x y, lexB x y = false → lexB y x = false → x = y
  | [], [], _, _ => rfl
  | [], _ :: _, h, _ => by cases h
  | _ :: _, [], _, h => by cases h
  | a :: x, b :: y, h1, h2 => by
    unfold lexB at h1 h2
    by_cases e : a = b
    · subst e
      rw [if_pos rfl] at h1 h2
      rw [lexB_tot x y h1 h2]
    · rw [if_neg e, decide_eq_false_iff_not] at h1
      rw [if_neg (Ne.symm e), decide_eq_false_iff_not] at h2
      omega
theorem lexB_ng (x y z : List Int) (h : lexB x z = true) : lexB x y = true ∨ lexB y z = true := by
  cases e1 : lexB x y with
  | true => exact .inl rfl
  | false =>
    cases e2 : lexB y x with
    | true => exact .inr (lexB_tr _ _ _ e2 h)
    | false => rw [lexB_tot x y e1 e2] at h; exact .inr h
def lexO : KeyOrd := ⟨List Int, lexB, lexB_irr, lexB_tr, lexB_ng, lexB_tot⟩

section
variable {prog : Program} {w : World}
/-- the tuple of ints at a value -/
def IsK (prog : Program) (w : World) (h : Heap) (k : List Int) (v : Value) : Prop := ∃ a, v = .ref a ∧ IsTupleKey (intKind prog w) h k a
theorem IsK.inj {h : Heap} {k k' : List Int} {v : Value} (x : IsK prog w h k v) (y : IsK prog w h k' v) : k = k' := by
  obtain ⟨a, rfl, h1⟩ := x
  obtain ⟨b, e, h2⟩ := y
  cases e
  exact h1.inj h2
open Classical in
noncomputable def keyAt (prog : Program) (w : World) (h : Heap) (v : Value) : List Int := if q : ∃ k, IsK prog w h k v then Classical.choose q else []
theorem keyAt_eq {h : Heap} {k : List Int} {v : Value} (x : IsK prog w h k v) : keyAt prog w h v = k := by
  unfold keyAt
  rw [dif_pos ⟨k, x⟩]
  exact (Classical.choose_spec (⟨k, x⟩ : ∃ k, IsK prog w h k v)).inj x
theorem IsK.up {h h' : Heap} {k : List Int} {v : Value} (x : IsK prog w h k v) (hs : ∀ b o, h.get? b = some o → h'.get? b = some o) : IsK prog w h' k v := by
  obtain ⟨a, e, o, items, n, h2, h3⟩ := x
  exact ⟨a, e, o, items, n, hs a o h2, h3⟩

variable {A : Around} {E : Value → Shared → Prop} {s : Shared}
theorem lex_items {b : Bool} {Q : Bool → Shared → Prop} (hb : b = true) : ∀ (x y : List Int) (vs us : List Value) (i : Nat) (fin : Bool), ItemsAre (intKind prog w) x vs → ItemsAre (intKind prog w) y us → (x.length < y.length ↔ fin = true) → Q (lexB x y) s → KatLex prog w A b fin Q (vs.zip us) i s
  | [], [], _, _, i, fin, .nil, .nil, hf, h => by
    have : fin = false := by cases fin with | false => rfl | true => exact absurd (hf.mpr rfl) (by simp)
    subst this
    exact kat_nil h
  | [], _ :: _, _, _, i, fin, .nil, .cons _ _, hf, h => by
    have : fin = true := hf.mp (by simp)
    subst this
    exact kat_nil h
  | _ :: _, [], _, _, i, fin, .cons _ _, .nil, hf, h => by
    have : fin = false := by cases fin with | false => rfl | true => exact absurd (hf.mpr rfl) (by simp)
    subst this
    exact kat_nil h
  | a :: x, c :: y, _, _, i, fin, .cons h1 t1, .cons h2 t2, hf, h => by
    obtain ⟨t, rfl⟩ := Value.isInt_shape h1
    obtain ⟨u, rfl⟩ := Value.isInt_shape h2
    rw [List.zip_cons_cons]
    refine kat_cons (wpAny_eqBool_int ?_)
    unfold lexB at h
    by_cases e : a = c
    · subst e
      rw [if_pos rfl] at h
      rw [show (a == a) = true by simp]
      exact kat_yes (lex_items hb x y _ _ (i + 1) fin t1 t2 (by rw [← hf]; simp) h)
    · rw [if_neg e] at h
      rw [show (a == c) = false by simpa using e]
      refine kat_no ?_
      cases hi : (b && i == 0) with
      | true => exact oneLt_int h
      | false => exact kat_one _ _ (lt_int h)
theorem lt_pairs {x y : Value} {k k' : List Int} {Q : Bool → Shared → Prop} (hx : IsK prog w s.heap k x) (hy : IsK prog w s.heap k' y) (h : Q (lexB k k') s) : wpAny (model prog w) A (keyLt' (tuples' true) x y) Q E s := by
  obtain ⟨a, rfl, o, xs, n, ho, hc, hd, hi⟩ := hx
  obtain ⟨b, rfl, o', ys, n', ho', hc', hd', hi'⟩ := hy
  refine kat_lt ho hd ho' hd' (lex_items rfl k k' _ _ 0 _ hi hi' ?_ h)
  have e1 : k.length = xs.size := by have := hi.length; simpa using this
  have e2 : k'.length = ys.size := by have := hi'.length; simpa using this
  rw [e1, e2]
  simp

theorem kind_pairs {vs : List Value} {Q : SortKind → Shared → Prop} (hne : 0 < vs.length) (hv : ∀ v ∈ vs, ∃ i k, IsK prog w s.heap (i :: k) v) (h : Q (tuples' true) s) : wpAny (model prog w) A (keyKind' vs.toArray) Q E s := by
  have ex : ∀ l : List Value, (∀ v ∈ l, ∃ i k, IsK prog w s.heap (i :: k) v) → ∃ fs : List Value, KatTups s.heap l fs ∧ fs.length = l.length ∧ ∀ v ∈ fs, ∃ i t, v = .int i t := fun l => by
    induction l with
    | nil => intro _; exact ⟨[], KatTups.nil, rfl, (fun _ h => nomatch h)⟩
    | cons v l ih =>
      intro hl
      obtain ⟨i, k, a, rfl, o, xs, n, ho, hc, hd, hi⟩ := hl v List.mem_cons_self
      obtain ⟨fs, f1, f2, f3⟩ := ih fun v hv => hl v (List.mem_cons_of_mem _ hv)
      obtain ⟨f, hf, t, rfl⟩ : ∃ f, xs[0]? = some f ∧ ∃ t, f = .int i t := by
        cases e : xs.toList with
        | nil => rw [e] at hi; cases hi
        | cons f r =>
          rw [e] at hi
          cases hi with
          | cons h1 _ =>
            obtain ⟨t, et⟩ := Value.isInt_shape h1
            exact ⟨f, by rw [← Array.getElem?_toList, e]; rfl, t, et⟩
      refine ⟨.int i t :: fs, KatTups.cons ho hc hd hf f1, by rw [List.length_cons, f2, List.length_cons], fun v hv => ?_⟩
      rcases List.mem_cons.mp hv with rfl | hv
      · exact ⟨i, t, rfl⟩
      · exact f3 v hv
  obtain ⟨fs, f1, f2, f3⟩ := ex vs hv
  refine kat_kind (T := .type "int") f1 (by omega) (fun v hv => ?_) (by decide) ?_
  · obtain ⟨i, t, rfl⟩ := f3 v hv
    exact .now
  · exact h

end
end Tim

namespace Tim
open PySem PyProof.Rows
set_option autoImplicit false
set_option linter.all false
section
variable {prog : Program} {w : World} {A : Around} {E : Value → Shared → Prop} {s : Shared} {κ : SortKind} {a₀ : Array Keyed} {O : KeyOrd} {f : Keyed → O.α}
/-- fewer than 64: one run, and no merge -/
theorem wpS_sort64 (C : CmpA prog w A E s κ a₀ f) {st : SortSt} {Q : Unit → SortSt → Prop} (d : O.α) (hp : (arrOf st).Perm a₀) (hk : kindOf st = κ) (hf : failedOf st = none) (hpe : pendingOf st = #[]) (h1s : 1 ≤ a₀.size) (h64 : a₀.size < 64)
    (h : ∀ st', (arrOf st').Perm a₀ → failedOf st' = none → (arrOf st').toList.Pairwise (le (Bf f)) → Q () st') : wpS (model prog w) A E s sortRuns' Q st := by
  have hsz : (arrOf st).size = a₀.size := hp.size_eq
  have hmr : minRun' a₀.size a₀.size 0 = a₀.size := by
    obtain ⟨m, e⟩ : ∃ m, a₀.size = m + 1 := ⟨a₀.size - 1, by omega⟩
    rw [e, minRun'_succ, if_pos (by omega)]
  rw [sortRuns'_eq]
  refine wpS_bind (wpS_get ?_)
  dsimp only
  rw [hsz, hmr]
  have srt : ∀ st3 : SortSt, SI a₀ κ #[] st3 → SortedF f d 0 (arrOf st3) a₀.size → (arrOf st3).toList.Pairwise (le (Bf f)) := fun st3 hB3 hs3 => by
    have := (run_of hs3 (by rw [hB3.size]; omega)).1
    rw [List.drop_zero, List.take_of_length_le (by rw [Array.length_toList, hB3.size]; exact Nat.le_refl _)] at this
    exact this
  refine wpS_bind (wpS_mono (wpS_forRange
    (I := fun x c st' => (c = (none, 0) ∧ x = 0 ∧ SI a₀ κ #[] st') ∨ (c = (none, a₀.size) ∧ SI a₀ κ #[(0, a₀.size, 0)] st' ∧ (arrOf st').toList.Pairwise (le (Bf f))))
    (Q := fun c st' => c = (none, a₀.size) ∧ SI a₀ κ #[(0, a₀.size, 0)] st' ∧ (arrOf st').toList.Pairwise (le (Bf f))) ?step ?fin
    (.inl ⟨rfl, rfl, ⟨hp, hk, hf, hpe⟩⟩)) ?post)
  case fin =>
    rintro c st' (⟨rfl, hx, I⟩ | q)
    · omega
    · exact q
  case step =>
    rintro x c st1 _ hx (⟨rfl, rfl, I⟩ | ⟨rfl, I, hs⟩)
    · dsimp only
      rw [if_neg (by omega)]
      refine wpS_bind (wpS_countRun C d (p := #[]) (by omega) (by omega) I fun n st2 hB2 hp2 hn1 hn2 hs2 => ?_)
      dsimp only
      by_cases hlt : n < a₀.size
      · rw [if_pos hlt]
        refine wpS_bind (wpS_rule ?_)
        refine wpS_bind (wpS_binarySort' C d (by omega) (by omega) hB2 hs2 fun st3 hB3 hp3 hs3 => ?_)
        simp only [Bool.not_true, Bool.false_eq_true, if_false]
        have e : min (a₀.size - 0) a₀.size = a₀.size := by omega
        rw [e] at hs3 ⊢
        refine wpS_bind (wpS_get ?_)
        rw [hB3.pend]
        show wpS _ _ _ _ (do modify fun s => setPending s ((pendingOf s).push (0, a₀.size, 0)); pure (ForInStep.yield (none, 0 + a₀.size))) _ _
        refine wpS_bind (wpS_modify (wpS_pure (.inr ⟨by rw [Nat.zero_add], ⟨hB3.perm, hB3.kind, hB3.failed, ?_⟩, srt st3 hB3 hs3⟩)))
        show (pendingOf st3).push (0, a₀.size, 0) = _
        rw [hB3.pend]
        rfl
      · rw [if_neg hlt]
        have e : n = a₀.size := by omega
        subst e
        refine wpS_bind (wpS_get ?_)
        rw [hB2.pend]
        show wpS _ _ _ _ (do modify fun s => setPending s ((pendingOf s).push (0, a₀.size, 0)); pure (ForInStep.yield (none, 0 + a₀.size))) _ _
        refine wpS_bind (wpS_modify (wpS_pure (.inr ⟨by rw [Nat.zero_add], ⟨hB2.perm, hB2.kind, hB2.failed, ?_⟩, srt st2 hB2 hs2⟩)))
        show (pendingOf st2).push (0, a₀.size, 0) = _
        rw [hB2.pend]
        rfl
    · dsimp only
      rw [if_pos (Nat.le_refl _)]
      exact wpS_pure ⟨rfl, I, hs⟩
  case post =>
    rintro c st1 ⟨rfl, I, hs⟩
    try dsimp only
    refine wpS_bind (wpS_mono (wpS_forRange
      (I := fun x c st' => c = (none, ()) ∧ SI a₀ κ #[(0, a₀.size, 0)] st' ∧ (arrOf st').toList.Pairwise (le (Bf f)))
      (Q := fun c st' => c = (none, ()) ∧ SI a₀ κ #[(0, a₀.size, 0)] st' ∧ (arrOf st').toList.Pairwise (le (Bf f))) ?fstep (fun _ _ q => q) ⟨rfl, I, hs⟩) ?fpost)
    case fstep =>
      rintro x c st2 _ hx ⟨rfl, I2, hs2⟩
      refine wpS_bind (wpS_get ?_)
      try dsimp only
      rw [if_pos (by rw [I2.pend]; exact Nat.le_refl _)]
      exact wpS_pure ⟨rfl, I2, hs2⟩
    case fpost =>
      rintro c st2 ⟨rfl, I2, hs2⟩
      exact wpS_pure (h st2 I2.perm I2.failed hs2)
end
section
variable {prog : Program} {w : World} {A : Around} {E : Value → Shared → Prop} {s : Shared}
theorem sort_list64 {a : Addr} {vs : List Value} {n : Nat} {P : PySem.Fin → Shared → Prop} (ho : s.heap.get? a = some (seqObj "list" vs.toArray n)) (hz : vs.length ≤ sizeLine) (h64 : vs.length < 64)
    (hv : ∀ v ∈ vs, ∃ i k, IsK prog w s.heap (i :: k) v) (hna : ∀ v ∈ vs, v ≠ .ref a)
    (h : ∀ out : List Value, out.Perm vs → out.Pairwise (fun x y => lexB (keyAt prog w s.heap y) (keyAt prog w s.heap x) = false) → P (.done (.ret .none)) { s with heap := sortedHeap s.heap a vs out.toArray }) :
    wpAny (model prog w) A (Builtin.«list.sort» ⟨[.ref a], []⟩) P E s := by
  rw [list_sort_plain]
  have ha : a < s.heap.objs.size := Heap.lt_size ho
  refine wpAny_bind (listItems_at ho rfl ?_)
  refine wpAny_bind (listUpdate_at ho rfl ?_ (by rw [List.size_toArray]; exact hz) (Nat.zero_le _))
  obtain ⟨e1, ho1⟩ : ∃ e1, (s.heap.update a (Obj.mapSeq fun _ => #[])).get? a = some (seqObj "list" #[] e1) := ⟨_, get?_update_seq ho (fun _ => #[])⟩
  refine wpAny_bind (seqEpoch_at ho1 rfl ?_)
  refine wpAny_bind (wpAny_newTuple ?_ (by show vs.length ≤ _; exact hz))
  refine wpAny_bind (wpAny_newList ?_ (Nat.zero_le _))
  refine wpAny_holding ?_
  -- the heap while it is sorted
  generalize hH : ((s.heap.update a (Obj.mapSeq fun _ => #[])).push (seqObj "tuple" vs.toArray 0)).push (seqObj "list" #[] 0) = h6
  have ho6 : h6.get? a = some (seqObj "list" #[] e1) := by rw [← hH]; exact Heap.get?_push_of_some _ (Heap.get?_push_of_some _ ho1)
  have keep : ∀ b o, b ≠ a → s.heap.get? b = some o → h6.get? b = some o := fun b o hb e => by
    rw [← hH]
    exact Heap.get?_push_of_some _ (Heap.get?_push_of_some _ ((Heap.get?_update_other s.heap _ (Ne.symm hb)).trans e))
  have up : ∀ v ∈ vs, ∀ k, IsK prog w s.heap k v → IsK prog w h6 k v := fun v hv' k hk => by
    obtain ⟨c, rfl, o, items, n, h2, h3⟩ := hk
    exact ⟨c, rfl, o, items, n, keep c o (fun z => hna _ hv' (by rw [z])) h2, h3⟩
  have fin : ∀ st' : SortSt, (arrOf st').Perm (pairsOf vs) → (arrOf st').toList.Pairwise (le (Bf (O := lexO) fun p => keyAt prog w s.heap p.1)) → P (.done (.ret .none)) { s with heap := sortedHeap s.heap a vs ((arrOf st').map (·.2)) } := fun st' hp hs => by
    have hl : (arrOf st').toList.Perm (vs.zip vs) := by rw [← pairsOf_toList]; exact Array.perm_iff_toList_perm.mp hp
    have hm : ((arrOf st').map (·.2)).toList = (arrOf st').toList.map (·.2) := Array.toList_map ..
    have hz2 : (vs.zip vs).map (·.2) = vs := List.map_snd_zip (Nat.le_refl _)
    have := h ((arrOf st').toList.map (·.2)) (by have := hl.map (·.2); rw [hz2] at this; exact this) ?_
    · rw [show (arrOf st').map (·.2) = ((arrOf st').toList.map (·.2)).toArray by rw [← hm]]
      exact this
    · rw [List.pairwise_map]
      refine List.Pairwise.imp_of_mem ?_ hs
      intro x y hx hy hxy
      have ex := (mem_zip_self (hl.mem_iff.mp hx)).1
      have ey := (mem_zip_self (hl.mem_iff.mp hy)).1
      rw [← ex, ← ey]
      exact hxy
  have out : ∀ st' : SortSt, (arrOf st').Perm (pairsOf vs) → failedOf st' = none → (arrOf st').toList.Pairwise (le (Bf (O := lexO) fun p => keyAt prog w s.heap p.1)) →
      wpAny (model prog w) A (do
        let sorted := (arrOf st').map (·.2)
        let touched := (← seqEpoch a) != e1
        Builtin.List.listUpdate (.ref a) fun _ => sorted
        if let some e := failedOf st' then rule "list.sort.comparison-raised"; throw e
        if touched then rule "list.sort.modified"; raiseError "ValueError" "list modified during sort"
        ret .none) P E { s with heap := h6 } := fun st' hp hf hs => by
    dsimp only
    refine wpAny_bind (seqEpoch_at (s := { s with heap := h6 }) ho6 rfl ?_)
    refine wpAny_bind (listUpdate_at (s := { s with heap := h6 }) ho6 rfl ?_ (Nat.zero_le _) (by refine Nat.le_trans (Nat.le_of_eq ((Array.size_map ..).trans (hp.size_eq.trans (pairsOf_size _)))) ?_; omega))
    rw [hf]
    simp only [bne_self_eq_false, Bool.false_eq_true, if_false]
    refine wpAny_pure ?_
    have := fin st' hp hs
    unfold sortedHeap at this
    rw [hH] at this
    exact this
  show wpAny (model prog w) A _ P E { s with heap := h6 }
  dsimp only
  by_cases h2 : vs.toArray.size < 2
  · rw [if_pos h2, if_pos h2]
    refine wpAny_bind (wpAny_pure ?_)
    rw [StateT.run_pure]
    refine wpAny_bind (wpAny_pure ?_)
    refine out (SortSt.mk' general' (vs.toArray.zip vs.toArray) #[] 7 none) (Array.Perm.refl _) rfl ?_
    show (pairsOf vs).toList.Pairwise _
    rw [List.pairwise_iff_getElem]
    intro i j hi hj hij
    rw [Array.length_toList, pairsOf_size] at hj
    rw [List.size_toArray] at h2
    omega
  · rw [if_neg h2, if_neg h2]
    rw [List.size_toArray] at h2
    refine wpAny_bind (kind_pairs (s := { s with heap := h6 }) (by omega) (fun v hv' => ?_) ?_)
    · obtain ⟨i, k, hk⟩ := hv v hv'
      exact ⟨i, k, up v hv' _ hk⟩
    refine wpAny_bind (wpAny_mono (wpS_sort64 (s := { s with heap := h6 }) (a₀ := pairsOf vs) (κ := tuples' true) (O := lexO) (f := fun p => keyAt prog w s.heap p.1) (st := SortSt.mk' (tuples' true) (vs.toArray.zip vs.toArray) #[] 7 none)
      (Q := fun _ st' => (arrOf st').Perm (pairsOf vs) ∧ failedOf st' = none ∧ (arrOf st').toList.Pairwise (le (Bf (O := lexO) fun p => keyAt prog w s.heap p.1))) ?_ ([] : List Int) (Array.Perm.refl _) rfl rfl rfl (by rw [pairsOf_size]; omega) (by rw [pairsOf_size]; exact h64) fun st' a1 a2 a3 => ⟨a1, a2, a3⟩) ?_ fun _ _ e => e)
    · intro x y hx hy Q hq
      rw [pairsOf_toList] at hx hy
      obtain ⟨i, k, hk⟩ := hv x.1 (mem_zip_self hx).2
      obtain ⟨j, k', hk'⟩ := hv y.1 (mem_zip_self hy).2
      refine lt_pairs (s := { s with heap := h6 }) (up _ (mem_zip_self hx).2 _ hk) (up _ (mem_zip_self hy).2 _ hk') ?_
      rw [← keyAt_eq hk, ← keyAt_eq hk']
      exact hq
    · rintro ⟨⟨⟩, st'⟩ s' ⟨rfl, hp, hf, hs⟩
      exact out st' hp hf hs

/-- sorted(a list of tuples of ints) -/
theorem sorted_tuples64 {l : Addr} {vs : List Value} {Q : Value → Shared → Prop} (hl : s.heap.IsList l vs.toArray) (hz : vs.length ≤ sizeLine) (h64 : vs.length < 64) (hv : ∀ v ∈ vs, ∃ i k, IsK prog w s.heap (i :: k) v)
    (h : ∀ (out : List Value) (h' : Heap) (n : Nat), out.Perm vs → out.Pairwise (fun x y => lexB (keyAt prog w s.heap y) (keyAt prog w s.heap x) = false) → (∀ b o, s.heap.get? b = some o → h'.get? b = some o) →
      h'.get? (s.heap.objs.size + 1) = some { cls := .type "list", data := .seq out.toArray n } → Q (.ref (s.heap.objs.size + 1)) { s with heap := h' }) :
    wpAny (model prog w) A (call (.builtin "sorted") [.ref l]) Q E s := by
  refine Calls.call_function_entry kind_sorted plain_sorted entry_sorted (args_sorted1 _) ?_
  unfold Builtin.«sorted»
  refine wpAny_bind (m := checkCount "sorted" 1 1 _) (wpAny_pure ?_)
  refine wpAny_bind (collect_list hl ?_ hz)
  refine wpAny_bind (wpAny_newList ?_ hz)
  have hsz : ((s.heap.push (seqObj "list" #[] 0)).update s.heap.objs.size (Obj.mapSeq (· ++ vs.toArray))).objs.size = s.heap.objs.size + 1 := by
    rw [Heap.size_update, size_push']
  generalize hH : ((s.heap.push (seqObj "list" #[] 0)).update s.heap.objs.size (Obj.mapSeq (· ++ vs.toArray))).push (seqObj "list" vs.toArray 0) = h2
  have hoL : h2.get? (s.heap.objs.size + 1) = some (seqObj "list" vs.toArray 0) := by
    rw [← hH, ← hsz]; exact Heap.get?_push_size _ rfl
  have keep : ∀ b o, s.heap.get? b = some o → h2.get? b = some o := fun b o e => by
    rw [← hH]
    refine Heap.get?_push_of_some _ ((Heap.get?_update_other _ _ ?_).trans (Heap.get?_push_of_some _ e))
    exact Ne.symm (Nat.ne_of_lt (Heap.lt_size e))
  have hsz2 : h2.objs.size = s.heap.objs.size + 2 := by rw [← hH, size_push', hsz]
  rw [hsz]
  have up : ∀ v k, IsK prog w s.heap k v → IsK prog w h2 k v := fun v k hk => hk.up keep
  have kA : ∀ v ∈ vs, keyAt prog w h2 v = keyAt prog w s.heap v := fun v hv' => by
    obtain ⟨i, k, hk⟩ := hv v hv'
    rw [keyAt_eq hk, keyAt_eq (up v _ hk)]
  refine wpAny_bind (wpAny_holding (wpAny_call_entry slot_list_sort (s := { s with heap := h2 }) ⟨_, hoL, rfl⟩ entry_list_sort (sort_list64 (s := { s with heap := h2 }) hoL hz h64 (fun v hv' => ?_) (fun v hv' z => ?_) fun out a1 a2 => ⟨_, rfl, ?_⟩) (args_list_sort _)))
  · obtain ⟨i, k, hk⟩ := hv v hv'
    exact ⟨i, k, up v _ hk⟩
  · obtain ⟨i, k, a, rfl, o, items, n, ho, _⟩ := hv v hv'
    cases z
    exact absurd (Heap.lt_size ho) (Nat.not_lt.mpr (Nat.le_succ _))
  · have hlast : ∃ n, (sortedHeap h2 (s.heap.objs.size + 1) vs out.toArray).get? (s.heap.objs.size + 1) = some (seqObj "list" out.toArray n) := by
      unfold sortedHeap
      have g1 := get?_update_seq hoL (fun _ => (#[] : Array Value))
      have g2 : (((h2.update (s.heap.objs.size + 1) (Obj.mapSeq fun _ => #[])).push (seqObj "tuple" vs.toArray 0)).push (seqObj "list" #[] 0)).get? (s.heap.objs.size + 1) = _ := Heap.get?_push_of_some _ (Heap.get?_push_of_some _ g1)
      exact ⟨_, get?_update_seq g2 (fun _ => out.toArray)⟩
    obtain ⟨n, hn⟩ := hlast
    refine wpAny_pure ⟨_, rfl, h out _ n a1 ?_ (fun b o e => ?_) hn⟩
    · refine List.Pairwise.imp_of_mem ?_ a2
      intro x y hx hy hxy
      rw [kA x (a1.mem_iff.mp hx), kA y (a1.mem_iff.mp hy)] at hxy
      exact hxy
    · have hb : b ≠ s.heap.objs.size + 1 := Nat.ne_of_lt (Nat.lt_succ_of_lt (Heap.lt_size e))
      unfold sortedHeap
      refine (Heap.get?_update_other _ _ (Ne.symm hb)).trans (Heap.get?_push_of_some _ (Heap.get?_push_of_some _ ((Heap.get?_update_other _ _ (Ne.symm hb)).trans (keep b o e))))
end
end Tim

namespace Sett
open PySem PySem.SetTable
set_option autoImplicit false
set_option linter.all false

theorem ex_min {P : Nat → Prop} (h : ∃ n, P n) : ∃ n, P n ∧ ∀ m, m < n → ¬ P m := by
  obtain ⟨n, hn⟩ := h
  induction n using Nat.strongRecOn with
  | ind n ih =>
    by_cases q : ∃ m, m < n ∧ P m
    · obtain ⟨m, hm, pm⟩ := q
      exact ih m hm pm
    · exact ⟨n, hn, fun m hm pm => q ⟨m, hm, pm⟩⟩

/-! ### the path of a search -/
/-- a run's start -/
def st (m i pt : Nat) : Probe := { j := i, more := runEnd m i - i, i := i, perturb := pt, dummy := none }
/-- n steps on -/
def it (t : SetTable) : Nat → Probe → Probe
  | 0, p => p
  | n + 1, p => it t n (t.advance p)
theorem it_add (t : SetTable) : ∀ (a b : Nat) (p : Probe), it t (a + b) p = it t b (it t a p)
  | 0, b, p => by rw [Nat.zero_add]; rfl
  | a + 1, b, p => by
    rw [show a + 1 + b = (a + b) + 1 by omega]
    exact it_add t a b (t.advance p)
theorem it_succ (t : SetTable) (n : Nat) (p : Probe) : it t (n + 1) p = t.advance (it t n p) := it_add t n 1 p
theorem runEnd_le (m i : Nat) : i ≤ runEnd m i ∧ runEnd m i ≤ i + 9 := by unfold runEnd; split <;> omega
theorem runEnd_m {m i : Nat} (h : i ≤ m) : runEnd m i ≤ m := by unfold runEnd; split <;> omega
/-- within a run -/
theorem it_run (t : SetTable) (i pt : Nat) : ∀ k, k ≤ runEnd t.mask i - i → it t k (st t.mask i pt) = { j := i + k, more := runEnd t.mask i - i - k, i := i, perturb := pt, dummy := none }
  | 0, _ => rfl
  | k + 1, h => by
    rw [it_succ, it_run t i pt k (by omega)]
    unfold advance
    dsimp only
    rw [if_pos (by omega)]
    simp only [Probe.mk.injEq, and_true, true_and]
    omega
/-- to the next run -/
theorem it_leap (t : SetTable) (i pt : Nat) : it t (runEnd t.mask i - i + 1) (st t.mask i pt) = st t.mask (leap t.mask i pt).1 (leap t.mask i pt).2 := by
  rw [it_succ, it_run t i pt _ (Nat.le_refl _)]
  unfold advance
  dsimp only
  rw [if_neg (by omega)]
  rfl
/-- the start of the r-th run, its perturb -/
def rn (m i pt : Nat) : Nat → Nat × Nat
  | 0 => (i, pt)
  | r + 1 => leap m (rn m i pt r).1 (rn m i pt r).2
theorem rn_pt (m i pt : Nat) : ∀ r, (rn m i pt r).2 = pt / 32 ^ r
  | 0 => by simp [rn]
  | r + 1 => by
    show (rn m i pt r).2 / 32 = _
    rw [rn_pt m i pt r, Nat.div_div_eq_div_mul, Nat.pow_succ]
theorem rn_le (m i pt : Nat) (h : i ≤ m) : ∀ r, (rn m i pt r).1 ≤ m
  | 0 => h
  | r + 1 => Nat.le_of_lt_succ (Nat.mod_lt _ (Nat.succ_pos m))
/-- steps until the r-th run -/
theorem it_rn (t : SetTable) (i pt : Nat) : ∀ r, ∃ n, n ≤ 10 * r ∧ it t n (st t.mask i pt) = st t.mask (rn t.mask i pt r).1 (rn t.mask i pt r).2
  | 0 => ⟨0, Nat.le_refl _, rfl⟩
  | r + 1 => by
    obtain ⟨n, hn, e⟩ := it_rn t i pt r
    have h9 := runEnd_le t.mask (rn t.mask i pt r).1
    refine ⟨n + (runEnd t.mask (rn t.mask i pt r).1 - (rn t.mask i pt r).1 + 1), by omega, ?_⟩
    rw [it_add, e, it_leap]
    rfl

/-- the masks that occur, and the walk i ↦ 5 i + 1 upon them -/
def f5 (m i : Nat) : Nat := (i * 5 + 1) % (m + 1)
def orb (m : Nat) : Nat → Nat → List Nat
  | 0, _ => []
  | k + 1, i => i :: orb m k (f5 m i)
def Full (m : Nat) : Prop := ∀ b, b ≤ m → ∀ a, a ≤ m → ∃ n, n ≤ m ∧ Nat.repeat (f5 m) n a = b
def chk (m : Nat) : Bool := (orb m (m + 1) 0).foldl (fun acc i => acc ||| 2 ^ i) 0 == 2 ^ (m + 1) - 1
theorem bits_mem : ∀ (l : List Nat) (acc b : Nat), (l.foldl (fun acc i => acc ||| 2 ^ i) acc).testBit b = true → acc.testBit b = true ∨ b ∈ l
  | [], acc, b, h => .inl h
  | i :: l, acc, b, h => by
    rcases bits_mem l _ b h with q | q
    · rw [Nat.testBit_or, Bool.or_eq_true] at q
      rcases q with q | q
      · exact .inl q
      · rw [Nat.testBit_two_pow] at q
        exact .inr (by rw [of_decide_eq_true q]; exact List.mem_cons_self)
    · exact .inr (List.mem_cons_of_mem _ q)
theorem rep_add (f : Nat → Nat) (a : Nat) : ∀ n k, Nat.repeat f (n + k) a = Nat.repeat f k (Nat.repeat f n a)
  | n, 0 => rfl
  | n, k + 1 => by
    show f (Nat.repeat f (n + k) a) = f (Nat.repeat f k (Nat.repeat f n a))
    rw [rep_add f a n k]
theorem orb_get (m : Nat) : ∀ k i x, x ∈ orb m k i → ∃ n, n < k ∧ Nat.repeat (f5 m) n i = x
  | 0, i, x, h => by cases h
  | k + 1, i, x, h => by
    rcases List.mem_cons.mp h with rfl | h
    · exact ⟨0, Nat.succ_pos _, rfl⟩
    · obtain ⟨n, hn, e⟩ := orb_get m k (f5 m i) x h
      refine ⟨n + 1, by omega, ?_⟩
      rw [Nat.add_comm n 1, rep_add]
      exact e
theorem full_of {m : Nat} (hc : chk m = true) (hz : Nat.repeat (f5 m) (m + 1) 0 = 0) : Full m := by
  intro b hb a ha
  unfold chk at hc
  have hc := eq_of_beq hc
  have get : ∀ x, x ≤ m → ∃ n, n < m + 1 ∧ Nat.repeat (f5 m) n 0 = x := fun x hx => by
    have hb : (2 ^ (m + 1) - 1).testBit x = true := by rw [Nat.testBit_two_pow_sub_one]; exact decide_eq_true (by omega)
    rw [← hc] at hb
    rcases bits_mem _ _ _ hb with q | q
    · simp at q
    · exact orb_get m (m + 1) 0 x q
  obtain ⟨p, hp, ep⟩ := get a ha
  obtain ⟨q, hq, eq⟩ := get b hb
  by_cases h : p ≤ q
  · refine ⟨q - p, by omega, ?_⟩
    rw [← ep, ← rep_add, show p + (q - p) = q by omega, eq]
  · refine ⟨m + 1 - p + q, by omega, ?_⟩
    rw [← ep, ← rep_add, show p + (m + 1 - p + q) = (m + 1) + q by omega, rep_add, hz, eq]
def Good (m : Nat) : Prop := m = 7 ∨ m = 31 ∨ m = 127 ∨ m = 511
set_option maxRecDepth 100000 in
theorem Good.full {m : Nat} (h : Good m) : Full m := by
  rcases h with rfl | rfl | rfl | rfl
  · exact full_of (by decide +kernel) (by decide +kernel)
  · exact full_of (by decide +kernel) (by decide +kernel)
  · exact full_of (by decide +kernel) (by decide +kernel)
  · exact full_of (by decide +kernel) (by decide +kernel)

theorem rn_late (m i pt : Nat) (hp : pt < 2 ^ 64) : ∀ k, (rn m i pt (13 + k)).1 = Nat.repeat (f5 m) k (rn m i pt 13).1
  | 0 => rfl
  | k + 1 => by
    show (leap m (rn m i pt (13 + k)).1 (rn m i pt (13 + k)).2).1 = f5 m (Nat.repeat (f5 m) k (rn m i pt 13).1)
    rw [← rn_late m i pt hp k]
    unfold leap f5
    have : (rn m i pt (13 + k)).2 / 32 = 0 := by
      rw [rn_pt, Nat.pow_add, ← Nat.div_div_eq_div_mul]
      have : pt / 32 ^ 13 = 0 := Nat.div_eq_of_lt (Nat.lt_trans hp (by decide))
      rw [this]
      simp
    dsimp only
    rw [this, Nat.add_zero]
/-- every place is met within turns runs -/
theorem rn_hits {m i pt b : Nat} (g : Good m) (hi : i ≤ m) (hp : pt < 2 ^ 64) (hb : b ≤ m) : ∃ r, r < turns m ∧ (rn m i pt r).1 = b := by
  obtain ⟨n, hn, e⟩ := g.full b hb (rn m i pt 13).1 (rn_le m i pt hi 13)
  exact ⟨13 + n, by unfold turns; omega, by rw [rn_late m i pt hp]; exact e⟩
theorem it_hits (t : SetTable) {i pt b : Nat} (g : Good t.mask) (hi : i ≤ t.mask) (hp : pt < 2 ^ 64) (hb : b ≤ t.mask) : ∃ n, n < 10 * turns t.mask ∧ (it t n (st t.mask i pt)).j = b := by
  obtain ⟨r, hr, e⟩ := rn_hits g hi hp hb
  obtain ⟨n, hn, e'⟩ := it_rn t i pt r
  refine ⟨n, by omega, ?_⟩
  rw [e']
  exact e
theorem it_dummy (t : SetTable) : ∀ (n : Nat) (p : Probe), (it t n p).dummy = p.dummy
  | 0, p => rfl
  | n + 1, p => by
    show (it t n (t.advance p)).dummy = _
    rw [it_dummy t n]
    unfold advance
    split <;> rfl
theorem bits_lt (h : Int) : bits h < 2 ^ 64 := by
  unfold bits
  have h1 := Int.emod_nonneg h (show (2 ^ 64 : Int) ≠ 0 by decide)
  have h2 := Int.emod_lt_of_pos h (show (0 : Int) < 2 ^ 64 by decide)
  omega
theorem start_eq (t : SetTable) (h : Int) : t.probeStart h = st t.mask (bits h % (t.mask + 1)) (bits h) := rfl
theorem it_mask {t t' : SetTable} (h : t'.mask = t.mask) : ∀ (n : Nat) (p : Probe), it t' n p = it t n p
  | 0, p => rfl
  | n + 1, p => by
    show it t' n (t'.advance p) = it t n (t.advance p)
    have : t'.advance p = t.advance p := by unfold advance; rw [h]
    rw [this, it_mask h n]

/-! ### places in order -/
def Asc (xs : Array Nat) : Prop := ∀ (i j a b : Nat), i < j → xs[i]? = some a → xs[j]? = some b → a < b
theorem below_go {xs : Array Nat} (asc : Asc xs) (j : Nat) : ∀ (fuel lo hi : Nat), hi - lo ≤ fuel → lo ≤ hi → hi ≤ xs.size → (∀ i a, i < lo → xs[i]? = some a → a < j) → (∀ i a, hi ≤ i → xs[i]? = some a → j ≤ a) →
    (below.go xs j fuel lo hi) ≤ xs.size ∧ (∀ i a, i < below.go xs j fuel lo hi → xs[i]? = some a → a < j) ∧ (∀ i a, below.go xs j fuel lo hi ≤ i → xs[i]? = some a → j ≤ a)
  | 0, lo, hi, h0, h1, h2, h3, h4 => by
    have : lo = hi := by omega
    subst this
    exact ⟨h2, h3, h4⟩
  | fuel + 1, lo, hi, h0, h1, h2, h3, h4 => by
    unfold below.go
    by_cases hlt : lo < hi
    · rw [if_pos hlt]
      dsimp only
      have hm : (lo + hi) / 2 < xs.size := by omega
      have hg : xs.getD ((lo + hi) / 2) j = xs[(lo + hi) / 2] := by simp [Array.getD, hm]
      have hq : xs[(lo + hi) / 2]? = some xs[(lo + hi) / 2] := getElem?_pos xs _ hm
      by_cases hc : xs.getD ((lo + hi) / 2) j < j
      · rw [if_pos hc]
        refine below_go asc j fuel _ hi (by omega) (by omega) h2 (fun i a hi' e => ?_) h4
        rw [hg] at hc
        by_cases he : i = (lo + hi) / 2
        · subst he; rw [hq] at e; cases e; exact hc
        · have := asc i _ a _ (by omega) e hq
          omega
      · rw [if_neg hc]
        refine below_go asc j fuel lo _ (by omega) (by omega) (by omega) h3 (fun i a hi' e => ?_)
        rw [hg] at hc
        by_cases he : i = (lo + hi) / 2
        · subst he; rw [hq] at e; cases e; omega
        · have := asc _ i _ a (by omega) hq e
          omega
    · rw [if_neg hlt]
      have : lo = hi := by omega
      subst this
      exact ⟨h2, h3, h4⟩
theorem below_spec {xs : Array Nat} (asc : Asc xs) (j : Nat) : below xs j ≤ xs.size ∧ (∀ i a, i < below xs j → xs[i]? = some a → a < j) ∧ (∀ i a, below xs j ≤ i → xs[i]? = some a → j ≤ a) :=
  below_go asc j xs.size 0 xs.size (by omega) (by omega) (Nat.le_refl _) (fun i a h => by omega) fun i a h e => by
    have := (getElem?_eq_some_iff.mp e).1
    omega
theorem below_at {xs : Array Nat} (asc : Asc xs) {i j : Nat} (h : xs[i]? = some j) : below xs j = i := by
  obtain ⟨h1, h2, h3⟩ := below_spec asc j
  rcases Nat.lt_trichotomy (below xs j) i with q | q | q
  · exfalso
    have hlt : below xs j < xs.size := Nat.lt_trans q (getElem?_eq_some_iff.mp h).1
    have e := getElem?_pos xs (below xs j) hlt
    have a1 := h3 (below xs j) _ (Nat.le_refl _) e
    have a2 := asc _ _ _ _ q e h
    omega
  · exact q
  · have := h2 i j q h
    omega
theorem slot_live {t : SetTable} (asc : Asc t.place) {i j : Nat} (h : t.place[i]? = some j) : t.slot j = .live i := by
  unfold slot
  dsimp only
  rw [below_at asc h, h]
  simp
theorem slot_empty {t : SetTable} (hd : t.dummies = #[]) {j : Nat} (h : ∀ i : Nat, t.place[i]? ≠ some j) : t.slot j = .empty := by
  unfold slot
  dsimp only
  rw [if_neg (by simpa using h _), if_neg (by rw [hd]; simp [has])]

/-! ### what a search meets -/
theorem go_empty {t : SetTable} {hashAt : Nat → Int} {h : Int} : ∀ (n fuel : Nat) (p : Probe), n < fuel → (∀ k, k < n → ∃ i, t.slot (it t k p).j = .live i ∧ hashAt i ≠ h) → t.slot (it t n p).j = .empty →
    probe.go t hashAt h fuel p = some (.empty (it t n p).j (it t n p).dummy)
  | 0, fuel + 1, p, _, _, he => by
    unfold probe.go
    have he' : t.slot p.j = .empty := he
    rw [he']
    rfl
  | n + 1, fuel + 1, p, hl, hk, he => by
    obtain ⟨i, e, hne⟩ := hk 0 (Nat.succ_pos _)
    have e' : t.slot p.j = .live i := e
    unfold probe.go
    rw [e']
    dsimp only
    rw [if_neg (by simpa using hne)]
    exact go_empty n fuel (t.advance p) (by omega) (fun k hk' => hk (k + 1) (by omega)) he
theorem go_cand {t : SetTable} {hashAt : Nat → Int} {h : Int} {i : Nat} : ∀ (n fuel : Nat) (p : Probe), n < fuel → (∀ k, k < n → ∃ i, t.slot (it t k p).j = .live i ∧ hashAt i ≠ h) → t.slot (it t n p).j = .live i → hashAt i = h →
    ∃ q, probe.go t hashAt h fuel p = some (.candidate (it t n p).j i q)
  | 0, fuel + 1, p, _, _, he, hh => by
    unfold probe.go
    have he' : t.slot p.j = .live i := he
    rw [he']
    dsimp only
    rw [if_pos (by simpa using hh)]
    exact ⟨_, rfl⟩
  | n + 1, fuel + 1, p, hl, hk, he, hh => by
    obtain ⟨i', e, hne⟩ := hk 0 (Nat.succ_pos _)
    have e' : t.slot p.j = .live i' := e
    unfold probe.go
    rw [e']
    dsimp only
    rw [if_neg (by simpa using hne)]
    exact go_cand n fuel (t.advance p) (by omega) (fun k hk' => hk (k + 1) (by omega)) he hh
end Sett

namespace Sett
open PySem PySem.SetTable
set_option autoImplicit false
set_option linter.all false

abbrev En := Int × Value
/-- a table that fits its elements, with no dummies, not too full, and every element on its own path -/
structure Tb (t : SetTable) (es : Array En) : Prop where
  dum : t.dummies = #[]
  len : t.place.size = es.size
  asc : Asc t.place
  bnd : ∀ (i j : Nat), t.place[i]? = some j → j ≤ t.mask
  good : Good t.mask
  nf : es.size * 5 < t.mask * 3
  path : ∀ (i : Nat) (e : En), es[i]? = some e → ∃ n, n < 10 * turns t.mask ∧ t.place[i]? = some (it t n (t.probeStart e.1)).j ∧ ∀ k, k < n → ∃ i' : Nat, t.place[i']? = some (it t k (t.probeStart e.1)).j

theorem asc_ge {xs : Array Nat} (asc : Asc xs) : ∀ (i a : Nat), xs[i]? = some a → i ≤ a
  | 0, a, _ => Nat.zero_le _
  | i + 1, a, h => by
    have hi : i + 1 < xs.size := (getElem?_eq_some_iff.mp h).1
    have e := getElem?_pos xs i (by omega)
    have h1 := asc_ge asc i _ e
    have h2 := asc i (i + 1) _ a (by omega) e h
    omega
/-- fewer places than slots: a slot is free -/
theorem free_slot {xs : Array Nat} (asc : Asc xs) {m : Nat} (h : xs.size ≤ m) : ∃ b, b ≤ m ∧ ∀ i : Nat, xs[i]? ≠ some b := by
  by_cases q : ∃ i, i < xs.size ∧ xs[i]? ≠ some i
  · obtain ⟨i, ⟨hi, hne⟩, hmin⟩ := ex_min q
    refine ⟨i, by omega, fun k e => ?_⟩
    have hk := asc_ge asc k i e
    rcases Nat.lt_or_eq_of_le hk with hlt | rfl
    · have ek : xs[k]? = some k := Classical.byContradiction fun z => hmin k hlt ⟨by omega, z⟩
      rw [ek] at e
      cases e
      omega
    · exact hne e
  · refine ⟨xs.size, h, fun k e => ?_⟩
    have hk : k < xs.size := (getElem?_eq_some_iff.mp e).1
    have ek : xs[k]? = some k := Classical.byContradiction fun z => q ⟨k, hk, z⟩
    rw [ek] at e
    cases e
    omega
theorem Tb.small {t : SetTable} {es : Array En} (T : Tb t es) : es.size ≤ t.mask := by
  have := T.nf
  omega
theorem Tb.fits {t : SetTable} {es : Array En} (T : Tb t es) : t.fits es.size = true := by
  unfold SetTable.fits fill
  rw [T.dum, T.len]
  have := T.small
  simp
  exact this
theorem Tb.odd {t : SetTable} {es : Array En} (T : Tb t es) : t.gaveWay = false := by
  unfold gaveWay
  rcases T.good with e | e | e | e <;> rw [e] <;> rfl
def hashOf (es : Array En) (i : Nat) : Int := (es[i]?.map (·.1)).getD 0
theorem hashOf_some {es : Array En} {i : Nat} {e : En} (h : es[i]? = some e) : hashOf es i = e.1 := by unfold hashOf; rw [h]; rfl
theorem start_le (t : SetTable) (h : Int) : bits h % (t.mask + 1) ≤ t.mask := Nat.le_of_lt_succ (Nat.mod_lt _ (Nat.succ_pos _))

/-- no element with that hash: the search comes to a free slot -/
theorem Tb.absent {t : SetTable} {es : Array En} (T : Tb t es) {h : Int} (hh : ∀ e ∈ es.toList, e.1 ≠ h) : ∃ n, n < 10 * turns t.mask ∧ (∀ i : Nat, t.place[i]? ≠ some (it t n (t.probeStart h)).j) ∧ (it t n (t.probeStart h)).j ≤ t.mask ∧
    (∀ k, k < n → ∃ i' : Nat, t.place[i']? = some (it t k (t.probeStart h)).j) ∧ t.probe (hashOf es) h (t.probeStart h) = some (.empty (it t n (t.probeStart h)).j none) := by
  obtain ⟨b, hb, hfree⟩ := free_slot T.asc (m := t.mask) (by rw [T.len]; exact T.small)
  obtain ⟨n0, hn0, e0⟩ := it_hits t T.good (start_le t h) (bits_lt h) hb
  rw [← start_eq] at e0
  obtain ⟨n, ⟨hfr, hn, hle⟩, hmin⟩ := ex_min (P := fun n => (∀ i : Nat, t.place[i]? ≠ some (it t n (t.probeStart h)).j) ∧ n ≤ n0 ∧ (it t n (t.probeStart h)).j ≤ t.mask) ⟨n0, by rw [e0]; exact hfree, Nat.le_refl _, by rw [e0]; exact hb⟩
  have hocc : ∀ k, k < n → ∃ i' : Nat, t.place[i']? = some (it t k (t.probeStart h)).j := fun k hk => Classical.byContradiction fun z => by
    have hk' : ∀ i : Nat, t.place[i]? ≠ some (it t k (t.probeStart h)).j := fun i e => z ⟨i, e⟩
    by_cases hkm : (it t k (t.probeStart h)).j ≤ t.mask
    · exact hmin k hk ⟨hk', by omega, hkm⟩
    · -- every place on the way is a slot
      exact hkm (by
        clear z hk' hkm hmin hfr hle hn hk
        rw [start_eq]
        induction k with
        | zero => exact start_le t h
        | succ k ih =>
          have key : ∀ k, ∃ r c, c ≤ runEnd t.mask (rn t.mask (bits h % (t.mask + 1)) (bits h) r).1 - (rn t.mask (bits h % (t.mask + 1)) (bits h) r).1 ∧
              it t k (st t.mask (bits h % (t.mask + 1)) (bits h)) = it t c (st t.mask (rn t.mask (bits h % (t.mask + 1)) (bits h) r).1 (rn t.mask (bits h % (t.mask + 1)) (bits h) r).2) := fun k => by
            induction k with
            | zero => exact ⟨0, 0, Nat.zero_le _, rfl⟩
            | succ k ih =>
              obtain ⟨r, c, hc, e⟩ := ih
              rcases Nat.lt_or_eq_of_le hc with hlt | heq
              · exact ⟨r, c + 1, hlt, by rw [it_succ, e, ← it_succ]⟩
              · refine ⟨r + 1, 0, Nat.zero_le _, ?_⟩
                rw [it_succ, e, ← it_succ, heq, it_leap]
                rfl
          obtain ⟨r, c, hc, e⟩ := key (k + 1)
          rw [e, it_run t _ _ c hc]
          have h1 := rn_le t.mask (bits h % (t.mask + 1)) (bits h) (start_le t h) r
          have h2 := runEnd_m h1
          have h3 := runEnd_le t.mask (rn t.mask (bits h % (t.mask + 1)) (bits h) r).1
          show (rn t.mask (bits h % (t.mask + 1)) (bits h) r).1 + c ≤ t.mask
          omega)
  refine ⟨n, by omega, hfr, hle, hocc, ?_⟩
  unfold probe
  have := go_empty (hashAt := hashOf es) (h := h) n (10 * turns t.mask) (t.probeStart h) (by omega) (fun k hk => ?_) (slot_empty T.dum hfr)
  · rw [this, it_dummy]
    rfl
  · obtain ⟨i', e⟩ := hocc k hk
    refine ⟨i', slot_live T.asc e, ?_⟩
    have hi : i' < es.size := by rw [← T.len]; exact (getElem?_eq_some_iff.mp e).1
    have e2 := getElem?_pos es i' hi
    rw [hashOf_some e2]
    exact hh _ (by simp)
/-- an element with that hash: the search meets it -/
theorem Tb.present {t : SetTable} {es : Array En} (T : Tb t es) {i : Nat} {e : En} (he : es[i]? = some e) (hu : ∀ (k : Nat) (e' : En), es[k]? = some e' → e'.1 = e.1 → k = i) : ∃ j q, t.probe (hashOf es) e.1 (t.probeStart e.1) = some (.candidate j i q) := by
  obtain ⟨n, hn, hp, hocc⟩ := T.path i e he
  unfold probe
  obtain ⟨m, ⟨hm, i1, hi1, hs1⟩, hmin⟩ := ex_min (P := fun m => m ≤ n ∧ ∃ i1 : Nat, t.place[i1]? = some (it t m (t.probeStart e.1)).j ∧ hashOf es i1 = e.1) ⟨n, Nat.le_refl _, i, hp, hashOf_some he⟩
  have hi2 : i1 < es.size := by rw [← T.len]; exact (getElem?_eq_some_iff.mp hi1).1
  have e2 := getElem?_pos es i1 hi2
  rw [hashOf_some e2] at hs1
  have hii : i1 = i := hu i1 _ e2 hs1
  subst hii
  obtain ⟨q, hq⟩ := go_cand (hashAt := hashOf es) (h := e.1) (i := i1) m (10 * turns t.mask) (t.probeStart e.1) (by omega) (fun k hk => by
    obtain ⟨i', e3⟩ := hocc k (by omega)
    exact ⟨i', slot_live T.asc e3, fun z => hmin k hk ⟨by omega, i', e3, z⟩⟩) (slot_live T.asc hi1) (hashOf_some he)
  exact ⟨_, q, hq⟩

/-! ### one more -/
theorem get_ins {α : Type} {xs : Array α} {p : Nat} {x : α} (hp : p ≤ xs.size) (i : Nat) : (insertAt xs p x)[i]? = if i < p then xs[i]? else if i = p then some x else xs[i - 1]? := by
  unfold insertAt
  have e0 : ((xs.extract 0 p).push x).size = p + 1 := by rw [Array.size_push, Array.size_extract]; omega
  by_cases h1 : i < p
  · rw [if_pos h1, Array.getElem?_append_left (by omega), Array.getElem?_push_lt (by rw [Array.size_extract]; omega)]
    rw [Array.getElem_extract]
    simp only [Nat.zero_add]
    exact (getElem?_pos xs i (by omega)).symm
  · rw [if_neg h1]
    by_cases h2 : i = p
    · subst h2
      rw [if_pos rfl, Array.getElem?_append_left (by omega)]
      have e1 : (xs.extract 0 i).size = i := by rw [Array.size_extract]; omega
      rw [Array.getElem?_push, e1, if_pos rfl]
    · rw [if_neg h2, Array.getElem?_append_right (by omega), e0, Array.getElem?_extract]
      split
      · congr 1; omega
      · rw [getElem?_neg]
        omega
theorem size_ins {α : Type} {xs : Array α} {p : Nat} {x : α} (hp : p ≤ xs.size) : (insertAt xs p x).size = xs.size + 1 := by
  unfold insertAt
  rw [Array.size_append, Array.size_push, Array.size_extract, Array.size_extract]
  omega
theorem mem_ins {α : Type} {xs : Array α} {p : Nat} {x : α} (hp : p ≤ xs.size) (y : α) : y ∈ (insertAt xs p x).toList ↔ y = x ∨ y ∈ xs.toList := by
  constructor
  · intro h
    obtain ⟨i, hi⟩ := List.mem_iff_getElem?.mp h
    rw [Array.getElem?_toList, get_ins hp] at hi
    split at hi
    · exact .inr (List.mem_of_getElem? (by rw [Array.getElem?_toList]; exact hi))
    · split at hi
      · cases hi; exact .inl rfl
      · exact .inr (List.mem_of_getElem? (by rw [Array.getElem?_toList]; exact hi))
  · rintro (rfl | h)
    · exact List.mem_of_getElem? (i := p) (by rw [Array.getElem?_toList, get_ins hp, if_neg (Nat.lt_irrefl _), if_pos rfl])
    · obtain ⟨i, hi⟩ := List.mem_iff_getElem?.mp h
      rw [Array.getElem?_toList] at hi
      have hi' : i < xs.size := (getElem?_eq_some_iff.mp hi).1
      by_cases q : i < p
      · exact List.mem_of_getElem? (i := i) (by rw [Array.getElem?_toList, get_ins hp, if_pos q]; exact hi)
      · exact List.mem_of_getElem? (i := i + 1) (by rw [Array.getElem?_toList, get_ins hp, if_neg (by omega), if_neg (by omega)]; simpa using hi)

/-- the table with one more, but for the fullness -/
structure Tb' (t : SetTable) (es : Array En) : Prop where
  dum : t.dummies = #[]
  len : t.place.size = es.size
  asc : Asc t.place
  bnd : ∀ (i j : Nat), t.place[i]? = some j → j ≤ t.mask
  good : Good t.mask
  fil : es.size ≤ t.mask
  path : ∀ (i : Nat) (e : En), es[i]? = some e → ∃ n, n < 10 * turns t.mask ∧ t.place[i]? = some (it t n (t.probeStart e.1)).j ∧ ∀ k, k < n → ∃ i' : Nat, t.place[i']? = some (it t k (t.probeStart e.1)).j
theorem Tb'.full {t : SetTable} {es : Array En} (T : Tb' t es) (h : es.size * 5 < t.mask * 3) : Tb t es := ⟨T.dum, T.len, T.asc, T.bnd, T.good, h, T.path⟩
theorem Tb'.fits {t : SetTable} {es : Array En} (T : Tb' t es) : t.fits es.size = true := by
  unfold SetTable.fits fill
  rw [T.dum, T.len]
  have := T.fil
  simp
  exact this
theorem Tb'.plain {t : SetTable} {es : Array En} (T : Tb' t es) (b : Bool) : Tb' { t with plain := b } es := by
  have e : ∀ n (p : Probe), it { t with plain := b } n p = it t n p := fun n p => it_mask (t := t) (t' := { t with plain := b }) rfl n p
  refine ⟨T.dum, T.len, T.asc, T.bnd, T.good, T.fil, fun i x hx => ?_⟩
  obtain ⟨n, h1, h2, h3⟩ := T.path i x hx
  exact ⟨n, h1, by rw [e]; exact h2, fun k hk => by rw [e]; exact h3 k hk⟩
theorem Tb.put {t : SetTable} {es : Array En} (T : Tb t es) {h : Int} {x : Value} {n : Nat} (hn : n < 10 * turns t.mask) (hfr : ∀ i : Nat, t.place[i]? ≠ some (it t n (t.probeStart h)).j) (hle : (it t n (t.probeStart h)).j ≤ t.mask)
    (hocc : ∀ k, k < n → ∃ i' : Nat, t.place[i']? = some (it t k (t.probeStart h)).j) :
    (t.put (it t n (t.probeStart h)).j).2 ≤ es.size ∧ Tb' (t.put (it t n (t.probeStart h)).j).1 (insertAt es (t.put (it t n (t.probeStart h)).j).2 (h, x)) := by
  generalize hj : (it t n (t.probeStart h)).j = j at *
  obtain ⟨b1, b2, b3⟩ := below_spec T.asc j
  have hp : (t.put j).2 = below t.place j := rfl
  have hd : has t.dummies j = false := by rw [T.dum]; simp [has]
  have ht : (t.put j).1 = { t with place := insertAt t.place (below t.place j) j } := by
    unfold SetTable.put
    dsimp only
    rw [if_neg (by rw [hd]; exact Bool.false_ne_true)]
  have hm : (t.put j).1.mask = t.mask := by rw [ht]
  have hpl : (t.put j).1.place = insertAt t.place (below t.place j) j := by rw [ht]
  have hsz := T.nf
  have old : ∀ (i a : Nat), t.place[i]? = some a → ∃ i' : Nat, (insertAt t.place (below t.place j) j)[i']? = some a := fun i a e => by
    by_cases q : i < below t.place j
    · exact ⟨i, by rw [get_ins b1, if_pos q]; exact e⟩
    · exact ⟨i + 1, by rw [get_ins b1, if_neg (by omega), if_neg (by omega)]; simpa using e⟩
  have hit : ∀ k (p : Probe), it (t.put j).1 k p = it t k p := fun k p => it_mask hm k p
  have hst : ∀ z : Int, (t.put j).1.probeStart z = t.probeStart z := fun z => by rw [start_eq, start_eq, hm]
  refine ⟨by rw [hp, ← T.len]; exact b1, ?_⟩
  rw [hp]
  refine ⟨by rw [ht]; exact T.dum, by rw [hpl, size_ins b1, size_ins (by rw [← T.len]; exact b1), T.len], ?_, ?_, by rw [hm]; exact T.good, ?_, ?_⟩
  · rw [hpl]
    intro i k a c hik ea ec
    rw [get_ins b1] at ea ec
    split at ea
    · rename_i hi
      split at ec
      · exact T.asc i k a c hik ea ec
      · split at ec
        · cases ec; exact b2 i a hi ea
        · exact T.asc i (k - 1) a c (by omega) ea ec
    · split at ea
      · rename_i hi1 hi2
        cases ea
        rw [if_neg (by omega), if_neg (by omega)] at ec
        have h1 := b3 (k - 1) c (by omega) ec
        rcases Nat.lt_or_eq_of_le h1 with h2 | h2
        · exact h2
        · subst h2; exact absurd ec (hfr (k - 1))
      · rw [if_neg (by omega), if_neg (by omega)] at ec
        exact T.asc (i - 1) (k - 1) a c (by omega) ea ec
  · rw [hpl, hm]
    intro i a ea
    rw [get_ins b1] at ea
    split at ea
    · exact T.bnd i a ea
    · split at ea
      · cases ea; exact hle
      · exact T.bnd _ a ea
  · rw [hm, size_ins (by rw [← T.len]; exact b1)]
    have := T.good
    unfold Good at this
    omega
  · intro i e he
    rw [hpl, hm]
    have b1' : below t.place j ≤ es.size := by rw [← T.len]; exact b1
    rw [get_ins b1'] at he
    have lift : ∀ (i0 : Nat) (i' : Nat), es[i0]? = some e → (∀ a, t.place[i0]? = some a → (insertAt t.place (below t.place j) j)[i']? = some a) →
        ∃ n, n < 10 * turns t.mask ∧ (insertAt t.place (below t.place j) j)[i']? = some (it (t.put j).1 n ((t.put j).1.probeStart e.1)).j ∧ ∀ k, k < n → ∃ i' : Nat, (insertAt t.place (below t.place j) j)[i']? = some (it (t.put j).1 k ((t.put j).1.probeStart e.1)).j := fun i0 i' h0 h1 => by
      obtain ⟨n', q1, q2, q3⟩ := T.path i0 e h0
      refine ⟨n', q1, ?_, fun k hk => ?_⟩
      · rw [hit, hst]; exact h1 _ q2
      · obtain ⟨i2, e2⟩ := q3 k hk
        rw [hit, hst]
        exact old i2 _ e2
    split at he
    · rename_i hi
      exact lift i i he fun a ea => by rw [get_ins b1, if_pos hi]; exact ea
    · split at he
      · rename_i hi1 hi2
        cases he
        refine ⟨n, hn, ?_, fun k hk => ?_⟩
        · rw [hit, hst, hj, get_ins b1, if_neg hi1, if_pos hi2]
        · obtain ⟨i2, e2⟩ := hocc k hk
          rw [hit, hst]
          exact old i2 _ e2
      · rename_i hi1 hi2
        exact lift (i - 1) i he fun a ea => by rw [get_ins b1, if_neg hi1, if_neg hi2]; exact ea
end Sett

namespace Sett
open PySem PySem.SetTable
set_option autoImplicit false
set_option linter.all false

theorem pigeon : ∀ (k n : Nat) (g : Nat → Nat), (∀ i, i < n → g i < k) → (∀ i j, i < n → j < n → g i = g j → i = j) → n ≤ k
  | 0, n, g, h, _ => by
    rcases Nat.eq_zero_or_pos n with e | e
    · omega
    · exact absurd (h 0 e) (Nat.not_lt_zero _)
  | k + 1, 0, g, _, _ => Nat.zero_le _
  | k + 1, n + 1, g, h, inj => by
    by_cases q : ∃ i0, i0 < n + 1 ∧ g i0 = k
    · obtain ⟨i0, h0, e0⟩ := q
      have := pigeon k n (fun i => if i = i0 then g n else g i) (fun i hi => ?_) (fun i j hi hj e => ?_)
      · omega
      · try dsimp only
        split
        · rename_i hii
          have h1 := h n (by omega)
          have h2 : g n ≠ k := fun z => by have := inj n i0 (by omega) h0 (by rw [z, e0]); omega
          omega
        · have h1 := h i (by omega)
          have h2 : g i ≠ k := fun z => by have := inj i i0 (by omega) h0 (by rw [z, e0]); omega
          omega
      · try dsimp only at e
        split at e
        · split at e
          · omega
          · have := inj n j (by omega) (by omega) e; omega
        · split at e
          · have := inj i n (by omega) (by omega) e; omega
          · exact inj i j (by omega) (by omega) e
    · have := pigeon k (n + 1) g (fun i hi => ?_) inj
      · omega
      · have h1 := h i hi
        have h2 : g i ≠ k := fun z => q ⟨i, hi, z⟩
        omega

/-- the owners laid so far: those of the first k hashes, each on its path -/
structure LI (t : SetTable) (hs : Array Int) (owner : Array (Option Nat)) (k : Nat) : Prop where
  size : owner.size = t.mask + 1
  lt : ∀ (j i : Nat), owner[j]? = some (some i) → i < k
  inj : ∀ (j j' i : Nat), owner[j]? = some (some i) → owner[j']? = some (some i) → j = j'
  has : ∀ (i : Nat) (h : Int), i < k → hs[i]? = some h → ∃ n, n < 10 * turns t.mask ∧ owner[(it t n (t.probeStart h)).j]? = some (some i) ∧ ∀ c, c < n → ∃ i' : Nat, owner[(it t c (t.probeStart h)).j]? = some (some i')
theorem LI.free {t : SetTable} {hs : Array Int} {owner : Array (Option Nat)} {k : Nat} (L : LI t hs owner k) (hk : k ≤ t.mask) : ∃ b, b ≤ t.mask ∧ owner[b]? = some none := by
  apply Classical.byContradiction
  intro z
  have all : ∀ b, b ≤ t.mask → ∃ i, owner[b]? = some (some i) := fun b hb => by
    have e := getElem?_pos owner b (by rw [L.size]; omega)
    cases q : owner[b]'(by rw [L.size]; omega) with
    | none => rw [q] at e; exact absurd ⟨b, hb, e⟩ z
    | some i => rw [q] at e; exact ⟨i, e⟩
  have := pigeon k (t.mask + 1) (fun b => match owner[b]? with | some (some i) => i | _ => 0) (fun b hb => ?_) (fun b b' hb hb' e => ?_)
  · omega
  · obtain ⟨i, e⟩ := all b (by omega)
    try dsimp only
    rw [e]
    exact L.lt b i e
  · obtain ⟨i, e1⟩ := all b (by omega)
    obtain ⟨i', e2⟩ := all b' (by omega)
    try dsimp only at e
    rw [e1, e2] at e
    dsimp only at e
    subst e
    exact L.inj b b' i e1 e2

/-- the run-wise search for a free place, told by the steps of the path -/
theorem free_spec (t : SetTable) (owner : Array (Option Nat)) (hz : owner.size = t.mask + 1) : ∀ (fuel i pt : Nat), i ≤ t.mask → (∃ r, r < fuel ∧ ∃ b, b = (rn t.mask i pt r).1 ∧ owner[b]? = some none) →
    ∃ n, n < 10 * fuel ∧ layClean.free t.mask owner fuel i pt = some (it t n (st t.mask i pt)).j ∧ owner[(it t n (st t.mask i pt)).j]? = some none ∧ ∀ c, c < n → ∃ i' : Nat, owner[(it t c (st t.mask i pt)).j]? = some (some i')
  | 0, i, pt, _, ⟨r, hr, _⟩ => absurd hr (Nat.not_lt_zero _)
  | fuel + 1, i, pt, hi, ⟨r, hr, b, hb, hbo⟩ => by
    have h9 := runEnd_le t.mask i
    have hm := runEnd_m hi
    unfold layClean.free
    have slotOf : ∀ k, k ≤ runEnd t.mask i - i → (it t k (st t.mask i pt)).j = i + k := fun k hk => by rw [it_run t i pt k hk]
    have getS : ∀ k, k ≤ runEnd t.mask i - i → (owner.getD (i + k) (some 0)).isNone = false → ∃ i' : Nat, owner[i + k]? = some (some i') := fun k hk e => by
      have hlt : i + k < owner.size := by omega
      have e1 := getElem?_pos owner (i + k) hlt
      have e2 : owner.getD (i + k) (some 0) = owner[i + k] := by simp [Array.getD, hlt]
      rw [e2] at e
      cases q : owner[i + k] with
      | none => rw [q] at e; cases e
      | some i' => rw [q] at e1; exact ⟨i', e1⟩
    cases hf : (List.range (runEnd t.mask i + 1 - i)).find? (fun k => (owner.getD (i + k) (some 0)).isNone) with
    | some k =>
      dsimp only
      rw [List.find?_eq_some_iff_getElem] at hf
      obtain ⟨hp, k', hk', ek, hbef⟩ := hf
      rw [List.length_range] at hk'
      rw [List.getElem_range] at ek
      subst ek
      refine ⟨k', by omega, by rw [slotOf k' (by omega)], ?_, fun c hc => ?_⟩
      · rw [slotOf k' (by omega)]
        have hlt : i + k' < owner.size := by omega
        have e2 : owner.getD (i + k') (some 0) = owner[i + k'] := by simp [Array.getD, hlt]
        rw [e2] at hp
        rw [getElem?_pos owner _ hlt]
        cases q : owner[i + k'] with
        | none => rfl
        | some z => rw [q] at hp; cases hp
      · rw [slotOf c (by omega)]
        have := hbef c hc
        rw [List.getElem_range] at this
        exact getS c (by omega) (by simpa using this)
    | none =>
      dsimp only
      rw [List.find?_eq_none] at hf
      have all : ∀ c, c ≤ runEnd t.mask i - i → ∃ i' : Nat, owner[i + c]? = some (some i') := fun c hc => getS c hc (by simpa only [Bool.not_eq_true] using hf c (List.mem_range.mpr (by omega)))
      have hr0 : r ≠ 0 := fun z => by
        subst z
        obtain ⟨i', e⟩ := all 0 (Nat.zero_le _)
        have hb' : b = i := hb
        rw [hb'] at hbo
        rw [Nat.add_zero, hbo] at e
        cases e
      obtain ⟨r', rfl⟩ : ∃ r', r = r' + 1 := ⟨r - 1, by omega⟩
      have shift : ∀ r, rn t.mask (leap t.mask i pt).1 (leap t.mask i pt).2 r = rn t.mask i pt (r + 1) := fun r => by
        induction r with
        | zero => rfl
        | succ r ih =>
          show leap t.mask _ _ = leap t.mask _ _
          rw [ih]
      obtain ⟨n, hn, e1, e2, e3⟩ := free_spec t owner hz fuel (leap t.mask i pt).1 (leap t.mask i pt).2 (Nat.le_of_lt_succ (Nat.mod_lt _ (Nat.succ_pos _))) ⟨r', by omega, b, by rw [hb, shift], hbo⟩
      have sh : ∀ c, it t (runEnd t.mask i - i + 1 + c) (st t.mask i pt) = it t c (st t.mask (leap t.mask i pt).1 (leap t.mask i pt).2) := fun c => by rw [it_add, it_leap]
      refine ⟨runEnd t.mask i - i + 1 + n, by omega, by rw [sh]; exact e1, by rw [sh]; exact e2, fun c hc => ?_⟩
      by_cases q : c ≤ runEnd t.mask i - i
      · rw [slotOf c q]
        exact all c q
      · have := e3 (c - (runEnd t.mask i - i + 1)) (by omega)
        rw [← sh, show runEnd t.mask i - i + 1 + (c - (runEnd t.mask i - i + 1)) = c by omega] at this
        exact this

theorem lay_fold (t : SetTable) (g : Good t.mask) (hs : Array Int) (hsz : hs.size ≤ t.mask) : ∀ (l : List Int) (k : Nat) (owner : Array (Option Nat)), LI t hs owner k → hs.toList.drop k = l →
    ∃ owner', (l.foldl (fun acc h => do
      let (owner, k) ← acc
      let j ← layClean.free t.mask owner (turns t.mask) (bits h % (t.mask + 1)) (bits h)
      pure (owner.setIfInBounds j (some k), k + 1)) (some (owner, k))) = some (owner', k + l.length) ∧ LI t hs owner' (k + l.length)
  | [], k, owner, L, _ => ⟨owner, rfl, L⟩
  | h :: l, k, owner, L, hd => by
    have hk : k < hs.size := by
      apply Classical.byContradiction
      intro z
      rw [List.drop_of_length_le (by rw [Array.length_toList]; omega)] at hd
      cases hd
    have hget : hs[k]? = some h := by
      rw [← Array.getElem?_toList]
      have := congrArg (fun l => l[0]?) hd
      simpa using this
    obtain ⟨b, hb, hbo⟩ := L.free (by omega)
    obtain ⟨r, hr, er⟩ := rn_hits g (start_le t h) (bits_lt h) hb
    obtain ⟨n, hn, e1, e2, e3⟩ := free_spec t owner L.size (turns t.mask) (bits h % (t.mask + 1)) (bits h) (start_le t h) ⟨r, hr, b, er.symm, hbo⟩
    rw [← start_eq] at e1 e2 e3
    have hjs : (it t n (t.probeStart h)).j < owner.size := (getElem?_eq_some_iff.mp e2).1
    have gs : ∀ x, (owner.setIfInBounds (it t n (t.probeStart h)).j (some k))[x]? = if (it t n (t.probeStart h)).j = x then some (some k) else owner[x]? := fun x => by
      rw [Array.getElem?_setIfInBounds]
      split
      · rename_i hx; subst hx; simp [hjs]
      · rfl
    have occ : ∀ (x i : Nat), owner[x]? = some (some i) → ∃ i' : Nat, (owner.setIfInBounds (it t n (t.probeStart h)).j (some k))[x]? = some (some i') := fun x i e => by
      rw [gs]; split
      · exact ⟨k, rfl⟩
      · exact ⟨i, e⟩
    have L' : LI t hs (owner.setIfInBounds (it t n (t.probeStart h)).j (some k)) (k + 1) := by
      refine ⟨by rw [Array.size_setIfInBounds]; exact L.size, fun j i e => ?_, fun j j' i ea ec => ?_, fun i h' hi hh => ?_⟩
      · rw [gs] at e
        split at e
        · cases e; omega
        · have := L.lt j i e; omega
      · rw [gs] at ea ec
        split at ea
        · rename_i q1
          cases ea
          split at ec
          · rename_i q2; rw [← q1, ← q2]
          · have := L.lt j' k ec; omega
        · split at ec
          · cases ec
            have := L.lt j k ea; omega
          · exact L.inj j j' i ea ec
      · by_cases q : i = k
        · subst q
          rw [hget] at hh
          cases hh
          refine ⟨n, hn, by rw [gs, if_pos rfl], fun c hc => ?_⟩
          obtain ⟨i', e⟩ := e3 c hc
          exact occ _ i' e
        · obtain ⟨n', q1, q2, q3⟩ := L.has i h' (by omega) hh
          refine ⟨n', q1, ?_, fun c hc => ?_⟩
          · rw [gs]
            split
            · rename_i q4
              rw [q4] at e2
              rw [e2] at q2
              cases q2
            · exact q2
          · obtain ⟨i', e⟩ := q3 c hc
            exact occ _ i' e
    obtain ⟨owner', f1, f2⟩ := lay_fold t g hs hsz l (k + 1) _ L' (by
      have e5 : hs.toList.drop (k + 1) = (hs.toList.drop k).drop 1 := by rw [List.drop_drop]
      rw [e5, hd]
      rfl)
    refine ⟨owner', ?_, ?_⟩
    · rw [List.foldl_cons]
      have : (do
          let (owner, k) ← some (owner, k)
          let j ← layClean.free t.mask owner (turns t.mask) (bits h % (t.mask + 1)) (bits h)
          pure (owner.setIfInBounds j (some k), k + 1)) = some (owner.setIfInBounds (it t n (t.probeStart h)).j (some k), k + 1) := by
        show (layClean.free t.mask owner (turns t.mask) (bits h % (t.mask + 1)) (bits h) >>= fun j => pure (owner.setIfInBounds j (some k), k + 1)) = _
        rw [e1]
        rfl
      rw [this, f1, List.length_cons]
      congr 2
      omega
    · rw [List.length_cons, show k + (l.length + 1) = k + 1 + l.length by omega]
      exact f2

/-- laid anew -/
theorem laid_ok {M finger moves : Nat} {led plain : Bool} {es : Array En} (g : Good M) (hsz : es.size * 5 < M * 3) :
    ∃ t2 order, laid M finger moves led plain (es.map (·.1)) = some (t2, order) ∧ Tb t2 (order.filterMap (es[·]?)) ∧ (order.filterMap (es[·]?)).toList.Perm es.toList := by
  -- a table with that mask, for the path
  let t : SetTable := { mask := M, place := #[], dummies := #[], finger := finger, led := led, moves := moves, plain := plain }
  have ht : t.mask = M := rfl
  have h0 : LI t (es.map (·.1)) (Array.replicate (M + 1) none) 0 := by
    refine ⟨by simp [ht], fun j i e => ?_, fun j j' i e => ?_, fun i h hi => by omega⟩
    · rw [Array.getElem?_replicate] at e; split at e <;> cases e
    · rw [Array.getElem?_replicate] at e; split at e <;> cases e
  obtain ⟨owner, f1, L⟩ := lay_fold t g (es.map (·.1)) (by rw [Array.size_map, ht]; omega) (es.map (·.1)).toList 0 _ h0 rfl
  rw [Nat.zero_add, Array.length_toList, Array.size_map] at f1 L
  have hlay : layClean M (es.map (·.1)) = some owner := by
    unfold layClean
    rw [← Array.foldl_toList]
    have : (List.foldl _ _ (es.map (·.1)).toList) = some (owner, es.size) := f1
    rw [this]
    rfl
  let live : List (Nat × Nat) := (List.range (M + 1)).filterMap fun j => (owner.getD j none).map (j, ·)
  have hlive : ∀ p : Nat × Nat, p ∈ live ↔ owner[p.1]? = some (some p.2) := fun p => by
    obtain ⟨j, i⟩ := p
    have hg : ∀ j, owner.getD j none = (owner[j]?).getD none := fun j => by simp
    show (j, i) ∈ List.filterMap _ _ ↔ _
    rw [List.mem_filterMap]
    constructor
    · rintro ⟨j', hj', e⟩
      rw [hg] at e
      cases q : owner[j']? with
      | none => rw [q] at e; cases e
      | some z =>
        rw [q] at e
        cases z with
        | none => cases e
        | some i' =>
          have e' : (j', i') = (j, i) := Option.some.inj e
          cases e'
          exact q
    · intro e
      have hj : j < owner.size := (getElem?_eq_some_iff.mp e).1
      refine ⟨j, List.mem_range.mpr (by rw [L.size, ht] at hj; exact hj), ?_⟩
      rw [hg, e]
      rfl
  have hpw : live.Pairwise (fun a b => a.1 < b.1) := by
    show (List.filterMap _ _).Pairwise _
    rw [List.pairwise_filterMap]
    refine List.Pairwise.imp ?_ List.pairwise_lt_range
    intro a b hab p hp q hq
    cases h1 : owner.getD a none with
    | none => rw [h1] at hp; cases hp
    | some i =>
      cases h2 : owner.getD b none with
      | none => rw [h2] at hq; cases hq
      | some i' =>
        rw [h1] at hp
        rw [h2] at hq
        have e1 : (a, i) = p := Option.some.inj hp
        have e2 : (b, i') = q := Option.some.inj hq
        subst e1 e2
        exact hab
  have hnd : (live.map (·.2)).Nodup := by
    unfold List.Nodup
    rw [List.pairwise_map]
    refine List.Pairwise.imp_of_mem ?_ hpw
    intro a b ha hb hab e
    have h1 := (hlive a).mp ha
    have h2 := (hlive b).mp hb
    rw [← e] at h2
    have := L.inj _ _ _ h1 h2
    omega
  have hord : (live.map (·.2)).Perm (List.range es.size) := by
    refine (List.perm_ext_iff_of_nodup hnd List.nodup_range).mpr fun i => ?_
    rw [List.mem_range, List.mem_map]
    constructor
    · rintro ⟨p, hp, rfl⟩
      exact L.lt _ _ ((hlive p).mp hp)
    · intro hi
      obtain ⟨n, _, q, _⟩ := L.has i ((es.map (·.1))[i]'(by rw [Array.size_map]; exact hi)) hi (getElem?_pos _ _ _)
      exact ⟨(_, i), (hlive _).mpr q, rfl⟩
  have hlen : live.length = es.size := by have := hord.length_eq; simpa using this
  -- the elements in their new order
  have hes : ∀ i, i ∈ live.map (·.2) → ∃ e, es[i]? = some e := fun i hi => by
    have := hord.mem_iff.mp hi
    rw [List.mem_range] at this
    exact ⟨es[i], getElem?_pos es i this⟩
  have fm : ∀ (l : List Nat), (∀ i ∈ l, ∃ e, es[i]? = some e) → (l.filterMap (es[·]?)).length = l.length ∧ ∀ (p : Nat), (l.filterMap (es[·]?))[p]? = (l[p]?).bind (es[·]?) := fun l => by
    induction l with
    | nil => intro _; exact ⟨rfl, fun p => rfl⟩
    | cons a l ih =>
      intro h
      obtain ⟨e, he⟩ := h a List.mem_cons_self
      obtain ⟨i1, i2⟩ := ih fun i hi => h i (List.mem_cons_of_mem _ hi)
      rw [List.filterMap_cons_some he]
      refine ⟨by rw [List.length_cons, i1, List.length_cons], fun p => ?_⟩
      cases p with
      | zero => simp [he]
      | succ p => simpa using i2 p
  obtain ⟨fl, fg⟩ := fm _ hes
  have hperm : ((live.map (·.2)).filterMap (es[·]?)).Perm es.toList := by
    refine (hord.filterMap _).trans (List.Perm.of_eq ?_)
    apply List.ext_getElem?
    intro p
    obtain ⟨_, g2⟩ := fm (List.range es.size) fun i hi => ⟨es[i]'(List.mem_range.mp hi), getElem?_pos es i (List.mem_range.mp hi)⟩
    rw [g2, show es.toList[p]? = es[p]? from Array.getElem?_toList ..]
    by_cases hp : p < es.size
    · rw [List.getElem?_range hp]; rfl
    · rw [List.getElem?_eq_none (by simp; omega), getElem?_neg es p hp]; rfl
  let t2 : SetTable := { mask := M, place := (live.map (·.1)).toArray, dummies := #[], finger := finger, led := led, moves := moves, plain := plain }
  have hes' : ((live.map (·.2)).toArray.filterMap (es[·]?)).toList = (live.map (·.2)).filterMap (es[·]?) := by simp
  have getE : ∀ (p : Nat) (e : En), ((live.map (·.2)).toArray.filterMap (es[·]?))[p]? = some e → ∃ j i : Nat, live[p]? = some (j, i) ∧ es[i]? = some e := fun p e h => by
    rw [← Array.getElem?_toList, hes', fg, List.getElem?_map] at h
    cases q : live[p]? with
    | none => rw [q] at h; cases h
    | some ji => rw [q] at h; exact ⟨ji.1, ji.2, rfl, h⟩
  have getP : ∀ (p : Nat) (j : Nat), t2.place[p]? = some j ↔ ∃ i, live[p]? = some (j, i) := fun p j => by
    show (live.map (·.1)).toArray[p]? = some j ↔ _
    rw [List.getElem?_toArray, List.getElem?_map]
    cases q : live[p]? with
    | none => simp
    | some ji =>
      obtain ⟨a, b⟩ := ji
      simp
  have itE : ∀ n (p : Probe), it t2 n p = it t n p := fun n p => it_mask (t := t) (t' := t2) rfl n p
  refine ⟨t2, (live.map (·.2)).toArray, ?_, ?_, by rw [hes']; exact hperm⟩
  · unfold laid
    rw [hlay]
    rfl
  · refine ⟨rfl, ?_, ?_, ?_, g, ?_, ?_⟩
    · show (live.map (·.1)).toArray.size = _
      rw [List.size_toArray, List.length_map, ← Array.length_toList, hes', fl, List.length_map]
    · intro i j a b hij ea eb
      obtain ⟨_, ea⟩ := (getP i a).mp ea
      obtain ⟨_, eb⟩ := (getP j b).mp eb
      obtain ⟨h1, e1⟩ := List.getElem?_eq_some_iff.mp ea
      obtain ⟨h2, e2⟩ := List.getElem?_eq_some_iff.mp eb
      have := List.pairwise_iff_getElem.mp hpw i j h1 h2 hij
      rw [e1, e2] at this
      exact this
    · intro i j e
      obtain ⟨i', e⟩ := (getP i j).mp e
      have := (hlive _).mp (List.mem_of_getElem? e)
      have hj : j < owner.size := (getElem?_eq_some_iff.mp this).1
      rw [L.size] at hj
      show j ≤ M
      exact Nat.le_of_lt_succ hj
    · rw [← Array.length_toList, hes', fl, List.length_map, hlen]
      exact hsz
    · intro p e he
      obtain ⟨j, i, hl, hi⟩ := getE p e he
      have ho := (hlive _).mp (List.mem_of_getElem? hl)
      have hi' : i < es.size := (getElem?_eq_some_iff.mp hi).1
      obtain ⟨n, q1, q2, q3⟩ := L.has i e.1 hi' (by rw [Array.getElem?_map, hi]; rfl)
      have ej := L.inj _ _ _ ho q2
      refine ⟨n, q1, ?_, fun c hc => ?_⟩
      · rw [itE]
        exact (getP p _).mpr ⟨i, by rw [hl]; congr 2⟩
      · obtain ⟨i', e'⟩ := q3 c hc
        obtain ⟨p', hp'⟩ := List.mem_iff_getElem?.mp ((hlive (_, i')).mpr e')
        exact ⟨p', by rw [itE]; exact (getP p' _).mpr ⟨i', hp'⟩⟩
end Sett

namespace Sett
open PySem PySem.SetTable PyProof.Rows
set_option autoImplicit false
set_option linter.all false

/-! ### the hashes of pairs of small numbers differ -/
def nodupBits : List Nat → Nat → Bool
  | [], _ => true
  | x :: l, acc => !acc.testBit x && nodupBits l (acc ||| 2 ^ x)
theorem nodupBits_ok : ∀ (l : List Nat) (acc : Nat), nodupBits l acc = true → l.Nodup ∧ ∀ x ∈ l, acc.testBit x = false
  | [], _, _ => ⟨List.nodup_nil, (fun _ h => nomatch h)⟩
  | x :: l, acc, h => by
    unfold nodupBits at h
    rw [Bool.and_eq_true] at h
    obtain ⟨h1, h2⟩ := h
    obtain ⟨n, m⟩ := nodupBits_ok l _ h2
    have m' : ∀ y ∈ l, acc.testBit y = false ∧ x ≠ y := fun y hy => by
      have := m y hy
      rw [Nat.testBit_or, Bool.or_eq_false_iff, Nat.testBit_two_pow] at this
      exact ⟨this.1, of_decide_eq_false this.2⟩
    refine ⟨List.nodup_cons.mpr ⟨fun hx => (m' x hx).2 rfl, n⟩, fun y hy => ?_⟩
    rcases List.mem_cons.mp hy with rfl | hy
    · simpa using h1
    · exact (m' y hy).1
def hp (n : Nat) : Nat := bits (reduceHash (Builtin.Tuple.tupleHashOf [hashInt ((n / 24 : Nat) : Int), hashInt ((n % 24 : Nat) : Int)])) % 3708
set_option maxRecDepth 100000 in
theorem hp_all : nodupBits ((List.range 576).map hp) 0 = true := by decide +kernel
theorem hp_inj {a b : Nat} (ha : a < 576) (hb : b < 576) (h : hp a = hp b) : a = b := by
  have := (nodupBits_ok _ _ hp_all).1
  unfold List.Nodup at this
  rw [List.pairwise_map] at this
  rw [List.pairwise_iff_getElem] at this
  rcases Nat.lt_trichotomy a b with q | q | q
  · have := this a b (by simpa using ha) (by simpa using hb) q
    simp only [List.getElem_range] at this
    exact absurd h this
  · exact q
  · have := this b a (by simpa using hb) (by simpa using ha) q
    simp only [List.getElem_range] at this
    exact absurd h.symm this
/-- a pair of places -/
def KeyOk (ks : List Int) : Prop := ∃ i j : Nat, i < 24 ∧ j < 24 ∧ ks = [(i : Int), (j : Int)]
theorem hash_inj {prog : Program} {w : World} {k k' : List Int} (h1 : KeyOk k) (h2 : KeyOk k') (e : tupleKeyHash (intKind prog w) k = tupleKeyHash (intKind prog w) k') : k = k' := by
  obtain ⟨i, j, hi, hj, rfl⟩ := h1
  obtain ⟨i', j', hi', hj', rfl⟩ := h2
  have e2 : hp (24 * i + j) = hp (24 * i' + j') := by
    unfold hp
    rw [show (24 * i + j) / 24 = i by omega, show (24 * i + j) % 24 = j by omega, show (24 * i' + j') / 24 = i' by omega, show (24 * i' + j') % 24 = j' by omega]
    exact congrArg (fun z => bits z % 3708) e
  have := hp_inj (by omega) (by omega) e2
  have h3 : i = i' := by omega
  have h4 : j = j' := by omega
  rw [h3, h4]

/-! ### a set of pairs -/
section
variable {prog : Program} {w : World}
/-- the entry e is the key k -/
def IsEn (prog : Program) (w : World) (h : Heap) (k : List Int) (e : En) : Prop := ∃ a, e.2 = .ref a ∧ IsTupleKey (intKind prog w) h k a ∧ e.1 = tupleKeyHash (intKind prog w) k
/-- at S stands a set of the keys ks, whose tuples stand in hk -/
def SetT (prog : Program) (w : World) (hk h : Heap) (S : Addr) (ks : List (List Int)) : Prop :=
  ∃ o es ep t, h.get? S = some o ∧ o.ExactSet ∧ o.data = .set es ep t ∧ Tb t es ∧ es.size = ks.length ∧ ks.Nodup ∧ (∀ k ∈ ks, KeyOk k) ∧ (∀ k ∈ ks, ∃ e ∈ es.toList, IsEn prog w hk k e) ∧ ∀ e ∈ es.toList, ∃ k ∈ ks, IsEn prog w hk k e

theorem key_up {h h' : Heap} {k : List Int} {a : Addr} (x : IsTupleKey (intKind prog w) h k a) (hs : ∀ b o, h.get? b = some o → h'.get? b = some o) : IsTupleKey (intKind prog w) h' k a := by
  obtain ⟨o, items, n, h2, h3⟩ := x
  exact ⟨o, items, n, hs a o h2, h3⟩
theorem IsEn.up {h h' : Heap} {k : List Int} {e : En} (x : IsEn prog w h k e) (hs : ∀ b o, h.get? b = some o → h'.get? b = some o) : IsEn prog w h' k e := by
  obtain ⟨a, h1, h2, h6⟩ := x
  exact ⟨a, h1, key_up h2 hs, h6⟩
theorem IsEn.inj {h : Heap} {k k' : List Int} {e : En} (x : IsEn prog w h k e) (y : IsEn prog w h k' e) : k = k' := by
  obtain ⟨a, h1, h2, _⟩ := x
  obtain ⟨b, h3, h4, _⟩ := y
  rw [h1] at h3
  cases h3
  exact h2.inj h4

variable {A : Around} {E : Value → Shared → Prop} {s : Shared}

theorem byScan_ref (x : Addr) (es : Array En) : byScan (.ref x) es = false := by
  unfold byScan Value.scannable
  rfl
theorem hashByValue_pair {k : List Int} {x : Addr} {Q : Bool → Shared → Prop} (hx : IsTupleKey (intKind prog w) s.heap k x) (h : Q true s) : wpAny (model prog w) A (hashByValue 8 (.ref x)) Q E s := by
  have hT := hx.typeIs
  obtain ⟨o, items, n, ho, hc, hd, hi⟩ := hx
  unfold hashByValue
  refine wpAny_bind (wpAny_specialOf hT F.slot_tuple_hash.lookup ?_)
  dsimp only
  refine wpAny_bind (wpAny_seqItems ho hd ?_)
  show wpAny _ _ (forIn items _ _ >>= _) _ _ s
  rw [← Array.forIn_toList]
  have hv : ∀ v ∈ items.toList, ∃ i t, v = .int i t := fun v hv => by
    clear ho hd
    generalize items.toList = l at hi hv
    induction hi with
    | nil => cases hv
    | cons h1 _ ih =>
      rcases List.mem_cons.mp hv with rfl | hv
      · obtain ⟨t, e⟩ := Value.isInt_shape h1
        exact ⟨_, t, e⟩
      · exact ih hv
  refine wpAny_bind (wpAny_forIn_list _ (fun rest r s' => r.1 = none ∧ s' = s ∧ ∀ v ∈ rest, ∃ i t, v = .int i t) _ ?_ ?_ _ _ ⟨rfl, rfl, hv⟩)
  · rintro v rest r s' ⟨hr, rfl, hall⟩
    obtain ⟨i, t, rfl⟩ := hall v List.mem_cons_self
    have e : hashByValue 7 (.int i t) = pure true := by unfold hashByValue; rfl
    rw [e]
    refine wpAny_bind (wpAny_pure ?_)
    simp only [Bool.not_true, Bool.false_eq_true, if_false]
    exact wpAny_pure ⟨rfl, rfl, fun u hu' => hall u (List.mem_cons_of_mem _ hu')⟩
  · rintro ⟨r1, r2⟩ s' ⟨hr, rfl, _⟩
    simp only at hr
    subst hr
    exact wpAny_pure h
end
end Sett

namespace Sett
open PySem PySem.SetTable PyProof.Rows
set_option autoImplicit false
set_option linter.all false
section
variable {prog : Program} {w : World} {A : Around} {E : Value → Shared → Prop} {s : Shared}

theorem search_absent {S x : Addr} {o : Obj} {es : Array En} {ep : Nat} {t : SetTable} {h : Int} {Q : SetFound → Shared → Prop} (ho : s.heap.get? S = some o) (hd : o.data = .set es ep t) (T : Tb t es) (hh : ∀ e ∈ es.toList, e.1 ≠ h)
    (hq : ∀ n, n < 10 * turns t.mask → (∀ i : Nat, t.place[i]? ≠ some (it t n (t.probeStart h)).j) → (it t n (t.probeStart h)).j ≤ t.mask → (∀ k, k < n → ∃ i' : Nat, t.place[i']? = some (it t k (t.probeStart h)).j) → Q (.free (it t n (t.probeStart h)).j false) s) :
    wpAny (model prog w) A (setSearch S (.ref x) h true) Q E s := by
  obtain ⟨n, h1, h2, h3, h4, h5⟩ := T.absent hh
  unfold setSearch setSearchFrom
  refine wpAny_bind (wpAny_setState_of ho hd T.fits ?_)
  dsimp only
  rw [T.odd]
  simp only [Bool.false_eq_true, if_false]
  split
  · rename_i met hm
    have e := hm.symm.trans h5
    cases e
    exact wpAny_pure (hq n h1 h2 h3 h4)
  · rename_i hm
    exact absurd h5 (fun z => hm _ z)

/-- what the search does not show -/
theorem cls_pair {k : List Int} {x : Addr} {Q : Bool → Shared → Prop} (hx : IsTupleKey (intKind prog w) s.heap k x) (h : Q false s) : wpAny (model prog w) A (ofAClassStatement 8 (.ref x)) Q E s := by
  have hT := hx.typeIs
  obtain ⟨o, items, n, ho, hc, hd, hi⟩ := hx
  unfold ofAClassStatement
  refine wpAny_bind (wpAny_typeOf hT ?_)
  dsimp only
  rw [if_pos (by decide)]
  refine wpAny_bind (wpAny_pure ?_)
  simp only [Bool.not_true, Bool.false_eq_true, if_false]
  refine wpAny_bind (wpAny_seqItems ho hd ?_)
  dsimp only
  rw [← Array.forIn_toList]
  have hv : ∀ v ∈ items.toList, ∃ i t, v = .int i t := fun v hv => by
    clear ho hd
    generalize items.toList = l at hi hv
    induction hi with
    | nil => cases hv
    | cons h1 _ ih =>
      rcases List.mem_cons.mp hv with rfl | hv
      · obtain ⟨t, e⟩ := Value.isInt_shape h1
        exact ⟨_, t, e⟩
      · exact ih hv
  refine wpAny_bind (wpAny_forIn_list _ (fun rest r s' => r.1 = none ∧ s' = s ∧ ∀ v ∈ rest, ∃ i t, v = .int i t) _ ?_ ?_ _ _ ⟨rfl, rfl, hv⟩)
  · rintro v rest r s' ⟨hr, rfl, hall⟩
    obtain ⟨i, t, rfl⟩ := hall v List.mem_cons_self
    have e : ofAClassStatement 7 (.int i t) = pure false := by unfold ofAClassStatement; rfl
    rw [e]
    refine wpAny_bind (wpAny_pure ?_)
    simp only [Bool.false_eq_true, if_false]
    exact wpAny_pure ⟨rfl, rfl, fun u hu' => hall u (List.mem_cons_of_mem _ hu')⟩
  · rintro ⟨r1, r2⟩ s' ⟨hr, rfl, _⟩
    simp only at hr
    subst hr
    exact wpAny_pure h
theorem unseen {k : List Int} {x : Addr} {l : List Value} {Q : Bool → Shared → Prop} (hx : IsTupleKey (intKind prog w) s.heap k x) (hl : ∀ v ∈ l, ∃ a k', v = .ref a ∧ IsTupleKey (intKind prog w) s.heap k' a) (h : Q false s) :
    wpAny (model prog w) A (searchCouldBeSeen (.ref x) l) Q E s := by
  unfold searchCouldBeSeen
  refine wpAny_bind (wpAny_forIn_list _ (fun rest r s' => r.1 = none ∧ s' = s ∧ ∀ v ∈ rest, ∃ a k', v = .ref a ∧ IsTupleKey (intKind prog w) s.heap k' a) _ ?_ ?_ _ _ ⟨rfl, rfl, hl⟩)
  · rintro v rest r s' ⟨hr, rfl, hall⟩
    obtain ⟨a, k', rfl, ha⟩ := hall v List.mem_cons_self
    have hrest : ∀ v ∈ rest, ∃ a k', v = .ref a ∧ IsTupleKey (intKind prog w) s'.heap k' a := fun u hu' => hall u (List.mem_cons_of_mem _ hu')
    dsimp only
    split
    · exact wpAny_pure ⟨rfl, rfl, hrest⟩
    · refine wpAny_bind (wpAny_eqIsQuiet_tuple hx ?_)
      simp only [Bool.not_true, Bool.false_eq_true, if_false]
      refine wpAny_bind (wpAny_eqIsQuiet_tuple ha ?_)
      simp only [Bool.not_true, Bool.false_eq_true, if_false]
      refine wpAny_bind (cls_pair hx ?_)
      simp only [Bool.false_eq_true, if_false]
      refine wpAny_bind (cls_pair ha ?_)
      simp only [Bool.false_eq_true, if_false]
      exact wpAny_pure ⟨rfl, rfl, hrest⟩
  · rintro ⟨r1, r2⟩ s' ⟨hr, rfl, _⟩
    simp only at hr
    subst hr
    exact wpAny_pure h

theorem search_present {S x : Addr} {o : Obj} {es : Array En} {ep : Nat} {t : SetTable} {k : List Int} {i : Nat} {e : En} {Q : SetFound → Shared → Prop} (hu : A.units < cLine) (ho : s.heap.get? S = some o) (hd : o.data = .set es ep t) (T : Tb t es)
    (hx : IsTupleKey (intKind prog w) s.heap k x) (he : es[i]? = some e) (hk : IsEn prog w s.heap k e) (hall : ∀ e ∈ es.toList, ∃ k, IsEn prog w s.heap k e) (huq : ∀ (c : Nat) (e' : En), es[c]? = some e' → e'.1 = e.1 → c = i)
    (hq : Q (.there none) s) : wpAny (model prog w) A (setSearch S (.ref x) (tupleKeyHash (intKind prog w) k) true) Q E s := by
  obtain ⟨y, hy1, hy2, hy3⟩ := hk
  obtain ⟨j, q, hp⟩ := T.present he huq
  rw [hy3] at hp
  unfold setSearch setSearchFrom
  refine wpAny_bind (wpAny_setState_of ho hd T.fits ?_)
  dsimp only
  rw [T.odd]
  simp only [Bool.false_eq_true, if_false]
  have fin : wpAny (model prog w) A (do
      let some (_, y) := es[i]? | unsupported "internal:set-entry"
      let equal ← holding [y] (eqBool y (.ref x))
      let (es', _, t') ← setState S
      if true && equal then return .there none
      let some same := t'.sameMemory t.moves t.mask | unsupported "set.changed-during-lookup:is-the-new-block-at-the-old-address"
      let still ← match (if same then t'.slot j else .empty) with
        | .live i' => match es'[i']? with
          | some (_, y') => do pure (if ← isSame y' y then some i' else none)
          | none => pure none
        | _ => pure none
      match still with
      | none => rule "set.search.anew"; setSearchFrom S (.ref x) (tupleKeyHash (intKind prog w) k) true 99999 none
      | some i' => if equal then return .there (some i') else setSearchFrom S (.ref x) (tupleKeyHash (intKind prog w) k) true 99999 (some q)) Q E s := by
    rw [he]
    obtain ⟨e1, e2⟩ := e
    have hy1 : e2 = .ref y := hy1
    subst hy1
    dsimp only
    refine wpAny_bind (wpAny_holding (wpAny_eqBool_tuple hu hy2 hx ?_))
    refine wpAny_bind (wpAny_setState_of ho hd T.fits ?_)
    dsimp only
    rw [decide_eq_true rfl]
    simp only [Bool.and_self, if_true]
    exact wpAny_pure hq
  split
  · rename_i met hm
    have e9 := hm.symm.trans hp
    cases e9
    dsimp only
    cases hled : t.led with
    | true =>
      simp only [Bool.not_true, Bool.false_eq_true, if_false]
      exact fin
    | false =>
      simp only [Bool.not_false, if_true]
      refine wpAny_bind (unseen hx (fun v hv => ?_) ?_)
      · rw [List.mem_map] at hv
        obtain ⟨e', he', rfl⟩ := hv
        have he'' : e' ∈ es.toList := by
          have := Array.mem_filter.mp (Array.mem_toList_iff.mp he')
          exact Array.mem_toList_iff.mpr this.1
        obtain ⟨k', a, h1, h2, _⟩ := hall e' he''
        exact ⟨a, k', h1, h2⟩
      · simp only [Bool.false_eq_true, if_false]
        exact fin
  · rename_i hm
    exact absurd hp (fun z => hm _ z)
end
end Sett

namespace Sett
open PySem PySem.SetTable PyProof.Rows
set_option autoImplicit false
set_option linter.all false

theorem thr {n m : Nat} (g : Good m) (h1 : n * 5 < m * 3) (h2 : m * 3 ≤ (n + 1) * 5) (h3 : n < 300) : (m = 7 ∧ n + 1 = 5) ∨ (m = 31 ∧ n + 1 = 19) ∨ (m = 127 ∧ n + 1 = 77) := by
  rcases g with rfl | rfl | rfl | rfl <;> omega
theorem grown_good {n m : Nat} (g : Good m) (h1 : n * 5 < m * 3) (h2 : m * 3 ≤ (n + 1) * 5) (h3 : n < 300) : Good (sizeAbove (grown (n + 1)) - 1) ∧ (n + 1) * 5 < (sizeAbove (grown (n + 1)) - 1) * 3 ∧ sizeAbove (grown (n + 1)) ≤ 4096 := by
  rcases thr g h1 h2 h3 with ⟨_, e⟩ | ⟨_, e⟩ | ⟨_, e⟩ <;> rw [e] <;> refine ⟨?_, by decide +kernel, by decide +kernel⟩
  · exact .inr (.inl (by decide +kernel))
  · exact .inr (.inr (.inl (by decide +kernel)))
  · exact .inr (.inr (.inr (by decide +kernel)))
theorem toofull {t : SetTable} {es : Array En} (T : Tb' t es) : t.tooFull = decide (t.mask * 3 ≤ es.size * 5) := by
  unfold tooFull PySem.SetTable.fill
  rw [T.dum, T.len]
  rfl

section
variable {prog : Program} {w : World} {A : Around} {E : Value → Shared → Prop} {s : Shared}

/-- a store of other contents, the rest of the object kept -/
theorem stored {S : Addr} {o : Obj} {es es' : Array En} {ep : Nat} {t t' : SetTable} {h : Heap} (ho : h.get? S = some o) (hd : o.data = .set es ep t) :
    (h.update S (Obj.putSet es' t')).get? S = some { o with data := .set es' (ep + 1) t' } := by
  have := Heap.get?_update_self (Obj.putSet es' t') ho (by rw [putSet_of es' t' hd]; rfl)
  rw [putSet_of es' t' hd] at this
  exact this

theorem setAdd_pair {S x : Addr} {ks : List (List Int)} {k : List Int} {Q : Bool → Shared → Prop} {hp : Heap} (hup : ∀ b o, hp.get? b = some o → s.heap.get? b = some o) (hu : A.units < cLine) (hS : SetT prog w hp s.heap S ks) (hx0 : IsTupleKey (intKind prog w) hp k x) (hk : KeyOk k) (hn : ks.length < 300)
    (hq : ∀ (b : Bool) (h' : Heap) (tk : Nat), s.toks ≤ tk → Heap.SameBut S s.heap h' → SetT prog w hp h' S (if k ∈ ks then ks else k :: ks) → Q b { s with heap := h', toks := tk }) :
    wpAny (model prog w) A (setAdd S (.ref x)) Q E s := by
  have hx := key_up hx0 hup
  unfold setAdd
  refine wpAny_holding (wpAny_bind (wpAny_pyHash_tuple hu hx ?_))
  obtain ⟨o, es, ep, t, ho, hex, hd, T, hsz, hnd, hok, hto, hfrom⟩ := hS
  unfold setAddHashed
  refine wpAny_holding ?_
  unfold setAddHashedIn
  refine wpAny_bind (wpAny_setState_of (s := { s with toks := s.toks + (k.length + 1) }) ho hd T.fits ?_)
  dsimp only
  rw [byScan_ref]
  simp only [Bool.false_eq_true, if_false]
  by_cases hmem : k ∈ ks
  · -- it is there
    obtain ⟨e, he, hek⟩ := hto k hmem
    obtain ⟨i, hi⟩ := List.mem_iff_getElem?.mp he
    rw [Array.getElem?_toList] at hi
    have huq : ∀ (c : Nat) (e' : En), es[c]? = some e' → e'.1 = e.1 → c = i := fun c e' hc hh => by
      -- as many entries as keys: the keys tell them apart
      apply Classical.byContradiction
      intro hci
      have hkey : ∀ (c : Nat), c < es.size → ∃ kk, kk ∈ ks ∧ ∃ e, es[c]? = some e ∧ IsEn prog w hp kk e := fun c hc => by
        have e := getElem?_pos es c hc
        obtain ⟨kk, h1, h2⟩ := hfrom es[c] (by simp)
        exact ⟨kk, h1, _, e, h2⟩
      have e'k : IsEn prog w hp k e' := by
        obtain ⟨kk, h1, h2⟩ := hfrom e' (List.mem_of_getElem? (by rw [Array.getElem?_toList]; exact hc))
        have h3 := h2
        obtain ⟨_, _, _, h4⟩ := h2
        have h5 := hek
        obtain ⟨_, _, _, h6⟩ := h5
        have : kk = k := hash_inj (prog := prog) (w := w) (hok kk h1) hk (by rw [← h4, hh, h6])
        rw [← this]
        exact h3
      -- a choice of an entry for each key
      have hch : ∀ n, n < ks.length → ∃ c, c < es.size ∧ ∃ e, es[c]? = some e ∧ ∃ kk, ks[n]? = some kk ∧ IsEn prog w hp kk e := fun n hn' => by
        obtain ⟨e, he, hek⟩ := hto ks[n] (List.getElem_mem hn')
        obtain ⟨c, hc⟩ := List.mem_iff_getElem?.mp he
        rw [Array.getElem?_toList] at hc
        exact ⟨c, (getElem?_eq_some_iff.mp hc).1, e, hc, ks[n], List.getElem?_eq_getElem hn', hek⟩
      -- drop c: the others serve all keys
      have := pigeon (es.size - 1) ks.length (fun n => if hn' : n < ks.length then (let c0 := Classical.choose (hch n hn'); let c1 := if c0 = c then i else c0; if c1 < c then c1 else c1 - 1) else 0) ?_ ?_
      · have hc' := (getElem?_eq_some_iff.mp hc).1
        omega
      · intro n hn'
        dsimp only
        rw [dif_pos hn']
        have hp := Classical.choose_spec (hch n hn')
        generalize Classical.choose (hch n hn') = c0 at hp
        obtain ⟨p1, _⟩ := hp
        have hc' := (getElem?_eq_some_iff.mp hc).1
        have hi' := (getElem?_eq_some_iff.mp hi).1
        split <;> split <;> omega
      · intro n n' hn1 hn2 eqn
        dsimp only at eqn
        rw [dif_pos hn1, dif_pos hn2] at eqn
        have hp := Classical.choose_spec (hch n hn1)
        have hp' := Classical.choose_spec (hch n' hn2)
        generalize Classical.choose (hch n hn1) = c0 at hp eqn
        generalize Classical.choose (hch n' hn2) = c0' at hp' eqn
        obtain ⟨p1, e1, p2, kk, p3, p4⟩ := hp
        obtain ⟨p1', e1', p2', kk', p3', p4'⟩ := hp'
        -- both serve the same entry, or one of the two equal ones
        have same : kk = kk' := by
          have r1 : IsEn prog w hp kk (if c0 = c then e else e1) := by
            split
            · rename_i hcc
              subst hcc
              rw [hc] at p2
              cases p2
              have := p4.inj e'k
              rw [this]
              exact hek
            · exact p4
          have r2 : IsEn prog w hp kk' (if c0' = c then e else e1') := by
            split
            · rename_i hcc
              subst hcc
              rw [hc] at p2'
              cases p2'
              have := p4'.inj e'k
              rw [this]
              exact hek
            · exact p4'
          have g1 : es[if c0 = c then i else c0]? = some (if c0 = c then e else e1) := by split <;> assumption
          have g2 : es[if c0' = c then i else c0']? = some (if c0' = c then e else e1') := by split <;> assumption
          have ne1 : (if c0 = c then i else c0) ≠ c := by split <;> omega
          have ne2 : (if c0' = c then i else c0') ≠ c := by split <;> omega
          have eqc : (if c0 = c then i else c0) = (if c0' = c then i else c0') := by
            generalize (if c0 = c then i else c0) = u at eqn ne1
            generalize (if c0' = c then i else c0') = v at eqn ne2
            split at eqn <;> split at eqn <;> omega
          rw [eqc, g2] at g1
          rw [← Option.some.inj g1] at r1
          exact r1.inj r2
        subst same
        obtain ⟨q1, q2⟩ := List.getElem?_eq_some_iff.mp p3
        obtain ⟨q3, q4⟩ := List.getElem?_eq_some_iff.mp p3'
        rcases Nat.lt_trichotomy n n' with z | z | z
        · exact absurd (q2.trans q4.symm) (List.pairwise_iff_getElem.mp hnd n n' q1 q3 z)
        · exact z
        · exact absurd (q4.trans q2.symm) (List.pairwise_iff_getElem.mp hnd n' n q3 q1 z)
    refine wpAny_bind (search_present (s := { s with toks := s.toks + (k.length + 1) }) hu ho hd T hx hi (hek.up hup) (fun e he => ?_) huq ?_)
    · obtain ⟨kk, _, h2⟩ := hfrom e he
      exact ⟨kk, h2.up hup⟩
    · refine wpAny_pure ?_
      have := hq false s.heap (s.toks + (k.length + 1)) (Nat.le_add_right _ _) (Heap.SameBut.refl S s.heap)
      rw [if_pos hmem] at this
      exact this ⟨o, es, ep, t, ho, hex, hd, T, hsz, hnd, hok, hto, hfrom⟩
  · -- it is new
    have hh : ∀ e ∈ es.toList, e.1 ≠ tupleKeyHash (intKind prog w) k := fun e he z => by
      obtain ⟨kk, h1, h2⟩ := hfrom e he
      obtain ⟨_, _, _, h4⟩ := h2
      have : kk = k := hash_inj (prog := prog) (w := w) (hok kk h1) hk (by rw [← h4, z])
      exact hmem (this ▸ h1)
    refine wpAny_bind (search_absent (s := { s with toks := s.toks + (k.length + 1) }) ho hd T hh fun n hn1 hfr hle hocc => ?_)
    dsimp only
    refine wpAny_bind (wpAny_setState_of (s := { s with toks := s.toks + (k.length + 1) }) ho hd T.fits ?_)
    dsimp only
    obtain ⟨hp1, T1⟩ := T.put (h := tupleKeyHash (intKind prog w) k) (x := Value.ref x) hn1 hfr hle hocc
    generalize hpt : t.put (it t n (t.probeStart (tupleKeyHash (intKind prog w) k))).j = tp at hp1 T1 ⊢
    have hled : tp.1.mask = t.mask := by
      rw [← hpt]
      unfold SetTable.put
      rfl
    obtain ⟨t1, p⟩ := tp
    dsimp only at hp1 T1 hled ⊢
    have hsz1 : (insertAt es p (tupleKeyHash (intKind prog w) k, Value.ref x)).size = es.size + 1 := size_ins hp1
    have fits1 : (insertAt es p (tupleKeyHash (intKind prog w) k, Value.ref x)).size ≤ sizeLine := by rw [hsz1, hsz, sizeLine_eq]; omega
    -- what stands there with the new entry, whatever its order
    have made : ∀ (h' : Heap) (o' : Obj) (es' : Array En) (ep' : Nat) (t' : SetTable), Heap.SameBut S s.heap h' → h'.get? S = some o' → o'.ExactSet → o'.data = .set es' ep' t' → Tb t' es' →
        es'.toList.Perm (insertAt es p (tupleKeyHash (intKind prog w) k, Value.ref x)).toList → SetT prog w hp h' S (k :: ks) := fun h' o' es' ep' t' hsb ho' hex' hd' T' hpm => by
      have hmemE : ∀ e, e ∈ es'.toList ↔ e = (tupleKeyHash (intKind prog w) k, Value.ref x) ∨ e ∈ es.toList := fun e => by rw [hpm.mem_iff]; exact mem_ins hp1 e
      have hnew : IsEn prog w hp k (tupleKeyHash (intKind prog w) k, Value.ref x) := ⟨x, rfl, hx0, rfl⟩
      refine ⟨o', es', ep', t', ho', hex', hd', T', ?_, List.nodup_cons.mpr ⟨hmem, hnd⟩, fun kk hkk => ?_, fun kk hkk => ?_, fun e he => ?_⟩
      · have := hpm.length_eq
        rw [Array.length_toList, Array.length_toList, hsz1, hsz] at this
        rw [this, List.length_cons]
      · rcases List.mem_cons.mp hkk with rfl | hkk
        · exact hk
        · exact hok kk hkk
      · rcases List.mem_cons.mp hkk with rfl | hkk
        · exact ⟨_, (hmemE _).mpr (.inl rfl), hnew⟩
        · obtain ⟨e, he, hek⟩ := hto kk hkk
          exact ⟨e, (hmemE e).mpr (.inr he), hek⟩
      · rcases (hmemE e).mp he with rfl | he
        · exact ⟨k, List.mem_cons_self, hnew⟩
        · obtain ⟨kk, h1, h2⟩ := hfrom e he
          exact ⟨kk, List.mem_cons_of_mem _ h1, h2⟩
    -- the store and, where it has become too full, the new laying
    have rest : ∀ b : Bool, wpAny (model prog w) A (do
        storeSet S (insertAt es p (tupleKeyHash (intKind prog w) k, Value.ref x)) (if b = true then t1 else { t1 with plain := false })
        if (!false && (if b = true then t1 else { t1 with plain := false }).tooFull) = true then do
          setRelay S (grown (es.size + 1))
          pure true
        else pure true) Q E { s with toks := s.toks + (k.length + 1) } := fun b => by
      have T2 : Tb' (if b = true then t1 else { t1 with plain := false }) (insertAt es p (tupleKeyHash (intKind prog w) k, Value.ref x)) := by
        split
        · exact T1
        · exact T1.plain false
      have hm2 : (if b = true then t1 else { t1 with plain := false }).mask = t.mask := by split <;> exact hled
      generalize (if b = true then t1 else { t1 with plain := false }) = t2 at T2 hm2
      refine wpAny_bind (wpAny_storeSet_of (s := { s with toks := s.toks + (k.length + 1) }) ho hd ?_ fits1)
      have ho1 := stored (es' := insertAt es p (tupleKeyHash (intKind prog w) k, Value.ref x)) (t' := t2) ho hd
      have hsb1 := Heap.SameBut.update s.heap S (Obj.putSet (insertAt es p (tupleKeyHash (intKind prog w) k, Value.ref x)) t2)
      rw [toofull T2]
      simp only [Bool.not_false, Bool.true_and, decide_eq_true_eq]
      by_cases hful : t2.mask * 3 ≤ (insertAt es p (tupleKeyHash (intKind prog w) k, Value.ref x)).size * 5
      · rw [if_pos hful]
        rw [hsz1, hm2] at hful
        obtain ⟨g1, g2, g3⟩ := grown_good T.good T.nf hful (by rw [hsz]; exact hn)
        unfold setRelay
        refine wpAny_bind (wpAny_bind (wpAny_setState_of (s := { s with heap := s.heap.update S (Obj.putSet (insertAt es p (tupleKeyHash (intKind prog w) k, Value.ref x)) t2), toks := s.toks + (k.length + 1) }) ho1 rfl T2.fits ?_))
        dsimp only
        rw [if_neg (by rw [sizeLine_eq]; omega)]
        obtain ⟨t3, order, hl3, T3, hpm3⟩ := laid_ok (M := sizeAbove (grown (es.size + 1)) - 1) (finger := t2.finger) (moves := t2.movedTo (sizeAbove (grown (es.size + 1)) - 1)) (led := t2.led) (plain := t2.plain) (es := insertAt es p (tupleKeyHash (intKind prog w) k, Value.ref x)) g1 (by rw [hsz1]; exact g2)
        have hrel : t2.relaid ((insertAt es p (tupleKeyHash (intKind prog w) k, Value.ref x)).map (·.1)) (grown (es.size + 1)) = some (t3, order) := by
          unfold relaid
          exact hl3
        rw [hrel]
        have hsz3 : (order.filterMap ((insertAt es p (tupleKeyHash (intKind prog w) k, Value.ref x))[·]?)).size = (insertAt es p (tupleKeyHash (intKind prog w) k, Value.ref x)).size := by
          rw [← Array.length_toList, hpm3.length_eq, Array.length_toList]
        refine wpAny_bind ?_
        show wpAny _ _ (if ((order.filterMap ((insertAt es p (tupleKeyHash (intKind prog w) k, Value.ref x))[·]?)).size != (insertAt es p (tupleKeyHash (intKind prog w) k, Value.ref x)).size) = true then _ else _) _ _ _
        rw [if_neg (by rw [hsz3]; simp)]
        first | refine wpAny_pure ?_ | refine wpAny_bind (wpAny_pure (wpAny_pure ?_))
        dsimp only
        refine wpAny_storeSet_of (s := { s with heap := s.heap.update S (Obj.putSet (insertAt es p (tupleKeyHash (intKind prog w) k, Value.ref x)) t2), toks := s.toks + (k.length + 1) }) ho1 rfl ?_ (by rw [hsz3]; exact fits1)
        refine wpAny_pure ?_
        have ho2 := stored (es' := order.filterMap ((insertAt es p (tupleKeyHash (intKind prog w) k, Value.ref x))[·]?)) (t' := t3) ho1 rfl
        have hsb2 := hsb1.trans (Heap.SameBut.update _ S (Obj.putSet (order.filterMap ((insertAt es p (tupleKeyHash (intKind prog w) k, Value.ref x))[·]?)) t3))
        have := hq true _ (s.toks + (k.length + 1)) (Nat.le_add_right _ _) hsb2
        rw [if_neg hmem] at this
        exact this (made _ _ _ _ _ hsb2 ho2 hex rfl T3 hpm3)
      · rw [if_neg hful]
        refine wpAny_pure ?_
        have := hq true _ (s.toks + (k.length + 1)) (Nat.le_add_right _ _) hsb1
        rw [if_neg hmem] at this
        exact this (made _ _ _ _ _ hsb1 ho1 hex rfl (T2.full (by omega)) (List.Perm.refl _))
    cases hpl : t1.plain with
    | true =>
      rw [if_pos rfl]
      refine wpAny_bind (hashByValue_pair (s := { s with toks := s.toks + (k.length + 1) }) hx ?_)
      exact rest true
    | false =>
      rw [if_neg Bool.false_ne_true]
      refine wpAny_bind (wpAny_pure ?_)
      exact rest true
end
end Sett

namespace Sett
open PySem PySem.SetTable PyProof.Rows
set_option autoImplicit false
set_option linter.all false

/-- keys put one after the other, each once -/
def insT (ks : List (List Int)) (k : List Int) : List (List Int) := if k ∈ ks then ks else k :: ks
theorem insT_len (ks : List (List Int)) (k : List Int) : (insT ks k).length ≤ ks.length + 1 := by unfold insT; split <;> simp
theorem fold_le : ∀ (l ks : List (List Int)), (l.foldl insT ks).length ≤ ks.length + l.length
  | [], ks => by simp
  | k :: l, ks => by
    rw [List.foldl_cons]
    have h1 := fold_le l (insT ks k)
    have h2 := insT_len ks k
    rw [List.length_cons]
    omega
/-- as many as were put just where all differ -/
theorem fold_full : ∀ (l ks : List (List Int)), (l.foldl insT ks).length = ks.length + l.length ↔ l.Nodup ∧ ∀ x ∈ l, x ∉ ks
  | [], ks => by simp
  | k :: l, ks => by
    rw [List.foldl_cons, List.length_cons, List.nodup_cons]
    by_cases h : k ∈ ks
    · have e : insT ks k = ks := by unfold insT; rw [if_pos h]
      rw [e]
      have := fold_le l ks
      constructor
      · intro q; omega
      · rintro ⟨_, q⟩
        exact absurd h (q k List.mem_cons_self)
    · have e : insT ks k = k :: ks := by unfold insT; rw [if_neg h]
      rw [e]
      have := fold_full l (k :: ks)
      rw [List.length_cons] at this
      constructor
      · intro q
        obtain ⟨q1, q2⟩ := this.mp (by omega)
        refine ⟨⟨fun hk => q2 k hk List.mem_cons_self, q1⟩, fun x hx => ?_⟩
        rcases List.mem_cons.mp hx with rfl | hx
        · exact h
        · exact fun z => q2 x hx (List.mem_cons_of_mem _ z)
      · rintro ⟨⟨q1, q2⟩, q3⟩
        have := this.mpr ⟨q2, fun x hx z => by
          rcases List.mem_cons.mp z with rfl | z
          · exact q1 hx
          · exact q3 x (List.mem_cons_of_mem _ hx) z⟩
        omega

section
variable {prog : Program} {w : World}

theorem update_loop {A : Around} {R : Result → Shared → Prop} {I : Addr} {fp wr : List Addr} {G : Array GenState → Array GenState → Prop} {n : Nat} {P : Nat → Value → Prop} {St : Nat → Shared → Prop}
    (W : WalksS prog w A.in1 I fp wr G n P St) (hu : A.in1.units < cLine) (S : Addr) (hSf : S ∉ fp) (hp : Heap) (hS0 : hp.get? S = none) (hw0 : ∀ b ∈ wr, hp.get? b = none) (keys : List (List Int)) (hn : keys.length = n) (hb : n < 300)
    (hkey : ∀ i v, P i v → ∃ x k, v = .ref x ∧ keys[i]? = some k ∧ KeyOk k ∧ IsTupleKey (intKind prog w) hp k x) :
    ∀ (c i : Nat) (s : Shared), n - i = c → i ≤ n → St i s → (∀ b o, hp.get? b = some o → s.heap.get? b = some o) → SetT prog w hp s.heap S ((keys.take i).foldl insT []) →
      (∀ s', Moved (S :: wr) G s s' → SetT prog w hp s'.heap S (keys.foldl insT []) → R (.ok (.ret .none)) s') →
      codeAny (model prog w) A (.builtin "set.update.loop" ⟨[.ref S, .ref I], []⟩) R s := by
  have hSw : S ∉ wr := fun h => hSf (W.sub _ h)
  have hsub : ∀ b ∈ wr, b ∈ S :: wr := fun b hb => List.mem_cons_of_mem _ hb
  have nw : ∀ b o, hp.get? b = some o → b ∉ wr := fun b o e hm => by rw [hw0 b hm] at e; cases e
  have nS : ∀ b o, hp.get? b = some o → b ≠ S := fun b o e hm => by rw [hm, hS0] at e; cases e
  have setKept : ∀ {s s' : Shared} {ks : List (List Int)}, SetT prog w hp s.heap S ks → (∀ b o, b ∉ wr → s.heap.get? b = some o → s'.heap.get? b = some o) → SetT prog w hp s'.heap S ks := fun {s s' ks} hS hk => by
    obtain ⟨o, es, ep, t, ho, rest⟩ := hS
    exact ⟨o, es, ep, t, hk S o hSw ho, rest⟩
  intro c
  induction c with
  | zero =>
    intro i s hk hi hst hup hS hR
    have hin : i = n := by omega
    subst hin
    refine codeAny_builtin PyProof.Rows.F.entry_set_update_loop ?_
    rw [Around.under_plainId PyProof.Rows.F.plain_set_update_loop _]
    show wpAny _ A.in1 (pyNext (.ref I) >>= _) _ _ s
    refine wpAny_bind (W.done s _ _ hst fun s' hm => ?_)
    show wpAny _ A.in1 (ret Value.none) _ _ s'
    refine wpAny_pure (hR s' (hm.mono hsub) ?_)
    have := setKept hS hm.heap
    rw [List.take_of_length_le (by omega)] at this
    exact this
  | succ c ih =>
    intro i s hk hi hst hup hS hR
    have hlt : i < n := by omega
    refine codeAny_builtin PyProof.Rows.F.entry_set_update_loop ?_
    rw [Around.under_plainId PyProof.Rows.F.plain_set_update_loop _]
    show wpAny _ A.in1 (pyNext (.ref I) >>= _) _ _ s
    refine wpAny_bind (W.item i s _ _ hlt hst fun v s' hP hst' hm => ?_)
    obtain ⟨x, k, rfl, hki, hok, hx⟩ := hkey i v hP
    have hup' : ∀ b o, hp.get? b = some o → s'.heap.get? b = some o := fun b o e => hm.heap b o (nw b o e) (hup b o e)
    have hS' := setKept (s' := s') hS hm.heap
    show wpAny _ A.in1 (holding [Value.ref x] (setAdd S (.ref x)) >>= _) _ _ s'
    refine wpAny_bind (wpAny_holding ?_)
    have hlen : ((keys.take i).foldl insT []).length < 300 := by
      have := fold_le (keys.take i) []
      rw [List.length_take] at this
      simp only [List.length_nil] at this
      omega
    refine setAdd_pair hup' hu hS' hx hok hlen fun b h' tk htk hsb hS2 => ?_
    have hS3 : SetT prog w hp h' S ((keys.take (i + 1)).foldl insT []) := by
      rw [List.take_add_one, hki, List.foldl_append]
      exact hS2
    refine wpAny_pure ⟨plainId_quiet PyProof.Rows.F.plain_set_update_loop _, ih (i + 1) _ (by omega) hlt (W.frame _ s' _ _ hst' htk fun b hb o e => ?_) (fun b o e => ?_) hS3 fun s'' hm'' hS'' => ?_⟩
    · rw [hsb.2 b (fun h : b = S => hSf (h ▸ hb))]; exact e
    · show h'.get? b = some o
      rw [hsb.2 b (nS b o e)]
      exact hup' b o e
    · refine hR s'' (Moved.trans W.gtrans ((hm.mono hsub).then_heap htk fun b o hb e => ?_) hm'') hS''
      rw [hsb.2 b (fun h : b = S => hb (h ▸ List.mem_cons_self))]; exact e

variable {A : Around} {E : Value → Shared → Prop} {s : Shared}
set_option maxRecDepth 100000 in
set_option maxHeartbeats 3200000 in
/-- set(a list of pairs) -/
theorem set_of_list {l : Addr} {items : Array Value} {keys : List (List Int)} {Q : Value → Shared → Prop} (hh : A.handled = none) (hu : A.units + 8 < cLine) (hl : s.heap.IsList l items) (hn : keys.length = items.size) (hb : items.size < 300)
    (hkey : ∀ (i : Nat) (v : Value), items[i]? = some v → ∃ x k, v = .ref x ∧ keys[i]? = some k ∧ KeyOk k ∧ IsTupleKey (intKind prog w) s.heap k x)
    (h : ∀ (h' : Heap) (tk : Nat), SetT prog w s.heap h' s.heap.objs.size (keys.foldl insT []) → (∀ b o, s.heap.get? b = some o → h'.get? b = some o) → Q (.ref s.heap.objs.size) { s with heap := h', toks := tk }) :
    wpAny (model prog w) A (call (.type "set") [.ref l]) Q E s := by
  obtain ⟨c, tl, hmro⟩ := F.called_set.mro
  have hmade := F.called_set.made
  have hsub := F.called_set.sub
  refine wpAny_call (codeAny_of_tree ?_)
  show wpAny _ _ (callAny (.type "set") _) _ _ _
  refine wpAny_pure ⟨Code.quiet_builtin _ (by decide +kernel), codeAny_builtin F.entry_type_call ?_⟩
  rw [Around.under_plain (weight_type_call_type "set" [.ref l] []) rfl]
  have h1 := F.called_set.notType
  have h2 := F.called_set.canCreate
  have hct := F.typeCall_set_1 (.ref l)
  repeat (any_goals (first | assumption | wp_step))
  refine codeAny_mono (code_set_new_1 (.ref l) (E := E) (Q₁ := fun obj s₁ => ∃ led : Bool, obj = .ref s.heap.objs.size ∧ s₁ = { s with heap := s.heap.push { cls := .type "set", dict := none, data := .set #[] 0 (.fresh 0 0 led) } }) fun led => ⟨led, rfl, rfl⟩) fun r s₁ hr => ?_
  cases r with
  | error e => exact hr
  | ok fl =>
    cases fl with
    | ret obj =>
      obtain ⟨led, rfl, rfl⟩ := hr
      have hS : (s.heap.push { cls := .type "set", dict := none, data := .set #[] 0 (.fresh 0 0 led) }).get? s.heap.objs.size = some { cls := .type "set", dict := none, data := .set #[] 0 (.fresh 0 0 led) } := Heap.get?_push_size _ rfl
      have hT : Shared.TypeIs { s with heap := s.heap.push { cls := .type "set", dict := none, data := .set #[] 0 (.fresh 0 0 led) } } (.ref s.heap.objs.size) "set" := ⟨_, hS, rfl⟩
      have hli := F.called_set.init.lookup
      have hbi := F.called_set.init.bind (.ref s.heap.objs.size)
      repeat (any_goals (first | assumption | wp_step))
      refine codeAny_mono (codeAny_call_builtin (R := wants (fun r s₂ => r = .none ∧ ∃ h' tk, s₂ = { s with heap := h', toks := tk } ∧ SetT prog w s.heap h' s.heap.objs.size (keys.foldl insT []) ∧ (∀ b o, s.heap.get? b = some o → h'.get? b = some o)) E) F.called_set.init.plain F.entry_set_init (check_set_init_1 hT ?_)) fun r₂ s₂ hr₂ => ?_
      · obtain ⟨ol, hol, hcl, nl, hdl⟩ := hl
        obtain ⟨ocls, odict, odata, oslots⟩ := ol
        simp only at hcl hdl
        subst hcl; subst hdl
        have hol' : (s.heap.push { cls := .type "set", dict := none, data := .set #[] 0 (.fresh 0 0 led) }).get? l = some { cls := .type "list", dict := odict, data := .seq items nl, slots := oslots } := Heap.get?_push_of_some _ hol
        have hsls := F.sub_list_set
        have hslf := F.sub_list_frozenset
        have hne : (Value.type "list" == Value.type "dict") = false := by decide
        have hl1 : (s.heap.push { cls := .type "set", dict := none, data := .set #[] 0 (.fresh 0 0 led) }).IsList l items := ⟨_, hol', rfl, nl, rfl⟩
        unfold Builtin.«set.__init__» noKeywords Builtin.Frozenset.updateFrom
        generalize hPI : pyIter = PI
        wp_walk
        subst hPI
        refine wpAny_pyIter_list hl1 ?_
        refine wpAny_bind (wpAny_runValue ?_)
        have hlS : l < s.heap.objs.size := Heap.lt_size hol
        have hh3 : A.in1.in1.in1.handled = none := by simp [hh]
        have hneI : l ≠ (s.heap.push { cls := .type "set", dict := none, data := .set #[] 0 (.fresh 0 0 led) }).objs.size := by
          rw [Heap.size_push]; exact Nat.ne_of_lt (Nat.lt_succ_of_lt hlS)
        have hSf : s.heap.objs.size ∉ [(s.heap.push { cls := .type "set", dict := none, data := .set #[] 0 (.fresh 0 0 led) }).objs.size, l] := by
          rw [Heap.size_push]; simp only [List.mem_cons, List.mem_singleton, List.not_mem_nil, or_false, not_or]
          exact ⟨Nat.ne_of_lt (Nat.lt_succ_self _), Nat.ne_of_gt hlS⟩
        refine update_loop ((Walks.list hh3 _ l hneI items).toS) ?hu s.heap.objs.size hSf s.heap ?hn ?hw keys hn hb hkey (items.size - 0) 0 _ (by omega) (Nat.zero_le _)
          ⟨⟨_, Heap.get?_push_size _ rfl, rfl, rfl⟩, (hl1.push _)⟩ (fun b o e => Heap.get?_push_of_some _ (Heap.get?_push_of_some _ e)) ?hS0 ?hR
        case hu => show A.units + 1 + 1 + 1 < cLine; omega
        case hn => exact Heap.get?_none_of_le (Nat.le_refl _)
        case hw =>
          intro b hb
          have e : b = (s.heap.push { cls := .type "set", dict := none, data := .set #[] 0 (.fresh 0 0 led) }).objs.size := by simpa using hb
          rw [e]
          exact Heap.get?_none_of_le (by rw [Heap.size_push]; exact Nat.le_succ _)
        case hS0 =>
          have hget : ((s.heap.push { cls := .type "set", dict := none, data := .set #[] 0 (.fresh 0 0 led) }).push { cls := .type "list_iterator", data := .fields #[.ref l, .int 0 0] }).get? s.heap.objs.size
              = some { cls := .type "set", dict := none, data := .set #[] 0 (.fresh 0 0 led) } := Heap.get?_push_of_some _ hS
          refine ⟨_, _, _, _, hget, ⟨rfl, rfl, rfl⟩, rfl, ⟨rfl, rfl, ?_, ?_, .inl rfl, by show 0 * 5 < 7 * 3; decide, ?_⟩, rfl, List.nodup_nil, (fun _ h => nomatch h), (fun _ h => nomatch h), (fun _ h => nomatch h)⟩
          · intro i j a b hij ea
            simp [SetTable.fresh] at ea
          · intro i j ea
            simp [SetTable.fresh] at ea
          · intro i e ea
            simp at ea
        case hR =>
          intro s' hm hS'
          obtain ⟨h', g', d', tk', os'⟩ := s'
          have eg : g' = s.gens := hm.gens
          have ed : d' = s.drawn := hm.drawn
          have eo : os' = s.os := hm.os
          subst eg; subst ed; subst eo
          show wpAny _ _ _ _ _ _
          refine wpAny_pure ?_
          show wpAny _ _ (ret Value.none) _ _ _
          refine wpAny_pure ⟨rfl, h', tk', rfl, hS', fun b o e => ?_⟩
          have hlt := Heap.lt_size e
          have hb1 : b ≠ s.heap.objs.size := Nat.ne_of_lt hlt
          have hb2 : b ≠ (s.heap.push { cls := .type "set", dict := none, data := .set #[] 0 (.fresh 0 0 led) }).objs.size := by
            rw [Heap.size_push]; exact Nat.ne_of_lt (Nat.lt_succ_of_lt hlt)
          exact hm.heap b o (by simp only [List.mem_cons, List.mem_singleton, List.not_mem_nil, or_false, not_or]; exact ⟨hb1, hb2⟩) (Heap.get?_push_of_some _ (Heap.get?_push_of_some _ e))
      · cases r₂ with
        | error e => exact hr₂
        | ok fl₂ =>
          cases fl₂ with
          | ret r =>
            obtain ⟨rfl, h', tk, rfl, hS', hk'⟩ := hr₂
            repeat (any_goals (first | assumption | wp_step))
            exact h _ _ hS' hk'
          | _ => exact hr₂.elim
    | _ => exact hr.elim

/-- len of such a set -/
theorem len_of_set {S : Addr} {hp : Heap} {ks : List (List Int)} {Q : Value → Shared → Prop} (hS : SetT prog w hp s.heap S ks) (hn : ks.length < 300) (h : ∀ t tk, Q (.int ks.length t) { s with toks := tk }) :
    wpAny (model prog w) A (call (.builtin "len") [.ref S]) Q E s := by
  obtain ⟨o, es, ep, t, ho, hex, hd, T, hsz, _⟩ := hS
  refine call_len_set ho hex hd T.fits (by omega) ?_
  rw [hsz]
  exact h _ _
end
end Sett

namespace L2
open PySem PySem.Spec PyProof.Rows
set_option autoImplicit false
set_option linter.all false

/-! ### tuples of ints among the values -/
/-- the values ys are tuples of the ints ks -/
def Tups (K : PySem.W.Frag) (H : Hp) (ys : List V) (ks : List (List Int)) : Prop := Paired (fun y k => ∃ a, y = V.ref a ∧ SqT K H a (k.map V.int)) ys ks
theorem Tups.len {K : PySem.W.Frag} {H : Hp} {ys : List V} {ks : List (List Int)} (t : Tups K H ys ks) : ys.length = ks.length := Paired.length t
theorem Tups.get {K : PySem.W.Frag} {H : Hp} : ∀ {ys : List V} {ks : List (List Int)} {i : Nat} {y : V}, Tups K H ys ks → ys[i]? = some y → ∃ a k, y = V.ref a ∧ ks[i]? = some k ∧ SqT K H a (k.map V.int)
  | _, _, _, _, .nil, e => by simp at e
  | _, _, 0, _, .cons r _, e => by
    simp at e
    subst e
    obtain ⟨a, h1, h2⟩ := r
    exact ⟨a, _, h1, rfl, h2⟩
  | _, _, i + 1, y, .cons _ t, e => by
    obtain ⟨a, k, h1, h2, h3⟩ := Tups.get (i := i) (y := y) t (by simpa using e)
    exact ⟨a, k, h1, by simpa using h2, h3⟩
theorem Tups.same {K : PySem.W.Frag} {H H' : Hp} (hs : ∀ b o, H b = some o → H' b = some o) : ∀ {ys : List V} {ks : List (List Int)}, Tups K H ys ks → Tups K H' ys ks
  | _, _, .nil => .nil
  | _, _, .cons r t => by
    obtain ⟨a, h1, h2⟩ := r
    refine .cons ⟨a, h1, ?_⟩ (Tups.same hs t)
    rcases h2 with (h | ⟨o, h⟩) | h
    · exact .inl (.inl (hs _ _ h))
    · exact .inl (.inr ⟨o, hs _ _ h⟩)
    · exact .inr h
theorem Tups.append {K : PySem.W.Frag} {H : Hp} : ∀ {ys zs : List V} {ks ls : List (List Int)}, Tups K H ys ks → Tups K H zs ls → Tups K H (ys ++ zs) (ks ++ ls)
  | _, _, _, _, .nil, s => s
  | _, _, _, _, .cons r t, s => .cons r (Tups.append t s)
theorem Tups.take {K : PySem.W.Frag} {H : Hp} : ∀ {ys : List V} {ks : List (List Int)} (n : Nat), Tups K H ys ks → Tups K H (ys.take n) (ks.take n)
  | _, _, 0, _ => .nil
  | _, _, _ + 1, .nil => .nil
  | _, _, n + 1, .cons r t => .cons r (Tups.take n t)
theorem Tups.drop {K : PySem.W.Frag} {H : Hp} : ∀ {ys : List V} {ks : List (List Int)} (n : Nat), Tups K H ys ks → Tups K H (ys.drop n) (ks.drop n)
  | _, _, 0, t => t
  | _, _, _ + 1, .nil => .nil
  | _, _, n + 1, .cons _ t => Tups.drop n t
theorem Tups.reverse {K : PySem.W.Frag} {H : Hp} : ∀ {ys : List V} {ks : List (List Int)}, Tups K H ys ks → Tups K H ys.reverse ks.reverse
  | _, _, .nil => .nil
  | _, _, .cons r t => by
    rw [List.reverse_cons, List.reverse_cons]
    exact Tups.append (Tups.reverse t) (.cons r .nil)

section
variable {X : Cx} {pins : List (Addr × Obj)} {σ : St} {H : Hp} {s : Shared}
theorem items_of {prog : Program} {w : World} : ∀ {k : List Int} {its : List Value}, Vals (k.map V.int) its → ItemsAre (intKind prog w) k its
  | [], _, .nil => .nil
  | i :: k, _, .cons r t => by
    obtain ⟨tk, rfl⟩ := r
    exact .cons (by simp [intKind, Value.isInt]) (items_of t)
theorem tup_key (I : Inv X pins σ H s) {a : Addr} {k : List Int} (h : SqT X.K H a (k.map V.int)) : IsTupleKey (intKind X.prog X.w) s.heap k a := by
  obtain ⟨its, r, ⟨o, ho, hc, n, hd⟩, _⟩ := I.tuple h
  exact ⟨o, its.toArray, n, ho, hc, hd, by simpa using items_of r⟩
/-- the same at the values of the machine -/
theorem tups_vals (I : Inv X pins σ H s) : ∀ {ys : List V} {ks : List (List Int)} {us : List Value}, Tups X.K H ys ks → Vals ys us → Paired (fun u k => ∃ a, u = Value.ref a ∧ IsTupleKey (intKind X.prog X.w) s.heap k a) us ks
  | _, _, _, .nil, .nil => .nil
  | _, _, _, .cons r t, .cons q v => by
    obtain ⟨a, rfl, h⟩ := r
    cases q
    exact .cons ⟨a, rfl, tup_key I h⟩ (tups_vals I t v)
theorem paired_get {α β : Type} {R : α → β → Prop} : ∀ {l : List α} {m : List β} {i : Nat} {x : α}, Paired R l m → l[i]? = some x → ∃ y, m[i]? = some y ∧ R x y
  | _, _, _, _, .nil, e => by simp at e
  | _, _, 0, _, .cons r _, e => by simp at e; subst e; exact ⟨_, rfl, r⟩
  | _, _, i + 1, x, .cons _ t, e => by
    obtain ⟨y, h1, h2⟩ := paired_get (i := i) (x := x) t (by simpa using e)
    exact ⟨y, by simpa using h1, h2⟩
/-- a permutation on the one side, carried over -/
theorem paired_perm {α β : Type} {R : α → β → Prop} {l l' : List α} (p : l'.Perm l) : ∀ {m : List β}, Paired R l m → ∃ m', m'.Perm m ∧ Paired R l' m' := by
  induction p with
  | nil => intro m h; exact ⟨m, List.Perm.refl _, h⟩
  | cons x _ ih =>
    intro m h
    cases h with
    | cons r t =>
      obtain ⟨m', p', h'⟩ := ih t
      exact ⟨_ :: m', p'.cons _, .cons r h'⟩
  | swap x y l =>
    intro m h
    cases h with
    | cons r t =>
      cases t with
      | cons r' t' => exact ⟨_ :: _ :: _, List.Perm.swap _ _ _, .cons r' (.cons r t')⟩
  | trans _ _ ih1 ih2 =>
    intro m h
    obtain ⟨m1, p1, h1⟩ := ih2 h
    obtain ⟨m2, p2, h2⟩ := ih1 h1
    exact ⟨m2, p2.trans p1, h2⟩
theorem paired_flip {α β : Type} {R : α → β → Prop} : ∀ {l : List α} {m : List β}, Paired R l m → Paired (fun b a => R a b) m l
  | _, _, .nil => .nil
  | _, _, .cons r t => .cons r (paired_flip t)
end

section
variable {X : Cx}
/-- a set of pairs: how many -/
def SetO (P : Program) (w : World) (S : Addr) (n : Nat) : HO := .ext fun h => ∃ hk ks, ks.length = n ∧ n < 300 ∧ Sett.SetT P w hk h S ks
/-- set(a list of pairs of places) -/
theorem call_set (hc : X.calm = true) (hu : X.A.units + 8 < cLine) : CallR X (.type "set") (fun xs H Q => ∃ p ys ks, xs = [.ref p] ∧ SqL X.K H p ys ∧ Tups X.K H ys ks ∧ (∀ k ∈ ks, Sett.KeyOk k) ∧ ks.length < 300 ∧
    ∀ S, H S = none → Q (.ref S) (upd H S (SetO X.prog X.w S (ks.foldl Sett.insT []).length))) := by
  intro pins s σ H xs us Q I r h
  obtain ⟨p, ys, ks, rfl, hq, ht, hok, hb, q⟩ := h
  obtain ⟨u, rfl, rx⟩ := vals1 r
  cases rx
  obtain ⟨its, r', pl, hz⟩ := I.list hq
  have hlen := r'.length
  have hk := tups_vals I ht r'
  have hkl := ht.len
  refine Sett.set_of_list (keys := ks) (I.ok.hd hc) hu pl.isList (by simp; omega) (by simp; omega) (fun i v hv => ?_) fun h' tk hS kp => ?_
  · obtain ⟨k, h1, a, rfl, h2⟩ := paired_get hk (by simpa using hv)
    exact ⟨a, k, rfl, h1, hok k (List.mem_of_getElem? h1), h2⟩
  · have hle := Sett.fold_le ks []
    simp only [List.length_nil] at hle
    refine ⟨.ref s.heap.objs.size, _, I.laid (o := SetO X.prog X.w s.heap.objs.size (ks.foldl Sett.insT []).length) (t' := tk) kp (Nat.le_refl _) ?_, rfl, q _ (I.hok.fresh (Nat.le_refl _))⟩
    refine ⟨⟨s.heap, ks.foldl Sett.insT [], rfl, by omega, hS⟩, ?_, fun h1 h2 ⟨hk1, ks1, e1, e2, hS1⟩ hkeep => ⟨hk1, ks1, e1, e2, ?_⟩⟩
    · obtain ⟨o, _, _, _, ho, _⟩ := hS
      exact ⟨o, ho⟩
    · obtain ⟨o, es, ep, t, ho, rest⟩ := hS1
      exact ⟨o, es, ep, t, hkeep o ho, rest⟩
theorem call_len_set : CallR X (.builtin "len") (fun xs H Q => ∃ S n, xs = [.ref S] ∧ H S = some (SetO X.prog X.w S n) ∧ Q (.int n) H) := by
  intro pins s σ H xs us Q I r h
  obtain ⟨S, n, rfl, hS, q⟩ := h
  obtain ⟨u, rfl, rx⟩ := vals1 r
  cases rx
  obtain ⟨⟨hk, ks, e1, e2, hS1⟩, _⟩ := I.hok S _ hS
  refine Sett.len_of_set hS1 (by omega) fun t tk => ?_
  exact ⟨.int n, H, I.tok _, ⟨t, by rw [e1]⟩, q⟩
end
end L2

namespace L2
open PySem PySem.Spec PyProof.Rows
set_option autoImplicit false
set_option linter.all false
section
variable {X : Cx}
/-- sorted(a list of tuples of ints, none of them empty) -/
theorem call_sorted64 : CallR X (.builtin "sorted") (fun xs H Q => ∃ p ys ks, xs = [.ref p] ∧ SqL X.K H p ys ∧ Tups X.K H ys ks ∧ (∀ k ∈ ks, k ≠ []) ∧ ks.length < 64 ∧
    ∀ l zs ks', H l = none → ks'.Perm ks → ks'.Pairwise (fun a b => Tim.lexB b a = false) → Tups X.K (upd H l (.lst zs)) zs ks' → Q (.ref l) (upd H l (.lst zs))) := by
  intro pins s σ H xs us Q I r h
  obtain ⟨p, ys, ks, rfl, hq, ht, hne, h64, q⟩ := h
  obtain ⟨u, rfl, rx⟩ := vals1 r
  cases rx
  obtain ⟨its, r', pl, hz⟩ := I.list hq
  have hlen := r'.length
  have hk := tups_vals I ht r'
  have hv : ∀ v ∈ its, ∃ i k, Tim.IsK X.prog X.w s.heap (i :: k) v := fun v hv => by
    obtain ⟨j, hj⟩ := List.mem_iff_getElem?.mp hv
    obtain ⟨k, h1, a, rfl, h2⟩ := paired_get hk hj
    cases k with
    | nil => exact absurd rfl (hne [] (List.mem_of_getElem? h1))
    | cons i k => exact ⟨i, k, a, rfl, h2⟩
  refine Tim.sorted_tuples64 pl.isList (by omega) (by rw [← hlen, Tups.len ht]; exact h64) hv fun out h' n hp hs kp e => ?_
  obtain ⟨zs, pz, rz⟩ := paired_perm hp (paired_flip r')
  have rz' : Vals zs out := paired_flip rz
  have hzl : zs.length ≤ sizeLine := by rw [pz.length_eq]; exact hz
  have hfr : H (s.heap.objs.size + 1) = none := I.hok.fresh (Nat.le_succ _)
  have keepS : ∀ b o, H b = some o → upd H (s.heap.objs.size + 1) (.lst zs) b = some o := fun b o e => by rw [upd_ne (ne_of_none e hfr)]; exact e
  refine ⟨.ref (s.heap.objs.size + 1), upd H (s.heap.objs.size + 1) (.lst zs), I.laid (t' := s.toks) kp (Nat.le_succ _) (show ObjOk X.prog X.w _ h' _ (.lst zs) from ⟨hzl, out, n, rz', e⟩), rfl, ?_⟩
  -- the keys in the new order
  obtain ⟨ks', pk, hk'⟩ := paired_perm pz (show Paired (fun y k => ∃ a, y = V.ref a ∧ SqT X.K H a (k.map V.int)) ys ks from ht)
  refine q _ zs ks' hfr pk ?_ (Tups.same keepS hk')
  have hko := tups_vals I (show Tups X.K H zs ks' from hk') rz'
  have eq : ks' = out.map (Tim.keyAt X.prog X.w s.heap) := by
    clear hs hp rz rz' hk' pk e
    induction hko with
    | nil => rfl
    | cons r t ih =>
      obtain ⟨a, rfl, hka⟩ := r
      rw [List.map_cons, Tim.keyAt_eq ⟨a, rfl, hka⟩, ← ih]
  rw [eq, List.pairwise_map]
  exact hs

end
end L2

namespace L2
open PySem PySem.Spec PyProof.Rows
set_option autoImplicit false
set_option linter.all false

/-! ### comprehensions -/
/-- the block's context: its own frame at the heap's end; the callers' frames and this one may change in their slots; the iterator at fp turns -/
def compCx (X : Cx) (scope : Scope) (cl : List (Str × Addr)) (N' : List Str) (s₃ : Shared) (H₃ : Hp) (fp : List Addr) (xe' : Value → Shared → Prop) : Cx :=
  { X with N := N', s₀ := s₃, H₀ := H₃, env := compEnvC scope cl s₃.heap.objs.size X.env, outer := X.stack, ex := fp, fn := fun _ => false, pn := [], xe := xe' }
/-- the cells that the block takes over are this frame's -/
def ClOk (env : Env) : List (Str × Addr) → Prop
  | [] => True
  | (x, c) :: r => env.cells.lookup x = some c ∧ ClOk env r
theorem ClOk.get {env : Env} : ∀ {cl : List (Str × Addr)} {x : Str} {c : Addr}, ClOk env cl → cl.lookup x = some c → env.cells.lookup x = some c
  | [], _, _, _, h => by cases h
  | (y, d) :: r, x, c, ⟨h1, h2⟩, h => by
    rw [List.lookup_cons] at h
    cases e : x == y with
    | true =>
      rw [e] at h
      cases h
      rw [eq_of_beq e]
      exact h1
    | false =>
      rw [e] at h
      exact ClOk.get h2 h
/-- every free name of the block is among them -/
def FrOk (names : List (Str × NameKind)) (cl : List (Str × Addr)) : Bool := names.all fun y => y.2 != .cell && (y.2 != .free || (cl.lookup y.1).isSome)
theorem lookup_relabel {env : Env} : ∀ {names : List (Str × NameKind)} {x : Str} {k : NameKind}, (names.map fun (n, k) => if (k == NameKind.free && env.scope.kind == .function && env.kindOf n == some .cell) then (n, NameKind.cell) else (n, k)).lookup x = some k →
    ∃ k', (x, k') ∈ names ∧ (k' = k ∨ (k' = .free ∧ k = .cell))
  | [], _, _, h => by cases h
  | (n, k0) :: r, x, k, h => by
    rw [List.map_cons] at h
    have hn : ∀ k1, (List.lookup x ((n, k1) :: r.map fun (n, k) => if (k == NameKind.free && env.scope.kind == .function && env.kindOf n == some .cell) then (n, NameKind.cell) else (n, k))) = some k → (x = n ∧ k1 = k) ∨ ∃ k', (x, k') ∈ r ∧ (k' = k ∨ (k' = .free ∧ k = .cell)) := fun k1 h => by
      rw [List.lookup_cons] at h
      cases e : x == n with
      | true => rw [e] at h; cases h; exact .inl ⟨eq_of_beq e, rfl⟩
      | false => rw [e] at h; exact .inr (lookup_relabel h)
    dsimp only at h
    by_cases hc : (k0 == NameKind.free && env.scope.kind == .function && env.kindOf n == some .cell) = true
    · rw [if_pos hc] at h
      rcases hn _ h with ⟨rfl, rfl⟩ | ⟨k', h1, h2⟩
      · simp only [Bool.and_eq_true] at hc
        have e0 : k0 = .free := eq_of_beq hc.1.1
        exact ⟨k0, List.mem_cons_self, .inr ⟨e0, rfl⟩⟩
      · exact ⟨k', List.mem_cons_of_mem _ h1, h2⟩
    · rw [if_neg hc] at h
      rcases hn _ h with ⟨rfl, rfl⟩ | ⟨k', h1, h2⟩
      · exact ⟨k0, List.mem_cons_self, .inl rfl⟩
      · exact ⟨k', List.mem_cons_of_mem _ h1, h2⟩
/-- the values that the block's names have at its start: links to this frame's slots -/
def capt (lk : List (Option Nat)) (σ : St) : St := lk.map fun o => o.bind fun j => (σ[j]?).join
/-- the links are right: the names agree, and they are cells here -/
def LkOk (X : Cx) (N' : List Str) (lk : List (Option Nat)) (scope : Scope) (cl : List (Str × Addr)) : Prop :=
  lk.length = N'.length ∧ ∀ (i j : Nat) (x : Str), N'[i]? = some x → lk[i]? = some (some j) → X.N[j]? = some x ∧ (X.env.scope.names.lookup x = some .cell ∨ X.env.scope.names.lookup x = some .free) ∧ (cl.lookup x).isSome = true ∧
    ((compEnvC scope cl 0 X.env).kindOf x = some .cell ∨ (compEnvC scope cl 0 X.env).kindOf x = some .free)

section
variable {X : Cx}
theorem comp_start {pins : List (Addr × Obj)} {σ : St} {H3 : Hp} {s3 : Shared} {h1 : Heap} {tk : Nat} {scope : Scope} {cl : List (Str × Addr)} {N' : List Str} {lk : List (Option Nat)} {fp : List Addr} {xe' : Value → Shared → Prop} {m0 : Str → Option Value}
    (I : Inv X pins σ H3 s3) (hf : ∀ b ∈ fp, FpOk X pins H3 b) (hkind : scope.kind = .function) (hcl : ClOk X.env cl) (hfr : FrOk scope.names cl = true) (hlk : LkOk X N' lk scope cl)
    (hn : h1.Ns s3.heap.objs.size m0) (hk : ∀ b u, s3.heap.get? b = some u → h1.get? b = some u) (hfs : ∀ b ∈ fp, b < s3.heap.objs.size) : Inv (compCx X scope cl N' s3 H3 fp xe') [] (capt lk σ) H3 { s3 with heap := h1, toks := tk } := by
  have hC : H3 s3.heap.objs.size = none := I.hok.fresh (Nat.le_refl _)
  have hmem : ∀ y ∈ scope.names, y.2 ≠ .cell ∧ (y.2 = .free → (cl.lookup y.1).isSome = true) := fun y hy => by
    unfold FrOk at hfr
    rw [List.all_eq_true] at hfr
    have := hfr y hy
    rw [Bool.and_eq_true] at this
    refine ⟨by simpa using this.1, fun e => ?_⟩
    have h2 := this.2
    rw [e] at h2
    simpa using h2
  have hcell : ∀ x c, cl.lookup x = some c → X.env.cells.lookup x = some c := fun x c e => hcl.get e
  have clt : ∀ x c, cl.lookup x = some c → c < s3.heap.objs.size := fun x c e => by
    obtain ⟨v, q⟩ := I.cell x c (hcell x c e)
    exact q.lt
  refine ⟨⟨I.ok.mod, hkind, I.ok.glob, I.ok.blt, Nat.le_refl _, fun x y c e1 e2 => I.ok.inj x y c (hcell x c e1) (hcell y c e2), fun x hx => ?_, (fun x c e => by cases e), I.ok.hd, I.ok.frames, .inl rfl, fun b hb => ?_, fun b o e => I.bs b o e, Nat.le_trans I.ok.bsz I.sz, fun b o e hb => ?_, fun b hb z => ?_, I.stack, I.stkFree⟩,
    rfl, I.bare, Un.kept hk, ⟨m0, hn, fun i x v e1 e2 e3 => ?_⟩, fun x c e => ?_, hC, fun x c e => ?_, (fun p hp => nomatch hp), I.hok.kept hk, ?_⟩
  · have hx' : (relabel scope X.env).names.lookup x = some .cell ∨ (relabel scope X.env).names.lookup x = some .free := hx
    have : ∃ k', (x, k') ∈ scope.names ∧ k' = .free := by
      rcases hx' with h | h
      · obtain ⟨k', h1, h2⟩ := lookup_relabel h
        rcases h2 with h2 | h2
        · exact absurd h2 (hmem _ h1).1
        · exact ⟨k', h1, h2.1⟩
      · obtain ⟨k', h1, h2⟩ := lookup_relabel h
        rcases h2 with h2 | h2
        · exact ⟨k', h1, h2⟩
        · exact ⟨k', h1, h2.1⟩
    obtain ⟨k', h1, h2⟩ := this
    exact Option.isSome_iff_exists.mp ((hmem _ h1).2 h2)
  · obtain ⟨f0, f1, f2, f3, f4, f5⟩ := hf b hb
    exact ⟨Nat.ne_of_lt (hfs b hb), fun x c e => f4 x c (hcell x c e)⟩
  · obtain ⟨f0, f1, f2, f3, f4, f5⟩ := hf b hb
    rcases f3 with f3 | f3
    · exact I.ok.noex b o e f3
    · exact absurd (Nat.lt_of_lt_of_le (Heap.lt_size e) (Nat.le_trans I.ok.bsz f3)) (Nat.lt_irrefl _)
  · obtain ⟨f0, f1, f2, f3, f4, f5⟩ := hf b hb
    rcases List.mem_cons.mp (I.stkSub b z) with e | e
    · exact f1 e
    · exact f2 e
  · -- a captured name
    have e2' : (capt lk σ)[i]? = some (some v) := e2
    unfold capt at e2'
    rw [List.getElem?_map] at e2'
    cases hq : lk[i]? with
    | none => rw [hq] at e2'; cases e2'
    | some o =>
      rw [hq] at e2'
      have e2'' : (o.bind fun j => (σ[j]?).join) = some v := Option.some.inj e2'
      cases o with
      | none => cases e2''
      | some j =>
        obtain ⟨q1, q2, q3, q4⟩ := hlk.2 i j x e1 hq
        have hσ : σ[j]? = some (some v) := by
          have z : (σ[j]?).join = some v := e2''
          cases hh : σ[j]? with
          | none => rw [hh] at z; cases z
          | some o => rw [hh] at z; rw [show o = some v from z]
        obtain ⟨m, hnX, hl⟩ := I.loc
        obtain ⟨u, r, lo⟩ := hl j x v q1 hσ (q2.elim (fun a => .inr (.inl a)) (fun a => .inr (.inr a)))
        refine ⟨u, r, .inr ?_⟩
        obtain ⟨c, hc⟩ := Option.isSome_iff_exists.mp q3
        refine ⟨q4, c, hc, ?_⟩
        have hcX := hcell x c hc
        rcases lo with ⟨k, _⟩ | ⟨_, c', hc', z⟩
        · have k' : X.env.scope.names.lookup x = some .local := k
          rw [k'] at q2
          rcases q2 with q2 | q2 <;> cases q2
        · rw [hcX] at hc'
          cases hc'
          obtain ⟨o, ho, hd⟩ := z
          exact ⟨o, hk c o ho, hd⟩
  · obtain ⟨v, o, ho, hd⟩ := I.cell x c (hcell x c e)
    exact ⟨v, o, hk c o ho, hd⟩
  · exact I.freeC x c (hcell x c e)
  · show (capt lk σ).length = N'.length
    unfold capt
    rw [List.length_map]
    exact hlk.1

/-- the tests of a block -/
def PTs (X : Cx) (ifs : List Expr) (t : TT) : Prop :=
  ∀ (pins : List (Addr × Obj)) (s : Shared) (σ : St) (H : Hp) (Q : Bool → Hp → Prop), Inv X pins σ H s → t σ H Q → wpAny (model X.prog X.w) X.A (forIn ifs true fun c r => if r = true then do let ok ← isTrue c X.env (eval c X.env); pure (ForInStep.yield ok) else pure (ForInStep.yield r)) (TP X pins σ Q) X.xe s
/-- no test -/
def tTrue : TT := fun _ H Q => Q true H
theorem pts_nil : PTs X [] tTrue := fun pins s σ H Q I h => wpAny_tests_nil ⟨H, I, h⟩
theorem pts_one {c : Expr} {t : TT} (h : PT X c t) : PTs X [c] t := fun pins s σ H Q I q => wpAny_tests_one (h pins s σ H Q I q)

/-- the reading of [elt for tg in iter if ..] -/
def tComp (wi : TI) (lk : List (Option Nat)) (g : TG) (tt : TT) (te : TE) : TE := fun σ H Q => wi σ H fun J H1 => ∀ D, H1 D = none → ∃ W : Nat → Nat → List V → St → Hp → Prop, (∃ m, W 0 m [] (capt lk σ) (upd H1 D (.lst []))) ∧ ∀ i m xs σ' H', W i m xs σ' H' →
  H' D = some (.lst xs) ∧ ((J.stop i H' ∧ Q (.ref D) H') ∨ (J.go i H' ∧ xs.length < sizeLine ∧ ∀ x H'', J.yld i H' x H'' → g x σ' H'' fun σ2 H2 => tt σ2 H2 fun b H3 =>
    if b = true then te σ2 H3 fun v H4 => H4 D = some (.lst xs) ∧ ∃ m', m' < m ∧ W (i + 1) m' (xs ++ [v]) σ2 (upd H4 D (.lst (xs ++ [v]))) else ∃ m', m' < m ∧ W (i + 1) m' xs σ2 H3))

theorem pe_comp {elt iter tg : Expr} {ifs : List Expr} {scope : Scope} {pos : Pos} {cl : List (Str × Addr)} {N' : List Str} {lk : List (Option Nat)} {wi : TI} {g : TG} {tt : TT} {te : TE} (hc : X.calm = true) (hi : PI X tg iter wi) (hclos : closureFor scope X.env = pure cl) (hkind : scope.kind = .function)
    (hnames : ∀ y ∈ scope.names, y.2 = .local → scope.names.lookup y.1 = some .local) (hcl : ClOk X.env cl) (hfr : FrOk scope.names cl = true) (hlk : LkOk X N' lk scope cl)
    (hg : ∀ s3 H3 fp, PG (compCx X scope cl N' s3 H3 fp fun _ _ => False) tg g) (ht : ∀ s3 H3 fp, PTs (compCx X scope cl N' s3 H3 fp fun _ _ => False) ifs tt) (he : ∀ s3 H3 fp, PE (compCx X scope cl N' s3 H3 fp fun _ _ => False) elt te)
    (hs : ∀ x, foldedSetIterable iter X.env x = pure x := by intro _; rfl) : PE X (.ListComp elt [⟨tg, iter, ifs, 0⟩] scope pos) (tComp wi lk g tt te) := by
  intro pins s σ H Q I h
  rw [eval_ListComp]
  have hcellN : ∀ y ∈ scope.names, y.2 ≠ .cell := fun y hy => by
    unfold FrOk at hfr
    rw [List.all_eq_true] at hfr
    have := hfr y hy
    rw [Bool.and_eq_true] at this
    simpa using this.1
  refine wpAny_comprehension_free (use := none) rfl hs hclos hkind hnames (thn (hi pins s σ H _ I h) fun v s1 h1 => thn h1 fun itv s2 h2 => ?_)
  obtain ⟨it, fp, tn, J, H2, e, I2, T, st2, f2, q⟩ := h2
  subst e
  refine wpAny_newList ?_ (Nat.zero_le _)
  have hD : H2 s2.heap.objs.size = none := I2.hok.fresh (Nat.le_refl _)
  have I3 := I2.lnew (ys := []) (its := []) (t' := s2.toks) .nil (Nat.zero_le _)
  obtain ⟨W, ⟨m0, w0⟩, turn⟩ := q s2.heap.objs.size hD
  have fpl : ∀ b ∈ fp, b < s2.heap.objs.size := fun b hb => by
    obtain ⟨o, ho, _⟩ := T.obj 0 s2.heap st2 b hb
    exact Heap.lt_size ho
  refine wpAny_newFunctionEnv hcellN (by intro y hy; cases hy) (fun h1 hns1 hsb1 => ?_) hkind
  dsimp only at hns1 hsb1 ⊢
  -- the state ahead of the frame, the block's context
  have e3 : s2.heap.push { cls := .type "list", dict := none, data := .seq ([] : List Value).toArray } = s2.heap.push { cls := .type "list", data := .seq ([] : List Value).toArray } := rfl
  generalize hh3 : s2.heap.push { cls := .type "list", dict := none, data := .seq ([] : List Value).toArray } = h3 at *
  have I3' : Inv X pins σ (upd H2 s2.heap.objs.size (.lst [])) { s2 with heap := h3, toks := s2.toks } := I3
  have size3 : h3.objs.size = s2.heap.objs.size + 1 := by rw [← hh3, Heap.size_push]
  have f3 : ∀ b ∈ fp, FpOk X pins (upd H2 s2.heap.objs.size (.lst [])) b := fun b hb => by
    obtain ⟨f0, fr⟩ := f2 b hb
    exact ⟨by rw [upd_ne (Nat.ne_of_lt (fpl b hb))]; exact f0, fr⟩
  have up : ∀ b u, h3.get? b = some u → h1.get? b = some u := fun b u eb => by
    rw [hsb1.2 b (Nat.ne_of_lt (Heap.lt_size eb))]
    exact Heap.get?_push_of_some _ eb
  have I4 : Inv (compCx X scope cl N' { s2 with heap := h3, toks := s2.toks } (upd H2 s2.heap.objs.size (.lst [])) fp fun _ _ => False) [] (capt lk σ) (upd H2 s2.heap.objs.size (.lst [])) { s2 with heap := h1, toks := s2.toks + ([] : List (Str × Value)).length } :=
    comp_start (s3 := { s2 with heap := h3, toks := s2.toks }) I3' f3 hkind hcl hfr hlk hns1 up fun b hb => by show b < h3.objs.size; rw [size3]; exact Nat.lt_succ_of_lt (fpl b hb)
  have st4 : tn 0 h1 := T.keep 0 s2.heap h1 st2 fun b hb o eb => up b o (by rw [← hh3]; exact Heap.get?_push_of_some _ eb)
  have hCs : h3.objs.size = (compEnvC scope cl h3.objs.size X.env).locals := rfl
  -- what stays true of the iterator's objects
  have stat : ∀ {H' : Hp}, (∀ b ∈ fp, H' b = none) → ∀ b ∈ fp, FpOk (compCx X scope cl N' { s2 with heap := h3, toks := s2.toks } (upd H2 s2.heap.objs.size (.lst [])) fp fun _ _ => False) [] H' b := fun {H'} hn b hb => by
    obtain ⟨f0, f1, f2', f3', f4, f5⟩ := f3 b hb
    refine ⟨hn b hb, ?_, fun z => ?_, .inl hb, fun x c ex => f4 x c (hcl.get ex), fun p hp => nomatch hp⟩
    · show b ≠ h3.objs.size
      rw [size3]
      exact Nat.ne_of_lt (Nat.lt_succ_of_lt (fpl b hb))
    · rcases List.mem_cons.mp (I3'.stkSub b z) with q | q
      · exact f1 q
      · exact f2' q
  -- the block's end
  have fin : ∀ (s' : Shared) (σ' : St) (H' : Hp), Inv (compCx X scope cl N' { s2 with heap := h3, toks := s2.toks } (upd H2 s2.heap.objs.size (.lst [])) fp fun _ _ => False) [] σ' H' s' → Q (.ref s2.heap.objs.size) H' →
      compPost (model X.prog X.w) X.A X.xe none (EP X pins σ Q) (.ref s2.heap.objs.size) h3.objs.size (.ok .next) s' := fun s' σ' H' I' q' => by
    obtain ⟨m, hm, _⟩ := id I'.loc
    have I5 : Inv X pins σ H' s' := I3'.call' (ch := fp) I'.os I'.base I'.hok I'.bare fun b hb => by
      obtain ⟨f0, f1, f2', f3', f4, f5⟩ := f3 b hb
      exact ⟨f3', f1, f4, f5⟩
    refine ⟨m, hm, fun h' hsb => ?_⟩
    refine ⟨.ref s2.heap.objs.size, H', ?_, rfl, q'⟩
    have hfc : H' h3.objs.size = none := I'.free
    have hcl1 : ∀ b o, h3.get? b = some o → b ≠ h3.objs.size := fun b o eb => Nat.ne_of_lt (Heap.lt_size eb)
    obtain ⟨h0', g0, d0, t0, o0⟩ := s'
    refine I5.turned (t' := t0) (it := h3.objs.size) (fun b o hb eb => (hsb.2 b hb).trans eb) hfc ?_ (.inr I3'.sz) (fun x c ex z => ?_) (fun p hp z => ?_)
    · exact Nat.ne_of_gt I3'.lt
    · obtain ⟨v', q2⟩ := I3'.cell x c ex
      exact absurd q2.lt (by rw [z]; exact Nat.lt_irrefl _)
    · exact absurd (Heap.lt_size (I3'.pin p hp).1) (by rw [z]; exact Nat.lt_irrefl _)
  have loop : ∀ s5 : Shared, s5 = { s2 with heap := h1, toks := s2.toks + ([] : List (Str × Value)).length } →
      codeAny (model X.prog X.w) X.A (.compLoop (.ListComp elt [⟨tg, iter, ifs, 0⟩] scope pos) 0 (.ref it) (.ref s2.heap.objs.size) (compEnvC scope cl h3.objs.size X.env)) (compPost (model X.prog X.w) X.A X.xe none (EP X pins σ Q) (.ref s2.heap.objs.size) h3.objs.size) s5 := by
    rintro s5 rfl
    refine codeAny_loop rfl (fun n s' => ∃ i xs σ' H', Inv (compCx X scope cl N' { s2 with heap := h3, toks := s2.toks } (upd H2 s2.heap.objs.size (.lst [])) fp fun _ _ => False) [] σ' H' s' ∧ tn i s'.heap ∧ (∀ b ∈ fp, H' b = none) ∧ W i n xs σ' H')
      (fun n s6 hI => ?_) m0 ⟨0, [], capt lk σ, _, I4, st4, fun b hb => (f3 b hb).1, w0⟩
    obtain ⟨i, xs, σ6, H6, I6, st6, fr6, w6⟩ := hI
    show wpAny _ X.A ((compTurn (.ListComp elt [⟨tg, iter, ifs, 0⟩] scope pos) 0 (.ref it) (.ref s2.heap.objs.size) (compEnvC scope cl h3.objs.size X.env)).onRaise (fun x => do noteFrame x (compEnvC scope cl h3.objs.size X.env); theTreesLotGoes x)) _ _ s6
    refine wpAny_noted ?_
    rw [compTurn_list]
    refine wpAny_bind (wpAny_standAt (wpAny_bind ?_))
    obtain ⟨hD6, hw⟩ := turn i n xs σ6 H6 w6
    rcases hw with ⟨stop, qn⟩ | ⟨go, hlen, step⟩
    · refine thn (T.done (compCx X scope cl N' { s2 with heap := h3, toks := s2.toks } (upd H2 s2.heap.objs.size (.lst [])) fp fun _ _ => False) rfl rfl rfl hc i [] s6 σ6 H6 _ I6 (stat fr6) st6 stop) fun r s7 ⟨hr, I7⟩ => ?_
      subst hr
      exact wpAny_pure (fin s7 σ6 H6 I7 qn)
    · refine thn (T.item (compCx X scope cl N' { s2 with heap := h3, toks := s2.toks } (upd H2 s2.heap.objs.size (.lst [])) fp fun _ _ => False) rfl rfl rfl hc i [] s6 σ6 H6 _ I6 (stat fr6) st6 go) fun r s7 ⟨u, hr, h7⟩ => ?_
      subst hr
      refine wpAny_bind (thn h7 fun _ s8 ⟨x, H8, I8, r8, y8, st8, fr8⟩ => ?_)
      have I8' := I8.pinned (stat fr8) (T.obj _ _ st8)
      refine wpAny_bind (wpAny_mono (hg _ _ _ _ s8 σ6 H8 x u _ I8' r8 (step x H8 y8)) (fun _ s9 ⟨σ9, H9, I9, q9⟩ => ?_) (fun _ _ z => False.elim z))
      refine wpAny_bind (wpAny_mono (ht _ _ _ _ s9 σ9 H9 _ I9 q9) (fun ok s10 ⟨H10, I10, q10⟩ => ?_) (fun _ _ z => False.elim z))
      have again : ∀ {σ' : St} {H' : Hp} {ys : List V} {s' : Shared}, Inv (compCx X scope cl N' { s2 with heap := h3, toks := s2.toks } (upd H2 s2.heap.objs.size (.lst [])) fp fun _ _ => False) ([] ++ pinsAt fp s8.heap) σ' H' s' → (∃ m', m' < n ∧ W (i + 1) m' ys σ' H') →
          ∃ m', m' < n ∧ ∃ i xs σ' H', Inv (compCx X scope cl N' { s2 with heap := h3, toks := s2.toks } (upd H2 s2.heap.objs.size (.lst [])) fp fun _ _ => False) [] σ' H' s' ∧ tn i s'.heap ∧ (∀ b ∈ fp, H' b = none) ∧ W i m' xs σ' H' := fun {σ' H' ys s'} I' ⟨m', hm, w'⟩ => by
        refine ⟨m', hm, i + 1, ys, σ', H', I'.unpinned, T.keep _ _ _ st8 fun b hb o eb => (I'.pin (b, o) (List.mem_append_right _ (List.mem_append_right _ (mem_pinsAt hb eb)))).1, fun b hb => ?_, w'⟩
        obtain ⟨o, eb, _⟩ := T.obj _ _ st8 b hb
        exact (I'.pin (b, o) (List.mem_append_right _ (List.mem_append_right _ (mem_pinsAt hb eb)))).2.1
      cases ok with
      | false =>
        have q10' : ∃ m', m' < n ∧ W (i + 1) m' xs σ9 H10 := by simpa using q10
        exact wpAny_pure ⟨rfl, again I10 q10'⟩
      | true =>
        rw [if_pos rfl] at q10
        refine wpAny_bind (wpAny_bind (wpAny_mono (he _ _ _ _ s10 σ9 H10 _ I10 q10) (fun y s11 ⟨v11, H11, I11, r11, hD11, q11⟩ => ?_) (fun _ _ z => False.elim z)))
        refine wpAny_bind (wpAny_mono (mt_append (X := compCx X scope cl N' { s2 with heap := h3, toks := s2.toks } (upd H2 s2.heap.objs.size (.lst [])) fp fun _ _ => False) _ s11 σ9 H11 (.ref s2.heap.objs.size) [v11] (.ref s2.heap.objs.size) [y] (fun _ H' => ∃ m', m' < n ∧ W (i + 1) m' (xs ++ [v11]) σ9 H') I11 rfl (.cons r11 .nil) ⟨s2.heap.objs.size, xs, v11, rfl, rfl, hD11, hlen, q11⟩) (fun _ s12 ⟨_, H12, I12, _, q12⟩ => ?_) (fun _ _ z => False.elim z))
        exact wpAny_pure (wpAny_pure ⟨rfl, again I12 q12⟩)
  exact codeAny_compStart_list (loop _ rfl) (T.self X.A 0 _ _ _ st4 (loop _ rfl))
end
end L2

namespace L2
open PySem PySem.Spec PyProof.Rows
set_option autoImplicit false
set_option linter.all false

section
variable {X : Cx}
end
/-! ### comprehensions over a list or tuple that stays -/
theorem comp_list {K : PySem.W.Frag} {a D : Addr} {ys : List V} {g : TG} {tt : TT} {te : TE} {Qd : Hp → Prop} {σ0 : St} {H0 : Hp} (Pv : Nat → List V → St → Hp → Prop) (h0 : Pv 0 [] σ0 H0) (hz : ys.length ≤ sizeLine) (hl : ∀ i xs σ H, i ≤ ys.length → Pv i xs σ H → SqL K H a ys ∧ H D = some (.lst xs) ∧ xs.length ≤ i)
    (hs : ∀ i xs x σ H (N : List V → St → Hp → Prop), (∀ xs' σ' H', Pv (i + 1) xs' σ' H' → N xs' σ' H') → ys[i]? = some x → Pv i xs σ H → g x σ H fun σ2 H2 => tt σ2 H2 fun b H3 => if b = true then te σ2 H3 fun v H4 => H4 D = some (.lst xs) ∧ N (xs ++ [v]) σ2 (upd H4 D (.lst (xs ++ [v]))) else N xs σ2 H3)
    (hd : ∀ xs σ H, Pv ys.length xs σ H → Qd H) :
    ∃ W : Nat → Nat → List V → St → Hp → Prop, (∃ m, W 0 m [] σ0 H0) ∧ ∀ i m xs σ' H', W i m xs σ' H' → H' D = some (.lst xs) ∧ (((Itl K a).stop i H' ∧ Qd H') ∨ ((Itl K a).go i H' ∧ xs.length < sizeLine ∧ ∀ x H'', (Itl K a).yld i H' x H'' → g x σ' H'' fun σ2 H2 => tt σ2 H2 fun b H3 =>
      if b = true then te σ2 H3 fun v H4 => H4 D = some (.lst xs) ∧ ∃ m', m' < m ∧ W (i + 1) m' (xs ++ [v]) σ2 (upd H4 D (.lst (xs ++ [v]))) else ∃ m', m' < m ∧ W (i + 1) m' xs σ2 H3)) := by
  refine ⟨fun i m xs σ H => m = ys.length - i ∧ i ≤ ys.length ∧ Pv i xs σ H, ⟨ys.length, by simp, Nat.zero_le _, h0⟩, ?_⟩
  rintro i m xs σ H ⟨rfl, hi, p⟩
  obtain ⟨q, hD, hx⟩ := hl i xs σ H hi p
  refine ⟨hD, ?_⟩
  by_cases hlt : i < ys.length
  · refine .inr ⟨⟨ys, ys[i], q, by simp [hlt]⟩, by omega, fun x H'' y => ?_⟩
    obtain ⟨e, y⟩ := y
    subst e
    exact hs i xs x σ _ (fun zs σ' H' => ∃ m', m' < ys.length - i ∧ m' = ys.length - (i + 1) ∧ i + 1 ≤ ys.length ∧ Pv (i + 1) zs σ' H') (fun zs σ' H' r => ⟨_, by omega, rfl, hlt, r⟩) (y ys q) p
  · have e : i = ys.length := by omega
    subst e
    exact .inl ⟨⟨ys, q, Nat.le_refl _⟩, hd xs σ H p⟩
theorem comp_tup {K : PySem.W.Frag} {a D : Addr} {ys : List V} {g : TG} {tt : TT} {te : TE} {Qd : Hp → Prop} {σ0 : St} {H0 : Hp} (Pv : Nat → List V → St → Hp → Prop) (h0 : Pv 0 [] σ0 H0) (hz : ys.length ≤ sizeLine) (hl : ∀ i xs σ H, i ≤ ys.length → Pv i xs σ H → SqT K H a ys ∧ H D = some (.lst xs) ∧ xs.length ≤ i)
    (hs : ∀ i xs x σ H (N : List V → St → Hp → Prop), (∀ xs' σ' H', Pv (i + 1) xs' σ' H' → N xs' σ' H') → ys[i]? = some x → Pv i xs σ H → g x σ H fun σ2 H2 => tt σ2 H2 fun b H3 => if b = true then te σ2 H3 fun v H4 => H4 D = some (.lst xs) ∧ N (xs ++ [v]) σ2 (upd H4 D (.lst (xs ++ [v]))) else N xs σ2 H3)
    (hd : ∀ xs σ H, Pv ys.length xs σ H → Qd H) :
    ∃ W : Nat → Nat → List V → St → Hp → Prop, (∃ m, W 0 m [] σ0 H0) ∧ ∀ i m xs σ' H', W i m xs σ' H' → H' D = some (.lst xs) ∧ (((Itt K a).stop i H' ∧ Qd H') ∨ ((Itt K a).go i H' ∧ xs.length < sizeLine ∧ ∀ x H'', (Itt K a).yld i H' x H'' → g x σ' H'' fun σ2 H2 => tt σ2 H2 fun b H3 =>
      if b = true then te σ2 H3 fun v H4 => H4 D = some (.lst xs) ∧ ∃ m', m' < m ∧ W (i + 1) m' (xs ++ [v]) σ2 (upd H4 D (.lst (xs ++ [v]))) else ∃ m', m' < m ∧ W (i + 1) m' xs σ2 H3)) := by
  refine ⟨fun i m xs σ H => m = ys.length - i ∧ i ≤ ys.length ∧ Pv i xs σ H, ⟨ys.length, by simp, Nat.zero_le _, h0⟩, ?_⟩
  rintro i m xs σ H ⟨rfl, hi, p⟩
  obtain ⟨q, hD, hx⟩ := hl i xs σ H hi p
  refine ⟨hD, ?_⟩
  by_cases hlt : i < ys.length
  · refine .inr ⟨⟨ys, ys[i], q, by simp [hlt]⟩, by omega, fun x H'' y => ?_⟩
    obtain ⟨e, y⟩ := y
    subst e
    exact hs i xs x σ _ (fun zs σ' H' => ∃ m', m' < ys.length - i ∧ m' = ys.length - (i + 1) ∧ i + 1 ≤ ys.length ∧ Pv (i + 1) zs σ' H') (fun zs σ' H' r => ⟨_, by omega, rfl, hlt, r⟩) (y ys q) p
  · have e : i = ys.length := by omega
    subst e
    exact .inl ⟨⟨ys, q, Nat.le_refl _⟩, hd xs σ H p⟩
end L2

namespace L2
open PySem PySem.Spec PyProof.Rows
set_option autoImplicit false
set_option linter.all false

/-! ### data: what a value is, down to its ints -/
mutual
def Dt (K : PySem.W.Frag) (H : Hp) : PyData → V → Prop
  | .none, v => v = .non
  | .bool b, v => v = .bl b
  | .int i, v => v = .int i
  | .str x, v => v = .str x
  | .list ds, v => ∃ a xs, v = .ref a ∧ SqL K H a xs ∧ DtAll K H ds xs
  | .tuple ds, v => ∃ a xs, v = .ref a ∧ SqT K H a xs ∧ DtAll K H ds xs
  | .dict _, _ => False
def DtAll (K : PySem.W.Frag) (H : Hp) : List PyData → List V → Prop
  | [], xs => xs = []
  | d :: ds, xs => ∃ y ys, xs = y :: ys ∧ Dt K H d y ∧ DtAll K H ds ys
end
section
variable {X : Cx} {pins : List (Addr × Obj)} {σ : St} {H : Hp} {s : Shared}
mutual
theorem Dt.reads (I : Inv X pins σ H s) : ∀ (d : PyData) (v : V) (u : Value), Dt X.K H d v → RelV v u → ∃ as, Reads s.heap u d as
  | .none, v, u, h, r => by unfold Dt at h; subst h; cases r; exact ⟨_, .none⟩
  | .bool b, v, u, h, r => by unfold Dt at h; subst h; cases r; exact ⟨_, .bool b⟩
  | .int i, v, u, h, r => by unfold Dt at h; subst h; obtain ⟨t, rfl⟩ := r; exact ⟨_, .int i t⟩
  | .str x, v, u, h, r => by unfold Dt at h; subst h; obtain ⟨t, rfl⟩ := r; exact ⟨_, .str x t⟩
  | .list ds, v, u, h, r => by
    unfold Dt at h
    obtain ⟨a, xs, rfl, hq, hd⟩ := h
    cases r
    obtain ⟨its, rv, ⟨o, n, ho, hc, _, hdd⟩, _⟩ := I.list hq
    obtain ⟨as, ra⟩ := DtAll.reads I ds xs its hd rv
    exact ⟨_, .list ho hc hdd (by simpa using ra)⟩
  | .tuple ds, v, u, h, r => by
    unfold Dt at h
    obtain ⟨a, xs, rfl, hq, hd⟩ := h
    cases r
    obtain ⟨its, rv, ⟨o, ho, hc, n, hdd⟩, _⟩ := I.tuple hq
    obtain ⟨as, ra⟩ := DtAll.reads I ds xs its hd rv
    exact ⟨_, .tuple ho hc hdd (by simpa using ra)⟩
  | .dict _, v, u, h, r => by unfold Dt at h; exact h.elim
theorem DtAll.reads (I : Inv X pins σ H s) : ∀ (ds : List PyData) (xs : List V) (us : List Value), DtAll X.K H ds xs → Vals xs us → ∃ as, ReadsAll s.heap us ds as
  | [], xs, us, h, r => by unfold DtAll at h; subst h; cases r; exact ⟨_, .nil⟩
  | d :: ds, xs, us, h, r => by
    unfold DtAll at h
    obtain ⟨y, ys, rfl, h1, h2⟩ := h
    cases r with
    | cons q t =>
      obtain ⟨as, ra⟩ := Dt.reads I d y _ h1 q
      obtain ⟨bs, rb⟩ := DtAll.reads I ds ys _ h2 t
      exact ⟨_, .cons ra rb⟩
end
end
mutual
theorem Dt.same {K : PySem.W.Frag} {H H' : Hp} (hs : ∀ b o, H b = some o → H' b = some o) : ∀ (d : PyData) (v : V), Dt K H d v → Dt K H' d v
  | .none, v, h => by unfold Dt at h ⊢; exact h
  | .bool b, v, h => by unfold Dt at h ⊢; exact h
  | .int i, v, h => by unfold Dt at h ⊢; exact h
  | .str x, v, h => by unfold Dt at h ⊢; exact h
  | .list ds, v, h => by
    unfold Dt at h ⊢
    obtain ⟨a, xs, rfl, hq, hd⟩ := h
    refine ⟨a, xs, rfl, ?_, DtAll.same hs ds xs hd⟩
    rcases hq with (h | ⟨o, h⟩) | h
    · exact .inl (.inl (hs _ _ h))
    · exact .inl (.inr ⟨o, hs _ _ h⟩)
    · exact .inr h
  | .tuple ds, v, h => by
    unfold Dt at h ⊢
    obtain ⟨a, xs, rfl, hq, hd⟩ := h
    refine ⟨a, xs, rfl, ?_, DtAll.same hs ds xs hd⟩
    rcases hq with (h | ⟨o, h⟩) | h
    · exact .inl (.inl (hs _ _ h))
    · exact .inl (.inr ⟨o, hs _ _ h⟩)
    · exact .inr h
  | .dict _, v, h => by unfold Dt at h; exact h.elim
theorem DtAll.same {K : PySem.W.Frag} {H H' : Hp} (hs : ∀ b o, H b = some o → H' b = some o) : ∀ (ds : List PyData) (xs : List V), DtAll K H ds xs → DtAll K H' ds xs
  | [], xs, h => by unfold DtAll at h ⊢; exact h
  | d :: ds, xs, h => by
    unfold DtAll at h ⊢
    obtain ⟨y, ys, rfl, h1, h2⟩ := h
    exact ⟨y, ys, rfl, Dt.same hs d y h1, DtAll.same hs ds ys h2⟩
end
/-- a tuple of ints, a list of such -/
def dP (k : List Int) : PyData := .tuple (k.map .int)
theorem DtAll.ints {K : PySem.W.Frag} {H : Hp} : ∀ (k : List Int), DtAll K H (k.map PyData.int) (k.map V.int)
  | [] => by unfold DtAll; rfl
  | i :: k => by
    rw [List.map_cons, List.map_cons]
    unfold DtAll
    exact ⟨_, _, rfl, by unfold Dt; rfl, DtAll.ints k⟩
theorem DtAll.tups {K : PySem.W.Frag} {H : Hp} : ∀ {ys : List V} {ks : List (List Int)}, Tups K H ys ks → DtAll K H (ks.map dP) ys
  | _, _, .nil => by unfold DtAll; rfl
  | _, _, .cons r t => by
    obtain ⟨a, rfl, h⟩ := r
    rw [List.map_cons]
    unfold DtAll
    refine ⟨_, _, rfl, ?_, DtAll.tups t⟩
    unfold dP Dt
    exact ⟨a, _, rfl, h, DtAll.ints _⟩
theorem lay_ints : ∀ k : List Int, PyData.canLayAll0 (k.map .int) = true
  | [] => by simp [PyData.canLayAll0]
  | i :: k => by rw [List.map_cons]; simp [PyData.canLayAll0, PyData.canLay0, lay_ints k]
theorem lay_pairs : ∀ ks : List (List Int), PyData.canLayAll0 (ks.map dP) = true
  | [] => by simp [PyData.canLayAll0]
  | k :: ks => by rw [List.map_cons]; simp [PyData.canLayAll0, PyData.canLay0, dP, lay_ints k, lay_pairs ks]
theorem eqv_ints : ∀ k k' : List Int, PyData.eqvAll (k.map .int) (k'.map .int) = decide (k = k')
  | [], [] => by simp [PyData.eqvAll]
  | [], _ :: _ => by simp [PyData.eqvAll]
  | _ :: _, [] => by simp [PyData.eqvAll]
  | i :: k, j :: k' => by
    rw [List.map_cons, List.map_cons]
    simp only [PyData.eqvAll, PyData.eqv, eqv_ints k k']
    by_cases h : i = j
    · subst h; simp
    · simp [h]
theorem dep_ints : ∀ k : List Int, PyData.depthAll (k.map .int) ≤ 1
  | [] => by simp [PyData.depthAll]
  | i :: k => by
    have := dep_ints k
    rw [List.map_cons]
    simp only [PyData.depthAll, PyData.depth]
    omega
section
variable {X : Cx}
/-- ==, != of data -/
def rEqD (K : PySem.W.Frag) (A : Around) (neg : Bool) : R2 := fun x y H Q => ∃ dx dy, Dt K H dx x ∧ Dt K H dy y ∧ dx.canLay0 = true ∧ dy.canLay0 = true ∧ A.units + min dx.depth dy.depth < cLine ∧ Q (.bl (if neg then !PyData.eqv dx dy else PyData.eqv dx dy)) H
theorem op_neD : OpR X (compareOp .NotEq) (rEqD X.K X.A true) := by
  intro pins s σ H x y v u Q I rx ry h
  obtain ⟨dx, dy, h1, h2, h3, h4, h5, q⟩ := h
  obtain ⟨as, ra⟩ := h1.reads I dx x v rx
  obtain ⟨bs, rb⟩ := h2.reads I dy y u ry
  exact SeqAt.compareNe_reads ra rb h3 h4 h5 ⟨.bl _, H, I, rfl, q⟩

/-- x in xs, x not in xs, by data -/
def rInD (K : PySem.W.Frag) (A : Around) (neg : Bool) : R2 := fun x y H Q => ∃ p xs dx ds, y = .ref p ∧ (SqL K H p xs ∨ SqT K H p xs) ∧ Dt K H dx x ∧ DtAll K H ds xs ∧ dx.canLay0 = true ∧ PyData.canLayAll0 ds = true ∧ A.units + 1 + dx.depth < cLine ∧
  Q (.bl (if neg then !ds.any (fun d => PyData.eqv d dx) else ds.any (fun d => PyData.eqv d dx))) H
open Classical in
noncomputable def eqTo (h : Heap) (dx : PyData) (v : Value) : Bool := if q : ∃ d as, d.canLay0 = true ∧ Reads h v d as then PyData.eqv (Classical.choose q) dx else false
theorem eqTo_eq {h : Heap} {dx d : PyData} {v : Value} {as : List Addr} (hl : d.canLay0 = true) (r : Reads h v d as) : eqTo h dx v = PyData.eqv d dx := by
  unfold eqTo
  have q : ∃ d as, d.canLay0 = true ∧ Reads h v d as := ⟨d, as, hl, r⟩
  rw [dif_pos q]
  obtain ⟨as', h1, h2⟩ := Classical.choose_spec q
  rw [SeqAt.Reads.unique _ _ _ _ _ h1 h2 r]
theorem any_of {h : Heap} {dx : PyData} : ∀ {ds : List PyData} {us : List Value} {as : List Addr}, PyData.canLayAll0 ds = true → ReadsAll h us ds as → us.any (eqTo h dx) = ds.any (fun d => PyData.eqv d dx)
  | _, _, _, _, .nil => rfl
  | d :: ds, u :: us, _, hl, .cons r t => by
    have hl' : d.canLay0 = true ∧ PyData.canLayAll0 ds = true := by simpa [PyData.canLayAll0] using hl
    rw [List.any_cons, List.any_cons, eqTo_eq hl'.1 r, any_of hl'.2 t]
theorem mem_reads {h : Heap} : ∀ {ds : List PyData} {us : List Value} {as : List Addr} {u : Value}, PyData.canLayAll0 ds = true → ReadsAll h us ds as → u ∈ us → ∃ d as, d.canLay0 = true ∧ Reads h u d as
  | _, _, _, _, _, .nil, hu => by cases hu
  | d :: ds, _ :: us, _, u, hl, .cons r t, hu => by
    have hl' : d.canLay0 = true ∧ PyData.canLayAll0 ds = true := by simpa [PyData.canLayAll0] using hl
    rcases List.mem_cons.mp hu with rfl | hu
    · exact ⟨d, _, hl'.1, r⟩
    · exact mem_reads hl'.2 t hu
theorem op_inD : OpR X (compareOp .In) (rInD X.K X.A false) := by
  intro pins s σ H x y v u Q I rx ry h
  obtain ⟨p, xs, dx, ds, rfl, hq, h1, h2, h3, h4, h5, q⟩ := h
  cases ry
  obtain ⟨bs, rb⟩ := h1.reads I dx x v rx
  have he : ∀ (its : List Value) (as : List Addr), ReadsAll s.heap its ds as → ∀ y, y ∈ its.toArray → SeqAt.EqAt X.A.in1 s y v (eqTo s.heap dx y) := fun its as ra y hy => by
    obtain ⟨d, cs, hl, rd⟩ := mem_reads h4 ra (by simpa using hy)
    rw [eqTo_eq hl rd]
    refine SeqAt.eqAt_reads d dx X.A.in1 s y v cs bs rd rb hl h3 ?_
    show X.A.units + 1 + min d.depth dx.depth < cLine
    omega
  rcases hq with hq | hq
  · obtain ⟨its, rv, pl, hz⟩ := I.list hq
    obtain ⟨as, ra⟩ := h2.reads I ds xs its rv
    refine SeqAt.in_listAt (eqTo s.heap dx) pl.isList (he its as ra) ⟨.bl _, H, I, rfl, ?_⟩
    rw [List.any_toArray, any_of h4 ra]
    exact q
  · obtain ⟨its, rv, pl, hz⟩ := I.tuple hq
    obtain ⟨as, ra⟩ := h2.reads I ds xs its rv
    refine SeqAt.in_tupleAt (eqTo s.heap dx) pl (he its as ra) ⟨.bl _, H, I, rfl, ?_⟩
    rw [List.any_toArray, any_of h4 ra]
    exact q
theorem op_notInD : OpR X (compareOp .NotIn) (rInD X.K X.A true) := by
  intro pins s σ H x y v u Q I rx ry h
  obtain ⟨p, xs, dx, ds, rfl, hq, h1, h2, h3, h4, h5, q⟩ := h
  cases ry
  obtain ⟨bs, rb⟩ := h1.reads I dx x v rx
  have he : ∀ (its : List Value) (as : List Addr), ReadsAll s.heap its ds as → ∀ y, y ∈ its.toArray → SeqAt.EqAt X.A.in1 s y v (eqTo s.heap dx y) := fun its as ra y hy => by
    obtain ⟨d, cs, hl, rd⟩ := mem_reads h4 ra (by simpa using hy)
    rw [eqTo_eq hl rd]
    refine SeqAt.eqAt_reads d dx X.A.in1 s y v cs bs rd rb hl h3 ?_
    show X.A.units + 1 + min d.depth dx.depth < cLine
    omega
  rcases hq with hq | hq
  · obtain ⟨its, rv, pl, hz⟩ := I.list hq
    obtain ⟨as, ra⟩ := h2.reads I ds xs its rv
    refine SeqAt.notIn_listAt (eqTo s.heap dx) pl.isList (he its as ra) ⟨.bl _, H, I, rfl, ?_⟩
    rw [List.any_toArray, any_of h4 ra]
    exact q
  · obtain ⟨its, rv, pl, hz⟩ := I.tuple hq
    obtain ⟨as, ra⟩ := h2.reads I ds xs its rv
    refine SeqAt.notIn_tupleAt (eqTo s.heap dx) pl (he its as ra) ⟨.bl _, H, I, rfl, ?_⟩
    rw [List.any_toArray, any_of h4 ra]
    exact q

/-- isinstance(x, a built-in type) -/
theorem call_isinst : CallR X (.builtin "isinstance") (fun xs H Q => ∃ x c t b, xs = [x, .ty c] ∧ TyOf X.K H x t ∧ PySem.W.kitOne X.K t (.type c) = some b ∧ Q (.bl b) H) := by
  intro pins s σ H xs us Q I r h
  obtain ⟨x, c, t, b, rfl, ty, e, q⟩ := h
  obtain ⟨u, v, rfl, ru, rv⟩ := r.two
  cases (show v = Value.type c from rv)
  exact isinst_ok I ru ty e fun tk => ⟨.bl b, H, I.tok _, rfl, q⟩
end
end L2

namespace L2
open PySem PySem.Spec PyProof.Rows
set_option autoImplicit false
set_option linter.all false
section
variable {X : Cx}
end
end L2

namespace L2
open PySem PySem.Spec PyProof.Rows
set_option autoImplicit false
set_option linter.all false
section
variable {X : Cx}
end
end L2
namespace L2
open PySem PySem.Spec PyProof.Rows
set_option autoImplicit false
set_option linter.all false
/-- the links of a block, name by name -/
def LkL (X : Cx) (scope : Scope) (cl : List (Str × Addr)) : List Str → List (Option Nat) → Prop
  | [], [] => True
  | _ :: N, none :: lk => LkL X scope cl N lk
  | x :: N, some j :: lk => (X.N[j]? = some x ∧ (X.env.scope.names.lookup x = some .cell ∨ X.env.scope.names.lookup x = some .free) ∧ (cl.lookup x).isSome = true ∧
    ((compEnvC scope cl 0 X.env).kindOf x = some .cell ∨ (compEnvC scope cl 0 X.env).kindOf x = some .free)) ∧ LkL X scope cl N lk
  | _, _ => False
theorem LkL.len {X : Cx} {scope : Scope} {cl : List (Str × Addr)} : ∀ {N : List Str} {lk : List (Option Nat)}, LkL X scope cl N lk → lk.length = N.length
  | [], [], _ => rfl
  | _ :: N, none :: lk, h => congrArg (· + 1) (LkL.len (N := N) (lk := lk) h)
  | _ :: N, some _ :: lk, h => congrArg (· + 1) (LkL.len (N := N) (lk := lk) h.2)
  | [], _ :: _, h => h.elim
  | _ :: _, [], h => h.elim
theorem LkL.get {X : Cx} {scope : Scope} {cl : List (Str × Addr)} : ∀ {N : List Str} {lk : List (Option Nat)}, LkL X scope cl N lk → ∀ (i j : Nat) (x : Str), N[i]? = some x → lk[i]? = some (some j) →
    X.N[j]? = some x ∧ (X.env.scope.names.lookup x = some .cell ∨ X.env.scope.names.lookup x = some .free) ∧ (cl.lookup x).isSome = true ∧ ((compEnvC scope cl 0 X.env).kindOf x = some .cell ∨ (compEnvC scope cl 0 X.env).kindOf x = some .free)
  | [], [], _, i, j, x, h1, _ => by simp at h1
  | _ :: N, none :: lk, h, 0, j, x, h1, h2 => by simp at h2
  | _ :: N, none :: lk, h, i + 1, j, x, h1, h2 => LkL.get (N := N) (lk := lk) h i j x (by simpa using h1) (by simpa using h2)
  | y :: N, some k :: lk, h, 0, j, x, h1, h2 => by
    simp at h1 h2
    subst h1 h2
    exact h.1
  | _ :: N, some _ :: lk, h, i + 1, j, x, h1, h2 => LkL.get (N := N) (lk := lk) h.2 i j x (by simpa using h1) (by simpa using h2)
  | [], _ :: _, h, _, _, _, _, _ => h.elim
  | _ :: _, [], h, _, _, _, _, _ => h.elim
theorem LkL.ok {X : Cx} {scope : Scope} {cl : List (Str × Addr)} {N : List Str} {lk : List (Option Nat)} (h : LkL X scope cl N lk) : LkOk X N lk scope cl := ⟨h.len, h.get⟩
theorem tTrue_if {σ : St} {H : Hp} {A B : Hp → Prop} (h : A H) : tTrue σ H (fun b H3 => if b = true then A H3 else B H3) := by
  show if true = true then A H else B H
  exact iteT h
theorem gName_to {i : Nat} {v : V} {σ : St} {H : Hp} {Q : St → Hp → Prop} (h : Q (σ.set i (some v)) H) : gName i v σ H Q := h
/-- tuples stand when a list is rewritten -/
theorem SqT.updL {K : PySem.W.Frag} {H : Hp} {a l : Addr} {xs : List V} {ys zs : List V} (h : SqT K H a ys) (hl : H l = some (.lst xs)) : SqT K (upd H l (.lst zs)) a ys := by
  rcases h with (h | ⟨o, h⟩) | h
  · exact .inl (.inl (by rw [upd_ne (ne_of h hl (by intro z; cases z))]; exact h))
  · exact .inl (.inr ⟨o, by rw [upd_ne (ne_of h hl (by intro z; cases z))]; exact h⟩)
  · exact .inr h
theorem Tups.updL {K : PySem.W.Frag} {H : Hp} {l : Addr} {xs zs : List V} (hl : H l = some (.lst xs)) : ∀ {ys : List V} {ks : List (List Int)}, Tups K H ys ks → Tups K (upd H l (.lst zs)) ys ks
  | _, _, .nil => .nil
  | _, _, .cons r t => by
    obtain ⟨a, h1, h2⟩ := r
    exact .cons ⟨a, h1, h2.updL hl⟩ (Tups.updL hl t)
theorem Tups.one {K : PySem.W.Frag} {H : Hp} {a : Addr} {k : List Int} (h : SqT K H a (k.map V.int)) : Tups K H [.ref a] [k] := .cons ⟨a, rfl, h⟩ .nil
theorem Same.seqT {K : PySem.W.Frag} {H H' : Hp} {a : Addr} {xs : List V} (e : Same H H') (h : SqT K H a xs) : SqT K H' a xs := by
  rcases h with (h | ⟨o, h⟩) | h
  · exact .inl (.inl (e _ _ h))
  · exact .inl (.inr ⟨o, e _ _ h⟩)
  · exact .inr h
theorem Same.tups {K : PySem.W.Frag} {H H' : Hp} {ys : List V} {ks : List (List Int)} (e : Same H H') (h : Tups K H ys ks) : Tups K H' ys ks := Tups.same e h
/-- a thing that was not there is rewritten -/
theorem Same.upd {H H' : Hp} {l : Addr} {o : HO} (e : Same H H') (h : H l = none) : Same H (upd H' l o) := fun b u q => by
  rw [upd_ne (ne_of_none q h)]
  exact e b u q
end L2
namespace L2
open PySem
theorem gName_eq {i : Nat} {v v' : V} {σ : St} {H : Hp} {Q : St → Hp → Prop} (e : v = v') (h : gName i v' σ H Q) : gName i v σ H Q := by
  rw [e]
  exact h
end L2
namespace L2
open PySem
set_option autoImplicit false
theorem call_isinstK {X : Cx} (K : PySem.W.Frag) (hK : X.K = K) : CallR X (.builtin "isinstance") (fun xs H Q => ∃ x c t b, xs = [x, .ty c] ∧ TyOf K H x t ∧ PySem.W.kitOne K t (.type c) = some b ∧ Q (.bl b) H) := by
  subst hK
  exact call_isinst
theorem un_lt1 {u d : Nat} (h : u + 64 < cLine) (hd : d ≤ 60) : u + 1 + d < cLine := by omega
theorem un_lt {u d : Nat} (h : u + 64 < cLine) (hd : d ≤ 64) : u + d < cLine := by omega
theorem Dt.mkL {K : PySem.W.Frag} {H : Hp} {a : Addr} {xs : List V} {ds : List PyData} (h : SqL K H a xs) (d : DtAll K H ds xs) : Dt K H (.list ds) (.ref a) := by unfold Dt; exact ⟨a, xs, rfl, h, d⟩
theorem Dt.mkT {K : PySem.W.Frag} {H : Hp} {a : Addr} {xs : List V} {ds : List PyData} (h : SqT K H a xs) (d : DtAll K H ds xs) : Dt K H (.tuple ds) (.ref a) := by unfold Dt; exact ⟨a, xs, rfl, h, d⟩
end L2
namespace L2
open PySem
set_option autoImplicit false
theorem gName_int {i : Nat} {z : Int} {σ : St} {H : Hp} {Q : St → Hp → Prop} (h : ∀ c : Int, c = z → gName i (.int c) σ H Q) : gName i (.int z) σ H Q := h z rfl
theorem int_at {ns : List Int} {i : Nat} {x : V} (h : (ns.map V.int)[i]? = some x) : ∃ z : Int, x = V.int z := by
  rw [List.getElem?_map] at h
  cases e : ns[i]? with
  | none => rw [e] at h; cases h
  | some z => rw [e] at h; exact ⟨z, (Option.some.inj h).symm⟩
theorem cutV_ints (ns : List Int) (lo hi : Option Int) : ∃ ms : List Int, cutV (ns.map V.int) lo hi = ms.map V.int ∧ ms.length ≤ ns.length := by
  unfold cutV
  rw [← List.map_drop, ← List.map_take]
  exact ⟨_, rfl, by rw [List.length_take, List.length_drop]; omega⟩
end L2
namespace L2
open PySem
set_option autoImplicit false
theorem ixN_nat {n j : Nat} (h : j < n) : ixN n (j : Int) = some j := by
  unfold ixN
  rw [if_pos (by omega), if_pos (by omega)]
  simp
theorem eqv_dP (a b : List Int) : PyData.eqv (dP a) (dP b) = decide (a = b) := by
  unfold dP
  simp only [PyData.eqv]
  exact eqv_ints a b
theorem any_dP (k : List Int) : ∀ ks : List (List Int), (ks.map dP).any (fun d => PyData.eqv d (dP k)) = decide (k ∈ ks)
  | [] => by simp
  | l :: ks => by
    rw [List.map_cons, List.any_cons, eqv_dP, any_dP k ks]
    by_cases h : l = k
    · subst h; simp
    · have h' : k ≠ l := fun e => h e.symm
      simp [h, h']
theorem lay_dP (k : List Int) : (dP k).canLay0 = true := by simp [dP, PyData.canLay0, lay_ints]
theorem dep_dP (k : List Int) : (dP k).depth ≤ 2 := by
  have := dep_ints k
  simp only [dP, PyData.depth]
  omega
theorem Dt.mkP {K : PySem.W.Frag} {H : Hp} {a : Addr} {k : List Int} (h : SqT K H a (k.map V.int)) : Dt K H (dP k) (.ref a) := by
  unfold dP
  exact Dt.mkT h (DtAll.ints k)
theorem Tups.dtAll {K : PySem.W.Frag} {H : Hp} {ys : List V} {ks : List (List Int)} (t : Tups K H ys ks) : DtAll K H (ks.map dP) ys := DtAll.tups t
end L2

namespace L2
open PySem
set_option autoImplicit false
set_option linter.all false
/-- the same by their own letters, for a block -/
def Room.around {k : Nat} {A : Around} (_ : Room k A) : Around := A
theorem op_neDK {X : Cx} (K : PySem.W.Frag) (A : Around) (hK : X.K = K) (hA : X.A = A) : OpR X (compareOp .NotEq) (rEqD K A true) := by subst hK hA; exact op_neD
end L2

namespace L2
open PySem PySem.Spec PyProof.Rows
set_option autoImplicit false
set_option linter.all false
section
variable {X : Cx} {o e : Expr} {es : List Expr} {to : TE} {t : TA} {name : Str} {apos cpos : Pos} {T id : String} {r : V → List V → Hp → VK → Prop}
/-- a method of a built-in type, by its own letter -/
theorem pe_bmK (K : PySem.W.Frag) (hK : X.K = K) {te : TE} (h : PE X e (tBM X.K T r to t)) : PE X e (tBM K T r to t) := by subst hK; exact h
end
end L2

namespace L2
open PySem PySem.Spec PyProof.Rows
set_option autoImplicit false
set_option linter.all false
section
variable {X : Cx}
/-- the block runs; what is wanted at its end, ahead of its frame's going -/
theorem comp_core {elt iter tg : Expr} {ifs : List Expr} {scope : Scope} {pos ipos : Pos} {cl : List (Str × Addr)} {N' : List Str} {lk : List (Option Nat)} {wi : TI} {g : TG} {tt : TT} {te : TE} {use : Option (Value → Sem Unit)} {R : Value → Shared → Prop} {Q : VK} {pins : List (Addr × Obj)} {s : Shared} {σ : St} {H : Hp}
    (hc : X.calm = true) (hi : PI X tg iter wi) (hclos : closureFor scope X.env = pure cl) (hkind : scope.kind = .function)
    (hnames : ∀ y ∈ scope.names, y.2 = .local → scope.names.lookup y.1 = some .local) (hcl : ClOk X.env cl) (hfr : FrOk scope.names cl = true) (hlk : LkOk X N' lk scope cl)
    (hg : ∀ s3 H3 fp, PG (compCx X scope cl N' s3 H3 fp fun _ _ => False) tg g) (ht : ∀ s3 H3 fp, PTs (compCx X scope cl N' s3 H3 fp fun _ _ => False) ifs tt) (he : ∀ s3 H3 fp, PE (compCx X scope cl N' s3 H3 fp fun _ _ => False) elt te)
    (hs : ∀ x, foldedSetIterable iter X.env x = pure x) (I : Inv X pins σ H s) (h : tComp wi lk g tt te σ H Q)
    (hend : ∀ (C D : Addr) (s' : Shared) (H' : Hp), Inv X pins σ H' s' → Q (.ref D) H' → H' C = none → C ≠ X.env.locals → X.s₀.heap.objs.size ≤ C → (∀ x c, X.env.cells.lookup x = some c → c ≠ C) → (∀ p ∈ X.pn ++ pins, p.1 ≠ C) → (∃ m, s'.heap.Ns C m) →
      compPost (model X.prog X.w) X.A X.xe use R (.ref D) C (.ok .next) s') :
    wpAny (model X.prog X.w) X.A (comprehension (.ListComp elt [⟨tg, iter, ifs, 0⟩] scope pos) scope X.env ipos (newList []) false (eval iter X.env) use) R X.xe s := by
  have hcellN : ∀ y ∈ scope.names, y.2 ≠ .cell := fun y hy => by
    unfold FrOk at hfr
    rw [List.all_eq_true] at hfr
    have := hfr y hy
    rw [Bool.and_eq_true] at this
    simpa using this.1
  refine wpAny_comprehension_free (use := use) rfl hs hclos hkind hnames (thn (hi pins s σ H _ I h) fun v s1 h1 => thn h1 fun itv s2 h2 => ?_)
  obtain ⟨it, fp, tn, J, H2, e, I2, T, st2, f2, q⟩ := h2
  subst e
  refine wpAny_newList ?_ (Nat.zero_le _)
  have hD : H2 s2.heap.objs.size = none := I2.hok.fresh (Nat.le_refl _)
  have I3 := I2.lnew (ys := []) (its := []) (t' := s2.toks) .nil (Nat.zero_le _)
  obtain ⟨W, ⟨m0, w0⟩, turn⟩ := q s2.heap.objs.size hD
  have fpl : ∀ b ∈ fp, b < s2.heap.objs.size := fun b hb => by
    obtain ⟨o, ho, _⟩ := T.obj 0 s2.heap st2 b hb
    exact Heap.lt_size ho
  refine wpAny_newFunctionEnv hcellN (by intro y hy; cases hy) (fun h1 hns1 hsb1 => ?_) hkind
  dsimp only at hns1 hsb1 ⊢
  -- the state ahead of the frame, the block's context
  have e3 : s2.heap.push { cls := .type "list", dict := none, data := .seq ([] : List Value).toArray } = s2.heap.push { cls := .type "list", data := .seq ([] : List Value).toArray } := rfl
  generalize hh3 : s2.heap.push { cls := .type "list", dict := none, data := .seq ([] : List Value).toArray } = h3 at *
  have I3' : Inv X pins σ (upd H2 s2.heap.objs.size (.lst [])) { s2 with heap := h3, toks := s2.toks } := I3
  have size3 : h3.objs.size = s2.heap.objs.size + 1 := by rw [← hh3, Heap.size_push]
  have f3 : ∀ b ∈ fp, FpOk X pins (upd H2 s2.heap.objs.size (.lst [])) b := fun b hb => by
    obtain ⟨f0, fr⟩ := f2 b hb
    exact ⟨by rw [upd_ne (Nat.ne_of_lt (fpl b hb))]; exact f0, fr⟩
  have up : ∀ b u, h3.get? b = some u → h1.get? b = some u := fun b u eb => by
    rw [hsb1.2 b (Nat.ne_of_lt (Heap.lt_size eb))]
    exact Heap.get?_push_of_some _ eb
  have I4 : Inv (compCx X scope cl N' { s2 with heap := h3, toks := s2.toks } (upd H2 s2.heap.objs.size (.lst [])) fp fun _ _ => False) [] (capt lk σ) (upd H2 s2.heap.objs.size (.lst [])) { s2 with heap := h1, toks := s2.toks + ([] : List (Str × Value)).length } :=
    comp_start (s3 := { s2 with heap := h3, toks := s2.toks }) I3' f3 hkind hcl hfr hlk hns1 up fun b hb => by show b < h3.objs.size; rw [size3]; exact Nat.lt_succ_of_lt (fpl b hb)
  have st4 : tn 0 h1 := T.keep 0 s2.heap h1 st2 fun b hb o eb => up b o (by rw [← hh3]; exact Heap.get?_push_of_some _ eb)
  have hCs : h3.objs.size = (compEnvC scope cl h3.objs.size X.env).locals := rfl
  -- what stays true of the iterator's objects
  have stat : ∀ {H' : Hp}, (∀ b ∈ fp, H' b = none) → ∀ b ∈ fp, FpOk (compCx X scope cl N' { s2 with heap := h3, toks := s2.toks } (upd H2 s2.heap.objs.size (.lst [])) fp fun _ _ => False) [] H' b := fun {H'} hn b hb => by
    obtain ⟨f0, f1, f2', f3', f4, f5⟩ := f3 b hb
    refine ⟨hn b hb, ?_, fun z => ?_, .inl hb, fun x c ex => f4 x c (hcl.get ex), fun p hp => nomatch hp⟩
    · show b ≠ h3.objs.size
      rw [size3]
      exact Nat.ne_of_lt (Nat.lt_succ_of_lt (fpl b hb))
    · rcases List.mem_cons.mp (I3'.stkSub b z) with q | q
      · exact f1 q
      · exact f2' q
  -- the block's end
  have fin : ∀ (s' : Shared) (σ' : St) (H' : Hp), Inv (compCx X scope cl N' { s2 with heap := h3, toks := s2.toks } (upd H2 s2.heap.objs.size (.lst [])) fp fun _ _ => False) [] σ' H' s' → Q (.ref s2.heap.objs.size) H' →
      compPost (model X.prog X.w) X.A X.xe use R (.ref s2.heap.objs.size) h3.objs.size (.ok .next) s' := fun s' σ' H' I' q' => by
    obtain ⟨m, hm, _⟩ := id I'.loc
    have I5 : Inv X pins σ H' s' := I3'.call' (ch := fp) I'.os I'.base I'.hok I'.bare fun b hb => by
      obtain ⟨f0, f1, f2', f3', f4, f5⟩ := f3 b hb
      exact ⟨f3', f1, f4, f5⟩
    exact hend h3.objs.size s2.heap.objs.size s' H' I5 q' I'.free (Nat.ne_of_gt I3'.lt) I3'.sz (fun x c ex z => by
      obtain ⟨v', q2⟩ := I3'.cell x c ex
      exact absurd q2.lt (by rw [z]; exact Nat.lt_irrefl _)) (fun p hp z => absurd (Heap.lt_size (I3'.pin p hp).1) (by rw [z]; exact Nat.lt_irrefl _)) ⟨m, hm⟩
  have loop : ∀ s5 : Shared, s5 = { s2 with heap := h1, toks := s2.toks + ([] : List (Str × Value)).length } →
      codeAny (model X.prog X.w) X.A (.compLoop (.ListComp elt [⟨tg, iter, ifs, 0⟩] scope pos) 0 (.ref it) (.ref s2.heap.objs.size) (compEnvC scope cl h3.objs.size X.env)) (compPost (model X.prog X.w) X.A X.xe use R (.ref s2.heap.objs.size) h3.objs.size) s5 := by
    rintro s5 rfl
    refine codeAny_loop rfl (fun n s' => ∃ i xs σ' H', Inv (compCx X scope cl N' { s2 with heap := h3, toks := s2.toks } (upd H2 s2.heap.objs.size (.lst [])) fp fun _ _ => False) [] σ' H' s' ∧ tn i s'.heap ∧ (∀ b ∈ fp, H' b = none) ∧ W i n xs σ' H')
      (fun n s6 hI => ?_) m0 ⟨0, [], capt lk σ, _, I4, st4, fun b hb => (f3 b hb).1, w0⟩
    obtain ⟨i, xs, σ6, H6, I6, st6, fr6, w6⟩ := hI
    show wpAny _ X.A ((compTurn (.ListComp elt [⟨tg, iter, ifs, 0⟩] scope pos) 0 (.ref it) (.ref s2.heap.objs.size) (compEnvC scope cl h3.objs.size X.env)).onRaise (fun x => do noteFrame x (compEnvC scope cl h3.objs.size X.env); theTreesLotGoes x)) _ _ s6
    refine wpAny_noted ?_
    rw [compTurn_list]
    refine wpAny_bind (wpAny_standAt (wpAny_bind ?_))
    obtain ⟨hD6, hw⟩ := turn i n xs σ6 H6 w6
    rcases hw with ⟨stop, qn⟩ | ⟨go, hlen, step⟩
    · refine thn (T.done (compCx X scope cl N' { s2 with heap := h3, toks := s2.toks } (upd H2 s2.heap.objs.size (.lst [])) fp fun _ _ => False) rfl rfl rfl hc i [] s6 σ6 H6 _ I6 (stat fr6) st6 stop) fun r s7 ⟨hr, I7⟩ => ?_
      subst hr
      exact wpAny_pure (fin s7 σ6 H6 I7 qn)
    · refine thn (T.item (compCx X scope cl N' { s2 with heap := h3, toks := s2.toks } (upd H2 s2.heap.objs.size (.lst [])) fp fun _ _ => False) rfl rfl rfl hc i [] s6 σ6 H6 _ I6 (stat fr6) st6 go) fun r s7 ⟨u, hr, h7⟩ => ?_
      subst hr
      refine wpAny_bind (thn h7 fun _ s8 ⟨x, H8, I8, r8, y8, st8, fr8⟩ => ?_)
      have I8' := I8.pinned (stat fr8) (T.obj _ _ st8)
      refine wpAny_bind (wpAny_mono (hg _ _ _ _ s8 σ6 H8 x u _ I8' r8 (step x H8 y8)) (fun _ s9 ⟨σ9, H9, I9, q9⟩ => ?_) (fun _ _ z => False.elim z))
      refine wpAny_bind (wpAny_mono (ht _ _ _ _ s9 σ9 H9 _ I9 q9) (fun ok s10 ⟨H10, I10, q10⟩ => ?_) (fun _ _ z => False.elim z))
      have again : ∀ {σ' : St} {H' : Hp} {ys : List V} {s' : Shared}, Inv (compCx X scope cl N' { s2 with heap := h3, toks := s2.toks } (upd H2 s2.heap.objs.size (.lst [])) fp fun _ _ => False) ([] ++ pinsAt fp s8.heap) σ' H' s' → (∃ m', m' < n ∧ W (i + 1) m' ys σ' H') →
          ∃ m', m' < n ∧ ∃ i xs σ' H', Inv (compCx X scope cl N' { s2 with heap := h3, toks := s2.toks } (upd H2 s2.heap.objs.size (.lst [])) fp fun _ _ => False) [] σ' H' s' ∧ tn i s'.heap ∧ (∀ b ∈ fp, H' b = none) ∧ W i m' xs σ' H' := fun {σ' H' ys s'} I' ⟨m', hm, w'⟩ => by
        refine ⟨m', hm, i + 1, ys, σ', H', I'.unpinned, T.keep _ _ _ st8 fun b hb o eb => (I'.pin (b, o) (List.mem_append_right _ (List.mem_append_right _ (mem_pinsAt hb eb)))).1, fun b hb => ?_, w'⟩
        obtain ⟨o, eb, _⟩ := T.obj _ _ st8 b hb
        exact (I'.pin (b, o) (List.mem_append_right _ (List.mem_append_right _ (mem_pinsAt hb eb)))).2.1
      cases ok with
      | false =>
        have q10' : ∃ m', m' < n ∧ W (i + 1) m' xs σ9 H10 := by simpa using q10
        exact wpAny_pure ⟨rfl, again I10 q10'⟩
      | true =>
        rw [if_pos rfl] at q10
        refine wpAny_bind (wpAny_bind (wpAny_mono (he _ _ _ _ s10 σ9 H10 _ I10 q10) (fun y s11 ⟨v11, H11, I11, r11, hD11, q11⟩ => ?_) (fun _ _ z => False.elim z)))
        refine wpAny_bind (wpAny_mono (mt_append (X := compCx X scope cl N' { s2 with heap := h3, toks := s2.toks } (upd H2 s2.heap.objs.size (.lst [])) fp fun _ _ => False) _ s11 σ9 H11 (.ref s2.heap.objs.size) [v11] (.ref s2.heap.objs.size) [y] (fun _ H' => ∃ m', m' < n ∧ W (i + 1) m' (xs ++ [v11]) σ9 H') I11 rfl (.cons r11 .nil) ⟨s2.heap.objs.size, xs, v11, rfl, rfl, hD11, hlen, q11⟩) (fun _ s12 ⟨_, H12, I12, _, q12⟩ => ?_) (fun _ _ z => False.elim z))
        exact wpAny_pure (wpAny_pure ⟨rfl, again I12 q12⟩)
  exact codeAny_compStart_list (loop _ rfl) (T.self X.A 0 _ _ _ st4 (loop _ rfl))
/-- x = [.. for ..], on one row -/
def tSetC (i : Nat) (t : TE) : TS := fun D σ H => t σ H fun v H1 => D.nx (σ.set i (some v)) H1
theorem ps_setC {i : Nat} {y : Str} {py : Pos} {elt iter tg : Expr} {ifs : List Expr} {scope : Scope} {pos spos : Pos} {cl : List (Str × Addr)} {N' : List Str} {lk : List (Option Nat)} {wi : TI} {g : TG} {tt : TT} {te : TE}
    (hN : X.N.Nodup) (hy : X.N[i]? = some y) (hyl : X.env.scope.names.lookup y = some .local)
    (hsw : swapsWith (.ListComp elt [⟨tg, iter, ifs, 0⟩] scope pos) (some (.Name y py)) spos.line X.env = pure true)
    (hc : X.calm = true) (hi : PI X tg iter wi) (hclos : closureFor scope X.env = pure cl) (hkind : scope.kind = .function)
    (hnames : ∀ y ∈ scope.names, y.2 = .local → scope.names.lookup y.1 = some .local) (hcl : ClOk X.env cl) (hfr : FrOk scope.names cl = true) (hlk : LkOk X N' lk scope cl)
    (hg : ∀ s3 H3 fp, PG (compCx X scope cl N' s3 H3 fp fun _ _ => False) tg g) (ht : ∀ s3 H3 fp, PTs (compCx X scope cl N' s3 H3 fp fun _ _ => False) ifs tt) (he : ∀ s3 H3 fp, PE (compCx X scope cl N' s3 H3 fp fun _ _ => False) elt te)
    (hs : ∀ x, foldedSetIterable iter X.env x = pure x := by intro _; rfl) : PS X (.Assign [.Name y py] (.ListComp elt [⟨tg, iter, ifs, 0⟩] scope pos) spos) (tSetC i (tComp wi lk g tt te)) := by
  intro pins s σ H D I h
  rw [exec_Assign_Name_used _ _ _ _ hsw]
  refine wpAny_bind (wpAny_standAt (wpAny_bind ?_))
  show wpAny _ X.A (do let _ ← comprehension (.ListComp elt [⟨tg, iter, ifs, 0⟩] scope pos) scope X.env _ (newList []) false (eval iter X.env) (some (assign (.Name y py) X.env))) _ _ s
  refine wpAny_bind (thn (comp_core (use := some (assign (.Name y py) X.env)) (R := fun _ s' => SP X pins D .next s') hc hi hclos hkind hnames hcl hfr hlk hg ht he hs I h
    fun C Dd s' H' I' q' hC hCL hCs hCc hCp ⟨m, hm⟩ => ?_) fun _ s' hq => wpAny_pure (wpAny_pure hq))
  show wpAny _ X.A (assign (.Name y py) X.env (.ref Dd)) _ _ s'
  refine wpAny_assign_Name (store_ok2 (v := .ref Dd) I' hN hy (.inl hyl) rfl (fun s2 I2 ⟨a, hsb, ha⟩ => ?_) (.inr hyl))
  have hCa : C ≠ a := by
    rcases ha with z | z
    · rw [z]; exact hCL
    · exact (hCc y a z).symm
  refine ⟨m, hm.sameBut hsb hCa, fun h' hs' => ?_⟩
  obtain ⟨h0, g0, d0, t0, o0⟩ := s2
  exact ⟨_, H', I2.turned (t' := t0) (it := C) (fun b o hb eb => (hs'.2 b hb).trans eb) hC hCL (.inr hCs) hCc hCp, q'⟩
end
end L2

namespace L2
open PySem PySem.Spec PyProof.Rows
set_option autoImplicit false
set_option linter.all false

/-! ### exceptions of own classes -/
theorem ObjOk.there {P : Program} {w : World} {H : Hp} {h : Heap} {a : Addr} {o : HO} (x : ObjOk P w H h a o) : ∃ ob, h.get? a = some ob := by
  cases o with
  | lst xs => obtain ⟨_, _, _, _, e⟩ := x; exact ⟨_, e⟩
  | tup xs => obtain ⟨_, _, _, ob, e, _⟩ := x; exact ⟨_, e⟩
  | dK kvs => obtain ⟨_, _, _, _, o, _, _, e, _⟩ := x; exact ⟨_, e⟩
  | dT kvs => obtain ⟨_, _, _, _, o, _, _, e, _⟩ := x; exact ⟨_, e⟩
  | set S n => obtain ⟨o, _, _, _, e, _⟩ := x; exact ⟨_, e⟩
  | ins C dx fs => obtain ⟨_, _, _, e, _⟩ := x; exact ⟨_, e⟩
  | own y => obtain ⟨ob, e⟩ := x; exact ⟨ob, e⟩
  | xd fs => obtain ⟨_, ⟨_, _, _, e, _⟩, _⟩ := x; exact ⟨_, e⟩
  | rng lo hi => obtain ⟨_, _, _, e⟩ := x; exact ⟨_, e⟩
  | frz ob u => obtain ⟨e, _⟩ := x; exact ⟨_, e⟩
  | tbl ps => exact ⟨_, (show h.get? a = some _ from x)⟩
  | met f y => exact ⟨_, (show h.get? a = some _ from x)⟩
  | ext φ => obtain ⟨_, ⟨ob, e⟩, _⟩ := x; exact ⟨ob, e⟩
/-- the tracked things stay: the abstract heap is held -/
theorem HOk.stays {P : Program} {w : World} {H : Hp} {h h' : Heap} (ok : HOk P w H h) (k : ∀ b o, h.get? b = some o → H b ≠ none → h'.get? b = some o) : HOk P w H h' := fun a o e =>
  (ok a o e).stay (fun b u hb q => k b u q (by
    rcases hb with z | z
    · rw [z, e]; simp
    · rw [z]; simp)) (fun _ q => q) fun _ _ q => q

/-- the exception x of the class cls flies through the frames of outer; B: what stays, all of h0 and all that is tracked but the frames -/
def Flies (outer : List Env) (x : Addr) (cls : Value) (h0 : Heap) (H' : Hp) (h' : Heap) : Prop :=
  ∃ (B : Heap) (a0 : Value), Heap.FlyingW B outer x cls a0 h' ∧ ∀ b o, h'.get? b = some o → (H' b ≠ none ∨ h0.get? b ≠ none) → b ∉ frs outer → B.get? b = some o
/-- how an exception lies behind a call -/
def CXE (P : Program) (w : World) : CXT := fun outer H s E e s' =>
  ∃ (x : Addr) (cls : Value) (H' : Hp), e = .ref x ∧ s'.os = s.os ∧ AllBare s'.gens ∧ Un (frs outer) [] H H' s.heap s'.heap ∧ HOk P w H' s'.heap ∧ s.heap.get? x = none ∧ H' x = none ∧ Flies outer x cls s.heap H' s'.heap ∧ E cls none H'

/-- the heap goes on: what was there or is tracked stays, frames change in their slots -/
theorem Un.onto {fs : List Addr} {H H' : Hp} {h h' h'' : Heap} (u : Un fs [] H H' h h') (stay : ∀ b o, h'.get? b = some o → h.get? b ≠ none → b ∉ fs → h''.get? b = some o)
    (slots : ∀ b o, h'.get? b = some o → h.get? b ≠ none → b ∈ fs → ∃ sl, h''.get? b = some { o with slots := sl }) : Un fs [] H H' h h'' where
  keep := fun b o e n hb hx => stay b o (u.keep b o e n hb hx) (by rw [e]; simp) hb
  slot := fun b o e n hb hx => by
    obtain ⟨sl, e1⟩ := u.slot b o e n hb hx
    obtain ⟨sl2, e2⟩ := slots b _ e1 (by rw [e]; simp) hb
    exact ⟨sl2, e2⟩
  free := u.free
  there := fun b o e hx => by
    obtain ⟨o', e1⟩ := u.there b o e hx
    by_cases hb : b ∈ fs
    · obtain ⟨sl, e2⟩ := slots b o' e1 (by rw [e]; simp) hb
      exact ⟨_, e2⟩
    · exact ⟨o', stay b o' e1 (by rw [e]; simp) hb⟩
  tups := u.tups
  frzs := u.frzs
  tbls := u.tbls
theorem some_of_ne {α : Type} {o : Option α} (h : o ≠ none) : ∃ x, o = some x := by
  cases o with
  | none => exact absurd rfl h
  | some x => exact ⟨x, rfl⟩
theorem frs_cons {env : Env} {outer : List Env} {L : Addr} (h : env.frame = some L) : frs (env :: outer) = L :: frs outer := by
  unfold frs
  rw [List.filterMap_cons, h]

section
variable {P : Program} {w : World} {K : PySem.W.Frag} {mg : Str → Option Value} {base : Heap} {N : List Str} {qual : Str} {scope : Scope} {f : Addr} {cd : Value} {A : Around} {outer : List Env} {s : Shared} {H : Hp} {E : XK}
  {pins : List (Addr × Obj)} {σ : St} {H1 : Hp} {s1 : Shared}
/-- an exception that was made in a def's body leaves it -/
theorem xe_made {e : Addr} {cls : Value} {vs : List Value} {h2 : Heap} (I : Inv (cxOf (CXE P w) P w K mg base N qual scope f cd A outer s H E) pins σ H1 s1) (hx : Heap.MadeExcOf s1.heap h2 e cls vs) (hE : E cls none H1) :
    (cxOf (CXE P w) P w K mg base N qual scope f cd A outer s H E).xe (.ref e) { s1 with heap := h2 } := by
  have hst := I.stack
  have hfr := I.ok.frames
  have hlt := I.lt
  have hL := I.free
  have hab := I.ok.above
  have hbs : Un (frs outer) [] H H1 s.heap s1.heap := I.base
  change s1.heap.FunFrames base (envOfC qual scope s.heap.objs.size f cd :: outer) at hst
  change (A.deeper (envOfC qual scope s.heap.objs.size f cd)).frames = some (envOfC qual scope s.heap.objs.size f cd :: outer) at hfr
  change H1 s.heap.objs.size = none at hL
  have hff : frs (envOfC qual scope s.heap.objs.size f cd :: outer) = s.heap.objs.size :: frs outer := frs_cons rfl
  have hin : ∀ env ∈ (envOfC qual scope s.heap.objs.size f cd :: outer), ∀ b, env.frame = some b → b ∈ frs (envOfC qual scope s.heap.objs.size f cd :: outer) := fun env he b hb => List.mem_filterMap.mpr ⟨env, he, hb⟩
  have old : ∀ b, (H1 b ≠ none ∨ s.heap.get? b ≠ none) → b ∉ frs outer → ∃ o, s1.heap.get? b = some o ∧ b ∉ frs (envOfC qual scope s.heap.objs.size f cd :: outer) := fun b hb hno => by
    have hne : b ≠ s.heap.objs.size := by
      rcases hb with z | z
      · intro q; rw [q] at z; exact z hL
      · obtain ⟨o, z⟩ := some_of_ne z
        exact Nat.ne_of_lt (Heap.lt_size z)
    have hex : ∃ o, s1.heap.get? b = some o := by
      rcases hb with z | z
      · obtain ⟨o, z⟩ := some_of_ne z
        exact (I.hok b o z).there
      · obtain ⟨o, z⟩ := some_of_ne z
        exact hbs.there b o z (by simp)
    obtain ⟨o, ho⟩ := hex
    refine ⟨o, ho, ?_⟩
    rw [hff]
    intro hm
    rcases List.mem_cons.mp hm with q | q
    · exact hne q
    · exact hno q
  have eNew : s.heap.get? e = none := by
    cases q : s.heap.get? e with
    | none => rfl
    | some o =>
      obtain ⟨o', z⟩ := hbs.there e o q (by simp)
      rw [hx.new] at z
      cases z
  have eFree : H1 e = none := by
    cases q : H1 e with
    | none => rfl
    | some o =>
      obtain ⟨o', z⟩ := (I.hok e o q).there
      rw [hx.new] at z
      cases z
  refine wpAny_leaves_madeW (base := PySem.W.hideAll s1.heap (frs (envOfC qual scope s.heap.objs.size f cd :: outer))) hfr rfl (fun b o q => PySem.W.of_hideAll _ q) (PySem.W.funFrames_hide hst hin) hx fun h' t x1 x2 x3 x4 => ?_
  have stay : ∀ b o, s1.heap.get? b = some o → (H1 b ≠ none ∨ s.heap.get? b ≠ none) → b ∉ frs outer → h'.get? b = some o := fun b o ho hb hno => by
    obtain ⟨o', ho', hm⟩ := old b hb hno
    rw [ho] at ho'
    cases ho'
    exact x1.1 b o (PySem.W.hideAll_get _ ho hm)
  have frNone : ∀ b ∈ frs outer, H1 b = none := fun b hb => I.stkFree b (by
    show b ∈ frs (envOfC qual scope s.heap.objs.size f cd :: outer)
    rw [hff]
    exact List.mem_cons_of_mem _ hb)
  refine ⟨e, cls, H1, rfl, I.os, I.bare, hbs.onto (fun b o ho hh hno => stay b o ho (.inr hh) hno) (fun b o ho hh hm => ?_), I.hok.stays fun b o ho hh => stay b o ho (.inl hh) fun hm => hh (frNone b hm), eNew, eFree, ⟨_, _, x1, fun b o ho hb hno => ?_⟩, hE⟩
  · obtain ⟨_, o', ho', hd⟩ := hst.mem (b := b) (by
      show b ∈ frs (envOfC qual scope s.heap.objs.size f cd :: outer)
      rw [hff]
      exact List.mem_cons_of_mem _ hm)
    rw [ho] at ho'
    cases ho'
    exact x4 b o (hx.keeps b o ho) hd
  · obtain ⟨o', ho', hm⟩ := old b hb hno
    have := stay b o' ho' hb hno
    rw [ho] at this
    cases this
    exact PySem.W.hideAll_get _ ho' hm
/-- an exception of a callee leaves the def too -/
theorem passE : Passes (CXE P w) (cxOf (CXE P w) P w K mg base N qual scope f cd A outer s H E) E := by
  intro pins σ H1 s1 e s2 I hc
  obtain ⟨x, cls, H2, rfl, hos, hb2, u, hok, new, hxn, ⟨B, a0, fl, st⟩, hE⟩ := hc
  have hst := I.stack
  have hfr := I.ok.frames
  have hL := I.free
  have hbs : Un (frs outer) [] H H1 s.heap s1.heap := I.base
  change s1.heap.FunFrames base (envOfC qual scope s.heap.objs.size f cd :: outer) at hst
  change (A.deeper (envOfC qual scope s.heap.objs.size f cd)).frames = some (envOfC qual scope s.heap.objs.size f cd :: outer) at hfr
  change H1 s.heap.objs.size = none at hL
  change Un (frs (envOfC qual scope s.heap.objs.size f cd :: outer)) [] H1 H2 s1.heap s2.heap at u
  change Heap.FlyingW B (envOfC qual scope s.heap.objs.size f cd :: outer) x cls a0 s2.heap at fl
  have hff : frs (envOfC qual scope s.heap.objs.size f cd :: outer) = s.heap.objs.size :: frs outer := frs_cons rfl
  have st' : ∀ b o, s2.heap.get? b = some o → (H2 b ≠ none ∨ s1.heap.get? b ≠ none) → b ∉ frs (envOfC qual scope s.heap.objs.size f cd :: outer) → B.get? b = some o := st
  rw [hff] at u st'
  have hLo : ∃ o, s1.heap.get? s.heap.objs.size = some o := by
    obtain ⟨m, ⟨o, _, _, ho, _⟩, _⟩ := I.loc
    exact ⟨o, ho⟩
  have hL2 : H2 s.heap.objs.size = none := by
    obtain ⟨o, ho⟩ := hLo
    exact u.free _ o ho hL (by simp)
  -- what was there or is tracked
  have old : ∀ b, (H2 b ≠ none ∨ s.heap.get? b ≠ none) → b ∉ frs outer → ∃ o, s2.heap.get? b = some o ∧ B.get? b = some o := fun b hb hno => by
    have hne : b ≠ s.heap.objs.size := by
      rcases hb with z | z
      · intro q; rw [q] at z; exact z hL2
      · obtain ⟨o, z⟩ := some_of_ne z
        exact Nat.ne_of_lt (Heap.lt_size z)
    have hm : b ∉ s.heap.objs.size :: frs outer := fun hm => by
      rcases List.mem_cons.mp hm with q | q
      · exact hne q
      · exact hno q
    rcases hb with z | z
    · obtain ⟨o, z'⟩ := some_of_ne z
      obtain ⟨o', ho⟩ := (hok b o z').there
      exact ⟨o', ho, st' b o' ho (.inl z) hm⟩
    · obtain ⟨o, z⟩ := some_of_ne z
      obtain ⟨o1, h1⟩ := hbs.there b o z (by simp)
      obtain ⟨o2, h2⟩ := u.there b o1 h1 (by simp)
      exact ⟨o2, h2, st' b o2 h2 (.inr (by rw [h1]; simp)) hm⟩
  have u2 : Un (frs outer) [] H H2 s.heap s2.heap := by
    refine ⟨fun b o e n hb hx => ?_, fun b o e n hb hx => ?_, fun b o e n hx => ?_, fun b o e hx => ?_, fun b xs e => u.tups b xs (hbs.tups b xs e), fun b o v e => u.frzs b o v (hbs.frzs b o v e), fun b ps e => ?_⟩
    · refine u.keep b o (hbs.keep b o e n hb hx) (hbs.free b o e n hx) (fun hm => ?_) hx
      rcases List.mem_cons.mp hm with q | q
      · exact Nat.ne_of_lt (Heap.lt_size e) q
      · exact hb q
    · obtain ⟨sl, e1⟩ := hbs.slot b o e n hb hx
      obtain ⟨sl2, e2⟩ := u.slot b _ e1 (hbs.free b o e n hx) (List.mem_cons_of_mem _ hb) hx
      exact ⟨sl2, e2⟩
    · obtain ⟨o', e1⟩ := hbs.there b o e hx
      exact u.free b o' e1 (hbs.free b o e n hx) hx
    · obtain ⟨o', e1⟩ := hbs.there b o e hx
      exact u.there b o' e1 hx
    · obtain ⟨m1, e1⟩ := hbs.tbls b ps e
      obtain ⟨m2, e2⟩ := u.tbls b _ e1
      exact ⟨m1 ++ m2, by rw [e2, Array.append_assoc]⟩
  have frNone : ∀ b ∈ frs outer, H2 b = none := fun b hb => by
    have h1 := I.stkFree b (by
      show b ∈ frs (envOfC qual scope s.heap.objs.size f cd :: outer)
      rw [hff]
      exact List.mem_cons_of_mem _ hb)
    obtain ⟨_, o, ho, _⟩ := hst.mem (b := b) (by
      show b ∈ frs (envOfC qual scope s.heap.objs.size f cd :: outer)
      rw [hff]
      exact List.mem_cons_of_mem _ hb)
    exact u.free b o ho h1 (by simp)
  refine wpAny_leaves_onW hfr rfl fl fun h' x1 x2 => ?_
  have stay : ∀ b o, s2.heap.get? b = some o → (H2 b ≠ none ∨ s.heap.get? b ≠ none) → b ∉ frs outer → h'.get? b = some o := fun b o ho hb hno => by
    obtain ⟨o', ho', hB⟩ := old b hb hno
    rw [ho] at ho'
    cases ho'
    exact x1.1 b o hB
  refine ⟨x, cls, H2, rfl, hos.trans I.os, hb2, u2.onto (fun b o ho hh hno => stay b o ho (.inr hh) hno) (fun b o ho hh hm => ?_), hok.stays fun b o ho hh => stay b o ho (.inl hh) fun hm => hh (frNone b hm), ?_, hxn, ⟨B, a0, x1, fun b o ho hb hno => ?_⟩, hE⟩
  · obtain ⟨_, o', ho', hd⟩ := fl.2.2.1.mem (b := b) (by
      show b ∈ frs (envOfC qual scope s.heap.objs.size f cd :: outer)
      rw [hff]
      exact List.mem_cons_of_mem _ hm)
    rw [ho] at ho'
    cases ho'
    exact x2 b o ho hd
  · cases q : s.heap.get? x with
    | none => rfl
    | some o =>
      obtain ⟨o', z⟩ := hbs.there x o q (by simp)
      rw [new] at z
      cases z
  · obtain ⟨o', ho', hB⟩ := old b hb hno
    have := stay b o' ho' hb hno
    rw [ho] at this
    cases this
    exact hB
end
/-- THE RULE for a def that may raise -/
theorem Fun.okX {P : Program} {w : World} {K : PySem.W.Frag} {mg : Str → Option Value} {base : Heap} {x qual : Str} {st : Stmt} {f : Addr} {fd : FuncData} {N ps : List Str} {k : Nat} {sp : Sp} (F : Fun K x qual st f fd) (S : FnScope N ps (defScope st)) (len : ∀ vs H Q E, sp vs H Q E → vs.length = ps.length)
    (hbody : ∀ (cdv : Value) (A : Around) (outer : List Env) (s : Shared) (H : Hp) (vs : List V) (Q : VK) (E : XK), Room k (A.deeper (envOfC qual (defScope st) s.heap.objs.size f cdv)) → sp vs H Q E →
      ∃ t, PSs (cxOf (CXE P w) P w K mg base N qual (defScope st) f cdv A outer s H E) (defBody st) t ∧ t { nx := fun _ H' => Q .non H', rt := Q } (start N vs) H) : FnOk P w K mg base (CXE P w) (k + 1) f fd ps sp := by
  obtain ⟨oc, od, kV, doc, pm, an, cdv, ct, osl, rfl, lk, hcd⟩ := F.ex
  exact fn_of lk hcd S len fun A outer s H vs Q E hr hsp => hbody cdv A outer s H vs Q E hr hsp
/-! ### raise C("..") -/
/-- an own error class of ValueError's kind -/
structure ExcC (K : PySem.W.Frag) (C : Addr) : Prop where
  q : PySem.W.excIn K C [.type "ValueError", .type "Exception", .type "BaseException", .type "object"] "ValueError.__new__" = true
end L2

namespace L2
open PySem PySem.Spec PyProof.Rows
set_option autoImplicit false
set_option linter.all false
abbrev bmV : List Value := [.type "ValueError", .type "Exception", .type "BaseException", .type "object"]
theorem exc_at {K : PySem.W.Frag} {h : Heap} {C : Addr} (KI : K.In h) (c : ExcC K C) : ∃ bm N nm q bs hd sn sub ab col dd k0 k1 k2 k3 k5 mN, h.get? C = some (excClassObj nm q C N bs bm hd sn sub ab col dd k0 k1 k2 k3 k5 "ValueError.__new__") ∧
    h.Ns N mN ∧ mN "__init__" = none ∧ OwnTail h bmV bm := by
  have z := c.q
  revert z
  unfold PySem.W.excIn
  split
  · rename_i d1 c1 s1 hl
    split
    · rename_i D bm y0 y1 y2 y3 nn y5 e1 e2
      intro z
      rw [Bool.and_eq_true, Bool.and_eq_true, Bool.and_eq_true, Bool.and_eq_true, Bool.and_eq_true] at z
      obtain ⟨⟨⟨⟨⟨z1, z2⟩, z3⟩, z4⟩, z5⟩, z6⟩ := z
      have z1' : D = C := beq_iff_eq.mp z1
      have z2' : nn = "ValueError.__new__" := beq_iff_eq.mp z2
      have z6' := beq_iff_eq.mp z6
      subst z1' z2'
      obtain ⟨w1, w2, w3, w4, w5, w6, w7, w8, w9, w10, w11⟩ := c1
      dsimp only at e1 z3 z5 z6'
      subst e1
      have z3' : w11 = false := by simpa using z3
      subst z3'
      have e3 : s1 = #[y0, y1, y2, y3, some (.builtin "ValueError.__new__"), y5] := by
        obtain ⟨l1⟩ := s1
        exact congrArg Array.mk e2
      subst e3
      exact ⟨bm, w4, w1, w5, w2, w6, w7, w8, w9, w10, d1, y0, y1, y2, y3, y5, _, KI _ _ hl, .of_isNs (PySem.W.isNs_of_in KI z5), PySem.W.nsMap_none_of_in KI z5 z6', PySem.W.tail_of_in KI z4⟩
    · intro z; cases z
  · intro z; cases z

section
variable {P : Program} {w : World} {K : PySem.W.Frag} {mg : Str → Option Value} {base : Heap} {N : List Str} {qual : Str} {scope : Scope} {f : Addr} {cd : Value} {A : Around} {outer : List Env} {s : Shared} {H : Hp} {E : XK}
/-- raise C("..") -/
def tRaise (E : XK) (C : Addr) : TS := fun _ _ H => E (.ref C) none H
theorem ps_raise {x txt : Str} {C : Addr} {j : Nat} {np cp ep pos : Pos} (hg : Gl (cxOf (CXE P w) P w K mg base N qual scope f cd A outer s H E) x) (hm : mg x = some (.ref C)) (c : ExcC K C) (hd : (x == ("__debug__" : Str)) = false := by decide) :
    PS (cxOf (CXE P w) P w K mg base N qual scope f cd A outer s H E) (.Raise (some (.Call (.Name x np) [.Constant (.str txt) j cp] [] ep)) none pos) (tRaise E C) := by
  intro pins s1 σ H1 D I hE
  have hh : (cxOf (CXE P w) P w K mg base N qual scope f cd A outer s H E).A.handled = none := I.ok.hd rfl
  obtain ⟨bm, N', nm, q, bs, hdc, sn, sub, ab, col, dd, k0, k1, k2, k3, k5, mN, hC, hN, hni, T⟩ := exc_at I.kIn c
  refine wpAny_Raise_call_subT (C := C) (nm := nm) (q := q) (N := N') (bs := bs) (bm := bm) (hdct := hdc) (sn := sn) (sub := sub) (ab := ab) (col := col) (dd := dd) (k0 := k0) (k1 := k1) (k2 := k2) (k3 := k3) (k5 := k5)
    PySem.F.excBase_ValueError (mN := mN) (T.hasType (by decide +kernel)) hh rfl hni (ld_glob I hg hm ⟨rfl, ?_⟩ hd)
  refine Calls.evalArgs_plain ?_
  refine PyProof.Rows.spliced_more (Calls.Constant_str ?_)
  refine PyProof.Rows.spliced_none ⟨rfl, by show 1 ≤ sizeLine; decide, hC, hN, T, fun h' e hx => ?_⟩
  exact xe_made (I.tok _) hx hE
end
end L2

namespace L2
open PySem PySem.Spec PyProof.Rows
set_option autoImplicit false
set_option linter.all false
/-! ### try .. except C as e -/
/-- the body of a try: an exception of a callee is caught here -/
def tryCx (X : Cx) (pins : List (Addr × Obj)) (E : St → XK) : Cx := { X with pn := X.pn ++ pins, xe := fun e s' => ∃ σ H s, Inv X pins σ H s ∧ CXE X.prog X.w X.stack H s (E σ) e s' }
/-- the suite of a handler, while v is handled -/
def hdCx (X : Cx) (v : Value) : Cx := { X with A := X.A.mark (some v), calm := false, xe := fun _ _ => False }
section
variable {X : Cx} {pins pins' : List (Addr × Obj)} {σ : St} {H : Hp} {s : Shared} {E : St → XK}
theorem Inv.toTry (I : Inv X pins σ H s) : Inv (tryCx X pins E) [] σ H s :=
  ⟨⟨I.ok.mod, I.ok.kind, I.ok.glob, I.ok.blt, I.ok.above, I.ok.inj, I.ok.has, I.ok.cab, I.ok.hd, I.ok.frames, I.ok.stk, I.ok.exf, I.ok.bs, I.ok.bsz, I.ok.noex, I.ok.exfs, I.ok.funs, I.ok.frf⟩,
    I.os, I.bare, I.base, I.loc, I.cell, I.free, I.freeC, fun p hp => I.pin p (by
      rcases List.mem_append.mp hp with z | z
      · exact z
      · cases z), I.hok, I.len⟩
theorem Inv.ofTry (I : Inv (tryCx X pins E) pins' σ H s) : Inv X pins σ H s :=
  ⟨⟨I.ok.mod, I.ok.kind, I.ok.glob, I.ok.blt, I.ok.above, I.ok.inj, I.ok.has, I.ok.cab, I.ok.hd, I.ok.frames, I.ok.stk, I.ok.exf, I.ok.bs, I.ok.bsz, I.ok.noex, I.ok.exfs, I.ok.funs, I.ok.frf⟩,
    I.os, I.bare, I.base, I.loc, I.cell, I.free, I.freeC, fun p hp => I.pin p (List.mem_append_left _ hp), I.hok, I.len⟩
theorem Inv.toHd (I : Inv X pins σ H s) (v : Value) : Inv (hdCx X v) pins σ H s :=
  ⟨⟨I.ok.mod, I.ok.kind, I.ok.glob, I.ok.blt, I.ok.above, I.ok.inj, I.ok.has, I.ok.cab, (fun z => by cases z), I.ok.frames, I.ok.stk, I.ok.exf, I.ok.bs, I.ok.bsz, I.ok.noex, I.ok.exfs, I.ok.funs, I.ok.frf⟩,
    I.os, I.bare, I.base, I.loc, I.cell, I.free, I.freeC, I.pin, I.hok, I.len⟩
theorem Inv.ofHd {v : Value} (I : Inv (hdCx X v) pins σ H s) (hd : X.calm = true → X.A.handled = none) : Inv X pins σ H s :=
  ⟨⟨I.ok.mod, I.ok.kind, I.ok.glob, I.ok.blt, I.ok.above, I.ok.inj, I.ok.has, I.ok.cab, hd, I.ok.frames, I.ok.stk, I.ok.exf, I.ok.bs, I.ok.bsz, I.ok.noex, I.ok.exfs, I.ok.funs, I.ok.frf⟩,
    I.os, I.bare, I.base, I.loc, I.cell, I.free, I.freeC, I.pin, I.hok, I.len⟩
end
/-- f(..) whose exception's wish may hang on the names' values -/
def PassesX (CX : CXT) (X : Cx) (E : St → XK) : Prop := ∀ (pins : List (Addr × Obj)) (σ : St) (H : Hp) (s : Shared) (e : Value) (s' : Shared), Inv X pins σ H s → CX X.stack H s (E σ) e s' → X.xe e s'
theorem passTry {X : Cx} {pins : List (Addr × Obj)} {E : St → XK} : PassesX (CXE X.prog X.w) (tryCx X pins E) E := fun _ σ H s _ _ I h => ⟨σ, H, s, I.ofTry, h⟩
def tCallX (sp : Sp) (E : St → XK) (t : TA) : TE := fun σ H Q => t σ H fun vs H1 => sp (vs ++ []) H1 Q (E σ)
section
variable {X : Cx} {CX : CXT} {k : Nat} {f : Addr} {fd : FuncData} {ps : List Str} {sp : Sp} {E : St → XK} {x : Str} {p pos : Pos} {e : Expr} {es : List Expr} {t : TA}
theorem pe_callX (F : FnOk X.prog X.w X.K X.mg X.base CX k f fd ps sp) (hr : Room k X.A) (hg : Gl X x) (hm : X.mg x = some (.ref f)) (hk : PySem.W.keepIn X.K (.ref f) = true) (hb : Binds X.K fd ps []) (hx : PassesX CX X E)
    (ha : PA X (e :: es) t) (hdb : (x == ("__debug__" : Str)) = false := by decide) (he : starEach (e :: es) X.env = (false, eval e X.env) :: starEach es X.env := by rfl) (hpl : (backTo pos (starEach es X.env)).any (·.1) = false := by rfl) :
    PE X (.Call (.Name x p) (e :: es) [] pos) (tCallX sp E t) := by
  intro pins s σ H Q I h
  refine wpAny_Call_Name_kw (ld_glob I hg hm ?_ hdb)
  refine PySem.W.callWith_K (h₀ := X.base) I.ok.mod.kin hk (thn (ha pos pins s σ H _ I h) fun us s1 ⟨vs, H1, I1, r, q⟩ => ⟨I1.kIn, ?_⟩) he hpl
  have r2 : Vals (vs ++ []) (us ++ []) := r.append .nil
  have hl : (us ++ []).length = ps.length := by rw [← r2.length]; exact F.len _ _ _ _ q
  refine wpAny_call (codeAny_mono (F.run X.A X.stack s1 H1 ⟨us, []⟩ (us ++ []) (vs ++ []) Q (E σ) hr I1.env0 (hb s1 us I1.kIn hl) r2 q) fun r s' hq => ?_)
  cases r with
  | error e => exact hx pins σ H1 s1 e s' I1 hq
  | ok fl =>
    cases fl with
    | ret u => exact I1.after hq
    | next => exact False.elim hq
    | brk => exact False.elim hq
    | cont => exact False.elim hq
end
/-- a caught exception, as it is known -/
def XO (x : Addr) (cls : Value) : HO := .ext fun h => ∃ o vs, h.get? x = some o ∧ o.cls = cls ∧ o.data = .fields vs
theorem XO.ok {P : Program} {w : World} {H : Hp} {h : Heap} {x : Addr} {cls : Value} (e : ∃ o vs, h.get? x = some o ∧ o.cls = cls ∧ o.data = .fields vs) : ObjOk P w H h x (XO x cls) :=
  ⟨e, let ⟨o, _, h1, _⟩ := e; ⟨o, h1⟩, fun _ _ ⟨o, vs, h1, h2, h3⟩ k => ⟨o, vs, k o h1, h2, h3⟩⟩
section
variable {X : Cx} {pins : List (Addr × Obj)} {σ : St} {H : Hp} {s : Shared}
/-- the name goes -/
theorem unbind_ok {M : Model} {A : Around} {E : Value → Shared → Prop} {i : Nat} {n : Str} {pos : Pos} {Q : Unit → Shared → Prop} (I : Inv X pins σ H s) (hN : X.N.Nodup) (hi : X.N[i]? = some n) (hk : X.env.scope.names.lookup n = some .local)
    (h : ∀ s', Inv X pins (σ.set i none) H s' → Q () s') : wpAny M A (do bindName X.env n .none; unbindBehindTheSuite X.env n pos) Q E s := by
  obtain ⟨m, hn, hl⟩ := id I.loc
  have hcls : (X.env.scope.kind == .class || (X.env.scope.kind == .module && X.env.locals != X.env.globals)) = false := by rw [I.ok.kind]; rfl
  refine wpAny_nameGoes_keeps hk hn hcls fun h' v hn' hs => h _ ?_
  obtain ⟨oL, _, _, hoL, _⟩ := id hn
  have ne : ∀ b o, X.s₀.heap.get? b = some o → b ≠ X.env.locals := fun b o e => Nat.ne_of_lt (Nat.lt_of_lt_of_le (Heap.lt_size e) I.ok.above)
  refine ⟨I.ok, I.os, I.bare, ⟨fun b o e n hb hx => (hs.2 b (ne b o e)).trans (I.base.keep b o e n hb hx), fun b o e n hb hx => ?_, I.base.free, fun b o e hx => ?_, I.base.tups, I.base.frzs, I.base.tbls⟩, ⟨_, hn', fun j y v' e1 e2 e3 => ?_⟩, fun y c e => ?_, I.free, I.freeC, fun p hp => ?_, I.hok.stays fun b o e hb => (hs.2 b fun z => hb (by rw [z]; exact I.free)).trans e, by simpa using I.len⟩
  · obtain ⟨sl, e1⟩ := I.base.slot b o e n hb hx
    exact ⟨sl, (hs.2 b (ne b o e)).trans e1⟩
  · obtain ⟨o', e1⟩ := I.base.there b o e hx
    exact ⟨o', (hs.2 b (ne b o e)).trans e1⟩
  · by_cases hj : j = i
    · subst hj
      have hlt : j < σ.length := by rw [I.len]; exact (List.getElem?_eq_some_iff.mp hi).1
      rw [List.getElem?_set_self hlt] at e2
      cases e2
    · rw [List.getElem?_set_ne (Ne.symm hj)] at e2
      obtain ⟨u', r', q⟩ := hl j y v' e1 e2 e3
      refine ⟨u', r', ?_⟩
      rcases q with ⟨k, e⟩ | ⟨k, c, e, z⟩
      · refine .inl ⟨k, ?_⟩
        have hyn : y ≠ n := fun e => hj (nodup_ix hN e1 (e ▸ hi))
        simp [hyn, e]
      · exact .inr ⟨k, c, e, z.sameBut hs (I.cne y c e)⟩
  · obtain ⟨w', z⟩ := I.cell y c e
    exact ⟨w', z.sameBut hs (I.cne y c e)⟩
  · obtain ⟨e, nn, ne', nf, d⟩ := I.pin p hp
    exact ⟨(hs.2 p.1 ne').trans e, nn, ne', nf, d⟩
end
/-- try: body, except C as n: suite -/
def tTry (K : PySem.W.Frag) (CT : Addr) (i : Nat) (tb : (St → XK) → TS) (th : TS) : TS := fun D σ H => ∃ E : St → XK, tb E D σ H ∧ ∀ σ' cls H', E σ' cls none H' → PySem.W.exmOne K cls (.ref CT) = some true ∧ ∀ x, H' x = none →
  th { nx := fun σ2 H2 => D.nx (σ2.set i none) H2, rt := D.rt, bk := fun σ2 H2 => D.bk (σ2.set i none) H2, ct := fun σ2 H2 => D.ct (σ2.set i none) H2 } (σ'.set i (some (.ref x))) (upd H' x (XO x cls))
theorem ps_try {X : Cx} {body suite : List Stmt} {b0 : Stmt} {tn n : Str} {np pos hpos : Pos} {CT : Addr} {i : Nat} {tb : (St → XK) → TS} {th : TS} (hN : X.N.Nodup) (hi : X.N[i]? = some n) (hk : X.env.scope.names.lookup n = some .local)
    (hg : Gl X tn) (hm : X.mg tn = some (.ref CT)) (hst : X.stack = X.env :: X.outer) (hfr : X.env.frame = some X.env.locals) (hbody : ∀ pins E, PSs (tryCx X pins E) body (tb E)) (hh : ∀ v, PSs (hdCx X v) (b0 :: suite) th)
    (hd : (tn == ("__debug__" : Str)) = false := by decide) :
    PS X (.Try body [.ExceptHandler (some (.Name tn np)) (some n) (b0 :: suite) hpos] [] [] pos) (tTry X.K CT i tb th) := by
  intro pins s σ H D I hw
  obtain ⟨E, hb, hcatch⟩ := hw
  refine wpAny_Try_except (wpAny_mono (hbody pins E [] s σ H D I.toTry hb) (fun fl s1 q => ?_) fun e s1 hx => ?_)
  · cases fl with
    | next =>
      obtain ⟨σ', H', I', q⟩ := q
      exact wpAny_execs_nil ⟨σ', H', I'.ofTry, q⟩
    | brk => obtain ⟨σ', H', I', q⟩ := q; exact ⟨σ', H', I'.ofTry, q⟩
    | cont => obtain ⟨σ', H', I', q⟩ := q; exact ⟨σ', H', I'.ofTry, q⟩
    | ret u => obtain ⟨v, σ', H', I', r, q⟩ := q; exact ⟨v, σ', H', I'.ofTry, r, q⟩
  · obtain ⟨σ1, H1, s0, I1, x, cls, H2, rfl, hos, hbare, u, hok, new, hxn, ⟨B, a0, fl, st⟩, hE⟩ := hx
    obtain ⟨hmat, hth⟩ := hcatch σ1 cls H2 hE
    have hfl : Heap.FlyingW B (X.env :: X.outer) x cls a0 s1.heap := by rw [hst] at fl; exact fl
    have frNone : ∀ b ∈ frs X.stack, H2 b = none := fun b hb => by
      obtain ⟨_, o, ho, _⟩ := I1.stack.mem hb
      exact u.free b o ho (I1.stkFree b hb) (by simp)
    -- what the heap is behind each step
    have step : ∀ h', B.StaysIn h' → s1.heap.UpToSlots h' → Un (frs X.stack) [] H1 H2 s0.heap h' ∧ HOk X.prog X.w H2 h' := fun h' hB hu => by
      refine ⟨u.onto (fun b o ho hh hno => hB b o (st b o ho (.inr hh) hno)) fun b o ho hh hm' => ?_, hok.stays fun b o ho hh => hB b o (st b o ho (.inl hh) fun hm' => hh (frNone b hm'))⟩
      obtain ⟨_, o', ho', hdd⟩ := hfl.2.2.1.mem (b := b) (by rw [hst] at hm'; exact hm')
      rw [ho] at ho'
      cases ho'
      exact hu b o ho hdd
    have inv : ∀ h', B.StaysIn h' → s1.heap.UpToSlots h' → Inv X pins σ1 H2 { s1 with heap := h' } := fun h' hB hu => by
      obtain ⟨un, ok⟩ := step h' hB hu
      exact I1.call' (s' := { s1 with heap := h' }) (ch := []) hos un ok hbare fun b hb => by cases hb
    have hfrm : X.A.frames = some (X.env :: X.outer) := by rw [← hst]; exact I1.ok.frames
    refine wpAny_looks_onW hfrm hfr hfl fun h4 held4 up4 => ?_
    refine wpAny_landsW held4 fun h5 fl5 up5 => ?_
    have up15 := up4.trans up5
    have I5 := inv h5 fl5.1 up15
    refine wpAny_handleBy_cons (codeAny_handlers_test ?_) (by intro q; cases q)
    refine ld_glob (I5.toHd (.ref x)) hg hm ?_ hd
    have LT : PySem.W.Looks (model X.prog X.w) h5 (typeOf (.ref x)) cls := by
      obtain ⟨ob, hob, hc⟩ := fl5.there
      subst hc
      exact (PySem.W.Looks.ld hob).andThen .now
    refine (PySem.W.exm_one (M := model X.prog X.w) I5.kIn LT hmat).here ?_
    refine codeAny_handlers_suite_as ?_
    refine lands_againW fl5 fun h6 fl6 up6 => ?_
    have up16 := up15.trans up6
    obtain ⟨un6, ok6⟩ := step h6 fl6.1 up16
    obtain ⟨oe, vs, hoe, hcl, hdt, _⟩ := fl6.first
    -- the exception is tracked now
    have xin : s0.heap.get? x = none := new
    have un7 : Un (frs X.stack) [] H1 (upd H2 x (XO x cls)) s0.heap h6 := by
      refine ⟨un6.keep, un6.slot, fun b o e nn hx => ?_, un6.there, fun b xs e => ?_, fun b o v e => ?_, fun b ps e => ?_⟩
      · rw [upd_ne (fun z => by rw [z, xin] at e; cases e)]
        exact un6.free b o e nn hx
      · have := un6.tups b xs e
        rw [upd_ne (ne_of_none this hxn)]
        exact this
      · have := un6.frzs b o v e
        rw [upd_ne (ne_of_none this hxn)]
        exact this
      · obtain ⟨more, this⟩ := un6.tbls b ps e
        exact ⟨more, by rw [upd_ne (ne_of_none this hxn)]; exact this⟩
    have ok7 : HOk X.prog X.w (upd H2 x (XO x cls)) h6 := fun a o e => by
      by_cases ha : a = x
      · subst ha
        rw [upd_same] at e
        cases e
        exact XO.ok ⟨oe, vs, hoe, hcl, hdt⟩
      · rw [upd_ne ha] at e
        exact (ok6 a o e).stay (fun _ _ _ q => q) (fun b q => by rw [upd_ne (ne_of_none q hxn)]; exact q) fun b xs q => by rw [upd_ne (ne_of_none q hxn)]; exact q
    have I7 : Inv X pins σ1 (upd H2 x (XO x cls)) { s1 with heap := h6 } := I1.call' (s' := { s1 with heap := h6 }) (ch := []) hos un7 ok7 hbare fun b hb => by cases hb
    refine store_ok (v := .ref x) I7 hN hi (.inl hk) rfl (fun s8 I8 => ?_) (.inr hk)
    refine wpAny_mono (hh (.ref x) pins s8 _ _ _ (I8.toHd _) (hth x hxn)) (fun fl' s9 q => ?_) (fun _ _ z => False.elim z)
    have hdX := I.ok.hd
    cases fl' with
    | next =>
      obtain ⟨σ', H', I', q⟩ := q
      exact unbind_ok (I'.ofHd hdX) hN hi hk fun s10 I10 => ⟨_, H', I10, q⟩
    | brk =>
      obtain ⟨σ', H', I', q⟩ := q
      exact unbind_ok (I'.ofHd hdX) hN hi hk fun s10 I10 => ⟨_, H', I10, q⟩
    | cont =>
      obtain ⟨σ', H', I', q⟩ := q
      exact unbind_ok (I'.ofHd hdX) hN hi hk fun s10 I10 => ⟨_, H', I10, q⟩
    | ret u' =>
      obtain ⟨v, σ', H', I', r, q⟩ := q
      exact unbind_ok (I'.ofHd hdX) hN hi hk fun s10 I10 => ⟨v, _, H', I10, r, q⟩
end L2

set_option maxRecDepth 100000
namespace L2
open PySem PySem.Spec PyProof.Rows PySem.W
set_option autoImplicit false
set_option linter.all false
/-- what isinstance asks of an exception's class -/
structure ExcK (K : PySem.W.Frag) (C : Addr) : Prop where
  ga : findIn K (.ref C) "__getattribute__" = some (some (.builtin "BaseException.__getattribute__"))
  na : findIn K (.ref C) "__getattr__" = some none
  cl : findIn K (.ref C) "__class__" = some (some (.builtin "object.__class__"))
  sb : subIn K (.ref C) (.type "BaseException") = some true
  so : subIn K (.ref C) (.type "object") = some true
  cs : (clsIn K C).isSome = true
def ExcAt (x C : Addr) (h : Heap) : Prop := ∃ o vs, h.get? x = some o ∧ o.cls = .ref C ∧ o.data = .fields vs
section
variable {prog : Program} {w : World} {A : Around} {E : Value → Shared → Prop} {h : Heap} {g : Array GenState} {d : Drawn} {t : Nat} {os : OsState} {a C : Addr} {o : Obj} {K : PySem.W.Frag}
theorem exc_get {R : Result → Shared → Prop} (KI : K.In h) (c : ExcK K C) (hx : h.get? a = some o) (hc : o.cls = .ref C) (hq : R (.ok (.ret (.ref C))) ⟨h, g, d, t, os⟩) :
    codeAny (model prog w) A (.call (.builtin "getset_descriptor.__get__") ⟨[.builtin "object.__class__", .ref a, .ref C], []⟩) R ⟨h, g, d, t, os⟩ := by
  have hT5 : (⟨h, g, d, t, os⟩ : Shared).TypeIs (.builtin "object.__class__") "getset_descriptor" := F.typeOf_object_class
  have LS : Looks (model prog w) h (isSubtype (.ref C) (.type (".".intercalate ("object.__class__".cutAt '.').dropLast))) true := by rw [F.owner_object_class]; exact looks_subIn KI c.so
  refine codeAny_call_builtin F.slot_gs_get.plain F.entry_gs_get (F.slot_gs_get.check _ _ _ _ _ _ _ _ hT5 (F.args_gs_get _ _ _) ?_)
  repeat (any_goals (first | assumption | (with_reducible refine wpAny_loadPart_at hx ?_; rw [hc]) | (with_reducible refine LS.at ?_) | wp_step))
  refine ⟨Code.quiet_builtin _ (by decide +kernel), codeAny_builtin F.entry_object_class ?_⟩
  repeat (any_goals (first | assumption | (with_reducible refine wpAny_loadPart_at hx ?_; rw [hc]) | wp_step))
theorem exc_check {M : Model} {nameV : Value} {Q : Unit → Shared → Prop} (KI : K.In h) (c : ExcK K C) (hx : h.get? a = some o) (hc : o.cls = .ref C) (hq : Q () ⟨h, g, d, t, os⟩) :
    wpAny M A (checkBuiltinCall "BaseException.__getattribute__" ⟨[.ref a, nameV], []⟩) Q E ⟨h, g, d, t, os⟩ := by
  have k1 : builtinKind "BaseException.__getattribute__" = some .slot := by decide +kernel
  have k2 : splitId "BaseException.__getattribute__" = some ("BaseException", "__getattribute__") := by decide +kernel
  have LS : Looks M h (isSubtype (.ref C) (.type "BaseException")) true := looks_subIn KI c.sb
  have ha := F.args_bexc_ga (.ref a) nameV
  simp only [checkBuiltinCall, k1, k2]
  refine wpAny_bind ?_
  · unfold isInstance
    repeat (first | (with_reducible refine wpAny_loadPart_at hx ?_; rw [hc]) | (with_reducible refine LS.at ?_) | wp_step)
    exact hq
theorem exc_entry {tk : Tok} {Q : Fin → Shared → Prop} (KI : K.In h) (c : ExcK K C) (hx : h.get? a = some o) (hc : o.cls = .ref C) (hq : Q (.done (.ret (.ref C))) ⟨h, g, d, t, os⟩) :
    wpAny (model prog w) A (Builtin.«object.__getattribute__» ⟨[.ref a, .str "__class__" tk], []⟩) Q E ⟨h, g, d, t, os⟩ := by
  have hT5 : (⟨h, g, d, t, os⟩ : Shared).TypeIs (.builtin "object.__class__") "getset_descriptor" := F.typeOf_object_class
  have L1 : Looks (model prog w) h (typeLookup (.ref C) "__class__") (some (.builtin "object.__class__")) := looks_findIn KI c.cl
  have f5 := F.typeOf_object_class
  have f6 := F.slot_gs_get.lookup
  have f7 := F.slot_gs_set.lookup
  repeat (any_goals (first | assumption | (with_reducible refine wpAny_loadPart_at hx ?_; rw [hc]) | (with_reducible refine L1.at ?_) | wp_step))
  refine exc_get KI c hx hc ?_
  repeat (any_goals (first | assumption | wp_step))
theorem exc_by {tk : Tok} {Q : Value → Shared → Prop} (KI : K.In h) (c : ExcK K C) (hx : h.get? a = some o) (hc : o.cls = .ref C) (hq : Q (.ref C) ⟨h, g, d, t, os⟩) :
    wpAny (model prog w) A (getAttrBy (.ref a) (.str "__class__" tk) false) Q E ⟨h, g, d, t, os⟩ := by
  have f3 := F.excAttr_ValueError.ga.bind (.ref a)
  have y2 : (Value.builtin "BaseException.__getattribute__" == Value.builtin "object.__getattribute__") = false := by decide +kernel
  have y1 : (onTheHeap (Value.ref C) && Value.builtin "BaseException.__getattribute__" == Value.builtin "object.__getattribute__") = false := by rw [y2]; rfl
  have y0 : (false && onTheHeap (Value.builtin "BaseException.__getattribute__")) = false := rfl
  have L1 : Looks (model prog w) h (typeLookup (.ref C) "__getattribute__") (some (.builtin "BaseException.__getattribute__")) := looks_findIn KI c.ga
  have L2 : Looks (model prog w) h (typeLookup (.ref C) "__getattr__") none := looks_findIn KI c.na
  repeat (any_goals (first | assumption | (with_reducible refine wpAny_loadPart_at hx ?_; rw [hc]) | (with_reducible refine L1.at ?_) | (with_reducible refine L2.at ?_) | wp_step))
  refine codeAny_call_builtin F.excAttr_ValueError.ga.plain F.entry_bexc_ga (exc_check KI c hx hc (exc_entry KI c hx hc ?_))
  repeat (any_goals (first | assumption | wp_step))
theorem exc_cls {Q : Option Value → Shared → Prop} (KI : K.In h) (c : ExcK K C) (hx : h.get? a = some o) (hc : o.cls = .ref C) (hq : Q (some (.ref C)) ⟨h, g, d, t + 1, os⟩) : wpAny (model prog w) A (getAttr? (.ref a) "__class__") Q E ⟨h, g, d, t, os⟩ := by
  unfold getAttr? getAttrBy?
  repeat (any_goals (first | assumption | with_reducible apply exc_by KI c hx hc | wp_step))
end
theorem kitx_exc {K : PySem.W.Frag} {x C : Addr} (c : ExcK K C) : KitX K (.ref x) (.ref C) (ExcAt x C) where
  ty := fun _ _ _ p => by
    obtain ⟨o, _, h1, h2, _⟩ := p
    rw [← h2]
    exact (Looks.ld h1).andThen .now
  it := fun _ _ KI _ => by
    obtain ⟨cd, hcd⟩ := Option.isSome_iff_exists.mp c.cs
    unfold clsIn at hcd
    split at hcd
    · rename_i ho
      intro A' Q' E' s' k q
      unfold isType loadHead
      exact wpAny_bind (wpAny_loadPart (k _ _ (KI _ _ ho)) (wpAny_pure q))
    · cases hcd
  ne := fun h tp dd its n sl KI htp => by
    obtain ⟨cd, hcd⟩ := Option.isSome_iff_exists.mp c.cs
    refine Bool.eq_false_iff.mpr fun q => ?_
    have e : C = tp := Value.ref.inj (beq_iff_eq.mp q)
    subst e
    unfold clsIn at hcd
    split at hcd
    · rename_i ho
      have z := (KI _ _ ho).symm.trans htp
      cases z
    · cases hcd
  ca := fun {_ _ _ _ _ s} KI p k => by
    obtain ⟨o, _, h1, h2, _⟩ := p
    obtain ⟨hh, g, d, t, os⟩ := s
    exact exc_cls KI c h1 h2 k
/-- a class, as a value -/
def clsV : V → Value → Prop
  | .ty T, u => u = .type T
  | .ref D, u => u = .ref D
  | _, _ => False
theorem refs_of : ∀ {Ds : List Addr} {its : List Value}, Vals (Ds.map V.ref) its → its = Ds.map Value.ref
  | [], _, .nil => rfl
  | D :: Ds, _, .cons r t => by
    cases r
    rw [List.map_cons, refs_of t]
section
variable {X : Cx}
/-- isinstance(a caught exception, a class) -/
theorem call_isinstE (K : PySem.W.Frag) (hK : X.K = K) : CallR X (.builtin "isinstance") (fun xs H Q => ∃ x C v u b, xs = [.ref x, v] ∧ H x = some (XO x (.ref C)) ∧ ExcK K C ∧ clsV v u ∧ kitOne K (.ref C) u = some b ∧ Q (.bl b) H) := by
  subst hK
  intro pins s σ H xs us Q I r h
  obtain ⟨x, C, v, u, b, rfl, hx, c, hv, e, q⟩ := h
  obtain ⟨u1, u2, rfl, r1, r2⟩ := r.two
  cases r1
  have e2 : u2 = u := by
    cases v <;> first | exact hv.elim | exact (show u2 = _ from r2).trans hv.symm
  subst e2
  obtain ⟨hp, _⟩ := I.hok x _ hx
  exact kia_one (kitx_exc c) I.kIn hp e (fun z => nomatch z) fun tk => ⟨.bl b, H, I.tok _, rfl, q⟩
/-- isinstance(a caught exception, a tuple of classes) -/
theorem call_isinstET (K : PySem.W.Frag) (hK : X.K = K) : CallR X (.builtin "isinstance") (fun xs H Q => ∃ (x C tp : Addr) (Ds : List Addr) (b : Bool), xs = [.ref x, .ref tp] ∧ H x = some (XO x (.ref C)) ∧ ExcK K C ∧ H tp = some (.tup (Ds.map V.ref)) ∧ kitAny K (.ref C) (Ds.map Value.ref) = some b ∧ Q (.bl b) H) := by
  subst hK
  intro pins s σ H xs us Q I r h
  obtain ⟨x, C, tp, Ds, b, rfl, hx, c, ht, e, q⟩ := h
  obtain ⟨u1, u2, rfl, r1, r2⟩ := r.two
  cases r1
  cases r2
  obtain ⟨hp, _⟩ := I.hok x _ hx
  obtain ⟨its, rv, ⟨o, ho, hc, n, hd⟩, _⟩ := I.tuple (SqT.of ht)
  have ei : its = Ds.map Value.ref := refs_of rv
  subst ei
  obtain ⟨oc, od, odt, osl⟩ := o
  dsimp only at hc hd
  subst hc hd
  exact kia_tup (kitx_exc c) I.kIn hp ho e (fun z => nomatch z) fun tk => ⟨.bl b, H, I.tok _, rfl, q⟩
end
end L2

namespace L2
open PySem PySem.Spec PyProof.Rows
set_option autoImplicit false
set_option linter.all false
end L2

namespace L2
open PySem PySem.Spec PyProof.Rows
set_option autoImplicit false
set_option linter.all false

/-! ### a range made a list; sorted(.., key = f), the keys tuples of ints -/
section
variable {prog : Program} {w : World} {A : Around} {E : Value → Shared → Prop} {s : Shared}
end

section
variable {X : Cx} {pins : List (Addr × Obj)} {σ : St} {H : Hp} {s : Shared} {A : Around} {E : Value → Shared → Prop}
theorem FpOk.to {H' : Hp} {b : Addr} (f : FpOk X pins H b) (h : H' b = none) : FpOk X pins H' b := ⟨h, f.2⟩
theorem Inv.turn {h' : Heap} {t' : Nat} {it : Addr} (I : Inv X pins σ H s) (f : FpOk X pins H it) (k : ∀ b o, b ≠ it → s.heap.get? b = some o → h'.get? b = some o) : Inv X pins σ H { s with heap := h', toks := t' } :=
  I.turned k f.1 f.2.1 f.2.2.2.1 f.2.2.2.2.1 f.2.2.2.2.2
/-- a record of ours comes to be tracked -/
theorem Inv.take {h' : Heap} {t' : Nat} {a : Addr} {o : HO} (I : Inv X pins σ H s) (f : FpOk X pins H a) (k : ∀ b u, b ≠ a → s.heap.get? b = some u → h'.get? b = some u) (new : ObjOk X.prog X.w (upd H a o) h' a o) : Inv X pins σ (upd H a o) { s with heap := h', toks := t' } := by
  have hn := f.1
  have ne : ∀ b u, H b = some u → b ≠ a := fun b u e => ne_of_none e hn
  have kp : ∀ b u, H b = some u → upd H a o b = some u := fun b u e => by rw [upd_ne (ne b u e)]; exact e
  refine I.step (g' := s.gens) (d' := s.drawn) (ch := [a]) (fun b hb => ?_) (fun b u _ _ hc e _ => k b u (fun z => hc (by simp [z])) e) (fun b u _ _ hc e _ => ⟨u.slots, k b u (fun z => hc (by simp [z])) e⟩) (fun b u hc _ n => by rw [upd_ne (fun z => hc (by simp [z]))]; exact n)
    (fun b u hc e => ⟨u, k b u (fun z => hc (by simp [z])) e⟩) (fun b xs e => kp b _ e) (fun b u xs e => kp b _ e) (fun b ps e => ⟨#[], by rw [kp b _ e]; simp⟩) (fun m hm => ?_) (fun b u e => ?_) I.bare
  · have e : b = a := by simpa using hb
    subst e
    exact ⟨f.2.2.2.1, f.2.1, f.2.2.2.2.1, f.2.2.2.2.2⟩
  · obtain ⟨o', es, ep, ho, r⟩ := hm
    exact ⟨o', es, ep, k _ o' (Ne.symm f.2.1) ho, r⟩
  · by_cases hb : b = a
    · subst hb
      rw [upd_same] at e
      cases e
      exact new
    · rw [upd_ne hb] at e
      refine (I.hok b u e).stay (fun c v hc q => k c v ?_ q) (fun c q => ?_) fun c xs q => ?_
      · rcases hc with z | z
        · rw [z]; exact hb
        · exact ne c _ z
      · exact kp _ _ q
      · exact kp _ _ q
end
end L2

namespace L2
open PySem PySem.Spec PyProof.Rows
set_option autoImplicit false
set_option linter.all false

section
variable {X : Cx} {pins : List (Addr × Obj)} {σ : St} {H : Hp} {s : Shared} {A : Around} {E : Value → Shared → Prop}
end
end L2

namespace L2
open PySem PySem.Spec PyProof.Rows
set_option autoImplicit false
set_option linter.all false

section
variable {X : Cx} {pins : List (Addr × Obj)} {σ : St} {H : Hp} {s : Shared} {A : Around} {E : Value → Shared → Prop}
end
end L2

namespace L2
open PySem PySem.Spec PyProof.Rows
set_option autoImplicit false
set_option linter.all false

section
variable {X : Cx} {pins : List (Addr × Obj)} {σ : St} {H : Hp} {s : Shared} {A : Around}
end
end L2

namespace L2
open PySem PySem.Spec PyProof.Rows
set_option autoImplicit false
set_option linter.all false

/-! ### a lambda made -/
def CodeO (c : Addr) (qual : Str) : HO := .ext fun h => h.CodeRec (.ref c) qual
/-- the table of the def's code: the lambda's code is in it or not -/
def TabOk (P : Addr) (pos : Pos) (qual : Str) (H : Hp) : Prop := ∃ ps, H P = some (.tbl ps) ∧ TriplesOk ps.toList ∧ (codeAmong pos ps.toList = none ∨ ∃ c', codeAmong pos ps.toList = some (.ref c') ∧ H c' = some (CodeO c' qual))
/-- all but the table is as it was -/
def Grow (P : Addr) (H H' : Hp) : Prop := ∀ b o, b ≠ P → H b = some o → H' b = some o
theorem Grow.refl (P : Addr) (H : Hp) : Grow P H H := fun _ _ _ h => h
theorem Grow.trans {P : Addr} {H H1 H2 : Hp} (a : Grow P H H1) (b : Grow P H1 H2) : Grow P H H2 := fun c o n h => b c o n (a c o n h)
theorem TabOk.same {P : Addr} {pos : Pos} {qual : Str} {H H' : Hp} (t : TabOk P pos qual H) (h : Same H H') : TabOk P pos qual H' := by
  obtain ⟨ps, h1, h2, h3⟩ := t
  refine ⟨ps, h _ _ h1, h2, ?_⟩
  rcases h3 with h3 | ⟨c', h3, h4⟩
  · exact .inl h3
  · exact .inr ⟨c', h3, h _ _ h4⟩
/-- what the base says of the def's code c and its table P -/
structure LamB (base : Heap) (mg : Str → Option Value) (c P : Addr) : Prop where
  hd : PySem.W.CodeHd base c P
  blt : base.BuiltinsAt mg P
  ne : mainGlobals ≠ P
section
variable {X : Cx}
end
end L2

namespace L2
open PySem PySem.Spec PyProof.Rows
set_option autoImplicit false
set_option linter.all false

/-! ### range(n) as a value; sorted(range(n), key = lambda p: ..) -/
def tRngV (ta : TA) : TE := fun σ H Q => ta σ H fun vs H1 => ∃ n : Nat, vs = [.int n] ∧ n ≤ 1000 ∧ ∀ r, H1 r = none → Q (.ref r) (upd H1 r (.rng 0 n))
section
variable {X : Cx}
theorem pe_rngV {a : Expr} {ta : TA} {p pos : Pos} (hg : Gl X "range") (hm : X.mg "range" = none) (ha : PA X [a] ta) (hs : starEach [a] X.env = [(false, eval a X.env)] := by rfl) : PE X (.Call (.Name "range" p) [a] [] pos) (tRngV ta) := by
  intro pins s σ H Q I h
  refine Call_ (ld_blt I hg hm boot_range (PyProof.Rows.callWith_type1 (thn (ha pos pins s σ H _ I h) fun us s1 ⟨vs, H1, I1, r1, q1⟩ => ?_) hs rfl))
  obtain ⟨n, e, hn, q⟩ := q1
  subst e
  cases r1 with
  | cons r rr =>
    cases rr
    obtain ⟨t, rfl⟩ := r
    refine call_range_1 ?_
    have hf : H1 s1.heap.objs.size = none := I1.hok.fresh (Nat.le_refl _)
    exact ⟨.ref s1.heap.objs.size, upd H1 s1.heap.objs.size (.rng 0 n), I1.laid (fun b o e => Heap.get?_push_of_some _ e) (Nat.le_refl _) ⟨_, _, _, Heap.get?_push_size _ rfl⟩, rfl, q _ hf⟩

end
end L2

namespace L2
open PySem PySem.Spec PyProof.Rows
set_option autoImplicit false
set_option linter.all false

end L2

namespace L2
open PySem PySem.Spec PyProof.Rows
set_option autoImplicit false
set_option linter.all false

/-! ### an exception that leaves a def from a comprehension's block -/
section
variable {M : Model} {A : Around} {Er : Value → Shared → Prop} {s : Shared}
end
section
variable {P : Program} {w : World} {K : PySem.W.Frag} {mg : Str → Option Value} {base : Heap} {N : List Str} {qual : Str} {scope : Scope} {f : Addr} {cd : Value} {A : Around} {outer : List Env} {s : Shared} {H : Hp} {E : XK}
  {pins : List (Addr × Obj)} {σ : St} {H1 : Hp} {s1 : Shared}
end
end L2

namespace L2
open PySem PySem.Spec PyProof.Rows
set_option autoImplicit false
set_option linter.all false
section
variable {P : Program} {w : World} {K : PySem.W.Frag} {mg : Str → Option Value} {base : Heap} {N : List Str} {qual : Str} {scope : Scope} {f : Addr} {cd : Value} {A : Around} {outer : List Env} {s : Shared} {H : Hp} {E : XK}
  {pins : List (Addr × Obj)} {σ : St}
end
section
variable {P : Program} {w : World} {K : PySem.W.Frag} {mg : Str → Option Value} {base : Heap} {N : List Str} {qual : Str} {scope0 : Scope} {f : Addr} {cd : Value} {A : Around} {outer : List Env} {s0 : Shared} {H0 : Hp} {E : XK} {X : Cx}
end
end L2

namespace HT
open PySem PyProof.Rows
set_option autoImplicit false
set_option linter.all false
section
variable {prog : Program} {w : World} {A : Around} {E : Value → Shared → Prop} {s : Shared}
end
end HT
namespace L2
open PySem PySem.Spec PyProof.Rows
set_option autoImplicit false
set_option linter.all false
section
variable {X : Cx} {e st : Expr} {te ts : TE} {pos p2 : Pos}
/-- a row, then the others from a word of one's own -/
def tCut (t u : TS) : TS := fun D σ H => ∃ Mid : St → Hp → Prop, t { D with nx := Mid } σ H ∧ ∀ σ' H', Mid σ' H' → u D σ' H'
theorem pss_cut {stm : Stmt} {rest : List Stmt} {t u : TS} (h1 : PS X stm t) (h2 : PSs X rest u) : PSs X (stm :: rest) (tCut t u) := by
  intro pins s σ H D I ⟨Mid, h, k⟩
  refine wpAny_execs_cons (thn (h1 pins s σ H { D with nx := Mid } I h) fun f s1 q => ?_)
  cases f with
  | next =>
    obtain ⟨σ', H', I', q⟩ := q
    exact h2 pins s1 σ' H' D I' (k _ _ q)
  | ret v => exact q
  | brk => exact q
  | cont => exact q
end
end L2

namespace Web
open PySem L2
set_option autoImplicit false
set_option linter.all false
/-! ### pairs of places, as lists -/
def rowF (i m : Nat) : List (List Int) := (List.range m).map fun (d : Nat) => ([(i : Int), (i : Int) + 1 + (d : Int)] : List Int)
def pairsN (n : Nat) : List (List Int) := (List.range n).flatMap fun i => rowF i (n - (i + 1))
/-- a pair of places, the less first -/
def Up (n : Nat) (k : List Int) : Prop := ∃ i j : Nat, i < j ∧ j < n ∧ k = [(i : Int), (j : Int)]
theorem mem_pairs {n : Nat} {k : List Int} (h : k ∈ pairsN n) : Up n k := by
  unfold pairsN at h
  obtain ⟨i, hi, hk⟩ := List.mem_flatMap.mp h
  unfold rowF at hk
  obtain ⟨d, hd, rfl⟩ := List.mem_map.mp hk
  rw [List.mem_range] at hi hd
  exact ⟨i, i + 1 + d, by omega, by omega, by simp⟩
def Asc (ks : List (List Int)) : Prop := ks.Pairwise fun a b => Tim.lexB a b = true
theorem asc_row (i m : Nat) : Asc (rowF i m) := by
  unfold Asc rowF
  rw [List.pairwise_map]
  refine List.Pairwise.imp ?_ List.pairwise_lt_range
  intro a b hab
  unfold Tim.lexB
  rw [if_pos rfl]
  unfold Tim.lexB
  rw [if_neg (by omega)]
  exact decide_eq_true (by omega)
theorem asc_pairs (n : Nat) : Asc (pairsN n) := by
  unfold Asc pairsN
  rw [List.pairwise_flatMap]
  refine ⟨fun i _ => asc_row i _, ?_⟩
  refine List.Pairwise.imp ?_ List.pairwise_lt_range
  intro a b hab x hx y hy
  unfold rowF at hx hy
  obtain ⟨d, hd, rfl⟩ := List.mem_map.mp hx
  obtain ⟨e, he, rfl⟩ := List.mem_map.mp hy
  unfold Tim.lexB
  rw [if_neg (by omega)]
  exact decide_eq_true (by omega)
theorem len_pairs : ∀ n : Nat, n ≤ 24 → (pairsN n).length ≤ 276 := by decide +kernel
theorem pairs_succ (n i : Nat) : ((List.range (i + 1)).flatMap fun j => rowF j (n - (j + 1))) = ((List.range i).flatMap fun j => rowF j (n - (j + 1))) ++ rowF i (n - (i + 1)) := by
  rw [List.range_succ, List.flatMap_append]
  simp
theorem rowF_succ (i m : Nat) : rowF i (m + 1) = rowF i m ++ [[(i : Int), (i : Int) + 1 + (m : Int)]] := by
  unfold rowF
  rw [List.range_succ, List.map_append]
  rfl
theorem len_part (n : Nat) : ∀ i : Nat, i ≤ n → ((List.range i).flatMap fun j => rowF j (n - (j + 1))).length ≤ (pairsN n).length := by
  intro i hi
  unfold pairsN
  obtain ⟨d, rfl⟩ := Nat.exists_eq_add_of_le hi
  rw [List.range_add, List.flatMap_append, List.length_append]
  omega
theorem asc_nodup {ks : List (List Int)} (h : Asc ks) : ks.Nodup := by
  refine List.Pairwise.imp ?_ h
  intro a b hab e
  subst e
  rw [Tim.lexB_irr] at hab
  cases hab
theorem asc_sub {ks ls : List (List Int)} (h : ks.Sublist ls) (a : Asc ls) : Asc ks := List.Pairwise.sublist h a
/-- a tie turned up -/
def up : List Int → List Int
  | [a, b] => [if b < a then b else a, if b > a then b else a]
  | k => k
theorem up_up {n : Nat} {k : List Int} (h : Up n k) : up k = k := by
  obtain ⟨i, j, h1, h2, rfl⟩ := h
  show [if (j : Int) < i then (j : Int) else i, if (j : Int) > i then (j : Int) else i] = _
  rw [if_neg (by omega), if_pos (by omega)]
theorem Up.key {n : Nat} {k : List Int} (h : Up n k) (hn : n ≤ 24) : Sett.KeyOk k := by
  obtain ⟨i, j, h1, h2, rfl⟩ := h
  exact ⟨i, j, by omega, by omega, rfl⟩
theorem Up.len {n : Nat} {k : List Int} (h : Up n k) : k.length = 2 := by
  obtain ⟨i, j, h1, h2, rfl⟩ := h
  rfl
/-- two ends, told in either order -/
def Ends2 (n : Nat) (k : List Int) : Prop := ∃ i j : Nat, i < n ∧ j < n ∧ i ≠ j ∧ k = [(i : Int), (j : Int)]
theorem Ends2.up {n : Nat} {k : List Int} (h : Ends2 n k) : Up n (up k) := by
  obtain ⟨i, j, h1, h2, h3, rfl⟩ := h
  show Up n [if (j : Int) < i then (j : Int) else i, if (j : Int) > i then (j : Int) else i]
  by_cases h : i < j
  · rw [if_neg (by omega), if_pos (by omega)]
    exact ⟨i, j, h, h2, rfl⟩
  · rw [if_pos (by omega), if_neg (by omega)]
    exact ⟨j, i, by omega, h1, rfl⟩
theorem Up.ends {n : Nat} {k : List Int} (h : Up n k) : Ends2 n k := by
  obtain ⟨i, j, h1, h2, rfl⟩ := h
  exact ⟨i, j, by omega, h2, by omega, rfl⟩
end Web

namespace Web
open PySem L2
set_option autoImplicit false
set_option linter.all false
theorem sum_set : ∀ (xs : List Int) (i : Nat) (z : Int), xs[i]? = some z → (xs.set i (z + 1)).sum = xs.sum + 1
  | [], i, z, h => by simp at h
  | x :: xs, 0, z, h => by
    simp at h
    subst h
    simp only [List.set_cons_zero, List.sum_cons]
    omega
  | x :: xs, i + 1, z, h => by
    have := sum_set xs i z (by simpa using h)
    simp only [List.set_cons_succ, List.sum_cons]
    omega
end Web

namespace L2
open PySem PySem.Spec PyProof.Rows
set_option autoImplicit false
set_option linter.all false
section
variable {X : Cx}
end

end L2

namespace L2
open PySem PySem.Spec PyProof.Rows
set_option autoImplicit false
set_option linter.all false

/-! ### sorted(a list or tuple of ints), and with reverse -/
section
variable {X : Cx} {pins : List (Addr × Obj)} {σ : St} {H : Hp} {s : Shared} {A : Around} {E : Value → Shared → Prop}
theorem sorted_end (I : Inv X pins σ H s) {h1 : Heap} {vs : List Value} {out : Array Value} {zs : List Int} (kp : ∀ b o', s.heap.get? b = some o' → h1.get? b = some o') (hi : IntsAre out.toList zs) (hz : zs.length ≤ 1000) :
    H h1.objs.size = none ∧ Inv X pins σ (upd H h1.objs.size (.lst (zs.map V.int))) { s with heap := sortedHeap (h1.push (seqObj "list" vs.toArray 0)) h1.objs.size vs out } := by
  have I1 : Inv X pins σ H { s with heap := h1, toks := s.toks } := I.kept kp
  refine ⟨I1.hok.fresh (Nat.le_refl _), ?_⟩
  have hoL : (h1.push (seqObj "list" vs.toArray 0)).get? h1.objs.size = some (seqObj "list" vs.toArray 0) := Heap.get?_push_size _ rfl
  obtain ⟨e, he⟩ := sortedHeap_at (out := out) hoL
  refine I1.laid (t' := s.toks) (fun b o q => ?_) (Nat.le_refl _) ⟨by rw [List.length_map, sizeLine_eq]; omega, out.toList, e, vals_ints hi, by rw [Array.toArray_toList]; exact he⟩
  have hb : b < h1.objs.size := Heap.lt_size q
  rw [sortedHeap_old (Nat.ne_of_lt hb) (by rw [size_push']; exact Nat.lt_succ_of_lt hb)]
  exact Heap.get?_push_of_some _ q
end
section
variable {X : Cx}
end
end L2

namespace L2
open PySem PySem.Spec PyProof.Rows
set_option autoImplicit false
set_option linter.all false

/-! ### enumerate(a tuple), its pairs unpacked; sum(a list or tuple) -/
section
variable {prog : Program} {w : World} {A : Around} {E : Value → Shared → Prop} {s : Shared}
end
section
variable {prog : Program} {w : World} {A : Around} {E : Value → Shared → Prop} {s : Shared}
end
section
variable {X : Cx}
end
end L2

namespace L2
open PySem PySem.Spec PyProof.Rows
set_option autoImplicit false
set_option linter.all false
section
variable {X : Cx}
end
end L2

namespace L2
open PySem PySem.Spec PyProof.Rows
set_option autoImplicit false
set_option linter.all false
section
variable {X : Cx}
end
end L2

namespace L2
open PySem PySem.Spec PyProof.Rows
set_option autoImplicit false
set_option linter.all false

/-! ### range(a, b) as a value; list(range(a, b)) -/
def rngI (i : Int) (n : Nat) : List Int := (List.range' 0 n).map fun k : Nat => i + (k : Int)
theorem intsA_of (a : Int) : ∀ {vs : List Value} {n i : Nat}, vs.length = n → (∀ j v, vs[j]? = some v → ∃ t, v = Value.int (a + ((i + j : Nat) : Int)) t) → IntsAre vs ((List.range' i n).map fun k : Nat => a + (k : Int))
  | [], n, i, e, _ => by subst e; exact .nil
  | v :: vs, 0, i, e, _ => by cases e
  | v :: vs, n + 1, i, e, h => by
    obtain ⟨t, rfl⟩ := h 0 v rfl
    rw [List.range'_succ, List.map_cons]
    refine .cons _ t (intsA_of a (by simpa using e) fun j v hv => ?_)
    obtain ⟨t', e'⟩ := h (j + 1) v (by simpa using hv)
    exact ⟨t', by rw [e']; congr 2; omega⟩
section
variable {X : Cx}
theorem call_list_rng (hc : X.calm = true) : CallR X (.type "list") (fun xs H Q => ∃ (r : Addr) (i j : Int) (n : Nat), xs = [.ref r] ∧ H r = some (.rng i j) ∧ j - i = n ∧ n ≤ 1000 ∧ -1000 ≤ i ∧ i ≤ 1000 ∧ ∀ l, H l = none → Q (.ref l) (upd H l (.lst ((rngI i n).map V.int)))) := by
  intro pins s σ H xs us Q I r h
  obtain ⟨p, i, j, n, rfl, hq, hn, hn1, hi1, hi2, q⟩ := h
  obtain ⟨u, rfl, rx⟩ := vals1 r
  cases rx
  obtain ⟨t1, t2, t3, hr⟩ := I.hok p _ hq
  refine call_list_range (a := i) (b := j) (c := 1) (n := n) (I.ok.hd hc) hr (small_one (by omega) (by omega) (by omega) (by omega)) (by rw [rangeSize_one]; split <;> omega) (by omega) fun h' tk acc c' kp e hacc => ?_
  have hi : IntsAre acc.toList (rngI i n) := intsA_of i (by rw [Array.length_toList]; exact hacc.1) fun k v hk => by
    obtain ⟨t', e⟩ := hacc.2 k v (by rw [← Array.getElem?_toList]; exact hk)
    exact ⟨t', by rw [e]; simp⟩
  have hl : (rngI i n).length = n := by unfold rngI; rw [List.length_map, List.length_range']
  exact ⟨.ref s.heap.objs.size, _, I.laid (t' := tk) kp (Nat.le_refl _) (show ObjOk X.prog X.w _ h' _ (.lst ((rngI i n).map V.int)) from ⟨by rw [List.length_map, hl, sizeLine_eq]; omega, acc.toList, c', vals_ints hi, by rw [Array.toArray_toList]; exact e⟩), rfl, q _ (I.hok.fresh (Nat.le_refl _))⟩
end
/-! ### a comprehension over a range -/
theorem comp_range {lo : Int} {n : Nat} {D : Addr} {g : TG} {tt : TT} {te : TE} {Qd : Hp → Prop} {σ0 : St} {H0 : Hp} (Pv : Nat → List V → St → Hp → Prop) (h0 : Pv 0 [] σ0 H0) (hz : n ≤ sizeLine) (hl : ∀ i xs σ H, i ≤ n → Pv i xs σ H → H D = some (.lst xs) ∧ xs.length ≤ i)
    (hs : ∀ i xs σ H (N : List V → St → Hp → Prop), (∀ xs' σ' H', Pv (i + 1) xs' σ' H' → N xs' σ' H') → i < n → Pv i xs σ H → g (.int (lo + i)) σ H fun σ2 H2 => tt σ2 H2 fun b H3 => if b = true then te σ2 H3 fun v H4 => H4 D = some (.lst xs) ∧ N (xs ++ [v]) σ2 (upd H4 D (.lst (xs ++ [v]))) else N xs σ2 H3)
    (hd : ∀ xs σ H, Pv n xs σ H → Qd H) :
    ∃ W : Nat → Nat → List V → St → Hp → Prop, (∃ m, W 0 m [] σ0 H0) ∧ ∀ i m xs σ' H', W i m xs σ' H' → H' D = some (.lst xs) ∧ (((Itr lo n).stop i H' ∧ Qd H') ∨ ((Itr lo n).go i H' ∧ xs.length < sizeLine ∧ ∀ x H'', (Itr lo n).yld i H' x H'' → g x σ' H'' fun σ2 H2 => tt σ2 H2 fun b H3 =>
      if b = true then te σ2 H3 fun v H4 => H4 D = some (.lst xs) ∧ ∃ m', m' < m ∧ W (i + 1) m' (xs ++ [v]) σ2 (upd H4 D (.lst (xs ++ [v]))) else ∃ m', m' < m ∧ W (i + 1) m' xs σ2 H3)) := by
  refine ⟨fun i m xs σ H => m = n - i ∧ i ≤ n ∧ Pv i xs σ H, ⟨n, by simp, Nat.zero_le _, h0⟩, ?_⟩
  rintro i m xs σ H ⟨rfl, hi, p⟩
  obtain ⟨hD, hx⟩ := hl i xs σ H hi p
  refine ⟨hD, ?_⟩
  by_cases hlt : i < n
  · refine .inr ⟨hlt, by omega, fun x H'' y => ?_⟩
    obtain ⟨e, y⟩ := y
    subst e y
    exact hs i xs σ _ (fun zs σ' H' => ∃ m', m' < n - i ∧ m' = n - (i + 1) ∧ i + 1 ≤ n ∧ Pv (i + 1) zs σ' H') (fun zs σ' H' r => ⟨_, by omega, rfl, hlt, r⟩) hlt p
  · obtain rfl : i = n := by omega
    exact .inl ⟨Nat.le_refl _, hd xs σ H p⟩
end L2

namespace L2
open PySem PySem.Spec PyProof.Rows
set_option autoImplicit false
set_option linter.all false
section
variable {X : Cx}
end
end L2

namespace Web
set_option autoImplicit false
set_option linter.all false
end Web

namespace Web
set_option autoImplicit false
set_option linter.all false
end Web

namespace Web
set_option autoImplicit false
set_option linter.all false
/-! ### the told wall -/
inductive Wl where
  | below (p : Nat) | odd | wall (r : Nat) | free
  deriving DecidableEq
end Web

namespace Web
set_option autoImplicit false
set_option linter.all false
end Web

namespace Web
open PySem L2
set_option autoImplicit false
set_option linter.all false
/-- a wall of one of the three forms, with any number -/
inductive Wz where
  | odd | below (z : Int) | wall (z : Int)
end Web

namespace L2
open PySem PySem.Spec PyProof.Rows PySem.SeqAt
set_option autoImplicit false
set_option linter.all false
section
variable {X : Cx}
end
theorem pe_ixSK {X : Cx} {a b : Expr} {pos : Pos} {ta tb : TE} (K : PySem.W.Frag) (hK : X.K = K) (ha : PE X a ta) (hb : PE X b tb) (hs : PlainIx b) : PE X (.Subscript a b pos) (tOp (rIx K) ta tb) := by
  cases hK
  exact pe_ix ix_seq ha hb hs
end L2

namespace L2
open PySem PySem.Spec PyProof.Rows
set_option autoImplicit false
set_option linter.all false
section
variable {X : Cx}
end
end L2

namespace L2
open PySem PySem.Spec PyProof.Rows
set_option autoImplicit false
set_option linter.all false
section
variable {X : Cx}
end
end L2
namespace L2
open PySem PySem.Spec PyProof.Rows
end L2

namespace L2
open PySem PySem.Spec PyProof.Rows
set_option autoImplicit false
set_option linter.all false
section
variable {X : Cx}
end
end L2

namespace Web
set_option autoImplicit false
set_option linter.all false
/-! ### tables: cells, cells turned about -/
def ent (T : List (List Int)) (r c : Nat) : Int := (T.getD r []).getD c 0
def isSw (T : List (List Int)) (hi wi : Nat) (i j k l : Int) : Prop :=
  (0 ≤ i ∧ i < hi) ∧ (0 ≤ k ∧ k < hi) ∧ (0 ≤ j ∧ j < wi) ∧ (0 ≤ l ∧ l < wi) ∧ ent T i.toNat j.toNat = 1 ∧ ent T i.toNat l.toNat = 0 ∧ ent T k.toNat j.toNat = 0 ∧ ent T k.toNat l.toNat = 1
instance (T : List (List Int)) (hi wi : Nat) (i j k l : Int) : Decidable (isSw T hi wi i j k l) := by unfold isSw; infer_instance
section
variable {T : List (List Int)} {hi wi i j k l : Nat}
end
end Web

namespace L2
open PySem PySem.Spec PyProof.Rows
set_option autoImplicit false
set_option linter.all false
section
variable {X : Cx}
end
end L2

namespace L2
open PySem PySem.Spec PyProof.Rows
set_option autoImplicit false
set_option linter.all false
end L2

namespace L2
open PySem PySem.Spec PyProof.Rows PySem.SeqAt
set_option autoImplicit false
set_option linter.all false
/-! ### the keys of a dict, one after the other, by its entries -/
section
variable {prog : Program} {w : World} {A : Around} {E : Value → Shared → Prop} {s : Shared}
/-- at d stands a dict with these entries -/
def RawD (h : Heap) (d : Addr) (es : Array DictEntry) (ep : Nat) : Prop := ∃ o, h.get? d = some o ∧ o.ExactDict ∧ o.data = .dict es ep
theorem RawD.typeIs {d : Addr} {es : Array DictEntry} {ep : Nat} (x : RawD s.heap d es ep) : s.TypeIs (.ref d) "dict" := let ⟨o, ho, hc, _⟩ := x; ⟨o, ho, hc.1⟩
theorem RawD.at' {h h' : Heap} {d : Addr} {es : Array DictEntry} {ep : Nat} (x : RawD h d es ep) (e : ∀ o, h.get? d = some o → h'.get? d = some o) : RawD h' d es ep := let ⟨o, ho, r⟩ := x; ⟨o, e _ ho, r⟩
theorem raw_iter {d : Addr} {es : Array DictEntry} {ep : Nat} {Q : Value → Shared → Prop} (hd : (d == sysModules) = false) (hm : RawD s.heap d es ep)
    (hQ : Q (.ref s.heap.objs.size) { s with heap := s.heap.push { cls := .type "dict_keyiterator", data := .fields #[.ref d, .int 0 0, .int es.size 0, .int ep 0] } }) :
    wpAny (model prog w) A (pyIter (.ref d)) Q E s := by
  have hT := hm.typeIs
  obtain ⟨o, ho, hc, hdat⟩ := id hm
  refine wpAny_pyIter_slot hT PySem.F.slot_dict_iter (wpAny_call_entry PySem.F.slot_dict_iter hT PySem.F.entry_dict_iter ?_ (PySem.F.args_dict_iter_1 _))
  unfold Builtin.«dict.__iter__»
  refine wpAny_bind ?_
  unfold Builtin.Dict.dictSlotNone
  refine wpAny_bind (wpAny_notOrdered_dict hT ?_)
  show wpAny _ _ (pure (Value.ref d)) _ _ s
  refine wpAny_pure ?_
  show wpAny _ _ (Builtin.Dict.showsAll d >>= _) _ _ s
  unfold Builtin.Dict.showsAll
  rw [if_neg (by rw [hd]; exact Bool.false_ne_true)]
  refine wpAny_bind (wpAny_pure ?_)
  refine wpAny_bind (wpAny_dictEntries ho hdat ?_)
  refine wpAny_bind (wpAny_dictEpoch ho hdat ?_)
  refine wpAny_bind (wpAny_newObj_type (wpAny_pure ⟨_, rfl, "dict_keyiterator", _, ⟨_, Heap.get?_push_size _ rfl, rfl⟩, PySem.F.slot_dict_keyiterator_next.lookup, ?_⟩))
  simpa [rawInt] using hQ
theorem raw_next {it d : Addr} {i ep : Nat} {es : Array DictEntry} {e : DictEntry} {Q : Option Value → Shared → Prop} (hit : s.heap.IsKeyIter it d i es.size ep)
    (hm : RawD s.heap d es ep) (hx : es[i]? = some e) (hQ : ∀ h', h'.IsKeyIter it d (i + 1) es.size ep → Heap.SameBut it s.heap h' → Q (some e.key) { s with heap := h' }) :
    wpAny (model prog w) A (pyNext (.ref it)) Q E s := by
  obtain ⟨o, ho, hc, hd⟩ := id hit
  obtain ⟨od, hod, hcd, hdd⟩ := id hm
  unfold pyNext
  refine wpAny_bind (wpAny_attempt (wpAny_callSpecial?_slot (name := Str.ofString "__next__") hit.typeIs PySem.F.slot_dict_keyiterator_next
    (wpAny_call_entry PySem.F.slot_dict_keyiterator_next hit.typeIs PySem.F.entry_dict_keyiterator_next ?_ (PySem.F.args_dict_keyiterator_next_1 _))))
  refine wpAny_bind (wpAny_pure ?_)
  refine wpAny_bind ?_
  refine wpAny_bind ?_
  first | refine wpAny_bind (wpAny_typeNameOfWhole_keyiter hit.typeIs (wpAny_pure ?_)) | refine wpAny_bind (wpAny_typeNameOf_keyiter hit.typeIs (wpAny_pure ?_))
  refine wpAny_bind (wpAny_fieldsOf ho hd ?_)
  have hown : Builtin.Dict_items.ownsTuple "dict_keyiterator" = false := by decide
  simp only [hown, Bool.false_eq_true, if_false]
  show wpAny _ _ (if (Value.ref d == Value.none) = true then _ else _) _ _ s
  rw [if_neg (show ¬ ((Value.ref d == Value.none) = true) from Bool.false_ne_true)]
  refine wpAny_bind (wpAny_pure ?_)
  refine wpAny_bind (wpAny_dictEntries hod hdd ?_)
  rw [if_neg (by simp)]
  refine wpAny_bind (wpAny_pure ?_)
  refine wpAny_bind (wpAny_dictEpoch hod hdd ?_)
  rw [if_neg (by simp)]
  refine wpAny_pure ?_
  simp only [show ¬ ((i : Int) < 0) from by omega, if_false, Int.toNat_natCast, hx]
  refine wpAny_bind ?_
  first | refine wpAny_bind (wpAny_typeNameOfWhole_keyiter hit.typeIs (wpAny_pure ?_)) | refine wpAny_bind (wpAny_typeNameOf_keyiter hit.typeIs (wpAny_pure ?_))
  refine wpAny_bind (wpAny_isOneOf_keyiter hit.typeIs ?_)
  show wpAny _ _ (setField (.ref it) 1 (rawInt ((i : Int) + 1)) >>= _) _ _ s
  refine wpAny_bind (wpAny_setField ho hd (by simp) ?_)
  have hit' : (s.heap.update it (Obj.mapFields (·.setIfInBounds 1 (rawInt ((i : Int) + 1))))).IsKeyIter it d (i + 1) es.size ep :=
    ⟨_, Heap.get?_update_self _ ho (Obj.isFreed_of_fields (Obj.data_mapFields hd _)), (Obj.cls_mapFields ..).trans hc, by rw [Obj.data_mapFields hd]; simp [rawInt]⟩
  refine wpAny_bind (wpAny_holding ?_)
  refine wpAny_bind (wpAny_isOneOf_keyiter (s := { s with heap := s.heap.update it (Obj.mapFields (·.setIfInBounds 1 (rawInt ((i : Int) + 1)))) }) hit'.typeIs ?_)
  show wpAny _ _ (pure e.key) _ _ _
  exact wpAny_pure (wpAny_pure ⟨_, rfl, wpAny_pure (hQ _ hit' (Heap.SameBut.update ..))⟩)
theorem raw_end {it d : Addr} {i ep : Nat} {es : Array DictEntry} {Q : Option Value → Shared → Prop} (hh : A.handled = none) (hit : s.heap.IsKeyIter it d i es.size ep)
    (hm : RawD s.heap d es ep) (hx : es.size ≤ i) (hQ : ∀ h', Heap.ExtBut it s.heap h' → Q none { s with heap := h' }) : wpAny (model prog w) A (pyNext (.ref it)) Q E s := by
  obtain ⟨o, ho, hc, hd⟩ := id hit
  obtain ⟨od, hod, hcd, hdd⟩ := id hm
  unfold pyNext
  refine wpAny_bind (wpAny_attempt (wpAny_callSpecial?_slot (name := Str.ofString "__next__") hit.typeIs PySem.F.slot_dict_keyiterator_next
    (wpAny_call_entry PySem.F.slot_dict_keyiterator_next hit.typeIs PySem.F.entry_dict_keyiterator_next ?_ (PySem.F.args_dict_keyiterator_next_1 _))))
  refine wpAny_bind (wpAny_pure ?_)
  refine wpAny_bind ?_
  refine wpAny_bind ?_
  first | refine wpAny_bind (wpAny_typeNameOfWhole_keyiter hit.typeIs (wpAny_pure ?_)) | refine wpAny_bind (wpAny_typeNameOf_keyiter hit.typeIs (wpAny_pure ?_))
  refine wpAny_bind (wpAny_fieldsOf ho hd ?_)
  have hown : Builtin.Dict_items.ownsTuple "dict_keyiterator" = false := by decide
  simp only [hown, Bool.false_eq_true, if_false]
  show wpAny _ _ (if (Value.ref d == Value.none) = true then _ else _) _ _ s
  rw [if_neg (show ¬ ((Value.ref d == Value.none) = true) from Bool.false_ne_true)]
  refine wpAny_bind (wpAny_pure ?_)
  refine wpAny_bind (wpAny_dictEntries hod hdd ?_)
  rw [if_neg (by simp)]
  refine wpAny_bind (wpAny_pure ?_)
  refine wpAny_bind (wpAny_dictEpoch hod hdd ?_)
  rw [if_neg (by simp)]
  refine wpAny_pure ?_
  simp only [show ¬ ((i : Int) < 0) from by omega, if_false, Int.toNat_natCast, Array.getElem?_eq_none hx]
  refine wpAny_bind ?_
  first | refine wpAny_bind (wpAny_typeNameOfWhole_keyiter hit.typeIs (wpAny_pure ?_)) | refine wpAny_bind (wpAny_typeNameOf_keyiter hit.typeIs (wpAny_pure ?_))
  show wpAny _ _ (setField (.ref it) 0 .none >>= _) _ _ s
  refine wpAny_bind (wpAny_setField ho hd (by simp) ?_)
  show wpAny _ _ (newExc (.type "StopIteration") [] >>= _) _ _ _
  refine wpAny_bind ?_
  simp only [newExc, newTuple]
  refine wpAny_bind (wpAny_newObj_type ?_ (by size_fits))
  refine wpAny_bind (m := firstArgMember _ _) (wpAny_of_eq (a := Value.none) (by first | rfl | (simp only [firstArgMember]; rfl)) ?_)
  refine wpAny_newObj_type ?_ (by size_fits)
  simp only [raiseNew]
  refine wpAny_bind (wpAny_handled ?_)
  rw [show A.in1.handled = none from hh]
  refine wpAny_bind (wpAny_pure (wpAny_throw ?_))
  refine wpAny_bind (wpAny_isInstance (T := "StopIteration") (b := true) ⟨_, Heap.get?_push_size _ rfl, rfl⟩ isSubtype_stop ?_)
  exact wpAny_pure (hQ _ (((Heap.SameBut.update ..).extBut.push _).push _))
theorem raw_walk (hh : A.handled = none) (I d : Addr) (hne : d ≠ I) (es : Array DictEntry) (ep : Nat) :
    Walks prog w A I [I, d] [I] es.size (fun i v => ∃ e, es[i]? = some e ∧ v = e.key) (fun i h => h.IsKeyIter I d i es.size ep ∧ RawD h d es ep) where
  sub := fun b hb => by simp at hb; simp [hb]
  frame := fun _ _ _ st hk => ⟨st.1.at fun o e => hk I (by simp) o e, st.2.at' fun o e => hk d (by simp) o e⟩
  item := fun i s Q E hi st hQ => by
    obtain ⟨e, hx⟩ : ∃ e, es[i]? = some e := ⟨es[i], by simp [hi]⟩
    refine raw_next st.1 st.2 hx fun h' hit' hs' => ?_
    exact hQ e.key h' s.toks ⟨e, hx, rfl⟩ ⟨hit', st.2.at' fun o q => hs'.extBut d o hne q⟩ fun b o hb q => hs'.extBut b o (fun h => hb (by simp [h])) q
  done := fun s Q E st hQ => raw_end hh st.1 st.2 (Nat.le_refl _) fun h' he' => hQ h' s.toks fun b o hb e => he' b o (fun h => hb (by simp [h])) e
  self := fun _ _ _ _ st hQ => wpAny_pyIter_keyiter st.1 hQ
end
end L2

namespace L2
open PySem PySem.Spec PyProof.Rows PySem.SeqAt
set_option autoImplicit false
set_option linter.all false
/-! ### list(a dict) -/
section
variable {prog : Program} {w : World} {A : Around} {E : Value → Shared → Prop} {s : Shared}
theorem raw_hint {d : Addr} {es : Array DictEntry} {ep : Nat} {Q : Bool → Shared → Prop} (hr : RawD s.heap d es ep) (h : Q false s) : wpAny (model prog w) A (Builtin.List.listLengthHint (.ref d)) Q E s := by
  have hT := hr.typeIs
  unfold Builtin.List.listLengthHint
  refine wpAny_bind (wpAny_specialOf hT PySem.F.slot_dict_len.lookup ?_)
  generalize hid : ("dict.__len__" : String) = id0
  wp_delta
  rw [show splitId id0 = some ("dict", "__len__") from by subst hid; decide +kernel]
  subst hid
  refine wpAny_bind (wpAny_isInstance (T := "dict") (b := true) hT (by rw [isSubtype_type]; kernel_rfl) ?_)
  refine wpAny_ite_split (fun hab => absurd hab (by decide)) (fun _ => ?_)
  refine wpAny_ite_split (fun _ => ?_) (fun hab => absurd (by decide +kernel) hab)
  refine wpAny_bind (wpAny_typeOf hT ?_)
  exact wpAny_pure h
theorem raw_extend {R : Result → Shared → Prop} {d : Addr} {es : Array DictEntry} {ep : Nat} (hh : A.handled = none) (hd : (d == sysModules) = false) (hr : RawD s.heap d es ep) (hlen : es.size ≤ sizeLine) (S : Addr) (res : Value) (c₀ : Nat) (hS : s.heap.get? S = some { cls := .type "list", data := .seq #[] c₀ })
    (hR : ∀ h' tk acc' c', (∀ b o, b ≠ S → s.heap.get? b = some o → h'.get? b = some o) → h'.get? S = some { cls := .type "list", dict := none, data := .seq acc' c', slots := #[] } →
      ItemsOf (fun i v => ∃ e, es[i]? = some e ∧ v = e.key) acc' es.size → R (.ok (.ret res)) { s with heap := h', toks := tk }) :
    wpAny (model prog w) A.in1 (Builtin.List.listExtendWith (.ref S) (.ref d) res)
      (fun fin s' => match fin with | .done f => R (.ok f) s' | .again c' => c'.quiet = true ∧ codeAny (model prog w) A c' R s') (fun e s' => R (.error e) s') s := by
  have hSd : S ≠ d := fun e => by
    obtain ⟨o, ho, _, hx⟩ := hr
    rw [e, ho] at hS
    cases hS
    cases hx
  have hdlt : d < s.heap.objs.size := let ⟨o, ho, _⟩ := hr; Heap.lt_size ho
  have hSlt : S < s.heap.objs.size := Heap.lt_size hS
  have hSI : S ≠ s.heap.objs.size := Nat.ne_of_lt hSlt
  have hSf : S ∉ [s.heap.objs.size, d] := fun hm => by
    rcases List.mem_cons.mp hm with e | e
    · exact hSI e
    · exact hSd (List.mem_singleton.mp e)
  have W := (raw_walk (prog := prog) (w := w) (A := A.in1) hh s.heap.objs.size d (Nat.ne_of_lt hdlt) es ep).toS
  have key : ∀ (h : Heap) (c₁ tk : Nat), h.IsKeyIter s.heap.objs.size d 0 es.size ep → RawD h d es ep → (∀ b o, b ≠ S → s.heap.get? b = some o → h.get? b = some o) →
      h.get? S = some { cls := .type "list", data := .seq #[] c₁ } → codeAny (model prog w) A (.builtin "list.extend.loop" ⟨[.ref S, .ref s.heap.objs.size, res], []⟩) R { s with heap := h, toks := tk } := by
    intro h c₁ tk hit hr1 hk hS₁
    refine codeAny_extend_loopS W hlen S hSf res es.size 0 _ #[] c₁ rfl (Nat.zero_le _) ⟨hit, hr1⟩ hS₁ (ItemsOf.nil _) fun s' acc' c' hm hS' hacc => ?_
    rw [Moved.eq_with hm]
    refine hR s'.heap s'.toks acc' c' (fun b o hb e => hm.heap b o (fun hmem => ?_) (hk b o hb e)) hS' hacc
    rcases List.mem_cons.mp hmem with e' | hmem
    · exact hb e'
    · exact absurd (Heap.lt_size e) (by rw [List.mem_singleton.mp hmem]; exact Nat.lt_irrefl _)
  unfold Builtin.List.listExtendWith
  refine wpAny_bind (wpAny_typeOf hr.typeIs ?_)
  have h1 : Builtin.List.listSameRef (.ref S) (.ref d) = false := by simp [Builtin.List.listSameRef, hSd]
  have h2 : (Value.type "dict" == Value.type "list") = false := by decide
  have h3 : (Value.type "dict" == Value.type "tuple") = false := by decide
  simp only [h1, h2, h3, Bool.or_false, Bool.false_eq_true, if_false]
  refine wpAny_bind (raw_iter hd hr ?_)
  have hr₁ : RawD (s.heap.push { cls := .type "dict_keyiterator", data := .fields #[.ref d, .int 0 0, .int es.size 0, .int ep 0] }) d es ep := hr.at' fun o e => Heap.get?_push_of_some _ e
  refine wpAny_bind (wpAny_holding (raw_hint hr₁ ?_))
  have hit₁ : (s.heap.push { cls := .type "dict_keyiterator", data := .fields #[.ref d, .int 0 0, .int es.size 0, .int ep 0] }).IsKeyIter s.heap.objs.size d 0 es.size ep := ⟨_, Heap.get?_push_size _ rfl, rfl, rfl⟩
  have hS₁ := Heap.get?_push_of_some { cls := .type "dict_keyiterator", data := .fields #[.ref d, .int 0 0, .int es.size 0, .int ep 0] } hS
  refine wpAny_ite_split (fun _ => ?_) (fun _ => wpAny_pure ⟨plainId_quiet PySem.F.plain_extend_loop _, key _ c₀ _ hit₁ hr₁ (fun b o _ e => Heap.get?_push_of_some _ e) hS₁⟩)
  refine wpAny_bind (wpAny_rule ?_)
  refine wpAny_bind ?_
  show wpAny _ _ (updateSeq S (·.push .none) >>= fun _ => updateSeq S (·.pop)) _ _ _
  refine wpAny_bind (wpAny_updateSeq hS₁ rfl ?_)
  have hS₂ := Heap.get?_update_self (Obj.mapSeq (·.push Value.none)) hS₁ rfl
  refine wpAny_updateSeq (hz := by seq_fits) hS₂ rfl ?_
  have hS₃ := Heap.get?_update_self (Obj.mapSeq (·.pop)) hS₂ rfl
  have oth : ∀ b o, b ≠ S → (s.heap.push { cls := .type "dict_keyiterator", data := .fields #[.ref d, .int 0 0, .int es.size 0, .int ep 0] }).get? b = some o → (((s.heap.push { cls := .type "dict_keyiterator", data := .fields #[.ref d, .int 0 0, .int es.size 0, .int ep 0] }).update S (Obj.mapSeq (·.push Value.none))).update S (Obj.mapSeq (·.pop))).get? b = some o := fun b o hb e =>
    (Heap.get?_update_other _ _ (Ne.symm hb)).trans ((Heap.get?_update_other _ _ (Ne.symm hb)).trans e)
  refine wpAny_pure ⟨plainId_quiet PySem.F.plain_extend_loop _, key _ _ _ (hit₁.at fun o e => oth _ _ (Ne.symm hSI) e) (hr₁.at' fun o e => oth _ _ (Ne.symm hSd) e) (fun b o hb e => oth b o hb (Heap.get?_push_of_some _ e)) hS₃⟩
end
section
variable {X : Cx}
end
end L2

namespace L2
open PySem PySem.Spec PyProof.Rows PySem.SeqAt
set_option autoImplicit false
set_option linter.all false
/-! ### all(a list of bools), a_tuple.count(a number), set(a tuple of numbers) and its len -/
section
variable {X : Cx}
end
section
variable {prog : Program} {w : World} {A : Around} {E : Value → Shared → Prop} {s : Shared}
end
section
variable {X : Cx}
end
end L2

namespace L2
open PySem PySem.Spec PyProof.Rows PySem.SeqAt
set_option autoImplicit false
set_option linter.all false
/-! ### a method of a tuple that was made here: it is known to have no dict of its own -/
def Fz (H : Hp) (p : Addr) (xs : List V) : Prop := ∃ o : Obj, H p = some (.frz o (.tup xs)) ∧ o.cls = .type "tuple" ∧ o.dict = none
theorem Fz.same {H H' : Hp} {p : Addr} {xs : List V} (h : Fz H p xs) (s : Same H H') : Fz H' p xs := let ⟨o, e, r⟩ := h; ⟨o, s _ _ e, r⟩
section
variable {X : Cx}
end
end L2

namespace L2
open PySem PySem.Spec PyProof.Rows
set_option autoImplicit false
set_option linter.all false
section
variable {X : Cx}
end
end L2

namespace L2
open PySem PySem.Spec PyProof.Rows PySem.SeqAt
set_option autoImplicit false
set_option linter.all false
/-! ### sorted(a dict whose keys are numbers) -/
section
variable {prog : Program} {w : World} {A : Around} {E : Value → Shared → Prop} {s : Shared}
theorem raw_collect {Q : List Value → Shared → Prop} {d : Addr} {es : Array DictEntry} {ep : Nat} (hh : A.handled = none) (hd : (d == sysModules) = false) (hr : RawD s.heap d es ep) (hlen : es.size ≤ sizeLine)
    (hQ : ∀ h' tk acc', (∀ b o, s.heap.get? b = some o → h'.get? b = some o) → ItemsOf (fun i v => ∃ e, es[i]? = some e ∧ v = e.key) acc' es.size → Q acc'.toList { s with heap := h', toks := tk }) :
    wpAny (model prog w) A (collect (.ref d)) Q E s := by
  unfold collect
  refine wpAny_bind (wpAny_runValue (codeAny_builtin PySem.F.entry_proto_collect ?_))
  rw [Around.under_plainId PySem.F.plain_proto_collect _]
  show wpAny _ A.in1 (newList [] >>= fun l => again (.builtin "list.__iadd__" ⟨[l, .ref d], []⟩)) _ _ s
  refine wpAny_bind (wpAny_newObj_type ?_)
  refine wpAny_pure ⟨plainId_quiet PySem.F.plain_list_iadd _, codeAny_builtin PySem.F.entry_list_iadd ?_⟩
  rw [Around.under_plainId PySem.F.plain_list_iadd _]
  have hS : (s.heap.push { cls := .type "list", data := .seq ([] : List Value).toArray }).get? s.heap.objs.size = some { cls := .type "list", data := .seq ([] : List Value).toArray } := Heap.get?_push_size _ rfl
  have hr₁ : RawD (s.heap.push { cls := .type "list", data := .seq ([] : List Value).toArray }) d es ep := hr.at' fun o e => Heap.get?_push_of_some _ e
  show wpAny _ A.in1 (Builtin.List.listExtendWith (.ref s.heap.objs.size) (.ref d) (.ref s.heap.objs.size)) _ _ _
  refine raw_extend (A := A) (s := { s with heap := s.heap.push { cls := .type "list", data := .seq ([] : List Value).toArray } }) (R := fun r s' => match r with
    | .ok (.ret v) => wpAny (model prog w) A (match v with
      | .ref a => do
        let o ← load a
        match o.data with
        | .seq xs _ => pure xs.toList
        | _ => unsupported "internal:collect"
      | _ => unsupported "internal:collect") Q E s'
    | .ok _ => False
    | .error e => E e s') hh hd hr₁ hlen _ _ 0 hS fun h' tk acc' c' hk hS' hacc => ?_
  show wpAny _ A (load s.heap.objs.size >>= _) _ _ _
  refine wpAny_bind (wpAny_load hS' ?_)
  exact wpAny_pure (hQ h' tk acc' (fun b o e => hk b o (Nat.ne_of_lt (Heap.lt_size e)) (Heap.get?_push_of_some _ e)) hacc)
end
theorem key_int {P : Program} {w : World} {n : Int} {v : Value} (h : (mixKind P w).is (.inl n) v = true) : ∃ t, v = .int n t := by
  rcases keyIs_shape (show keyIs (.inl n) v = true from h) with ⟨i, t, e, rfl⟩ | ⟨x, t, e, _⟩
  · cases e; exact ⟨t, rfl⟩
  · cases e
theorem pairs_ints {P : Program} {w : World} : ∀ {es : List DictEntry} {kvs : List (Key × Value)} {ns : List Int}, Pairs (mixKind P w) es kvs → kvs.map (·.1) = ns.map Sum.inl → IntsAre (es.map (·.key)) ns
  | _, _, [], .nil, _ => .nil
  | _, _, n :: ns, .cons hk _ t, e => by
    rw [List.map_cons, List.map_cons] at e
    injection e with e1 e2
    rw [e1] at hk
    obtain ⟨u, hu⟩ := key_int hk
    rw [List.map_cons, hu]
    exact .cons n u (pairs_ints t e2)
  | _, _, _ :: _, .nil, e => by simp at e
  | _, _, [], .cons _ _ _, e => by simp at e
theorem items_keys {es : Array DictEntry} {acc : Array Value} (h : ItemsOf (fun i v => ∃ e, es[i]? = some e ∧ v = e.key) acc es.size) : acc.toList = es.toList.map (·.key) := by
  apply List.ext_getElem?
  intro i
  rw [Array.getElem?_toList, List.getElem?_map, Array.getElem?_toList]
  cases e : acc[i]? with
  | none =>
    have : acc.size ≤ i := by simpa using e
    have h1 : es.size ≤ i := by have := h.1; omega
    rw [Array.getElem?_eq_none h1]; rfl
  | some v =>
    obtain ⟨en, he, rfl⟩ := h.2 i v e
    rw [he]; rfl
section
variable {X : Cx}
/-- sorted(a dict whose keys are numbers) -/
theorem call_sortD (hc : X.calm = true) : CallR X (.builtin "sorted") (fun xs H Q => ∃ (d : Addr) (kvs : List (Key × V)) (ns : List Int), xs = [.ref d] ∧ H d = some (.dK kvs) ∧ kvs.map (·.1) = ns.map Sum.inl ∧ ns.length < 64 ∧
    ∀ (l : Addr) (zs : List Int), H l = none → zs.Perm ns → zs.Pairwise (· ≤ ·) → Q (.ref l) (upd H l (.lst (zs.map V.int)))) := by
  intro pins s σ H xs us Q I r h
  obtain ⟨d, kvs, ns, rfl, hH, hk, h64, q⟩ := h
  obtain ⟨u, rfl, rx⟩ := vals1 r
  cases rx
  obtain ⟨z, hd, vs, rel, o, es, ep, h1, h2, h3, h4, h5, h6⟩ := dk_of I.hok hH
  have hI : IntsAre (es.toList.map (·.key)) ns := pairs_ints h5 (by rw [← rel.keys]; exact hk)
  have hlen : (es.toList.map (·.key)).length = ns.length := hI.length
  have hsz : es.size = ns.length := by rw [← hlen, List.length_map, Array.length_toList]
  refine Calls.call_function_entry kind_sorted plain_sorted entry_sorted (args_sorted1 _) ?_
  unfold Builtin.«sorted»
  refine wpAny_bind (m := checkCount "sorted" 1 1 _) (wpAny_pure ?_)
  refine wpAny_bind (raw_collect (I.ok.hd hc) hd ⟨o, h1, h2, h3⟩ (by rw [sizeLine_eq]; omega) fun h' tk acc kp hacc => ?_)
  rw [items_keys hacc]
  generalize es.toList.map (·.key) = ks at hI hlen
  refine wpAny_bind (wpAny_newList ?_ (by rw [sizeLine_eq]; omega))
  have hoL : (h'.push (seqObj "list" ks.toArray 0)).get? h'.objs.size = some (seqObj "list" ks.toArray 0) := Heap.get?_push_size _ rfl
  refine wpAny_bind (wpAny_holding (wpAny_call_entry slot_list_sort (s := { s with heap := h'.push (seqObj "list" ks.toArray 0), toks := tk }) ⟨_, hoL, rfl⟩ entry_list_sort (list_sort_tree (s := { s with heap := h'.push (seqObj "list" ks.toArray 0), toks := tk }) hoL hI (by omega) fun out ns' a1 a2 a3 => ⟨_, rfl, ?_⟩) (args_list_sort _)))
  obtain ⟨e1, e2⟩ := sorted_end (vs := ks) (I.tok tk) kp a1 (by rw [a2.length_eq]; omega)
  exact wpAny_pure ⟨_, rfl, .ref _, _, e2, rfl, q _ ns' e1 a2 a3⟩
end
end L2

namespace Web
open PySem L2
set_option autoImplicit false
set_option linter.all false
theorem up_comm (a b : Int) : up [a, b] = up [b, a] := by
  show [(if b < a then b else a), (if b > a then b else a)] = [(if a < b then a else b), (if a > b then a else b)]
  rcases Int.lt_trichotomy a b with h | h | h
  · rw [if_neg (by omega), if_pos (by omega), if_pos (by omega), if_neg (by omega)]
  · subst h; rfl
  · rw [if_pos (by omega), if_neg (by omega), if_neg (by omega), if_pos (by omega)]
theorem up_lt {a b : Int} (h : a < b) : up [a, b] = [a, b] := by
  show [(if b < a then b else a), (if b > a then b else a)] = _
  rw [if_neg (by omega), if_pos (by omega)]
def nb1 (x : Nat) : List Int → List Int
  | [i, j] => (if i = (x : Int) then [j] else []) ++ (if j = (x : Int) then [i] else [])
  | _ => []
def nbF (ks : List (List Int)) (x : Nat) : List Int := ks.flatMap (nb1 x)
theorem mem_nbF {n : Nat} {ks : List (List Int)} (hU : ∀ k ∈ ks, Up n k) (x : Nat) (y : Int) : y ∈ nbF ks x ↔ ∃ Y : Nat, Y < n ∧ y = (Y : Int) ∧ up [(x : Int), (Y : Int)] ∈ ks := by
  unfold nbF
  rw [List.mem_flatMap]
  constructor
  · rintro ⟨k, hk, hy⟩
    obtain ⟨i, j, hij, hj, rfl⟩ := hU k hk
    rcases List.mem_append.mp hy with h | h
    · split at h
      · rename_i e
        rw [List.mem_singleton.mp h]
        refine ⟨j, hj, rfl, ?_⟩
        rw [← e, up_lt (by omega)]
        exact hk
      · cases h
    · split at h
      · rename_i e
        rw [List.mem_singleton.mp h]
        refine ⟨i, by omega, rfl, ?_⟩
        rw [← e, up_comm, up_lt (by omega)]
        exact hk
      · cases h
  · rintro ⟨Y, hY, rfl, h⟩
    refine ⟨_, h, ?_⟩
    obtain ⟨i, j, hij, hj, e⟩ := hU _ h
    rcases Nat.lt_trichotomy x Y with z | z | z
    · rw [up_lt (by omega)]
      refine List.mem_append_left _ ?_
      rw [if_pos rfl]
      exact List.mem_singleton.mpr rfl
    · subst z
      have : up [(x : Int), (x : Int)] = [(x : Int), (x : Int)] := by show [(if (x : Int) < x then (x : Int) else x), (if (x : Int) > x then (x : Int) else x)] = _; simp
      rw [this] at e
      injection e with e1 e2
      injection e2 with e2
      omega
    · rw [up_comm, up_lt (by omega)]
      refine List.mem_append_right _ ?_
      rw [if_pos rfl]
      exact List.mem_singleton.mpr rfl
/-- lists of neighbours, each its own -/
structure NN (H : Hp) (a : Addr) (ps : List Addr) (T : Nat → List Int) (n : Nat) : Prop where
  lst : H a = some (.lst (ps.map V.ref))
  len : ps.length = n
  row : ∀ (i : Nat) (p : Addr), ps[i]? = some p → H p = some (.lst ((T i).map V.int))
  nd : ps.Nodup
  out : a ∉ ps
theorem NN.same {H H' : Hp} {a : Addr} {ps : List Addr} {T : Nat → List Int} {n : Nat} (h : NN H a ps T n) (s : Same H H') : NN H' a ps T n := ⟨s _ _ h.lst, h.len, fun i p e => s _ _ (h.row i p e), h.nd, h.out⟩
theorem NN.at {H : Hp} {a : Addr} {ps : List Addr} {T : Nat → List Int} {n i : Nat} (h : NN H a ps T n) (hi : i < n) : ∃ p, ps[i]? = some p ∧ H p = some (.lst ((T i).map V.int)) ∧ (ps.map V.ref)[i]? = some (.ref p) := by
  have hl : i < ps.length := by rw [h.len]; exact hi
  exact ⟨ps[i], List.getElem?_eq_getElem hl, h.row i _ (List.getElem?_eq_getElem hl), by rw [List.getElem?_map, List.getElem?_eq_getElem hl]; rfl⟩
theorem nodup_at {ps : List Addr} (h : ps.Nodup) {i j : Nat} {p : Addr} (h1 : ps[i]? = some p) (h2 : ps[j]? = some p) : i = j := by
  have hi : i < ps.length := by
    rcases Nat.lt_or_ge i ps.length with l | l
    · exact l
    · rw [List.getElem?_eq_none l] at h1; cases h1
  exact (List.getElem?_inj hi h).mp (h1.trans h2.symm)
theorem NN.put {H : Hp} {a p : Addr} {ps : List Addr} {T : Nat → List Int} {n r : Nat} (h : NN H a ps T n) (hp : ps[r]? = some p) (l : List Int) : NN (upd H p (.lst (l.map V.int))) a ps (fun i => if i = r then l else T i) n := by
  have hpa : a ≠ p := fun z => h.out (by rw [z]; exact List.mem_of_getElem? hp)
  refine ⟨by rw [upd_ne hpa]; exact h.lst, h.len, fun i q e => ?_, h.nd, h.out⟩
  by_cases hi : i = r
  · subst hi
    rw [hp] at e
    cases e
    rw [if_pos rfl]
    exact upd_same
  · have hq : q ≠ p := fun z => hi (nodup_at h.nd (by rw [z] at e; exact e) hp)
    rw [upd_ne hq, if_neg hi]
    exact h.row i q e
theorem nb1_len (x : Nat) (k : List Int) : (nb1 x k).length ≤ 2 := by
  unfold nb1
  split
  · rw [List.length_append]
    split <;> split <;> simp
  · exact Nat.zero_le _
theorem nbF_len (ks : List (List Int)) (x : Nat) : (nbF ks x).length ≤ 2 * ks.length := by
  unfold nbF
  induction ks with
  | nil => exact Nat.le_refl _
  | cons k ks ih =>
    rw [List.flatMap_cons, List.length_append, List.length_cons]
    have := nb1_len x k
    omega
theorem nbF_take {ks : List (List Int)} {m : Nat} {k : List Int} (h : ks[m]? = some k) (x : Nat) : nbF (ks.take (m + 1)) x = nbF (ks.take m) x ++ nb1 x k := by
  unfold nbF
  rw [List.take_add_one, h, List.flatMap_append]
  simp
theorem inV_ints (x : Int) (ns : List Int) : inV (.int x) (ns.map V.int) = decide (x ∈ ns) := by
  unfold inV
  rw [List.any_map, Bool.eq_iff_iff, List.any_eq_true, decide_eq_true_iff]
  constructor
  · rintro ⟨y, hy, e⟩
    have : y = x := by simpa [eqV] using e
    exact this ▸ hy
  · intro h
    exact ⟨x, h, by simp [eqV]⟩
theorem flat_ints (ns : List Int) : (ns.map V.int).all flatV = true := by
  rw [List.all_eq_true]
  intro y hy
  obtain ⟨z, _, rfl⟩ := List.mem_map.mp hy
  rfl
end Web

namespace Pc
set_option autoImplicit false
set_option linter.all false
/-! ### what ties lead to -/
inductive Rch (T : Nat → Nat → Prop) (a : Nat) : Nat → Prop
  | refl : Rch T a a
  | step {b c : Nat} : Rch T a b → T b c → Rch T a c
theorem Rch.trans {T : Nat → Nat → Prop} {a b c : Nat} (h : Rch T a b) (k : Rch T b c) : Rch T a c := by
  induction k with
  | refl => exact h
  | step _ t ih => exact ih.step t
theorem Rch.symm {T : Nat → Nat → Prop} (hT : ∀ b c, T b c → T c b) {a b : Nat} (h : Rch T a b) : Rch T b a := by
  induction h with
  | refl => exact .refl
  | step _ t ih => exact (Rch.step .refl (hT _ _ t)).trans ih
theorem Rch.imp {T T' : Nat → Nat → Prop} (hT : ∀ b c, T b c → T' b c) {a b : Nat} (h : Rch T a b) : Rch T' a b := by
  induction h with
  | refl => exact .refl
  | step _ t ih => exact ih.step (hT _ _ t)
/-! ### marks -/
structure MI (n : Nat) (T : Nat → Nat → Prop) (ms : List Nat) : Prop where
  len : ms.length = n
  rch : ∀ p, p < n → Rch T p (ms.getD p 0)
def stp (ms : List Nat) (i j : Nat) : List Nat := (ms.set i (min (ms.getD i 0) (ms.getD j 0))).set j (min (ms.getD i 0) (ms.getD j 0))
theorem getD_set (ms : List Nat) (i p v : Nat) : (ms.set i v).getD p 0 = if i = p ∧ p < ms.length then v else ms.getD p 0 := by
  rw [List.getD_eq_getElem?_getD, List.getElem?_set, List.getD_eq_getElem?_getD]
  by_cases h : i = p
  · subst h
    by_cases hl : i < ms.length
    · simp [hl]
    · simp [hl]
  · simp [h]
theorem MI.init {n : Nat} {T : Nat → Nat → Prop} : MI n T (List.range n) := ⟨List.length_range, fun p hp => by
  rw [List.getD_eq_getElem?_getD, List.getElem?_range hp]; exact .refl⟩
theorem MI.stp {n : Nat} {T : Nat → Nat → Prop} (hT : ∀ b c, T b c → T c b) {ms : List Nat} {i j : Nat} (h : MI n T ms) (hi : i < n) (hj : j < n) (t : T i j) : MI n T (stp ms i j) := by
  refine ⟨by unfold Pc.stp; rw [List.length_set, List.length_set]; exact h.len, fun p hp => ?_⟩
  have low : Rch T i (min (ms.getD i 0) (ms.getD j 0)) := by
    rcases Nat.le_total (ms.getD i 0) (ms.getD j 0) with l | l
    · rw [Nat.min_eq_left l]; exact h.rch i hi
    · rw [Nat.min_eq_right l]; exact (Rch.step .refl t).trans (h.rch j hj)
  unfold Pc.stp
  rw [getD_set, getD_set]
  split
  · next e => rw [← e.1]; exact (Rch.step .refl (hT _ _ t)).trans low
  · split
    · next e => rw [← e.1]; exact low
    · exact h.rch p hp
theorem sum_set (ms : List Nat) (i v : Nat) (h : i < ms.length) : (ms.set i v).sum + ms.getD i 0 = ms.sum + v := by
  induction ms generalizing i with
  | nil => exact absurd h (Nat.not_lt_zero _)
  | cons a l ih =>
    cases i with
    | zero => simp [List.getD_cons_zero]; omega
    | succ i =>
      have := ih i (by simpa using h)
      rw [List.set_cons_succ, List.sum_cons, List.sum_cons, List.getD_cons_succ]
      omega
theorem stp_sum {n : Nat} {ms : List Nat} {i j : Nat} (hl : ms.length = n) (hi : i < n) (hj : j < n) (hij : i ≠ j) :
    (stp ms i j).sum + ms.getD i 0 + ms.getD j 0 = ms.sum + 2 * min (ms.getD i 0) (ms.getD j 0) := by
  unfold stp
  have h1 := sum_set ms i (min (ms.getD i 0) (ms.getD j 0)) (by omega)
  have h2 := sum_set (ms.set i (min (ms.getD i 0) (ms.getD j 0))) j (min (ms.getD i 0) (ms.getD j 0)) (by rw [List.length_set]; omega)
  have h3 : (ms.set i (min (ms.getD i 0) (ms.getD j 0))).getD j 0 = ms.getD j 0 := by rw [getD_set, if_neg (fun z => hij z.1)]
  rw [h3] at h2
  omega
/-- at the end two places bear one mark just where ties lead from one to the other -/
theorem marks_iff {n : Nat} {T : Nat → Nat → Prop} (hT : ∀ b c, T b c → T c b) (hn : ∀ b c, T b c → b < n ∧ c < n) {ms : List Nat} (h : MI n T ms) (fx : ∀ b c, T b c → ms.getD b 0 = ms.getD c 0) {p q : Nat} (hp : p < n) (hq : q < n) :
    ms.getD p 0 = ms.getD q 0 ↔ Rch T p q := by
  constructor
  · intro e
    have h1 := h.rch p hp
    have h2 := h.rch q hq
    rw [← e] at h2
    exact h1.trans (h2.symm hT)
  · intro r
    clear hq
    induction r with
    | refl => rfl
    | step _ t ih => exact ih.trans (fx _ _ t)
/-! ### the piece around a place -/
structure PA (T : Nat → Nat → Prop) (n a : Nat) (fd ed : List Nat) : Prop where
  nd : fd.Nodup
  here : a ∈ fd
  rch : ∀ k ∈ fd, k < n ∧ Rch T a k
  sub : ∀ k ∈ ed, k ∈ fd
  clo : ∀ k ∈ fd, k ∈ ed ∨ ∀ c, T k c → c ∈ fd
/-- while the neighbours of k0 are gone through: those of ns are behind -/
structure PB (T : Nat → Nat → Prop) (n a k0 : Nat) (ns : List Nat) (fd ed : List Nat) : Prop where
  nd : fd.Nodup
  here : a ∈ fd
  k0m : k0 ∈ fd
  rch : ∀ k ∈ fd, k < n ∧ Rch T a k
  sub : ∀ k ∈ ed, k ∈ fd
  clo : ∀ k ∈ fd, k ∈ ed ∨ k = k0 ∨ ∀ c, T k c → c ∈ fd
  met : ∀ c ∈ ns, c ∈ fd
theorem PA.init {T : Nat → Nat → Prop} {n a : Nat} (h : a < n) : PA T n a [a] [a] :=
  ⟨by simp, by simp, fun k hk => by rw [List.mem_singleton.mp hk]; exact ⟨h, .refl⟩, fun k hk => hk, fun k hk => .inl hk⟩
theorem PA.pop {T : Nat → Nat → Prop} {n a k0 : Nat} {fd ed : List Nat} (h : PA T n a fd (ed ++ [k0])) : PB T n a k0 [] fd ed := by
  refine ⟨h.nd, h.here, h.sub k0 (by simp), h.rch, fun k hk => h.sub k (by simp [hk]), fun k hk => ?_, fun c hc => absurd hc List.not_mem_nil⟩
  rcases h.clo k hk with hm | hc
  · rcases List.mem_append.mp hm with hm | hm
    · exact .inl hm
    · exact .inr (.inl (List.mem_singleton.mp hm))
  · exact .inr (.inr hc)
theorem PB.old {T : Nat → Nat → Prop} {n a k0 c : Nat} {ns fd ed : List Nat} (h : PB T n a k0 ns fd ed) (hc : c ∈ fd) : PB T n a k0 (ns ++ [c]) fd ed :=
  ⟨h.nd, h.here, h.k0m, h.rch, h.sub, h.clo, fun x hx => (List.mem_append.mp hx).elim (h.met x) fun e => by rw [List.mem_singleton.mp e]; exact hc⟩
theorem PB.new {T : Nat → Nat → Prop} {n a k0 c : Nat} {ns fd ed : List Nat} (h : PB T n a k0 ns fd ed) (hc : c ∉ fd) (hn : c < n) (t : T k0 c) : PB T n a k0 (ns ++ [c]) (fd ++ [c]) (ed ++ [c]) := by
  refine ⟨?_, by simp [h.here], by simp [h.k0m], fun k hk => ?_, fun k hk => ?_, fun k hk => ?_, fun x hx => ?_⟩
  · rw [List.nodup_append]
    exact ⟨h.nd, by simp, fun x hx y hy => by rw [List.mem_singleton.mp hy]; intro e; exact hc (e ▸ hx)⟩
  · rcases List.mem_append.mp hk with hk | hk
    · exact h.rch k hk
    · rw [List.mem_singleton.mp hk]; exact ⟨hn, (h.rch k0 h.k0m).2.step t⟩
  · rcases List.mem_append.mp hk with hk | hk
    · exact List.mem_append_left _ (h.sub k hk)
    · exact List.mem_append_right _ hk
  · rcases List.mem_append.mp hk with hk | hk
    · rcases h.clo k hk with z | z | z
      · exact .inl (List.mem_append_left _ z)
      · exact .inr (.inl z)
      · exact .inr (.inr fun d hd => List.mem_append_left _ (z d hd))
    · exact .inl (List.mem_append_right _ hk)
  · rcases List.mem_append.mp hx with hx | hx
    · exact List.mem_append_left _ (h.met x hx)
    · exact List.mem_append_right _ hx
theorem PB.done {T : Nat → Nat → Prop} {n a k0 : Nat} {ns fd ed : List Nat} (h : PB T n a k0 ns fd ed) (hns : ∀ c, T k0 c → c ∈ ns) : PA T n a fd ed :=
  ⟨h.nd, h.here, h.rch, h.sub, fun k hk => (h.clo k hk).elim .inl fun z => .inr (z.elim (fun e c hc => by rw [e] at hc; exact h.met c (hns c hc)) id)⟩
theorem PA.iff {T : Nat → Nat → Prop} {n a : Nat} {fd : List Nat} (h : PA T n a fd []) (c : Nat) : c ∈ fd ↔ Rch T a c := by
  constructor
  · exact fun hc => (h.rch c hc).2
  · intro r
    induction r with
    | refl => exact h.here
    | step _ t ih => exact (h.clo _ ih).elim (fun z => absurd z List.not_mem_nil) fun z => z _ t
theorem nd_le {n : Nat} : ∀ {l : List Nat}, l.Nodup → (∀ k ∈ l, k < n) → l.length ≤ n := by
  induction n with
  | zero =>
    intro l _ h
    cases l with
    | nil => exact Nat.le_refl _
    | cons a l => exact absurd (h a List.mem_cons_self) (Nat.not_lt_zero _)
  | succ n ih =>
    intro l hd h
    have h1 := ih (l := l.erase n) (hd.erase n) (fun k hk => by
      have hm := (List.Nodup.mem_erase_iff hd).mp hk
      have := h k hm.2
      have := hm.1
      omega)
    have := List.length_erase (a := n) (l := l)
    rw [this] at h1
    split at h1 <;> omega
end Pc

namespace Web
open PySem L2
set_option autoImplicit false
set_option linter.all false
def top (i : Nat) : Stmt := PySem.Challenge.pw_tallyweb_k30_ties_in_rings.main.body.getD i (.Pass ⟨0, 0, 0, 0⟩)
abbrev sIsP : Stmt := top 13
abbrev sChk : Stmt := top 14
abbrev sUp : Stmt := top 15
abbrev sMade : Stmt := top 16
abbrev sTied : Stmt := top 17
abbrev sBes : Stmt := top 18
abbrev sPiece : Stmt := top 20
abbrev sRing : Stmt := top 21
abbrev sCell : Stmt := top 23
abbrev sRow : Stmt := top 24
abbrev sTies : Stmt := top 25
abbrev sMarks : Stmt := top 26
abbrev sTold : Stmt := top 27
abbrev sDue : Stmt := top 28
abbrev sLaw : Stmt := top 29
/-- what stands at the top -/
structure Bn (mg : Str → Option Value) : Prop where
  len : mg "len" = none
  range : mg "range" = none
  enum : mg "enumerate" = none
  list : mg "list" = none
  tuple : mg "tuple" = none
  sorted : mg "sorted" = none
  set : mg "set" = none
  isin : mg "isinstance" = none
  int : mg "int" = none
  bool : mg "bool" = none
  min : mg "min" = none
  max : mg "max" = none
  sum : mg "sum" = none
  ve : mg "ValueError" = none
theorem sl1000 : 1000 ≤ sizeLine := by decide
theorem same_upd {H : Hp} {l : Addr} {o : HO} (h : H l = none) : Same H (upd H l o) := fun b u e => by
  rw [upd_ne (ne_of_none e h)]
  exact e
section
variable {P : Program} {w : World} {K : PySem.W.Frag} {mg : Str → Option Value} {base : Heap}
/-! ### is_place -/
def spIsP : Sp := fun vs H Q _ => ∃ a b : Int, vs = [.int a, .int b] ∧ Q (.bl (decide (0 ≤ b) && decide (b < a))) H
theorem scIsP : FnScope ["places", "number"] ["places", "number"] (defScope sIsP) := ⟨rfl, rfl, rfl, by decide +kernel, rfl, by decide +kernel, by decide +kernel⟩
theorem ok_isP {f : Addr} {fd : FuncData} (F : Fun K "is_place" "is_place" sIsP f fd) : FnOk P w K mg base CX0 1 f fd ["places", "number"] spIsP := by
  refine F.ok scIsP (fun vs H Q E h => ?_) (fun cdv A outer s H vs Q E hr h => ?_)
  · obtain ⟨a, b, rfl, _⟩ := h
    rfl
  · obtain ⟨a, b, rfl, k⟩ := h
    refine ⟨_, pss_one (ps_ret (pe_chain op_le op_lt pe_int (pv 1) (pv 0))), ?_⟩
    refine ⟨_, rfl, _, _, rfl, rfl, _, rfl, ?_⟩
    cases e : decide ((0 : Int) ≤ b) with
    | true =>
      refine iteT ⟨_, rfl, _, _, rfl, rfl, ?_⟩
      rw [e, Bool.true_and] at k
      exact k
    | false =>
      refine iteF ?_
      rw [e, Bool.false_and] at k
      exact k
/-! ### turned_up: two ends that are places, and not the same -/
def spUp (K : PySem.W.Frag) : Sp := fun vs H Q _ => ∃ (n : Nat) (a : Addr) (k : List Int), vs = [.int n, .ref a] ∧ SqT K H a (k.map V.int) ∧ Ends2 n k ∧
  ∀ p, H p = none → Q (.ref p) (upd H p (.tup ((up k).map V.int)))
theorem scUp : FnScope ["places", "tie"] ["places", "tie"] (defScope sUp) := ⟨rfl, rfl, rfl, by decide +kernel, rfl, by decide +kernel, by decide +kernel⟩
theorem ok_up {f fI : Addr} {fd fdI : FuncData} (F : Fun K "turned_up" "turned_up" sUp f fd) (B : Bn mg) (FI : Fun K "is_place" "is_place" sIsP fI fdI) (bI : Binds K fdI ["places", "number"] []) (mI : mg "is_place" = some (.ref fI)) :
    FnOk P w K mg base CX0 2 f fd ["places", "tie"] (spUp K) := by
  have GI : FnOk P w K mg base CX0 1 fI fdI ["places", "number"] spIsP := ok_isP FI
  refine F.ok scUp (fun vs H Q E h => ?_) (fun cdv A outer s H vs Q E hr h => ?_)
  · obtain ⟨n, a, k, rfl, _⟩ := h
    rfl
  · obtain ⟨n, a, k, rfl, hS, ⟨i, j, h1, h2, h3, rfl⟩, q⟩ := h
    refine ⟨_, pss_cons (ps_if (PW.pt (pw_or (pt_not (pt_val (pe_call GI hr rfl mI FI.kp bI .nil pass0 (pa_cons (pv 0) (pa_cons (pe_ix ix_tup (pv 1) pe_int (fun _ _ => rfl)) pa_nil)))))
          (pw_or1 (pt_not (pt_val (pe_call GI hr rfl mI FI.kp bI .nil pass0 (pa_cons (pv 0) (pa_cons (pe_ix ix_tup (pv 1) pe_int (fun _ _ => rfl)) pa_nil)))))))) pss_never pss_nil)
      (pss_cons (ps_if (pt_cmpR op_eq (pe_ix ix_tup (pv 1) pe_int (fun _ _ => rfl)) (pe_ix ix_tup (pv 1) pe_int (fun _ _ => rfl)) (nomark _)) pss_never pss_nil)
      (pss_one (ps_ret (pe_tup (pa_cons (pe_callB (call_min2 rfl) (by rfl) B.min (by rfl) (pa_cons (pe_ix ix_tup (pv 1) pe_int (fun _ _ => rfl)) (pa_cons (pe_ix ix_tup (pv 1) pe_int (fun _ _ => rfl)) pa_nil)))
        (pa_cons (pe_callB (call_max2 rfl) (by rfl) B.max (by rfl) (pa_cons (pe_ix ix_tup (pv 1) pe_int (fun _ _ => rfl)) (pa_cons (pe_ix ix_tup (pv 1) pe_int (fun _ _ => rfl)) pa_nil))) pa_nil)))))), ?_⟩
    have a0 : atI (([(i : Int), (j : Int)] : List Int).map V.int) 0 = some (.int i) := atI_nat (j := 0) rfl
    have a1 : atI (([(i : Int), (j : Int)] : List Int).map V.int) 1 = some (.int j) := atI_nat (j := 1) rfl
    refine ⟨_, rfl, _, rfl, a, _, _, _, rfl, rfl, hS, a0, _, _, rfl, ?_⟩
    rw [decide_eq_true (show (0 : Int) ≤ i by omega), decide_eq_true (show (i : Int) < n by omega)]
    refine ⟨_, rfl, iteF ?_⟩
    refine ⟨_, rfl, _, rfl, a, _, _, _, rfl, rfl, hS, a1, _, _, rfl, ?_⟩
    rw [decide_eq_true (show (0 : Int) ≤ j by omega), decide_eq_true (show (j : Int) < n by omega)]
    refine ⟨_, rfl, iteF ?_⟩
    refine ⟨_, rfl, a, _, _, _, rfl, rfl, hS, a0, _, rfl, a, _, _, _, rfl, rfl, hS, a1, rfl, _, rfl, ?_⟩
    rw [decide_eq_false (show ¬ V.int (i : Int) = V.int (j : Int) by intro z; injection z; omega)]
    refine iteF ?_
    refine ⟨_, rfl, a, _, _, _, rfl, rfl, hS, a0, _, rfl, a, _, _, _, rfl, rfl, hS, a1, _, _, rfl, ?_⟩
    refine ⟨_, rfl, a, _, _, _, rfl, rfl, hS, a0, _, rfl, a, _, _, _, rfl, rfl, hS, a1, _, _, rfl, (by show 2 ≤ sizeLine; decide), fun p hp => ?_⟩
    exact q p hp
end
end Web

namespace Web
open PySem L2
set_option autoImplicit false
set_option linter.all false
section
variable {P : Program} {w : World} {K : PySem.W.Frag} {mg : Str → Option Value} {base : Heap}
def spMade (K : PySem.W.Frag) : Sp := fun vs H Q _ => ∃ (n : Nat) (a : Addr) (ys : List V) (hs : List (List Int)), vs = [.int n, .ref a] ∧ 1 ≤ n ∧ n ≤ 24 ∧ (SqL K H a ys ∨ SqT K H a ys) ∧ Tups K H ys hs ∧ (∀ k ∈ hs, Ends2 n k) ∧ (hs.map up).Nodup ∧ hs.length < 64 ∧
  ∀ p t zs ks H', Same H H' → H p = none → H t = none → H' p = some (.tup [.int n, .ref t]) → H' t = some (.tup zs) → Tups K H' zs ks → ks.Perm (hs.map up) → ks.Pairwise (fun a b => Tim.lexB b a = false) → Q (.ref p) H'
theorem scMade : FnScope ["places", "ties", "ascending"] ["places", "ties"] (defScope sMade) := ⟨rfl, rfl, rfl, by decide +kernel, rfl, by decide +kernel, by decide +kernel⟩
theorem ok_made {f fI fU : Addr} {fd fdI fdU : FuncData} {tk : Tok} (F : Fun K "made" "made" sMade f fd) (B : Bn mg) (FI : Fun K "is_place" "is_place" sIsP fI fdI) (bI : Binds K fdI ["places", "number"] []) (mI : mg "is_place" = some (.ref fI))
    (FU : Fun K "turned_up" "turned_up" sUp fU fdU) (bU : Binds K fdU ["places", "tie"] []) (mU : mg "turned_up" = some (.ref fU)) (mM : mg "MOST_PLACES" = some (.int 24 tk)) :
    FnOk P w K mg base CX0 3 f fd ["places", "ties"] (spMade K) := by
  have GU : FnOk P w K mg base CX0 2 fU fdU ["places", "tie"] (spUp K) := ok_up FU B FI bI mI
  refine F.ok scMade (fun vs H Q E h => ?_) (fun cdv A outer s H vs Q E hr h => ?_)
  · obtain ⟨n, a, ys, hs, rfl, _⟩ := h
    rfl
  · obtain ⟨n, a, ys, hs, rfl, n1, n2, hS, hT, hE, hN, hL, q⟩ := h
    have hu8 := Nat.lt_of_le_of_lt (Nat.add_le_add_left (by decide : 8 ≤ 64) _) hr.units
    have hyl := hT.len
    have nd2 : (["tie", "places"] : List Str).Nodup := by decide +kernel
    have step : ∀ (D : Addr), H D = none → ∀ (i : Nat) (xs : List V) (H' : Hp) (x : V) (N : List V → Hp → Prop), Same H H' → H' D = some (.lst xs) → Tups K H' xs ((hs.take i).map up) → ys[i]? = some x →
        (∀ xs' H'', Same H H'' → H'' D = some (.lst xs') → Tups K H'' xs' ((hs.take (i + 1)).map up) → N xs' H'') →
        ∃ (m : Nat) (b : Addr) (k : List Int), [V.int n, x] = [.int m, .ref b] ∧ SqT K H' b (k.map V.int) ∧ Ends2 m k ∧ ∀ p, H' p = none → (upd H' p (.tup ((up k).map V.int))) D = some (.lst xs) ∧ N (xs ++ [.ref p]) (upd (upd H' p (.tup ((up k).map V.int))) D (.lst (xs ++ [.ref p]))) := by
      intro D hD i xs H' x N s1 hd ht hx k
      obtain ⟨b, kk, rfl, hk, hq⟩ := hT.get hx
      refine ⟨n, b, kk, rfl, s1.seqT hq, hE kk (List.mem_of_getElem? hk), fun p hp => ?_⟩
      have npd : D ≠ p := ne_of_none hd hp
      have hd' : (upd H' p (.tup ((up kk).map V.int))) D = some (.lst xs) := by rw [upd_ne npd]; exact hd
      refine ⟨hd', k _ _ ((s1.trans (same_upd hp)).upd hD) upd_same ?_⟩
      have e : (hs.take (i + 1)).map up = (hs.take i).map up ++ [up kk] := by
        rw [List.take_add_one, hk, List.map_append]
        rfl
      rw [e]
      refine Tups.updL hd' (Tups.append (Same.tups (same_upd hp) ht) (Tups.one (SqT.of upd_same)))
    rcases hS with hS | hS
    · refine ⟨_, pss_cons (ps_if (pt_not (pt_chain op_le op_le pe_int (pv 0) (pe_glob (v := .int 24) rfl mM ⟨_, rfl⟩))) pss_never pss_nil)
        (pss_cons (ps_set (i := 2) scMade.nd rfl (Or.inl rfl) (pe_callB call_sorted64 (by rfl) B.sorted (by rfl) (pa_cons
          (pe_comp (N' := ["tie", "places"]) (lk := [none, some 0]) rfl (pi_list (pv 1)) (by rfl) rfl (by decide +kernel) (by exact ⟨rfl, trivial⟩) (by rfl) (by exact LkL.ok ⟨⟨rfl, Or.inl rfl, rfl, Or.inl rfl⟩, trivial⟩)
            (fun _ _ _ => pg_name (i := 0) nd2 rfl (Or.inl rfl)) (fun _ _ _ => pts_nil) (fun _ _ _ => pe_call GU hr (by rfl) mU FU.kp bU .nil pass0 (pa_cons (pv 1) (pa_cons (pv 0) pa_nil)))) pa_nil)))
        (pss_cons (ps_if (pt_cmpR op_lt (pe_callB call_len_set (by rfl) B.len PySem.boot_len (pa_cons (pe_callTy (call_set rfl hu8) (by rfl) B.set (by rfl) (pa_cons (pv 2) pa_nil)) pa_nil)) (pe_callB call_len_seq (by rfl) B.len PySem.boot_len (pa_cons (pv 2) pa_nil)) (nomark _)) pss_never pss_nil)
        (pss_one (ps_ret (pe_tup (pa_cons (pv 0) (pa_cons (pe_callTy call_tuple_of (by rfl) B.tuple (by rfl) (pa_cons (pv 2) pa_nil)) pa_nil))))))), ?_⟩
      refine ⟨_, rfl, _, _, rfl, rfl, _, rfl, ?_⟩
      rw [decide_eq_true (show (1 : Int) ≤ n by omega)]
      refine iteT ⟨_, _, rfl, rfl, _, rfl, ?_⟩
      rw [decide_eq_true (show (n : Int) ≤ 24 by omega)]
      refine iteF ?_
      refine ⟨_, rfl, a, rfl, ⟨_, hS⟩, fun D hD => comp_list (K := K) (a := a) (D := D) (ys := ys) (fun i xs σ' H' => ∃ v, σ' = [v, some (.int n)] ∧ Same H H' ∧ H' D = some (.lst xs) ∧ Tups K H' xs ((hs.take i).map up)) ⟨none, rfl, same_upd hD, upd_same, .nil⟩ (by have := sl1000; omega)
        (fun i xs σ' H' hi ⟨_, _, s1, h1, h2⟩ => ⟨s1.seq hS, h1, by have := h2.len; simp at this; omega⟩) ?_ ?_⟩
      · rintro i xs x σ' H' N kN hx ⟨v, rfl, s1, h1, h2⟩
        refine gName_to ?_
        refine tTrue_if ?_
        refine ⟨_, rfl, _, rfl, ?_⟩
        exact step D hD i xs H' x (fun xs' H'' => N xs' _ H'') s1 h1 h2 hx fun xs' H'' a1 a2 a3 => kN _ _ _ ⟨_, rfl, a1, a2, a3⟩
      · rintro xs σ' H1 ⟨v, rfl, s1, h1, h2⟩
        rw [List.take_of_length_le (by omega)] at h2
        have hup : ∀ k ∈ hs.map up, Up n k := fun k hk => by
          obtain ⟨k0, h0, rfl⟩ := List.mem_map.mp hk
          exact (hE k0 h0).up
        refine ⟨D, xs, _, rfl, SqL.of h1, h2, (fun k hk z => by have := (hup k hk).len; rw [z] at this; cases this), (by rw [List.length_map]; omega), fun l zs ks hl pk hs1 ht1 => ?_⟩
        have hkl : ks.length = hs.length := by rw [pk.length_eq, List.length_map]
        have hzl := ht1.len
        have s2 : Same H (upd H1 l (.lst zs)) := s1.trans (same_upd hl)
        refine ⟨_, rfl, l, zs, ks, rfl, SqL.of upd_same, ht1, (fun k hk => (hup k (pk.mem_iff.mp hk)).key n2), by omega, fun S hSn => ?_⟩
        have hlS : l ≠ S := ne_of_none upd_same hSn
        have s3 := s2.trans (same_upd (o := SetO P w S (ks.foldl Sett.insT []).length) hSn)
        have l3 : (upd (upd H1 l (.lst zs)) S (SetO P w S (ks.foldl Sett.insT []).length)) l = some (.lst zs) := by rw [upd_ne hlS, upd_same]
        refine ⟨S, _, rfl, upd_same, _, rfl, l, zs, rfl, .inl (SqL.of l3), _, _, rfl, rfl, _, rfl, ?_⟩
        have hfold : (ks.foldl Sett.insT []).length = zs.length := by
          have := (Sett.fold_full ks []).mpr ⟨(pk.nodup_iff).mpr hN, fun x _ => by simp⟩
          simp at this
          omega
        rw [hfold, decide_eq_false (by omega)]
        refine iteF ?_
        refine ⟨_, rfl, _, rfl, l, zs, rfl, .inl ⟨SqL.of (by rw [hfold] at l3; exact l3), fun t ht => ⟨(by show 2 ≤ sizeLine; decide), fun p hp => ?_⟩⟩⟩
        rw [hfold] at s3
        have s4 := (s3.trans (same_upd (o := .tup zs) ht)).trans (same_upd (o := .tup [.int n, .ref t]) hp)
        refine q p t zs ks _ s4 ((s3.trans (same_upd ht)).free hp) (s3.free ht) upd_same ?_ ?_ pk hs1
        · rw [upd_ne (ne_of_none upd_same hp), upd_same]
        · exact Same.tups (((same_upd hSn).trans (same_upd ht)).trans (same_upd hp)) ht1
    · refine ⟨_, pss_cons (ps_if (pt_not (pt_chain op_le op_le pe_int (pv 0) (pe_glob (v := .int 24) rfl mM ⟨_, rfl⟩))) pss_never pss_nil)
        (pss_cons (ps_set (i := 2) scMade.nd rfl (Or.inl rfl) (pe_callB call_sorted64 (by rfl) B.sorted (by rfl) (pa_cons
          (pe_comp (N' := ["tie", "places"]) (lk := [none, some 0]) rfl (pi_tup (pv 1)) (by rfl) rfl (by decide +kernel) (by exact ⟨rfl, trivial⟩) (by rfl) (by exact LkL.ok ⟨⟨rfl, Or.inl rfl, rfl, Or.inl rfl⟩, trivial⟩)
            (fun _ _ _ => pg_name (i := 0) nd2 rfl (Or.inl rfl)) (fun _ _ _ => pts_nil) (fun _ _ _ => pe_call GU hr (by rfl) mU FU.kp bU .nil pass0 (pa_cons (pv 1) (pa_cons (pv 0) pa_nil)))) pa_nil)))
        (pss_cons (ps_if (pt_cmpR op_lt (pe_callB call_len_set (by rfl) B.len PySem.boot_len (pa_cons (pe_callTy (call_set rfl hu8) (by rfl) B.set (by rfl) (pa_cons (pv 2) pa_nil)) pa_nil)) (pe_callB call_len_seq (by rfl) B.len PySem.boot_len (pa_cons (pv 2) pa_nil)) (nomark _)) pss_never pss_nil)
        (pss_one (ps_ret (pe_tup (pa_cons (pv 0) (pa_cons (pe_callTy call_tuple_of (by rfl) B.tuple (by rfl) (pa_cons (pv 2) pa_nil)) pa_nil))))))), ?_⟩
      refine ⟨_, rfl, _, _, rfl, rfl, _, rfl, ?_⟩
      rw [decide_eq_true (show (1 : Int) ≤ n by omega)]
      refine iteT ⟨_, _, rfl, rfl, _, rfl, ?_⟩
      rw [decide_eq_true (show (n : Int) ≤ 24 by omega)]
      refine iteF ?_
      refine ⟨_, rfl, a, rfl, ⟨_, hS⟩, fun D hD => comp_tup (K := K) (a := a) (D := D) (ys := ys) (fun i xs σ' H' => ∃ v, σ' = [v, some (.int n)] ∧ Same H H' ∧ H' D = some (.lst xs) ∧ Tups K H' xs ((hs.take i).map up)) ⟨none, rfl, same_upd hD, upd_same, .nil⟩ (by have := sl1000; omega)
        (fun i xs σ' H' hi ⟨_, _, s1, h1, h2⟩ => ⟨s1.seqT hS, h1, by have := h2.len; simp at this; omega⟩) ?_ ?_⟩
      · rintro i xs x σ' H' N kN hx ⟨v, rfl, s1, h1, h2⟩
        refine gName_to ?_
        refine tTrue_if ?_
        refine ⟨_, rfl, _, rfl, ?_⟩
        exact step D hD i xs H' x (fun xs' H'' => N xs' _ H'') s1 h1 h2 hx fun xs' H'' a1 a2 a3 => kN _ _ _ ⟨_, rfl, a1, a2, a3⟩
      · rintro xs σ' H1 ⟨v, rfl, s1, h1, h2⟩
        rw [List.take_of_length_le (by omega)] at h2
        have hup : ∀ k ∈ hs.map up, Up n k := fun k hk => by
          obtain ⟨k0, h0, rfl⟩ := List.mem_map.mp hk
          exact (hE k0 h0).up
        refine ⟨D, xs, _, rfl, SqL.of h1, h2, (fun k hk z => by have := (hup k hk).len; rw [z] at this; cases this), (by rw [List.length_map]; omega), fun l zs ks hl pk hs1 ht1 => ?_⟩
        have hkl : ks.length = hs.length := by rw [pk.length_eq, List.length_map]
        have hzl := ht1.len
        have s2 : Same H (upd H1 l (.lst zs)) := s1.trans (same_upd hl)
        refine ⟨_, rfl, l, zs, ks, rfl, SqL.of upd_same, ht1, (fun k hk => (hup k (pk.mem_iff.mp hk)).key n2), by omega, fun S hSn => ?_⟩
        have hlS : l ≠ S := ne_of_none upd_same hSn
        have s3 := s2.trans (same_upd (o := SetO P w S (ks.foldl Sett.insT []).length) hSn)
        have l3 : (upd (upd H1 l (.lst zs)) S (SetO P w S (ks.foldl Sett.insT []).length)) l = some (.lst zs) := by rw [upd_ne hlS, upd_same]
        refine ⟨S, _, rfl, upd_same, _, rfl, l, zs, rfl, .inl (SqL.of l3), _, _, rfl, rfl, _, rfl, ?_⟩
        have hfold : (ks.foldl Sett.insT []).length = zs.length := by
          have := (Sett.fold_full ks []).mpr ⟨(pk.nodup_iff).mpr hN, fun x _ => by simp⟩
          simp at this
          omega
        rw [hfold, decide_eq_false (by omega)]
        refine iteF ?_
        refine ⟨_, rfl, _, rfl, l, zs, rfl, .inl ⟨SqL.of (by rw [hfold] at l3; exact l3), fun t ht => ⟨(by show 2 ≤ sizeLine; decide), fun p hp => ?_⟩⟩⟩
        rw [hfold] at s3
        have s4 := (s3.trans (same_upd (o := .tup zs) ht)).trans (same_upd (o := .tup [.int n, .ref t]) hp)
        refine q p t zs ks _ s4 ((s3.trans (same_upd ht)).free hp) (s3.free ht) upd_same ?_ ?_ pk hs1
        · rw [upd_ne (ne_of_none upd_same hp), upd_same]
        · exact Same.tups (((same_upd hSn).trans (same_upd ht)).trans (same_upd hp)) ht1
end
end Web

namespace Web
open PySem L2
set_option autoImplicit false
set_option linter.all false
theorem p60 : (0 : Int) < 10 ^ (Int.toNat 60) := Int.pow_pos (by decide)
theorem at_int {ns : List Int} {j : Nat} (h : j < ns.length) : atI (ns.map V.int) (j : Int) = some (.int (ns.getD j 0)) := atI_nat (j := j) (by simp [h])
theorem mod_nat (c : Int) {n : Nat} (h : 0 < n) : ∃ j : Nat, c % (n : Int) = (j : Int) ∧ j < n := by
  have h1 := Int.emod_nonneg c (show (n : Int) ≠ 0 by omega)
  have h2 := Int.emod_lt_of_pos c (show (0 : Int) < (n : Int) by omega)
  exact ⟨(c % (n : Int)).toNat, by omega, by omega⟩
section
variable {P : Program} {w : World} {K : PySem.W.Frag} {mg : Str → Option Value} {base : Heap}
/-! ### _law_cell_at -/
def spCell (K : PySem.W.Frag) : Sp := fun vs H Q _ => ∃ (a : Addr) (ns : List Int) (k : Nat), vs = [.ref a, .int k] ∧ SqL K H a (ns.map V.int) ∧ ∀ r : Int, Q (.int r) H
theorem scCell : FnScope ["script", "k"] ["script", "k"] (defScope sCell) := ⟨rfl, rfl, rfl, by decide +kernel, rfl, by decide +kernel, by decide +kernel⟩
theorem ok_cell {f : Addr} {fd : FuncData} (F : Fun K "_law_cell_at" "_law_cell_at" sCell f fd) (B : Bn mg) : FnOk P w K mg base CX0 1 f fd ["script", "k"] (spCell K) := by
  refine F.ok scCell (fun vs H Q E h => ?_) (fun cdv A outer s H vs Q E hr h => ?_)
  · obtain ⟨a, ns, k, rfl, _⟩ := h
    rfl
  · obtain ⟨a, ns, k, rfl, hS, q⟩ := h
    refine ⟨_, pss_cons (ps_if (pt_cmpR op_lt (pv 1) (pe_callB call_len_seq (by rfl) B.len PySem.boot_len (pa_cons (pv 0) pa_nil)) (nomark _)) (pss_one (ps_ret (pe_ix ix_list (pv 0) (pv 1) (fun _ _ => rfl)))) pss_nil)
      (pss_one (ps_ret pe_int)), ?_⟩
    refine ⟨_, rfl, _, rfl, a, _, rfl, .inl hS, _, _, rfl, rfl, _, rfl, ?_⟩
    refine ite2 (fun h => ?_) (fun h => ?_)
    · have hl : k < ns.length := by
        have := of_decide_eq_true h
        rw [List.length_map] at this
        omega
      refine ⟨_, rfl, _, rfl, a, _, _, _, rfl, rfl, hS, atI_nat (j := k) (v := .int ns[k]) (by simp [hl]), ?_⟩
      exact q _
    · exact q _
/-! ### _law_row -/
def spRow (K : PySem.W.Frag) : Sp := fun vs H Q _ => ∃ (c : Int) (m z : Nat), vs = [.int c, .int m, .int z] ∧ m ≤ 300 ∧ 1 ≤ z ∧ z ≤ 100000000 ∧ ∀ (l : Addr) (ts : List Int) (H' : Hp), ts.length = m → Same H H' → H l = none → H' l = some (.lst (ts.map V.int)) → Q (.ref l) H'
theorem scRow : FnScope ["cell", "many", "size", "rest", "stir", "row", "k"] ["cell", "many", "size"] (defScope sRow) := ⟨rfl, rfl, rfl, by decide +kernel, rfl, by decide +kernel, by decide +kernel⟩
theorem ok_row {f : Addr} {fd : FuncData} (F : Fun K "_law_row" "_law_row" sRow f fd) (B : Bn mg) : FnOk P w K mg base CX0 1 f fd ["cell", "many", "size"] (spRow K) := by
  refine F.ok scRow (fun vs H Q E h => ?_) (fun cdv A outer s H vs Q E hr h => ?_)
  · obtain ⟨c, m, z, rfl, _⟩ := h
    rfl
  · obtain ⟨c, m, z, rfl, hm, hz1, hz2, q⟩ := h
    have hsl := sl1000
    have hz0 : (0 : Int) < (z : Int) := by omega
    refine ⟨_, pss_cons (ps_set (i := 0) scRow.nd rfl (Or.inl rfl) (pe_op op_mod (pv 0) (pe_op op_pow pe_int pe_int)))
      (pss_cons (ps_set (i := 3) scRow.nd rfl (Or.inl rfl) (pe_op op_fdiv (pv 0) pe_int))
      (pss_cons (ps_set (i := 4) scRow.nd rfl (Or.inl rfl) (pv 0))
      (pss_cons (ps_set (i := 5) scRow.nd rfl (Or.inl rfl) (pe_lst pa_nil))
      (pss_cons (ps_for PassesOwn.never rfl (pi_range1 rfl B.range (pa_cons (pv 1) pa_nil)) (pg_name (i := 6) scRow.nd rfl (Or.inl rfl))
        (pss_one (ps_if (pt_cmpR op_eq (pe_op op_mod (pv 0) pe_int) pe_int (nomark _))
          (pss_cons (ps_expr (pe_bm PySem.F.plainAttrs_list PySem.F.slot_list_append PySem.F.type_list_append mt_append (pv 5) (pa_cons (pe_op op_mod (pv 3) (pv 2)) pa_nil)))
          (pss_one (ps_set (i := 3) scRow.nd rfl (Or.inl rfl) (pe_op op_fdiv (pv 3) (pv 2)))))
          (pss_cons (ps_set (i := 4) scRow.nd rfl (Or.inl rfl) (pe_op op_mod (pe_op op_add (pe_op op_mod (pv 4) pe_int) (pe_op op_mul pe_int (pe_op op_add (pv 6) pe_int))) pe_int))
          (pss_cons (ps_set (i := 4) scRow.nd rfl (Or.inl rfl) (pe_op op_mod (pe_op op_mul (pv 4) (pv 4)) pe_int))
          (pss_cons (ps_set (i := 4) scRow.nd rfl (Or.inl rfl) (pe_op op_mod (pe_op op_mul (pv 4) pe_int) pe_int))
          (pss_one (ps_expr (pe_bm PySem.F.plainAttrs_list PySem.F.slot_list_append PySem.F.type_list_append mt_append (pv 5) (pa_cons (pe_op op_mod (pe_op op_fdiv (pv 4) pe_int) (pv 2)) pa_nil))))))))))
      (pss_one (ps_ret (pv 5))))))), ?_⟩
    refine ⟨_, rfl, _, _, rfl, rfl, ⟨by decide, by decide, by decide⟩, _, _, rfl, rfl, p60, ?_⟩
    refine gName_int fun c1 _ => ?_
    refine ⟨_, rfl, _, _, rfl, rfl, ⟨by decide, by decide⟩, ?_⟩
    refine gName_int fun r0 _ => ?_
    refine ⟨_, rfl, ?_⟩
    refine ⟨by show 0 ≤ sizeLine; omega, fun l hl => ?_⟩
    have s0 := same_upd (o := .lst []) hl
    refine ⟨_, rfl, m, rfl, by omega, by omega, for_range (lo := 0) (n := m) (fun i σ H1 => ∃ (ts : List Int) (r st : Int) (e6 : Option V), σ = [some (.int c1), some (.int m), some (.int z), some (.int r), some (.int st), some (.ref l), e6] ∧ Same H H1 ∧ H1 l = some (.lst (ts.map V.int)) ∧ ts.length = i)
      ⟨[], r0, c1, none, rfl, s0, upd_same, rfl⟩ ?_ ?_⟩
    · rintro i σ H1 hi ⟨ts, r, st, e6, rfl, s1, g1, hl1⟩
      have e0 : ((0 : Int) + (i : Int)) = (i : Int) := by omega
      rw [e0]
      refine gName_to ?_
      refine ⟨_, rfl, _, _, rfl, rfl, (by show (0 : Int) < 2; decide), rfl, _, rfl, ?_⟩
      refine ite2 (fun h => ?_) (fun h => ?_)
      · refine ⟨_, rfl, .inl ⟨rfl, _, SqL.of g1⟩, _, rfl, _, rfl, _, _, rfl, rfl, hz0, l, _, _, rfl, rfl, g1, by rw [List.length_map]; omega, ?_⟩
        refine ⟨_, rfl, _, rfl, _, _, rfl, rfl, ⟨hz0, by omega⟩, ?_⟩
        exact ⟨ts ++ [r % (z : Int)], _, _, _, rfl, s1.upd hl, by rw [upd_same, List.map_append]; rfl, by rw [List.length_append, hl1]; rfl⟩
      · refine ⟨_, rfl, _, _, rfl, rfl, (by show (0 : Int) < 998244353; decide), _, rfl, _, _, rfl, rfl, _, _, rfl, rfl, .inl ⟨by decide, by decide⟩, _, _, rfl, rfl, _, _, rfl, rfl, (by show (0 : Int) < 2147483647; decide), ?_⟩
        refine gName_int fun k1 hk1 => ?_
        have k10 : 0 ≤ k1 := by rw [hk1]; exact Int.emod_nonneg _ (by decide)
        have k11 : k1 < 2147483647 := by rw [hk1]; exact Int.emod_lt_of_pos _ (by decide)
        clear hk1
        refine ⟨_, rfl, _, rfl, _, _, rfl, rfl, .inl ⟨by omega, by omega⟩, _, _, rfl, rfl, (by show (0 : Int) < 2147483629; decide), ?_⟩
        refine gName_int fun k2 _ => ?_
        refine ⟨_, rfl, _, _, rfl, rfl, .inr ⟨by decide, by decide⟩, _, _, rfl, rfl, (by show (0 : Int) < 2147483647; decide), ?_⟩
        refine gName_int fun k3 _ => ?_
        refine ⟨_, rfl, .inl ⟨rfl, _, SqL.of g1⟩, _, rfl, _, _, rfl, rfl, ⟨by decide, by decide⟩, _, rfl, _, _, rfl, rfl, hz0, l, _, _, rfl, rfl, g1, by rw [List.length_map]; omega, ?_⟩
        exact ⟨ts ++ [k3 / 7 % (z : Int)], _, _, _, rfl, s1.upd hl, by rw [upd_same, List.map_append]; rfl, by rw [List.length_append, hl1]; rfl⟩
    · rintro σ H1 ⟨ts, r, st, e6, rfl, s1, g1, hl1⟩
      exact ⟨_, rfl, q l ts H1 hl1 s1 hl g1⟩
end
end Web

namespace Web
open PySem L2
set_option autoImplicit false
set_option linter.all false
theorem thin_of (z : Int) (h : 0 ≤ z ∧ z < 4) : ∃ v : Nat, atI ([.int 2, .int 2, .int 3, .int 5] : List V) z = some (.int (v : Int)) ∧ 1 ≤ v ∧ v ≤ 5 := by
  have : z = 0 ∨ z = 1 ∨ z = 2 ∨ z = 3 := by omega
  rcases this with h | h | h | h <;> rw [h]
  · exact ⟨2, atI_nat (j := 0) rfl, by decide, by decide⟩
  · exact ⟨2, atI_nat (j := 1) rfl, by decide, by decide⟩
  · exact ⟨3, atI_nat (j := 2) rfl, by decide, by decide⟩
  · exact ⟨5, atI_nat (j := 3) rfl, by decide, by decide⟩
theorem sub_snoc {α : Type} {l m : List α} {i : Nat} {x : α} (h : l.Sublist (m.take i)) (hx : m[i]? = some x) : (l ++ [x]).Sublist (m.take (i + 1)) := by
  rw [List.take_add_one, hx]
  exact List.Sublist.append h (List.Sublist.refl _)
theorem sub_step {α : Type} {l m : List α} {i : Nat} (h : l.Sublist (m.take i)) : l.Sublist (m.take (i + 1)) := by
  rw [List.take_add_one]
  exact h.trans (List.sublist_append_left _ _)
section
variable {P : Program} {w : World} {K : PySem.W.Frag} {mg : Str → Option Value} {base : Heap}
/-! ### _law_ties -/
def spTies (K : PySem.W.Frag) : Sp := fun vs H Q _ => ∃ (c : Int) (n : Nat), vs = [.int c, .int n] ∧ n ≤ 24 ∧ ∀ (l : Addr) (zs : List V) (ks : List (List Int)) (H' : Hp), Same H H' → H l = none → H' l = some (.tup zs) → Tups K H' zs ks → ks.Sublist (pairsN n) → Q (.ref l) H'
theorem scTies : FnScope ["cell", "places", "thin", "pairs", "one", "other", "row"] ["cell", "places"] (defScope sTies) := ⟨rfl, rfl, rfl, by decide +kernel, rfl, by decide +kernel, by decide +kernel⟩
set_option maxHeartbeats 1000000 in
theorem ok_ties {f fR : Addr} {fd fdR : FuncData} (F : Fun K "_law_ties" "_law_ties" sTies f fd) (B : Bn mg) (FR : Fun K "_law_row" "_law_row" sRow fR fdR) (bR : Binds K fdR ["cell", "many", "size"] []) (mR : mg "_law_row" = some (.ref fR)) : FnOk P w K mg base CX0 2 f fd ["cell", "places"] (spTies K) := by
  have GR : FnOk P w K mg base CX0 1 fR fdR ["cell", "many", "size"] (spRow K) := ok_row FR B
  refine F.ok scTies (fun vs H Q E h => ?_) (fun cdv A outer s H vs Q E hr h => ?_)
  · obtain ⟨c, n, rfl, _⟩ := h
    rfl
  · obtain ⟨c, n, rfl, hn, q⟩ := h
    have hsl := sl1000
    have hlen := len_pairs n hn
    have nd3 : (["k", "pairs", "row"] : List Str).Nodup := by decide +kernel
    refine ⟨_, pss_cons (ps_set (i := 0) scTies.nd rfl (Or.inl rfl) (pe_op op_mod (pv 0) (pe_op op_pow pe_int pe_int)))
      (pss_cons (ps_set (i := 2) scTies.nd rfl (Or.inl rfl) (pe_ix ix_list (pe_lst (pa_cons pe_int (pa_cons pe_int (pa_cons pe_int (pa_cons pe_int pa_nil))))) (pe_op op_mod (pv 0) pe_int) (fun _ _ => rfl)))
      (pss_cons (ps_set (i := 3) scTies.nd rfl (Or.inr rfl) (pe_lst pa_nil))
      (pss_cons (ps_for PassesOwn.never rfl (pi_range1 rfl B.range (pa_cons (pv 1) pa_nil)) (pg_name (i := 4) scTies.nd rfl (Or.inl rfl))
        (pss_one (ps_for PassesOwn.never rfl (pi_range2 rfl B.range (pa_cons (pe_op op_add (pv 4) pe_int) (pa_cons (pv 1) pa_nil))) (pg_name (i := 5) scTies.nd rfl (Or.inl rfl))
          (pss_one (ps_expr (pe_bm PySem.F.plainAttrs_list PySem.F.slot_list_append PySem.F.type_list_append mt_append (pv 3) (pa_cons (pe_tup (pa_cons (pv 4) (pa_cons (pv 5) pa_nil))) pa_nil)))))))
      (pss_cons (ps_set (i := 6) scTies.nd rfl (Or.inr rfl) (pe_call GR hr (by rfl) mR FR.kp bR .nil pass0 (pa_cons (pe_op op_fdiv (pv 0) pe_int) (pa_cons (pe_callB call_len_seq (by rfl) B.len PySem.boot_len (pa_cons (pv 3) pa_nil)) (pa_cons (pv 2) pa_nil)))))
      (pss_one (ps_ret (pe_callTy call_tuple_of (by rfl) B.tuple (by rfl) (pa_cons (pe_comp (N' := ["k", "pairs", "row"]) (lk := [none, some 3, some 6]) rfl (pi_range1 rfl B.range (pa_cons (pe_callB call_len_seq (by rfl) B.len PySem.boot_len (pa_cons (pv 3) pa_nil)) pa_nil)) (by rfl) rfl (by decide +kernel) (by exact ⟨rfl, rfl, trivial⟩) (by rfl) (by exact LkL.ok ⟨⟨rfl, Or.inl rfl, rfl, Or.inl rfl⟩, ⟨rfl, Or.inl rfl, rfl, Or.inl rfl⟩, trivial⟩)
          (fun _ _ _ => pg_name (i := 0) nd3 rfl (Or.inl rfl)) (fun _ _ _ => pts_one (pt_cmpR op_eq (pe_ixSK K rfl (pv 2) (pv 0) (fun _ _ => rfl)) pe_int (nomark _))) (fun _ _ _ => pe_ixSK K rfl (pv 1) (pv 0) (fun _ _ => rfl))) pa_nil)))))))), ?_⟩
    refine ⟨_, rfl, _, _, rfl, rfl, ⟨by decide, by decide, by decide⟩, _, _, rfl, rfl, p60, ?_⟩
    refine gName_int fun c1 _ => ?_
    obtain ⟨v, hv, hv1, hv2⟩ := thin_of (c1 % 4) ⟨Int.emod_nonneg _ (by decide), Int.emod_lt_of_pos _ (by decide)⟩
    refine ⟨(by show 4 ≤ sizeLine; decide), fun l3 f3 => ?_⟩
    have s3 := same_upd (o := .lst [.int 2, .int 2, .int 3, .int 5]) f3
    refine ⟨_, rfl, _, _, rfl, rfl, (by show (0 : Int) < 4; decide), l3, _, _, _, rfl, rfl, SqL.of upd_same, hv, ?_⟩
    refine ⟨by show 0 ≤ sizeLine; omega, fun l hl' => ?_⟩
    have hl : H l = none := s3.free hl'
    have s03 := s3.trans (same_upd (o := .lst []) hl')
    have gl0 : (upd (upd H l3 (.lst [.int 2, .int 2, .int 3, .int 5])) l (.lst [])) l = some (.lst []) := upd_same
    generalize upd (upd H l3 (.lst [.int 2, .int 2, .int 3, .int 5])) l (.lst []) = H0 at s03 gl0
    refine ⟨_, rfl, n, rfl, by omega, by omega, for_range (lo := 0) (n := n) (fun i σ H1 => ∃ a b zs, σ = [some (.int c1), some (.int n), some (.int v), some (.ref l), a, b, none] ∧ Same H H1 ∧ H1 l = some (.lst zs) ∧ Tups K H1 zs ((List.range i).flatMap fun j => rowF j (n - (j + 1))))
      ⟨none, none, [], rfl, s03, gl0, .nil⟩ ?_ ?_⟩
    · rintro i σ H1 hi ⟨a, b, zs, rfl, s1, h1, t1⟩
      refine ⟨_, rfl, _, _, rfl, rfl, _, rfl, _, _, rfl, ⟨by omega, by omega, by omega, by omega⟩, for_range (lo := 0 + (i : Int) + 1) (fun d σ H2 => ∃ b zs, σ = [some (.int c1), some (.int n), some (.int v), some (.ref l), some (.int (0 + i)), b, none] ∧ Same H H2 ∧ H2 l = some (.lst zs) ∧ Tups K H2 zs (((List.range i).flatMap fun j => rowF j (n - (j + 1))) ++ rowF i d))
        ⟨b, zs, rfl, s1, h1, by simpa [rowF] using t1⟩ ?_ ?_⟩
      · rintro d σ H2 hd ⟨b, zs, rfl, s2, h2, t2⟩
        have hlz := t2.len
        have hpart := len_part n (i + 1) (by omega)
        rw [pairs_succ, List.length_append] at hpart
        have hrow : ∀ m, (rowF i m).length = m := fun m => by simp [rowF]
        rw [List.length_append, hrow] at hlz
        rw [hrow] at hpart
        refine ⟨_, rfl, .inl ⟨rfl, _, SqL.of h2⟩, _, rfl, _, rfl, (by show 2 ≤ sizeLine; decide), fun p hp => ?_⟩
        have hlp : l ≠ p := ne_of_none h2 hp
        have h2' : (upd H2 p (.tup [.int (0 + (i : Int)), .int (0 + (i : Int) + 1 + (d : Int))])) l = some (.lst zs) := by rw [upd_ne hlp]; exact h2
        refine ⟨l, zs, _, rfl, rfl, h2', by omega, ?_⟩
        refine ⟨_, _, rfl, (s2.trans (same_upd hp)).upd hl, upd_same, ?_⟩
        rw [rowF_succ, ← List.append_assoc]
        refine Tups.updL h2' (Tups.append (Same.tups (same_upd hp) t2) (Tups.one (SqT.of ?_)))
        rw [upd_same]
        simp
      · rintro σ H2 ⟨b, zs, rfl, s2, h2, t2⟩
        refine ⟨_, _, zs, rfl, s2, h2, ?_⟩
        rw [pairs_succ]
        have e : ((n : Int) - (0 + (i : Int) + 1)).toNat = n - (i + 1) := by omega
        rw [e] at t2
        exact t2
    · rintro σ H1 ⟨a, b, zs, rfl, s1, h1, t1⟩
      replace t1 : Tups K H1 zs (pairsN n) := t1
      have hzl := t1.len
      refine ⟨_, rfl, _, _, rfl, rfl, ⟨by decide, by decide⟩, _, rfl, l, _, rfl, .inl (SqL.of h1), _, rfl, c1 / 4, zs.length, v, rfl, by omega, hv1, by omega, fun rl ts H4 htl s4 fr g4 => ?_⟩
      have t4 := s4.tups t1
      have g4l := s4 _ _ h1
      have s04 := s1.trans s4
      refine ⟨_, rfl, l, _, rfl, .inl (SqL.of g4l), (zs.length : Int), rfl, by omega, by omega, fun D hD => ?_⟩
      rw [Int.toNat_natCast]
      refine comp_range (lo := 0) (n := zs.length) (D := D) (fun i xs σ' H' => (∃ v, σ' = [v, some (.ref l), some (.ref rl)]) ∧ Same H4 H' ∧ H' D = some (.lst xs) ∧ xs.length ≤ i ∧ ∃ ks, Tups K H' xs ks ∧ ks.Sublist ((pairsN n).take i))
        ⟨⟨none, rfl⟩, same_upd hD, upd_same, Nat.le_refl _, [], .nil, List.nil_sublist _⟩ (by omega) (fun i xs σ' H' hi ⟨_, _, g, l', _⟩ => ⟨g, l'⟩) ?_ ?_
      · rintro i xs σ' H' N kN hi ⟨⟨v', rfl⟩, s6, h6, hxl, ks, t6, sb⟩
        have e0 : ((0 : Int) + (i : Int)) = (i : Int) := by omega
        rw [e0]
        refine gName_to ?_
        have hti : i < ts.length := by omega
        refine ⟨_, rfl, _, rfl, .inl ⟨rl, _, _, _, rfl, rfl, SqL.of (s6 _ _ g4), at_int hti, rfl, _, rfl, ?_⟩⟩
        refine ite2 (fun h => ?_) (fun h => ?_)
        · obtain ⟨y, hy⟩ : ∃ y, zs[i]? = some y := ⟨_, List.getElem?_eq_getElem hi⟩
          obtain ⟨pa, pk, rfl, hk', hq⟩ := t4.get hy
          refine ⟨_, rfl, _, rfl, .inl ⟨l, _, _, _, rfl, rfl, SqL.of (s6 _ _ g4l), atI_nat hy, h6, kN _ _ _ ⟨⟨_, rfl⟩, s6.upd hD, upd_same, by rw [List.length_append, List.length_singleton]; omega, ks ++ [pk], Tups.updL h6 (Tups.append t6 (Tups.one (s6.seqT hq))), sub_snoc sb hk'⟩⟩⟩
        · exact kN _ _ _ ⟨⟨_, rfl⟩, s6, h6, by omega, ks, t6, sub_step sb⟩
      · rintro xs σ' H5 ⟨⟨v', rfl⟩, s6, h6, hxl, ks, t6, sb⟩
        refine ⟨D, _, rfl, .inl ⟨SqL.of h6, fun tl ft => ?_⟩⟩
        have s7 := same_upd (o := .tup xs) ft
        exact q tl xs ks _ ((s04.trans s6).trans s7) ((s04.trans s6).free ft) upd_same (s7.tups t6) (sb.trans (List.take_sublist _ _))
end
end Web

namespace Web
open PySem L2
set_option autoImplicit false
set_option linter.all false
/-- tied, by the ties -/
def Tie (ks : List (List Int)) (b c : Nat) : Prop := up [(b : Int), (c : Int)] ∈ ks
theorem Tie.symm {ks : List (List Int)} {b c : Nat} (h : Tie ks b c) : Tie ks c b := by
  unfold Tie
  rw [up_comm]
  exact h
def MkI (ks : List (List Int)) (ms : List Nat) : Prop := ∀ b c, Tie ks b c → ms.getD b 0 = ms.getD c 0
def mkL (ms : List Nat) : List V := ms.map fun m : Nat => V.int (m : Int)
theorem mkL_at {ms : List Nat} {j : Nat} (h : j < ms.length) : atI (mkL ms) (j : Int) = some (.int ((ms.getD j 0 : Nat) : Int)) := atI_nat (j := j) (by unfold mkL; simp [h])
theorem mkL_set (ms : List Nat) (j v : Nat) : (mkL ms).set j (.int (v : Int)) = mkL (ms.set j v) := by unfold mkL; rw [List.map_set]
theorem min_nat (a b : Nat) : (if (b : Int) < (a : Int) then (b : Int) else (a : Int)) = ((min a b : Nat) : Int) := by
  split <;> omega
section
variable {P : Program} {w : World} {K : PySem.W.Frag} {mg : Str → Option Value} {base : Heap}
/-! ### _law_marks -/
def spMarks (K : PySem.W.Frag) : Sp := fun vs H Q _ => ∃ (n : Nat) (a : Addr) (zs : List V) (ks : List (List Int)), vs = [.int n, .ref a] ∧ n ≤ 24 ∧ SqL K H a zs ∧ Tups K H zs ks ∧ (∀ k ∈ ks, Up n k) ∧
  ∀ (l : Addr) (ms : List Nat) (H' : Hp), Same H H' → H l = none → H' l = some (.lst (mkL ms)) → Pc.MI n (Tie ks) ms → MkI ks ms → Q (.ref l) H'
theorem scMarks : FnScope ["places", "ties", "marks", "going", "one", "other", "low"] ["places", "ties"] (defScope sMarks) := ⟨rfl, rfl, rfl, by decide +kernel, rfl, by decide +kernel, by decide +kernel⟩
theorem up_nat {i j : Nat} (h : i < j) : up [(i : Int), (j : Int)] = [(i : Int), (j : Int)] := up_lt (by omega)
theorem tie_of {n : Nat} {ks : List (List Int)} (hU : ∀ k ∈ ks, Up n k) {b c : Nat} (h : Tie ks b c) : ([(b : Int), (c : Int)] ∈ ks ∧ b < c ∧ c < n) ∨ ([(c : Int), (b : Int)] ∈ ks ∧ c < b ∧ b < n) := by
  obtain ⟨i, j, hij, hj, e⟩ := hU _ h
  unfold Tie at h
  rcases Nat.lt_trichotomy b c with z | z | z
  · rw [up_nat z] at h e
    injection e with e1 e2
    injection e2 with e2
    exact .inl ⟨h, z, by omega⟩
  · subst z
    have : up [(b : Int), (b : Int)] = [(b : Int), (b : Int)] := by show [(if (b : Int) < b then (b : Int) else b), (if (b : Int) > b then (b : Int) else b)] = _; simp
    rw [this] at e
    injection e with e1 e2
    injection e2 with e2
    omega
  · rw [up_comm, up_nat z] at h e
    injection e with e1 e2
    injection e2 with e2
    exact .inr ⟨h, z, by omega⟩
theorem tie_mem {ks : List (List Int)} {i j : Nat} (h : i < j) (hm : [(i : Int), (j : Int)] ∈ ks) : Tie ks i j := by
  unfold Tie
  rw [up_nat h]
  exact hm
set_option maxHeartbeats 2000000 in
theorem ok_marks {f : Addr} {fd : FuncData} (F : Fun K "_law_marks" "_law_marks" sMarks f fd) (B : Bn mg) : FnOk P w K mg base CX0 1 f fd ["places", "ties"] (spMarks K) := by
  refine F.ok scMarks (fun vs H Q E h => ?_) (fun cdv A outer s H vs Q E hr h => ?_)
  · obtain ⟨n, a, zs, ks, rfl, _⟩ := h
    rfl
  · obtain ⟨n, ta, zs, ks, rfl, hn, hT, hz, hU, q⟩ := h
    have hsl := sl1000
    refine ⟨_, pss_cons (ps_set (i := 2) scMarks.nd rfl (Or.inl rfl) (pe_callTy (call_list_rng rfl) (by rfl) B.list (by rfl) (pa_cons (pe_rngV (by rfl) B.range (pa_cons (pv 0) pa_nil)) pa_nil)))
      (pss_cons (ps_set (i := 3) scMarks.nd rfl (Or.inl rfl) pe_bl)
      (pss_cons (ps_while PassesOwn.never (pt_val (pv 3))
        (pss_cons (ps_set (i := 3) scMarks.nd rfl (Or.inl rfl) pe_bl)
        (pss_one (ps_for PassesOwn.never rfl (pi_list (pv 1)) (pg_tup rfl (pgs_cons (pg_name (i := 4) scMarks.nd rfl (Or.inl rfl)) (pgs_cons (pg_name (i := 5) scMarks.nd rfl (Or.inl rfl)) pgs_nil)))
          (pss_cons (ps_set (i := 6) scMarks.nd rfl (Or.inl rfl) (pe_callB (call_min2 rfl) (by rfl) B.min (by rfl) (pa_cons (pe_ix ix_list (pv 2) (pv 4) (fun _ _ => rfl)) (pa_cons (pe_ix ix_list (pv 2) (pv 5) (fun _ _ => rfl)) pa_nil))))
          (pss_one (ps_if (PW.pt (pw_or (pt_cmpR op_gt (pe_ix ix_list (pv 2) (pv 4) (fun _ _ => rfl)) (pv 6) (nomark _)) (pw_or1 (pt_cmpR op_gt (pe_ix ix_list (pv 2) (pv 5) (fun _ _ => rfl)) (pv 6) (nomark _)))))
            (pss_cons (ps_asg (pv 6) (pg_sub (pv 2) (pv 4) set_list))
            (pss_cons (ps_asg (pv 6) (pg_sub (pv 2) (pv 5) set_list))
            (pss_one (ps_set (i := 3) scMarks.nd rfl (Or.inl rfl) pe_bl)))) pss_nil)))))))
      (pss_one (ps_ret (pv 2))))), ?_⟩
    refine ⟨_, rfl, n, rfl, by omega, fun r hr0 => ?_⟩
    have s0 := same_upd (o := .rng 0 (n : Int)) hr0
    refine ⟨r, 0, n, n, rfl, upd_same, by omega, by omega, by decide, by decide, fun l hl' => ?_⟩
    have hl : H l = none := s0.free hl'
    have e0 : ((rngI 0 n).map V.int) = mkL (List.range n) := by
      unfold mkL rngI
      rw [List.range_eq_range', List.map_map]
      exact List.map_congr_left fun k _ => by show V.int ((0 : Int) + (k : Int)) = _; rw [Int.zero_add]
    rw [e0]
    have s1 := s0.trans (same_upd (o := .lst (mkL (List.range n))) hl')
    have g1 : (upd (upd H r (.rng 0 (n : Int))) l (.lst (mkL (List.range n)))) l = some (.lst (mkL (List.range n))) := upd_same
    generalize upd (upd H r (.rng 0 (n : Int))) l (.lst (mkL (List.range n))) = H1 at s1 g1
    refine ⟨fun m σ H1 => ∃ (g : Bool) (ms : List Nat) (e4 e5 e6 : Option V), σ = [some (.int n), some (.ref ta), some (.ref l), some (.bl g), e4, e5, e6] ∧ m = 2 * ms.sum + (if g = true then 1 else 0) ∧ Same H H1 ∧ H1 l = some (.lst (mkL ms)) ∧ Pc.MI n (Tie ks) ms ∧ (g = false → MkI ks ms),
      ⟨_, true, List.range n, none, none, none, rfl, rfl, s1, g1, Pc.MI.init, fun h => by cases h⟩, ?_⟩
    clear s1 g1
    rintro m σ H1 ⟨g, ms, e4, e5, e6, rfl, rfl, s1, g1, hM, hF⟩
    refine ⟨_, rfl, g, rfl, ?_⟩
    cases g with
    | false => exact iteF ⟨_, rfl, q l ms H1 s1 hl g1 hM (hF rfl)⟩
    | true =>
      refine iteT ⟨fun σ' H' => ∃ (g : Bool) (ms' : List Nat) (e4 e5 e6 : Option V), σ' = [some (.int n), some (.ref ta), some (.ref l), some (.bl g), e4, e5, e6] ∧ 2 * ms'.sum + (if g = true then 1 else 0) < 2 * ms.sum + 1 ∧ Same H H' ∧ H' l = some (.lst (mkL ms')) ∧ Pc.MI n (Tie ks) ms' ∧ (g = false → MkI ks ms'),
        fun σ' H' ⟨g, ms', a4, a5, a6, e, hm, s', g', hM', hF'⟩ => ⟨_, hm, g, ms', a4, a5, a6, e, rfl, s', g', hM', hF'⟩, ?_⟩
      refine ⟨_, rfl, ta, rfl, ⟨_, s1.seq hT⟩, for_list (K := K) (a := ta) (xs := zs) (fun i σ H2 => ∃ (g : Bool) (ms' : List Nat) (e4 e5 e6 : Option V), σ = [some (.int n), some (.ref ta), some (.ref l), some (.bl g), e4, e5, e6] ∧ Same H H2 ∧ H2 l = some (.lst (mkL ms')) ∧ Pc.MI n (Tie ks) ms' ∧
          (g = false → ms' = ms ∧ ∀ k ∈ ks.take i, ∀ b c : Nat, k = [(b : Int), (c : Int)] → ms.getD b 0 = ms.getD c 0) ∧ (g = true → ms'.sum < ms.sum))
        ⟨false, ms, e4, e5, e6, rfl, s1, g1, hM, fun _ => ⟨rfl, fun k hk => by rw [List.take_zero] at hk; cases hk⟩, fun h => by cases h⟩ (fun i σ H2 _ ⟨_, _, _, _, _, _, s, _⟩ => s.seq hT) ?_ ?_⟩
      · rintro i y σ H2 hy ⟨g, ms', a4, a5, a6, rfl, s2, g2, hM2, h0, h1⟩
        obtain ⟨pa, k, rfl, hk, hq⟩ := hz.get hy
        have hkm := List.mem_of_getElem? hk
        obtain ⟨b, c, hbc, hcn, rfl⟩ := hU k hkm
        have hL := hM2.len
        have hb : b < ms'.length := by omega
        have hc : c < ms'.length := by omega
        have lb : (mkL ms').length = ms'.length := List.length_map ..
        refine ⟨pa, _, rfl, s2.seqT hq, rfl, _, _, rfl, _, _, rfl, rfl, ?_⟩
        refine ⟨_, rfl, _, rfl, l, _, _, _, rfl, rfl, SqL.of g2, mkL_at hb, _, rfl, _, rfl, l, _, _, _, rfl, rfl, SqL.of g2, mkL_at hc, _, _, rfl, ?_⟩
        refine gName_eq (v' := .int ((min (ms'.getD b 0) (ms'.getD c 0) : Nat) : Int)) (by rw [min_nat]) ?_
        have hsum := Pc.stp_sum hL (show b < n by omega) hcn (show b ≠ c by omega)
        -- the marks behind this tie
        have tt : Tie ks b c := tie_mem hbc hkm
        have tk : ks.take (i + 1) = ks.take i ++ [[(b : Int), (c : Int)]] := by rw [List.take_add_one, hk]; rfl
        have stay : ms'.getD b 0 = ms'.getD c 0 → (fun i σ H2 => ∃ (g : Bool) (ms' : List Nat) (e4 e5 e6 : Option V), σ = [some (.int n), some (.ref ta), some (.ref l), some (.bl g), e4, e5, e6] ∧ Same H H2 ∧ H2 l = some (.lst (mkL ms')) ∧ Pc.MI n (Tie ks) ms' ∧
          (g = false → ms' = ms ∧ ∀ k ∈ ks.take i, ∀ b c : Nat, k = [(b : Int), (c : Int)] → ms.getD b 0 = ms.getD c 0) ∧ (g = true → ms'.sum < ms.sum)) (i + 1) ([some (.int n), some (.ref ta), some (.ref l), some (.bl g), some (.int b), some (.int c), some (.int ((min (ms'.getD b 0) (ms'.getD c 0) : Nat) : Int))] : St) H2 := fun e => by
          refine ⟨g, ms', _, _, _, rfl, s2, g2, hM2, fun hg => ?_, h1⟩
          obtain ⟨e1, e2⟩ := h0 hg
          refine ⟨e1, fun k hk b' c' ek => ?_⟩
          rw [tk] at hk
          rcases List.mem_append.mp hk with hk | hk
          · exact e2 k hk b' c' ek
          · have := List.mem_singleton.mp hk
            rw [this] at ek
            injection ek with k1 k2
            injection k2 with k2
            have e1b : b' = b := by omega
            have e1c : c' = c := by omega
            rw [← e1, e1b, e1c]
            exact e
        have put : ms'.getD b 0 ≠ ms'.getD c 0 → (fun i σ H2 => ∃ (g : Bool) (ms' : List Nat) (e4 e5 e6 : Option V), σ = [some (.int n), some (.ref ta), some (.ref l), some (.bl g), e4, e5, e6] ∧ Same H H2 ∧ H2 l = some (.lst (mkL ms')) ∧ Pc.MI n (Tie ks) ms' ∧
          (g = false → ms' = ms ∧ ∀ k ∈ ks.take i, ∀ b c : Nat, k = [(b : Int), (c : Int)] → ms.getD b 0 = ms.getD c 0) ∧ (g = true → ms'.sum < ms.sum)) (i + 1) ([some (.int n), some (.ref ta), some (.ref l), some (.bl true), some (.int b), some (.int c), some (.int ((min (ms'.getD b 0) (ms'.getD c 0) : Nat) : Int))] : St)
            (upd (upd H2 l (.lst ((mkL ms').set b (.int ((min (ms'.getD b 0) (ms'.getD c 0) : Nat) : Int))))) l (.lst (((mkL ms').set b (.int ((min (ms'.getD b 0) (ms'.getD c 0) : Nat) : Int))).set c (.int ((min (ms'.getD b 0) (ms'.getD c 0) : Nat) : Int))))) := fun e => by
          refine ⟨true, Pc.stp ms' b c, _, _, _, rfl, (s2.upd hl).upd hl, ?_, hM2.stp (fun _ _ => Tie.symm) (by omega) hcn tt, (fun h => by cases h), fun _ => ?_⟩
          · rw [upd_same, mkL_set, mkL_set]
            rfl
          · have hle : ms'.sum ≤ ms.sum := by
              cases g with
              | true => exact Nat.le_of_lt (h1 rfl)
              | false => rw [(h0 rfl).1]; exact Nat.le_refl _
            omega
        refine ⟨_, rfl, _, rfl, l, _, _, _, rfl, rfl, SqL.of g2, mkL_at hb, _, rfl, _, _, rfl, rfl, _, rfl, ?_⟩
        by_cases c1 : ((min (ms'.getD b 0) (ms'.getD c 0) : Nat) : Int) < ((ms'.getD b 0 : Nat) : Int)
        · rw [decide_eq_true c1]
          refine iteT (iteT ?_)
          refine ⟨_, rfl, _, rfl, _, rfl, l, _, _, b, rfl, rfl, g2, by rw [lb]; exact ixN_nat hb, ?_⟩
          refine ⟨_, rfl, _, rfl, _, rfl, l, _, _, c, rfl, rfl, upd_same, by rw [List.length_set, lb]; exact ixN_nat hc, ?_⟩
          exact put (by omega)
        · rw [decide_eq_false c1]
          refine iteF ⟨_, rfl, _, rfl, l, _, _, _, rfl, rfl, SqL.of g2, mkL_at hc, _, rfl, _, _, rfl, rfl, _, rfl, ?_⟩
          by_cases c2 : ((min (ms'.getD b 0) (ms'.getD c 0) : Nat) : Int) < ((ms'.getD c 0 : Nat) : Int)
          · rw [decide_eq_true c2]
            refine iteT ?_
            refine ⟨_, rfl, _, rfl, _, rfl, l, _, _, b, rfl, rfl, g2, by rw [lb]; exact ixN_nat hb, ?_⟩
            refine ⟨_, rfl, _, rfl, _, rfl, l, _, _, c, rfl, rfl, upd_same, by rw [List.length_set, lb]; exact ixN_nat hc, ?_⟩
            exact put (by omega)
          · rw [decide_eq_false c2]
            exact iteF (stay (by omega))
      · rintro σ H2 ⟨g, ms', a4, a5, a6, rfl, s2, g2, hM2, h0, h1⟩
        refine ⟨g, ms', _, _, _, rfl, ?_, s2, g2, hM2, fun hg => ?_⟩
        · cases g with
          | true => have := h1 rfl; rw [if_pos rfl]; omega
          | false => rw [(h0 rfl).1, if_neg Bool.false_ne_true]; omega
        · obtain ⟨e1, e2⟩ := h0 hg
          rw [hz.len, List.take_length] at e2
          rw [e1]
          intro b c tb
          rcases tie_of hU tb with ⟨hm, _⟩ | ⟨hm, _⟩
          · exact e2 _ hm b c rfl
          · exact (e2 _ hm c b rfl).symm
end
end Web

namespace Web
open PySem L2
set_option autoImplicit false
set_option linter.all false
def natI (fd : List Nat) : List Int := fd.map fun c : Nat => (c : Int)
theorem mem_natI {fd : List Nat} {c : Nat} : (c : Int) ∈ natI fd ↔ c ∈ fd := by
  unfold natI
  rw [List.mem_map]
  constructor
  · rintro ⟨d, hd, e⟩
    have : d = c := by omega
    exact this ▸ hd
  · exact fun h => ⟨c, h, rfl⟩
theorem mkL_append (a b : List Nat) : mkL (a ++ b) = mkL a ++ mkL b := by unfold mkL; rw [List.map_append]
theorem val_key {kvs : List (Key × V)} {fd : List Nat} (h : kvs.map (·.1) = (natI fd).map Sum.inl) (c : Nat) : (valV kvs (Sum.inl (c : Int))).isSome = decide (c ∈ fd) := by
  have mem : (Sum.inl (c : Int) : Key) ∈ kvs.map (·.1) ↔ c ∈ fd := by
    rw [h, List.mem_map]
    constructor
    · rintro ⟨z, hz, e⟩
      injection e with e
      rw [e] at hz
      exact mem_natI.mp hz
    · exact fun hc => ⟨_, mem_natI.mpr hc, rfl⟩
  cases e : valV kvs (Sum.inl (c : Int)) with
  | none => exact (decide_eq_false fun hc => valV_not e (mem.mpr hc)).symm
  | some v => exact (decide_eq_true (mem.mp (valV_in e))).symm
theorem hu_of' {k : Nat} {A : Around} (hr : Room k A) : A.units + 1 < cLine := by have := hr.units; omega
section
variable {P : Program} {w : World} {K : PySem.W.Frag} {mg : Str → Option Value} {base : Heap}
/-! ### piece_around -/
def spPiece (K : PySem.W.Frag) : Sp := fun vs H Q _ => ∃ (na : Addr) (n p : Nat) (ps : List Addr) (ks : List (List Int)), vs = [.ref na, .int p] ∧ n ≤ 24 ∧ p < n ∧ NN H na ps (nbF ks) n ∧ (∀ k ∈ ks, Up n k) ∧
  ∀ (l : Addr) (zs : List Int) (H' : Hp), Same H H' → H l = none → H' l = some (.lst (zs.map V.int)) → zs.length ≤ 24 → zs.Pairwise (· ≤ ·) → (∀ z ∈ zs, ∃ c : Nat, z = (c : Int)) → (∀ c : Nat, (c : Int) ∈ zs ↔ Pc.Rch (Tie ks) p c) → Q (.ref l) H'
theorem scPiece : FnScope ["near", "place", "found", "edge", "here", "end"] ["near", "place"] (defScope sPiece) := ⟨rfl, rfl, rfl, by decide +kernel, rfl, by decide +kernel, by decide +kernel⟩
set_option maxHeartbeats 2000000 in
theorem ok_piece {f : Addr} {fd : FuncData} (F : Fun K "piece_around" "piece_around" sPiece f fd) (B : Bn mg) : FnOk P w K mg base CX0 1 f fd ["near", "place"] (spPiece K) := by
  refine F.ok scPiece (fun vs H Q E h => ?_) (fun cdv A outer s H vs Q E hr h => ?_)
  · obtain ⟨na, n, p, ps, ks, rfl, _⟩ := h
    rfl
  · obtain ⟨na, n, p, ps, ks, rfl, hn, hp, hN, hU, q⟩ := h
    have hsl := sl1000
    refine ⟨_, pss_cons (ps_set (i := 2) scPiece.nd rfl (Or.inl rfl) (pe_disp (pps_cons (pv 1) pe_bl pps_nil) rfl rfl (by simp) (by decide)))
      (pss_cons (ps_set (i := 3) scPiece.nd rfl (Or.inl rfl) (pe_lst (pa_cons (pv 1) pa_nil)))
      (pss_cons (ps_while PassesOwn.never (pt_truth (pv 3) (fun _ => rfl))
        (pss_cons (ps_set (i := 4) scPiece.nd rfl (Or.inl rfl) (pe_bm0 PySem.F.plainAttrs_list PySem.F.slot_list_pop PySem.F.type_list_pop mt_pop (pv 3)))
        (pss_one (ps_for PassesOwn.never rfl (pi_list (pe_ix ix_list (pv 0) (pv 4) (fun _ _ => rfl))) (pg_name (i := 5) scPiece.nd rfl (Or.inl rfl))
          (pss_one (ps_if (pt_cmp (pc_dnotin (hu_of' hr) (pv 5) (pv 2)))
            (pss_cons (ps_dput (hu_of' hr) (pv 2) (pv 5) pe_bl rfl)
            (pss_one (ps_expr (pe_bm PySem.F.plainAttrs_list PySem.F.slot_list_append PySem.F.type_list_append mt_append (pv 3) (pa_cons (pv 5) pa_nil))))) pss_nil))))))
      (pss_one (ps_ret (pe_callB (call_sortD rfl) (by rfl) B.sorted (by rfl) (pa_cons (pv 2) pa_nil)))))), ?_⟩
    refine fun d hd => ⟨_, rfl, upd_same, [(Sum.inl (p : Int), .bl true)], rfl, (by show 1 ≤ 15; decide), ?_⟩
    have e1 : mergeK [] [((Sum.inl (p : Int) : Key), V.bl true)] = [(Sum.inl (p : Int), .bl true)] := rfl
    rw [e1]
    have s0 : Same H (upd (upd H d (.dK [])) d (.dK [(Sum.inl (p : Int), .bl true)])) := (same_upd hd).upd hd
    have g0 : (upd (upd H d (.dK [])) d (.dK [(Sum.inl (p : Int), .bl true)])) d = some (.dK [(Sum.inl (p : Int), .bl true)]) := upd_same
    generalize upd (upd H d (.dK [])) d (.dK [(Sum.inl (p : Int), .bl true)]) = H0 at s0 g0
    refine ⟨_, rfl, (by show 1 ≤ sizeLine; decide), fun l hl' => ?_⟩
    have hl : H l = none := s0.free hl'
    have s1 := s0.trans (same_upd (o := .lst [.int (p : Int)]) hl')
    have gd := same_upd (o := .lst [.int (p : Int)]) hl' _ _ g0
    have gl : (upd H0 l (.lst [.int (p : Int)])) l = some (.lst (mkL [p])) := upd_same
    generalize upd H0 l (.lst [.int (p : Int)]) = H1 at s1 gd gl
    refine ⟨fun m σ H1 => ∃ (fd ed : List Nat) (kvs : List (Key × V)) (e4 e5 : Option V), σ = [some (.ref na), some (.int p), some (.ref d), some (.ref l), e4, e5] ∧ m = 2 * (n - fd.length) + ed.length ∧ m ≤ 47 ∧ Same H H1 ∧ H1 d = some (.dK kvs) ∧ kvs.map (·.1) = (natI fd).map Sum.inl ∧ H1 l = some (.lst (mkL ed)) ∧ Pc.PA (Tie ks) n p fd ed,
      ⟨_, [p], [p], _, none, none, rfl, rfl, (by show 2 * (n - 1) + 1 ≤ 47; omega), s1, gd, rfl, gl, Pc.PA.init hp⟩, ?_⟩
    clear s1 gd gl s0 g0
    rintro m σ H1 ⟨fd, ed, kvs, e4, e5, rfl, rfl, h47, s1, gd, hk, gl, hP⟩
    refine ⟨_, rfl, !(mkL ed).isEmpty, .inl ⟨_, SqL.of gl, rfl⟩, ?_⟩
    have hfl : fd.length ≤ n := Pc.nd_le hP.nd fun k hk => (hP.rch k hk).1
    rcases List.eq_nil_or_concat ed with rfl | ⟨ed, k0, rfl⟩
    · refine iteF ?_
      refine ⟨_, rfl, d, kvs, natI fd, rfl, gd, hk, by unfold natI; rw [List.length_map]; omega, fun lz zs fz pz sz => ?_⟩
      refine q lz zs _ (s1.trans (same_upd fz)) (s1.free fz) upd_same (by rw [pz.length_eq]; unfold natI; rw [List.length_map]; omega) sz (fun z hz => ?_) fun c => ?_
      · have := pz.mem_iff.mp hz
        unfold natI at this
        obtain ⟨c, _, e⟩ := List.mem_map.mp this
        exact ⟨c, e.symm⟩
      · rw [pz.mem_iff, mem_natI]
        exact hP.iff c
    · rw [List.concat_eq_append] at *
      have hne : (mkL (ed ++ [k0])).isEmpty = false := by unfold mkL; rw [List.map_append]; simp
      rw [hne]
      have hk0 : k0 < n := (hP.rch k0 (hP.sub k0 (by simp))).1
      have hB := hP.pop
      have nld : l ≠ d := fun z => by rw [z, gd] at gl; cases gl
      refine iteT ⟨fun σ' H' => ∃ (fd' ed' : List Nat) (kvs : List (Key × V)) (e4 e5 : Option V), σ' = [some (.ref na), some (.int p), some (.ref d), some (.ref l), e4, e5] ∧ 2 * (n - fd'.length) + ed'.length < 2 * (n - fd.length) + (ed ++ [k0]).length ∧ Same H H' ∧ H' d = some (.dK kvs) ∧ kvs.map (·.1) = (natI fd').map Sum.inl ∧ H' l = some (.lst (mkL ed')) ∧ Pc.PA (Tie ks) n p fd' ed',
        fun σ' H' ⟨fd', ed', kvs, a4, a5, e, hm, r⟩ => ⟨_, hm, fd', ed', kvs, a4, a5, e, rfl, Nat.le_trans (Nat.le_of_lt hm) h47, r⟩, ?_⟩
      have elast : (mkL (ed ++ [k0]))[(mkL (ed ++ [k0])).length - 1]? = some (.int (k0 : Int)) := by
        rw [mkL_append]
        simp [mkL]
      have edrop : (mkL (ed ++ [k0])).dropLast = mkL ed := by rw [mkL_append]; simp [mkL]
      refine ⟨_, rfl, .inl ⟨rfl, _, SqL.of gl⟩, l, _, _, rfl, rfl, gl, elast, ?_⟩
      rw [edrop]
      have s2 := s1.upd (o := .lst (mkL ed)) hl
      have gd2 : (upd H1 l (.lst (mkL ed))) d = some (.dK kvs) := by rw [upd_ne nld.symm]; exact gd
      have gl2 : (upd H1 l (.lst (mkL ed))) l = some (.lst (mkL ed)) := upd_same
      generalize upd H1 l (.lst (mkL ed)) = H2 at s2 gd2 gl2
      obtain ⟨pr, epr, gpr, mpr⟩ := (hN.same s2).at hk0
      refine ⟨_, rfl, _, rfl, na, _, _, _, rfl, rfl, SqL.of (hN.same s2).lst, atI_nat mpr, pr, rfl, ⟨_, SqL.of gpr⟩, ?_⟩
      have gprH : H pr = some (.lst ((nbF ks k0).map V.int)) := hN.row k0 pr epr
      refine for_list (K := K) (a := pr) (xs := (nbF ks k0).map V.int) (fun i σ H3 => ∃ (fd' ed' : List Nat) (kvs : List (Key × V)) (e5 : Option V), σ = [some (.ref na), some (.int p), some (.ref d), some (.ref l), some (.int (k0 : Int)), e5] ∧ 2 * (n - fd'.length) + ed'.length ≤ 2 * (n - fd.length) + ed.length ∧ Same H H3 ∧ H3 d = some (.dK kvs) ∧ kvs.map (·.1) = (natI fd').map Sum.inl ∧ H3 l = some (.lst (mkL ed')) ∧ Pc.PB (Tie ks) n p k0 (((nbF ks k0).map Int.toNat).take i) fd' ed')
        ⟨fd, ed, kvs, e5, rfl, Nat.le_refl _, s2, gd2, hk, gl2, by rw [List.take_zero]; exact hB⟩ (fun i σ H3 _ ⟨_, _, _, _, _, _, s, _⟩ => SqL.of (s _ _ gprH)) ?_ ?_
      · rintro i y σ H3 hy ⟨fd', ed', kvs', a5, rfl, hm, s3, gd3, hk3, gl3, hB3⟩
        rw [List.getElem?_map] at hy
        obtain ⟨z, hz, rfl⟩ : ∃ z, (nbF ks k0)[i]? = some z ∧ y = V.int z := by
          cases e : (nbF ks k0)[i]? with
          | none => rw [e] at hy; cases hy
          | some z => rw [e] at hy; cases hy; exact ⟨z, rfl, rfl⟩
        obtain ⟨c, hc, rfl, htc⟩ := (mem_nbF hU k0 z).mp (List.mem_of_getElem? hz)
        have tk : ((nbF ks k0).map Int.toNat).take (i + 1) = ((nbF ks k0).map Int.toNat).take i ++ [c] := by
          rw [List.take_add_one, List.getElem?_map, hz]
          rfl
        refine gName_to ?_
        have hfl3 : fd'.length ≤ n := Pc.nd_le hB3.nd fun k hk => (hB3.rch k hk).1
        have hkl : kvs'.length = fd'.length := by
          have := congrArg List.length hk3
          unfold natI at this
          simpa using this
        refine ⟨_, rfl, _, rfl, d, _, rfl, DGet.k (k := Sum.inl (c : Int)) gd3, _, rfl, ?_⟩
        rw [val_key hk3]
        by_cases hcf : c ∈ fd'
        · rw [decide_eq_true hcf]
          refine iteF ?_
          exact ⟨fd', ed', kvs', _, rfl, hm, s3, gd3, hk3, gl3, by rw [tk]; exact hB3.old hcf⟩
        · rw [decide_eq_false hcf]
          have hvn : valV kvs' (Sum.inl (c : Int)) = none := by
            have := val_key hk3 c
            rw [decide_eq_false hcf] at this
            cases e : valV kvs' (Sum.inl (c : Int)) with
            | none => rfl
            | some v => rw [e] at this; cases this
          refine iteT ⟨_, rfl, _, rfl, d, _, rfl, DPut.k (k := Sum.inl (c : Int)) gd3 (by omega), ?_⟩
          rw [putK_new _ hvn]
          have gl4 : (upd H3 d (.dK (kvs' ++ [(Sum.inl (c : Int), .bl true)]))) l = some (.lst (mkL ed')) := by rw [upd_ne nld]; exact gl3
          have hel : ed'.length ≤ 47 := by
            rw [List.length_append, List.length_singleton] at h47
            omega
          refine ⟨_, rfl, .inl ⟨rfl, _, SqL.of gl4⟩, _, rfl, l, _, _, rfl, rfl, gl4, by unfold mkL; rw [List.length_map]; omega, ?_⟩
          have hB4 := hB3.new hcf hc htc
          have hfl4 : (fd' ++ [c]).length ≤ n := Pc.nd_le hB4.nd fun k hk => (hB4.rch k hk).1
          refine ⟨fd' ++ [c], ed' ++ [c], _, _, rfl, ?_, (s3.upd hd).upd hl, by rw [upd_ne nld.symm]; exact upd_same, ?_, by rw [upd_same, mkL_append]; rfl, by rw [tk]; exact hB4⟩
          · rw [List.length_append] at hfl4
            rw [List.length_append, List.length_append]
            simp at hfl4 ⊢
            omega
          · rw [List.map_append, hk3]
            unfold natI
            rw [List.map_append, List.map_append]
            rfl
      · rintro σ H3 ⟨fd', ed', kvs', a5, rfl, hm, s3, gd3, hk3, gl3, hB3⟩
        refine ⟨fd', ed', kvs', _, _, rfl, ?_, s3, gd3, hk3, gl3, hB3.done fun c hc => ?_⟩
        · rw [List.length_append, List.length_singleton]; omega
        · rw [List.length_map, List.take_of_length_le (by rw [List.length_map]; exact Nat.le_refl _)]
          refine List.mem_map.mpr ⟨(c : Int), (mem_nbF hU k0 _).mpr ⟨c, ?_, rfl, hc⟩, rfl⟩
          rcases tie_of hU hc with ⟨_, _, h⟩ | ⟨_, h, h'⟩
          · exact h
          · omega
end
end Web

namespace Web
open PySem L2
set_option autoImplicit false
set_option linter.all false
/-- a web, as it is told -/
def WebAt (K : PySem.W.Frag) (H : Hp) (p : Addr) (n : Nat) (ks : List (List Int)) : Prop := ∃ t zs, SqT K H p [.int n, .ref t] ∧ SqT K H t zs ∧ Tups K H zs ks
theorem WebAt.same {K : PySem.W.Frag} {H H' : Hp} {p : Addr} {n : Nat} {ks : List (List Int)} (h : WebAt K H p n ks) (s : Same H H') : WebAt K H' p n ks := by
  obtain ⟨t, zs, h1, h2, h3⟩ := h
  exact ⟨t, zs, s.seqT h1, s.seqT h2, s.tups h3⟩
section
variable {P : Program} {w : World} {K : PySem.W.Frag} {mg : Str → Option Value} {base : Heap}
theorem scChk : FnScope ["places", "number"] ["places", "number"] (defScope sChk) := ⟨rfl, rfl, rfl, by decide +kernel, rfl, by decide +kernel, by decide +kernel⟩
theorem scTied : FnScope ["web", "one", "other"] ["web", "one", "other"] (defScope sTied) := ⟨rfl, rfl, rfl, by decide +kernel, rfl, by decide +kernel, by decide +kernel⟩
/-! ### check_place, of any number -/
def isPl (n : Nat) (a : Int) : Prop := 0 ≤ a ∧ a < n
def spChkX (CN : Addr) : Sp := fun vs H Q E => ∃ (n : Nat) (a : Int), vs = [.int n, .int a] ∧ (isPl n a → Q .non H) ∧ (¬ isPl n a → E (.ref CN) none H)
theorem ok_chkX {f fI CN : Addr} {fd fdI : FuncData} (F : Fun K "check_place" "check_place" sChk f fd) (FI : Fun K "is_place" "is_place" sIsP fI fdI) (bI : Binds K fdI ["places", "number"] []) (mI : mg "is_place" = some (.ref fI))
    (mN : mg "NoPlace" = some (.ref CN)) (cN : ExcC K CN) : FnOk P w K mg base (CXE P w) 2 f fd ["places", "number"] (spChkX CN) := by
  have GI : FnOk P w K mg base CX0 1 fI fdI ["places", "number"] spIsP := ok_isP FI
  refine F.okX scChk (fun vs H Q E h => ?_) (fun cdv A outer s H vs Q E hr h => ?_)
  · obtain ⟨n, a, rfl, _⟩ := h
    rfl
  · obtain ⟨n, a, rfl, h1, h2⟩ := h
    refine ⟨_, pss_one (ps_if (pt_not (pt_val (pe_call GI hr rfl mI FI.kp bI .nil pass0 (pa_cons (pv 0) (pa_cons (pv 1) pa_nil))))) (pss_one (ps_raise (by rfl) mN cN)) pss_nil), ?_⟩
    refine ⟨_, rfl, _, rfl, _, _, rfl, _, rfl, ?_⟩
    by_cases hp : isPl n a
    · rw [decide_eq_true hp.1, decide_eq_true hp.2]
      exact iteF (h1 hp)
    · have e : (decide ((0 : Int) ≤ a) && decide (a < (n : Int))) = false := by
        rw [Bool.and_eq_false_iff]
        by_cases z : (0 : Int) ≤ a
        · exact .inr (decide_eq_false fun z' => hp ⟨z, z'⟩)
        · exact .inl (decide_eq_false z)
      rw [e]
      exact iteT (h2 hp)
/-! ### tied, of any two numbers -/
def spTiedX (K : PySem.W.Frag) (CN : Addr) : Sp := fun vs H Q E => ∃ (p : Addr) (n : Nat) (a b : Int) (ks : List (List Int)), vs = [.ref p, .int a, .int b] ∧ WebAt K H p n ks ∧
  (isPl n a ∧ isPl n b → ∀ H', Same H H' → Q (.bl (decide (up [a, b] ∈ ks))) H') ∧ (¬ (isPl n a ∧ isPl n b) → E (.ref CN) none H)
theorem ok_tiedX {f fI fC CN : Addr} {fd fdI fdC : FuncData} (F : Fun K "tied" "tied" sTied f fd) (B : Bn mg) (FI : Fun K "is_place" "is_place" sIsP fI fdI) (bI : Binds K fdI ["places", "number"] []) (mI : mg "is_place" = some (.ref fI))
    (FC : Fun K "check_place" "check_place" sChk fC fdC) (bC : Binds K fdC ["places", "number"] []) (mC : mg "check_place" = some (.ref fC)) (mN : mg "NoPlace" = some (.ref CN)) (cN : ExcC K CN) : FnOk P w K mg base (CXE P w) 3 f fd ["web", "one", "other"] (spTiedX K CN) := by
  have GC : FnOk P w K mg base (CXE P w) 2 fC fdC ["places", "number"] (spChkX CN) := ok_chkX FC FI bI mI mN cN
  refine F.okX scTied (fun vs H Q E h => ?_) (fun cdv A outer s H vs Q E hr h => ?_)
  · obtain ⟨p, n, a, b, ks, rfl, _⟩ := h
    rfl
  · obtain ⟨p, n, a, b, ks, rfl, ⟨t, zs, h1, h2, h3⟩, q, qE⟩ := h
    have hun := hr.units
    refine ⟨_, pss_cons (ps_expr (pe_call GC hr (by rfl) mC FC.kp bC .nil passE (pa_cons (pe_ix ix_tup (pv 0) pe_int (fun _ _ => rfl)) (pa_cons (pv 1) pa_nil))))
      (pss_cons (ps_expr (pe_call GC hr (by rfl) mC FC.kp bC .nil passE (pa_cons (pe_ix ix_tup (pv 0) pe_int (fun _ _ => rfl)) (pa_cons (pv 2) pa_nil))))
      (pss_one (ps_ret (pe_cmpR op_inD (pe_tup (pa_cons (pe_callB (call_min2 rfl) (by rfl) B.min (by rfl) (pa_cons (pv 1) (pa_cons (pv 2) pa_nil))) (pa_cons (pe_callB (call_max2 rfl) (by rfl) B.max (by rfl) (pa_cons (pv 1) (pa_cons (pv 2) pa_nil))) pa_nil)))
        (pe_ix ix_tup (pv 0) pe_int (fun _ _ => rfl)) (by rfl))))), ?_⟩
    have a0 : atI ([.int n, .ref t] : List V) 0 = some (.int n) := atI_nat (j := 0) rfl
    have a1 : atI ([.int n, .ref t] : List V) 1 = some (.ref t) := atI_nat (j := 1) rfl
    refine ⟨_, rfl, p, _, _, _, rfl, rfl, h1, a0, _, rfl, n, a, rfl, fun ha => ?_, fun ha => qE fun z => ha z.1⟩
    refine ⟨_, rfl, p, _, _, _, rfl, rfl, h1, a0, _, rfl, n, b, rfl, fun hb => ?_, fun hb => qE fun z => hb z.2⟩
    refine ⟨_, rfl, _, rfl, _, _, rfl, _, rfl, _, rfl, _, _, rfl, (by show 2 ≤ sizeLine; decide), fun x hx => ?_⟩
    have s1 := same_upd (o := .tup [.int (if b < a then b else a), .int (if b > a then b else a)]) hx
    refine ⟨_, rfl, p, _, _, _, rfl, rfl, s1.seqT h1, a1, t, zs, dP (up [a, b]), ks.map dP, rfl, .inr (s1.seqT h2), Dt.mkP (SqT.of upd_same), (s1.tups h3).dtAll, lay_dP _, lay_pairs ks, ?_, ?_⟩
    · exact un_lt1 hun (Nat.le_trans (dep_dP _) (by decide))
    · show Q (.bl ((ks.map dP).any fun d => PyData.eqv d (dP (up [a, b])))) _
      rw [any_dP]
      exact q ⟨ha, hb⟩ _ s1
end
end Web

namespace Web
open PySem L2
set_option autoImplicit false
set_option linter.all false
/-- a number of places and a list of ties -/
def WebL (K : PySem.W.Frag) (H : Hp) (p : Addr) (n : Nat) (ks : List (List Int)) : Prop := ∃ t zs, SqT K H p [.int n, .ref t] ∧ SqL K H t zs ∧ Tups K H zs ks
section
variable {P : Program} {w : World} {K : PySem.W.Frag} {mg : Str → Option Value} {base : Heap}
/-! ### beside -/
def spBes (K : PySem.W.Frag) : Sp := fun vs H Q _ => ∃ (wa : Addr) (n : Nat) (ks : List (List Int)), vs = [.ref wa] ∧ WebL K H wa n ks ∧ n ≤ 24 ∧ ks.length ≤ 600 ∧ (∀ k ∈ ks, Up n k) ∧ ∀ (a : Addr) (ps : List Addr) (H' : Hp), Same H H' → NN H' a ps (nbF ks) n → Q (.ref a) H'
theorem scBes : FnScope ["web", "near", "one", "other"] ["web"] (defScope sBes) := ⟨rfl, rfl, rfl, by decide +kernel, rfl, by decide +kernel, by decide +kernel⟩
set_option maxHeartbeats 2000000 in
theorem ok_bes {f : Addr} {fd : FuncData} (F : Fun K "beside" "beside" sBes f fd) (B : Bn mg) : FnOk P w K mg base CX0 1 f fd ["web"] (spBes K) := by
  refine F.ok scBes (fun vs H Q E h => ?_) (fun cdv A outer s H vs Q E hr h => ?_)
  · obtain ⟨wa, n, ks, rfl, _⟩ := h
    rfl
  · obtain ⟨wa, n, ks, rfl, ⟨t, zs, h1, h2, h3⟩, hn, hkl, hU, q⟩ := h
    have hsl := sl1000
    have sl2 : 2000 ≤ sizeLine := by decide
    have nd1 : (["place"] : List Str).Nodup := by decide +kernel
    refine ⟨_, pss_cons (ps_setC (i := 1) scBes.nd rfl rfl (by rfl) (N' := ["place"]) (lk := [none]) rfl (pi_range1 rfl B.range (pa_cons (pe_ix ix_tup (pv 0) pe_int (fun _ _ => rfl)) pa_nil)) (by rfl) rfl (by decide +kernel) (by exact trivial) (by rfl) (by exact LkL.ok trivial)
          (fun _ _ _ => pg_name (i := 0) nd1 rfl (Or.inl rfl)) (fun _ _ _ => pts_nil) (fun _ _ _ => pe_lst pa_nil))
      (pss_cons (ps_for PassesOwn.never rfl (pi_list (pe_ix ix_tup (pv 0) pe_int (fun _ _ => rfl))) (pg_tup rfl (pgs_cons (pg_name (i := 2) scBes.nd rfl (Or.inl rfl)) (pgs_cons (pg_name (i := 3) scBes.nd rfl (Or.inl rfl)) pgs_nil)))
        (pss_cons (ps_expr (pe_bm PySem.F.plainAttrs_list PySem.F.slot_list_append PySem.F.type_list_append mt_append (pe_ix ix_list (pv 1) (pv 2) (fun _ _ => rfl)) (pa_cons (pv 3) pa_nil)))
        (pss_one (ps_expr (pe_bm PySem.F.plainAttrs_list PySem.F.slot_list_append PySem.F.type_list_append mt_append (pe_ix ix_list (pv 1) (pv 3) (fun _ _ => rfl)) (pa_cons (pv 2) pa_nil))))))
      (pss_one (ps_ret (pv 1)))), ?_⟩
    have a0 : atI ([.int n, .ref t] : List V) 0 = some (.int n) := atI_nat (j := 0) rfl
    have a1 : atI ([.int n, .ref t] : List V) 1 = some (.ref t) := atI_nat (j := 1) rfl
    refine ⟨_, rfl, wa, _, _, _, rfl, rfl, h1, a0, (n : Int), rfl, by omega, by omega, fun D hD => ?_⟩
    rw [Int.toNat_natCast]
    refine comp_range (lo := 0) (n := n) (D := D) (fun i xs σ' H' => (∃ v, σ' = [v]) ∧ Same H H' ∧ H' D = some (.lst xs) ∧ ∃ ps : List Addr, xs = ps.map V.ref ∧ ps.length = i ∧ ps.Nodup ∧ D ∉ ps ∧ ∀ p ∈ ps, H p = none ∧ H' p = some (.lst []))
      ⟨⟨none, rfl⟩, same_upd hD, upd_same, [], rfl, rfl, List.nodup_nil, List.not_mem_nil, fun p hp => absurd hp List.not_mem_nil⟩ (by omega) (fun i xs σ' H' hi' ⟨_, _, g, ps, e, l, _⟩ => ⟨g, by rw [e, List.length_map, l]; exact Nat.le_refl _⟩) ?_ ?_
    · rintro i xs σ' H' N kN hi' ⟨⟨v, rfl⟩, s2, g2, ps, rfl, hpl, hnd, hout, hps⟩
      refine gName_to (tTrue_if ?_)
      refine ⟨by show 0 ≤ sizeLine; omega, fun x hx => ?_⟩
      have s3 := same_upd (o := .lst []) hx
      have nD : D ≠ x := ne_of_none g2 hx
      refine ⟨s3 _ _ g2, kN _ _ _ ⟨⟨_, rfl⟩, (s2.trans s3).upd hD, upd_same, ps ++ [x], by rw [List.map_append]; rfl, by rw [List.length_append, hpl]; rfl, nd_snoc hnd fun hm => ?_, fun hm => ?_, fun p hp => ?_⟩⟩
      · have := (hps x hm).2
        rw [hx] at this
        cases this
      · rcases List.mem_append.mp hm with hm | hm
        · exact hout hm
        · exact nD (List.mem_singleton.mp hm)
      · rcases List.mem_append.mp hp with hp | hp
        · have hpD : p ≠ D := fun z => hout (by rw [← z]; exact hp)
          exact ⟨(hps p hp).1, by rw [upd_ne hpD]; exact s3 _ _ (hps p hp).2⟩
        · rw [List.mem_singleton.mp hp]
          exact ⟨s2.free hx, by rw [upd_ne (Ne.symm nD)]; exact upd_same⟩
    · rintro xs σ' H1 ⟨⟨v, rfl⟩, s1, g1, ps, rfl, hpl, hnd, hout, hps⟩
      have N1 : NN H1 D ps (nbF (ks.take 0)) n := ⟨g1, hpl, fun i p e => (hps p (List.mem_of_getElem? e)).2, hnd, hout⟩
      have hzl := h3.len
      refine ⟨_, rfl, wa, _, _, _, rfl, rfl, s1.seqT h1, a1, t, rfl, ⟨_, s1.seq h2⟩, for_list (K := K) (a := t) (xs := zs) (fun m σ H2 => ∃ e2 e3, σ = [some (.ref wa), some (.ref D), e2, e3] ∧ Same H H2 ∧ NN H2 D ps (nbF (ks.take m)) n)
        ⟨none, none, rfl, s1, N1⟩ (fun m σ H2 _ ⟨_, _, _, s, _⟩ => s.seq h2) ?_ ?_⟩
      · rintro m y σ H2 hy ⟨e2, e3, rfl, s2, N2⟩
        obtain ⟨pa, k, rfl, hk, hq⟩ := h3.get hy
        obtain ⟨i, j, hij, hj, rfl⟩ := hU k (List.mem_of_getElem? hk)
        refine ⟨pa, _, rfl, s2.seqT hq, rfl, _, _, rfl, _, _, rfl, rfl, ?_⟩
        obtain ⟨p1, e1, g1', m1⟩ := N2.at (show i < n by omega)
        have l1 := nbF_len (ks.take m) i
        have l2 := nbF_len (ks.take m) j
        have lt : (ks.take m).length ≤ ks.length := by rw [List.length_take]; omega
        refine ⟨_, rfl, _, rfl, D, _, _, _, rfl, rfl, SqL.of N2.lst, atI_nat m1, .inl ⟨rfl, _, SqL.of g1'⟩, _, rfl, p1, _, _, rfl, rfl, g1', by rw [List.length_map]; omega, ?_⟩
        have N3 := N2.put e1 (nbF (ks.take m) i ++ [(j : Int)])
        rw [List.map_append] at N3
        obtain ⟨p2, e2', g2', m2⟩ := N3.at hj
        have hne : ¬ j = i := by omega
        rw [if_neg hne] at g2'
        refine ⟨_, rfl, _, rfl, D, _, _, _, rfl, rfl, SqL.of N3.lst, atI_nat m2, .inl ⟨rfl, _, SqL.of g2'⟩, _, rfl, p2, _, _, rfl, rfl, g2', by rw [List.length_map]; omega, ?_⟩
        have N4 := N3.put e2' (nbF (ks.take m) j ++ [(i : Int)])
        rw [List.map_append] at N4
        have hT : (fun x => if x = j then nbF (ks.take m) j ++ [(i : Int)] else if x = i then nbF (ks.take m) i ++ [(j : Int)] else nbF (ks.take m) x) = nbF (ks.take (m + 1)) := by
          funext x
          rw [nbF_take hk x]
          show _ = _ ++ ((if (i : Int) = (x : Int) then [(j : Int)] else []) ++ (if (j : Int) = (x : Int) then [(i : Int)] else []))
          by_cases hx : x = j
          · subst hx
            rw [if_pos rfl, if_neg (by omega), if_pos rfl, List.nil_append]
          · rw [if_neg hx, if_neg (show ¬ (j : Int) = (x : Int) by omega)]
            by_cases hx' : x = i
            · subst hx'
              rw [if_pos rfl, if_pos rfl, List.append_nil]
            · rw [if_neg hx', if_neg (show ¬ (i : Int) = (x : Int) by omega), List.append_nil, List.append_nil]
        rw [hT] at N4
        exact ⟨_, _, rfl, (s2.upd (hps p1 (List.mem_of_getElem? e1)).1).upd (hps p2 (List.mem_of_getElem? e2')).1, N4⟩
      · rintro σ H2 ⟨e2, e3, rfl, s2, N2⟩
        rw [hzl, List.take_length] at N2
        exact ⟨_, rfl, q D ps H2 s2 N2⟩
end
end Web

namespace Web
open PySem L2
set_option autoImplicit false
set_option linter.all false
/-- the ties but one -/
def but (ks : List (List Int)) (t : List Int) : List (List Int) := ks.filter fun k => !decide (k = t)
theorem but_take {ks : List (List Int)} {t k : List Int} {i : Nat} (h : ks[i]? = some k) : but (ks.take (i + 1)) t = but (ks.take i) t ++ (if k = t then [] else [k]) := by
  unfold but
  rw [List.take_add_one, h, Option.toList_some, List.filter_append]
  by_cases e : k = t
  · rw [if_pos e, List.filter_cons_of_neg (by rw [decide_eq_true e]; decide), List.filter_nil]
  · rw [if_neg e, List.filter_cons_of_pos (by rw [decide_eq_false e]; rfl), List.filter_nil]
theorem but_len (ks : List (List Int)) (t : List Int) (i : Nat) : (but (ks.take i) t).length ≤ i := by
  have h4 := List.length_filter_le (fun k => !decide (k = t)) (ks.take i)
  rw [List.length_take] at h4
  unfold but
  omega
theorem but_mem {ks : List (List Int)} {t k : List Int} : k ∈ but ks t ↔ k ∈ ks ∧ k ≠ t := by
  unfold but
  rw [List.mem_filter]
  simp
/-- tied, and hanging together without the tie -/
def Rng (ks : List (List Int)) (a b : Int) : Prop := up [a, b] ∈ ks ∧ Pc.Rch (Tie (but ks (up [a, b]))) a.toNat b.toNat
section
variable {P : Program} {w : World} {K : PySem.W.Frag} {mg : Str → Option Value} {base : Heap}
/-! ### in_ring -/
def spRing (K : PySem.W.Frag) (CN : Addr) : Sp := fun vs H Q E => ∃ (p : Addr) (n : Nat) (a b : Int) (ks : List (List Int)), vs = [.ref p, .int a, .int b] ∧ WebAt K H p n ks ∧ n ≤ 24 ∧ ks.length ≤ 300 ∧ (∀ k ∈ ks, Up n k) ∧
  (isPl n a ∧ isPl n b → ∀ (r : Bool) (H' : Hp), Same H H' → (r = true ↔ Rng ks a b) → Q (.bl r) H') ∧ (¬ (isPl n a ∧ isPl n b) → E (.ref CN) none H)
theorem scRing : FnScope ["web", "one", "other", "taken_out", "kept"] ["web", "one", "other"] (defScope sRing) := ⟨rfl, rfl, rfl, by decide +kernel, rfl, by decide +kernel, by decide +kernel⟩
set_option maxHeartbeats 2000000 in
theorem ok_ring {f fI fC fT fU fB fP CN : Addr} {fd fdI fdC fdT fdU fdB fdP : FuncData} (F : Fun K "in_ring" "in_ring" sRing f fd) (B : Bn mg) (FI : Fun K "is_place" "is_place" sIsP fI fdI) (bI : Binds K fdI ["places", "number"] []) (mI : mg "is_place" = some (.ref fI))
    (FC : Fun K "check_place" "check_place" sChk fC fdC) (bC : Binds K fdC ["places", "number"] []) (mC : mg "check_place" = some (.ref fC)) (FU : Fun K "turned_up" "turned_up" sUp fU fdU) (bU : Binds K fdU ["places", "tie"] []) (mU : mg "turned_up" = some (.ref fU))
    (FT : Fun K "tied" "tied" sTied fT fdT) (bT : Binds K fdT ["web", "one", "other"] []) (mT : mg "tied" = some (.ref fT)) (FB : Fun K "beside" "beside" sBes fB fdB) (bB : Binds K fdB ["web"] []) (mB : mg "beside" = some (.ref fB))
    (FP : Fun K "piece_around" "piece_around" sPiece fP fdP) (bP : Binds K fdP ["near", "place"] []) (mP : mg "piece_around" = some (.ref fP)) (mN : mg "NoPlace" = some (.ref CN)) (cN : ExcC K CN) : FnOk P w K mg base (CXE P w) 4 f fd ["web", "one", "other"] (spRing K CN) := by
  have GT : FnOk P w K mg base (CXE P w) 3 fT fdT ["web", "one", "other"] (spTiedX K CN) := ok_tiedX FT B FI bI mI FC bC mC mN cN
  have GU : FnOk P w K mg base CX0 3 fU fdU ["places", "tie"] (spUp K) := (ok_up FU B FI bI mI).mono (by decide)
  have GB : FnOk P w K mg base CX0 3 fB fdB ["web"] (spBes K) := (ok_bes FB B).mono (by decide)
  have GP : FnOk P w K mg base CX0 3 fP fdP ["near", "place"] (spPiece K) := (ok_piece FP B).mono (by decide)
  refine F.okX scRing (fun vs H Q E h => ?_) (fun cdv A outer s H vs Q E hr h => ?_)
  · obtain ⟨p, n, a, b, ks, rfl, _⟩ := h
    rfl
  · obtain ⟨p, n, a, b, ks, rfl, hW, hn, hkl, hU, q, qE⟩ := h
    have hsl := sl1000
    have hun := hr.units
    have nd2 : (["tie", "taken_out"] : List Str).Nodup := by decide +kernel
    refine ⟨_, pss_cons (ps_if (pt_not (pt_val (pe_call GT hr (by rfl) mT FT.kp bT .nil passE (pa_cons (pv 0) (pa_cons (pv 1) (pa_cons (pv 2) pa_nil)))))) (pss_one (ps_ret pe_bl)) pss_nil)
      (pss_cons (ps_set (i := 3) scRing.nd rfl (Or.inr rfl) (pe_call GU hr (by rfl) mU FU.kp bU .nil pass0 (pa_cons (pe_ix ix_tup (pv 0) pe_int (fun _ _ => rfl)) (pa_cons (pe_tup (pa_cons (pv 1) (pa_cons (pv 2) pa_nil))) pa_nil))))
      (pss_cons (ps_setC (i := 4) scRing.nd rfl rfl (by rfl) (N' := ["tie", "taken_out"]) (lk := [none, some 3]) rfl (pi_tup (pe_ix ix_tup (pv 0) pe_int (fun _ _ => rfl))) (by rfl) rfl (by decide +kernel) (by exact ⟨rfl, trivial⟩) (by rfl) (by exact LkL.ok ⟨⟨rfl, Or.inl rfl, rfl, Or.inl rfl⟩, trivial⟩)
          (fun _ _ _ => pg_name (i := 0) nd2 rfl (Or.inl rfl)) (fun _ _ _ => pts_one (pt_cmpR (op_neDK K hr.around rfl rfl) (pv 0) (pv 1) (nomark _))) (fun _ _ _ => pv 0))
      (pss_one (ps_ret (pe_cmpR op_in_seq (pv 2) (pe_call GP hr (by rfl) mP FP.kp bP .nil pass0 (pa_cons (pe_call GB hr (by rfl) mB FB.kp bB .nil pass0 (pa_cons (pe_tup (pa_cons (pe_ix ix_tup (pv 0) pe_int (fun _ _ => rfl)) (pa_cons (pv 4) pa_nil))) pa_nil)) (pa_cons (pv 1) pa_nil))) (by rfl)))))), ?_⟩
    obtain ⟨t, zs, h1, h2, h3⟩ := id hW
    have a0 : atI ([.int n, .ref t] : List V) 0 = some (.int n) := atI_nat (j := 0) rfl
    have a1 : atI ([.int n, .ref t] : List V) 1 = some (.ref t) := atI_nat (j := 1) rfl
    have hzl := h3.len
    refine ⟨_, rfl, _, rfl, _, rfl, p, n, a, b, ks, rfl, hW, fun hab H1 s1 => ?_, qE⟩
    by_cases hm : up [a, b] ∈ ks
    · refine ⟨_, rfl, ?_⟩
      rw [decide_eq_true hm]
      refine iteF ?_
      obtain ⟨ha, hb⟩ := hab
      obtain ⟨x, rfl⟩ : ∃ x : Nat, a = (x : Int) := ⟨a.toNat, by have := ha.1; omega⟩
      obtain ⟨y, rfl⟩ : ∃ y : Nat, b = (y : Int) := ⟨b.toNat, by have := hb.1; omega⟩
      have hx : x < n := by have := ha.2; omega
      have hy : y < n := by have := hb.2; omega
      have hxy : x ≠ y := by
        rcases tie_of hU (show Tie ks x y from hm) with ⟨_, h, _⟩ | ⟨_, h, _⟩ <;> omega
      refine ⟨_, rfl, p, _, _, _, rfl, rfl, s1.seqT h1, a0, _, rfl, _, rfl, (by show 2 ≤ sizeLine; decide), fun tp ftp => ?_⟩
      have s2 := same_upd (o := .tup [.int (x : Int), .int (y : Int)]) ftp
      refine ⟨n, tp, [(x : Int), (y : Int)], rfl, SqT.of upd_same, ⟨x, y, hx, hy, hxy, rfl⟩, fun tq ftq => ?_⟩
      have s3 := same_upd (o := .tup ((up [(x : Int), (y : Int)]).map V.int)) ftq
      have s13 := (s1.trans s2).trans s3
      have gq : (upd (upd H1 tp (.tup [.int (x : Int), .int (y : Int)])) tq (.tup ((up [(x : Int), (y : Int)]).map V.int))) tq = some (.tup ((up [(x : Int), (y : Int)]).map V.int)) := upd_same
      generalize upd (upd H1 tp (.tup [.int (x : Int), .int (y : Int)])) tq (.tup ((up [(x : Int), (y : Int)]).map V.int)) = H3 at s13 gq
      generalize hu : up [(x : Int), (y : Int)] = u at gq
      have hUb : ∀ k ∈ but ks u, Up n k := fun k hk => hU k (but_mem.mp hk).1
      refine ⟨_, rfl, p, _, _, _, rfl, rfl, s13.seqT h1, a1, t, rfl, ⟨_, s13.seqT h2⟩, fun D hD => comp_tup (K := K) (a := t) (D := D) (ys := zs)
        (fun m xs σ' H' => ∃ v, σ' = [v, some (.ref tq)] ∧ Same H3 H' ∧ H' D = some (.lst xs) ∧ Tups K H' xs (but (ks.take m) u)) ⟨none, rfl, same_upd hD, upd_same, .nil⟩ (by omega)
        (fun m xs σ' H' hi' ⟨_, _, s5, g5, t5⟩ => ⟨(s13.trans s5).seqT h2, g5, by rw [t5.len]; exact but_len ks u m⟩) ?_ ?_⟩
      · rintro m xs x' σ' H' N kN hx' ⟨v, rfl, s5, g5, t5⟩
        obtain ⟨pb, kk, rfl, hk', hq'⟩ := h3.get hx'
        refine gName_to ?_
        have hq5 := (s13.trans s5).seqT hq'
        refine ⟨_, rfl, _, rfl, dP kk, dP u, Dt.mkP hq5, Dt.mkP (SqT.of (s5 _ _ gq)), lay_dP _, lay_dP _, ?_, _, rfl, ?_⟩
        · refine un_lt hun (Nat.le_trans (Nat.min_le_left _ _) ?_)
          have := dep_dP kk
          omega
        have en : (!PyData.eqv (dP kk) (dP u)) = !decide (kk = u) := by rw [eqv_dP]
        have et := but_take (t := u) hk'
        by_cases hkk : kk = u
        · rw [if_pos rfl, en, decide_eq_true hkk]
          refine iteF (kN _ _ _ ⟨_, rfl, s5, g5, ?_⟩)
          rw [et, if_pos hkk, List.append_nil]
          exact t5
        · rw [if_pos rfl, en, decide_eq_false hkk]
          refine iteT ⟨_, rfl, g5, kN _ _ _ ⟨_, rfl, s5.upd hD, upd_same, ?_⟩⟩
          rw [et, if_neg hkk]
          exact Tups.updL g5 (Tups.append t5 (Tups.one hq5))
      · rintro xs σ' H4 ⟨v, rfl, s5, g5, t5⟩
        rw [hzl, List.take_length] at t5
        have s15 := s13.trans s5
        refine ⟨_, rfl, _, rfl, p, _, _, _, rfl, rfl, s15.seqT h1, a0, _, rfl, (by show 2 ≤ sizeLine; decide), fun wl fwl => ?_⟩
        have s6 := same_upd (o := .tup [.int (n : Int), .ref D]) fwl
        have hlb : (but ks u).length ≤ 300 := by
          have := but_len ks u ks.length
          rw [List.take_length] at this
          omega
        refine ⟨wl, n, but ks u, rfl, ⟨D, xs, SqT.of upd_same, SqL.of (s6 _ _ g5), s6.tups t5⟩, hn, by omega, hUb, fun na ps H7 s7 hNN => ?_⟩
        refine ⟨_, rfl, na, n, x, ps, but ks u, rfl, hn, hx, hNN, hUb, fun l8 ys H8 s8 _ g8 hl8 _ _ hR => ?_⟩
        refine ⟨l8, _, rfl, .inl (SqL.of g8), rfl, flat_ints ys, ?_⟩
        show Q (.bl (inV (.int (y : Int)) (ys.map V.int))) H8
        rw [inV_ints]
        refine q ⟨ha, hb⟩ _ H8 (((s15.trans s6).trans s7).trans s8) ?_
        rw [decide_eq_true_iff, hR y]
        unfold Rng
        rw [hu]
        exact ⟨fun h => ⟨hu ▸ hm, h⟩, fun h => h.2⟩
    · refine ⟨_, rfl, ?_⟩
      rw [decide_eq_false hm]
      refine iteT (q hab false H1 s1 ⟨(fun h => by cases h), fun h => absurd h.1 hm⟩)
/-! ### _law_told -/
structure Cl30 (K : PySem.W.Frag) (mg : Str → Option Value) (CT CN C1 C2 C3 C4 C5 C6 C7 C8 : Addr) : Prop where
  mT : mg "TallyError" = some (.ref CT)
  mN : mg "NoPlace" = some (.ref CN)
  m1 : mg "BadNumber" = some (.ref C1)
  m2 : mg "BadTally" = some (.ref C2)
  m3 : mg "BadWeb" = some (.ref C3)
  m4 : mg "NoExchange" = some (.ref C4)
  m5 : mg "NoText" = some (.ref C5)
  m6 : mg "NoWeb" = some (.ref C6)
  m7 : mg "TooMany" = some (.ref C7)
  m8 : mg "Unlike" = some (.ref C8)
  c : ExcC K CN
  k : ExcK K CN
  x : PySem.W.exmOne K (.ref CN) (.ref CT) = some true
  n : PySem.W.kitOne K (.ref CN) (.ref CN) = some true
  v : PySem.W.kitOne K (.ref CN) (.type "ValueError") = some true
  a : PySem.W.kitAny K (.ref CN) [.ref C1, .ref C2, .ref C3, .ref C4, .ref C5, .ref C6, .ref C7, .ref C8] = some false
def spTold (K : PySem.W.Frag) : Sp := fun vs H Q _ => ∃ (p : Addr) (n : Nat) (a b : Int) (ks : List (List Int)), vs = [.ref p, .int a, .int b] ∧ WebAt K H p n ks ∧ n ≤ 24 ∧ ks.length ≤ 300 ∧ (∀ k ∈ ks, Up n k) ∧
  (isPl n a ∧ isPl n b → ∀ (r : Bool) (H' : Hp), Same H H' → (r = true ↔ Rng ks a b) → Q (.bl r) H') ∧ (¬ (isPl n a ∧ isPl n b) → ∀ (l : Addr) (H' : Hp), Same H H' → H' l = some (.lst [.bl true, .bl true, .bl false]) → Q (.ref l) H')
theorem scTold : FnScope ["web", "one", "other", "told", "e"] ["web", "one", "other"] (defScope sTold) := ⟨rfl, rfl, rfl, by decide +kernel, rfl, by decide +kernel, by decide +kernel⟩
theorem ok_told {f fI fC fT fU fB fP fR CT CN C1 C2 C3 C4 C5 C6 C7 C8 : Addr} {fd fdI fdC fdT fdU fdB fdP fdR : FuncData} (F : Fun K "_law_told" "_law_told" sTold f fd) (B : Bn mg) (FI : Fun K "is_place" "is_place" sIsP fI fdI) (bI : Binds K fdI ["places", "number"] []) (mI : mg "is_place" = some (.ref fI))
    (FC : Fun K "check_place" "check_place" sChk fC fdC) (bC : Binds K fdC ["places", "number"] []) (mC : mg "check_place" = some (.ref fC)) (FU : Fun K "turned_up" "turned_up" sUp fU fdU) (bU : Binds K fdU ["places", "tie"] []) (mU : mg "turned_up" = some (.ref fU))
    (FT : Fun K "tied" "tied" sTied fT fdT) (bT : Binds K fdT ["web", "one", "other"] []) (mT : mg "tied" = some (.ref fT)) (FB : Fun K "beside" "beside" sBes fB fdB) (bB : Binds K fdB ["web"] []) (mB : mg "beside" = some (.ref fB))
    (FP : Fun K "piece_around" "piece_around" sPiece fP fdP) (bP : Binds K fdP ["near", "place"] []) (mP : mg "piece_around" = some (.ref fP)) (FR : Fun K "in_ring" "in_ring" sRing fR fdR) (bR : Binds K fdR ["web", "one", "other"] []) (mR : mg "in_ring" = some (.ref fR))
    (L : Cl30 K mg CT CN C1 C2 C3 C4 C5 C6 C7 C8) : FnOk P w K mg base CX0 5 f fd ["web", "one", "other"] (spTold K) := by
  have GR : FnOk P w K mg base (CXE P w) 4 fR fdR ["web", "one", "other"] (spRing K CN) := ok_ring FR B FI bI mI FC bC mC FU bU mU FT bT mT FB bB mB FP bP mP L.mN L.c
  refine F.ok scTold (fun vs H Q E h => ?_) (fun cdv A outer s H vs Q E hr h => ?_)
  · obtain ⟨p, n, a, b, ks, rfl, _⟩ := h
    rfl
  · obtain ⟨p, n, a, b, ks, rfl, hW, hn, hkl, hU, q1, q2⟩ := h
    have hsl := sl1000
    refine ⟨_, pss_cons (ps_set (i := 3) scTold.nd rfl (Or.inl rfl) pe_non)
      (pss_cons (ps_try (i := 4) scTold.nd rfl rfl (by rfl) L.mT rfl rfl
          (fun _ _ => pss_one (ps_set (i := 3) scTold.nd rfl (Or.inl rfl) (pe_callX GR hr (by rfl) mR FR.kp bR passTry (pa_cons (pv 0) (pa_cons (pv 1) (pa_cons (pv 2) pa_nil))))))
          (fun _ => pss_cons (ps_set (i := 3) scTold.nd rfl (Or.inl rfl) (pe_lst (pa_cons (pe_callB (call_isinstE K rfl) (by rfl) B.isin (by rfl) (pa_cons (pv 4) (pa_cons (pe_glob (v := .ref CN) (by rfl) L.mN rfl) pa_nil)))
              (pa_cons (pe_callB (call_isinstE K rfl) (by rfl) B.isin (by rfl) (pa_cons (pv 4) (pa_cons (pe_bltn (v := .ty "ValueError") (by rfl) B.ve (by rfl) rfl) pa_nil))) pa_nil))))
            (pss_one (ps_expr (pe_bmK (te := tC .non) K rfl (pe_bm PySem.F.plainAttrs_list PySem.F.slot_list_append PySem.F.type_list_append mt_append (pv 3) (pa_cons (pe_callB (call_isinstET K rfl) (by rfl) B.isin (by rfl) (pa_cons (pv 4) (pa_cons
              (pe_tup (pa_cons (pe_glob (v := .ref C1) (by rfl) L.m1 rfl) (pa_cons (pe_glob (v := .ref C2) (by rfl) L.m2 rfl) (pa_cons (pe_glob (v := .ref C3) (by rfl) L.m3 rfl) (pa_cons (pe_glob (v := .ref C4) (by rfl) L.m4 rfl) (pa_cons (pe_glob (v := .ref C5) (by rfl) L.m5 rfl)
                (pa_cons (pe_glob (v := .ref C6) (by rfl) L.m6 rfl) (pa_cons (pe_glob (v := .ref C7) (by rfl) L.m7 rfl) (pa_cons (pe_glob (v := .ref C8) (by rfl) L.m8 rfl) pa_nil))))))))) pa_nil))) pa_nil)))))))
      (pss_one (ps_ret (pv 3)))), ?_⟩
    refine ⟨fun σ' cls _ H' => σ' = [some (.ref p), some (.int a), some (.int b), some .non, none] ∧ cls = .ref CN ∧ H' = H ∧ ¬ (isPl n a ∧ isPl n b), ?_, ?_⟩
    · refine ⟨_, rfl, _, rfl, _, rfl, p, n, a, b, ks, rfl, hW, hn, hkl, hU, fun hp r H1 s1 hr1 => ?_, fun hp => ⟨rfl, rfl, rfl, hp⟩⟩
      exact ⟨_, rfl, q1 hp r H1 s1 hr1⟩
    · rintro σ' cls H' ⟨rfl, rfl, rfl, hg⟩
      refine ⟨L.x, fun x hx => ?_⟩
      have s1 := same_upd (o := XO x (.ref CN)) hx
      have gx : (upd H' x (XO x (.ref CN))) x = some (XO x (.ref CN)) := upd_same
      refine ⟨_, rfl, x, CN, .ref CN, _, true, rfl, gx, L.k, rfl, L.n, _, rfl, x, CN, .ty "ValueError", _, true, rfl, gx, L.k, rfl, L.v, (by show 2 ≤ sizeLine; decide), fun l2 hl2 => ?_⟩
      have s2 := same_upd (o := .lst [.bl true, .bl true]) hl2
      refine ⟨_, rfl, .inl ⟨rfl, _, SqL.of upd_same⟩, _, rfl, (by show 8 ≤ sizeLine; decide), fun tp htp => ?_⟩
      have s3 := same_upd (o := .tup [.ref C1, .ref C2, .ref C3, .ref C4, .ref C5, .ref C6, .ref C7, .ref C8]) htp
      refine ⟨x, CN, tp, [C1, C2, C3, C4, C5, C6, C7, C8], false, rfl, s3 _ _ (s2 _ _ gx), L.k, upd_same, L.a, l2, _, _, rfl, rfl, s3 _ _ upd_same, by show 2 < sizeLine; omega, ?_⟩
      have hl2' : H' l2 = none := s1.free hl2
      exact ⟨_, rfl, q2 hg l2 _ (((s1.trans s2).trans s3).upd hl2') upd_same⟩
end
end Web

namespace Web
open PySem L2
set_option autoImplicit false
set_option linter.all false
section
variable {P : Program} {w : World} {K : PySem.W.Frag} {mg : Str → Option Value} {base : Heap}
/-! ### _law_due -/
def spDue (K : PySem.W.Frag) : Sp := fun vs H Q _ => ∃ (n x y : Nat) (t : Addr) (zs : List V) (ks : List (List Int)), vs = [.int n, .ref t, .int x, .int y] ∧ n ≤ 24 ∧ x < n ∧ y < n ∧ SqT K H t zs ∧ Tups K H zs ks ∧ ks.length ≤ 300 ∧ (∀ k ∈ ks, Up n k) ∧
  ∀ (r : Bool) (H' : Hp), Same H H' → (r = true ↔ Rng ks (x : Int) (y : Int)) → Q (.bl r) H'
theorem scDue : FnScope ["places", "ties", "one", "other", "tie", "marks"] ["places", "ties", "one", "other"] (defScope sDue) := ⟨rfl, rfl, rfl, by decide +kernel, rfl, by decide +kernel, by decide +kernel⟩
set_option maxHeartbeats 2000000 in
theorem ok_due {f fM : Addr} {fd fdM : FuncData} (F : Fun K "_law_due" "_law_due" sDue f fd) (B : Bn mg) (FM : Fun K "_law_marks" "_law_marks" sMarks fM fdM) (bM : Binds K fdM ["places", "ties"] []) (mM : mg "_law_marks" = some (.ref fM)) : FnOk P w K mg base CX0 2 f fd ["places", "ties", "one", "other"] (spDue K) := by
  have GM : FnOk P w K mg base CX0 1 fM fdM ["places", "ties"] (spMarks K) := ok_marks FM B
  refine F.ok scDue (fun vs H Q E h => ?_) (fun cdv A outer s H vs Q E hr h => ?_)
  · obtain ⟨n, x, y, t, zs, ks, rfl, _⟩ := h
    rfl
  · obtain ⟨n, x, y, t, zs, ks, rfl, hn, hx, hy, h2, h3, hkl, hU, q⟩ := h
    have hsl := sl1000
    have hun := hr.units
    have hzl := h3.len
    have nd2 : (["more", "tie"] : List Str).Nodup := by decide +kernel
    refine ⟨_, pss_cons (ps_set (i := 4) scDue.nd rfl (Or.inr rfl) (pe_tup (pa_cons (pe_callB (call_min2 rfl) (by rfl) B.min (by rfl) (pa_cons (pv 2) (pa_cons (pv 3) pa_nil))) (pa_cons (pe_callB (call_max2 rfl) (by rfl) B.max (by rfl) (pa_cons (pv 2) (pa_cons (pv 3) pa_nil))) pa_nil))))
      (pss_cons (ps_if (pt_cmpR op_notInD (pv 4) (pv 1) (by rfl)) (pss_one (ps_ret pe_bl)) pss_nil)
      (pss_cons (ps_set (i := 5) scDue.nd rfl (Or.inl rfl) (pe_call GM hr (by rfl) mM FM.kp bM .nil pass0 (pa_cons (pv 0) (pa_cons
          (pe_comp (N' := ["more", "tie"]) (lk := [none, some 4]) rfl (pi_tup (pv 1)) (by rfl) rfl (by decide +kernel) (by exact ⟨rfl, trivial⟩) (by rfl) (by exact LkL.ok ⟨⟨rfl, Or.inl rfl, rfl, Or.inl rfl⟩, trivial⟩)
            (fun _ _ _ => pg_name (i := 0) nd2 rfl (Or.inl rfl)) (fun _ _ _ => pts_one (pt_cmpR (op_neDK K hr.around rfl rfl) (pv 0) (pv 1) (nomark _))) (fun _ _ _ => pv 0)) pa_nil))))
      (pss_one (ps_ret (pe_cmpR op_eq (pe_ix ix_list (pv 5) (pv 2) (fun _ _ => rfl)) (pe_ix ix_list (pv 5) (pv 3) (fun _ _ => rfl)) (nomark _)))))), ?_⟩
    refine ⟨_, rfl, _, rfl, _, _, rfl, _, rfl, _, rfl, _, _, rfl, (by show 2 ≤ sizeLine; decide), fun tq ftq => ?_⟩
    have s1 := same_upd (o := .tup [.int (if (y : Int) < (x : Int) then (y : Int) else (x : Int)), .int (if (y : Int) > (x : Int) then (y : Int) else (x : Int))]) ftq
    have gq : (upd H tq (.tup [.int (if (y : Int) < (x : Int) then (y : Int) else (x : Int)), .int (if (y : Int) > (x : Int) then (y : Int) else (x : Int))])) tq = some (.tup ((up [(x : Int), (y : Int)]).map V.int)) := upd_same
    generalize upd H tq (.tup [.int (if (y : Int) < (x : Int) then (y : Int) else (x : Int)), .int (if (y : Int) > (x : Int) then (y : Int) else (x : Int))]) = H1 at s1 gq
    refine ⟨_, rfl, _, rfl, t, zs, dP (up [(x : Int), (y : Int)]), ks.map dP, rfl, .inr (s1.seqT h2), Dt.mkP (SqT.of gq), (s1.tups h3).dtAll, lay_dP _, lay_pairs ks, ?_, _, rfl, ?_⟩
    · exact un_lt1 hun (Nat.le_trans (dep_dP _) (by decide))
    have eany : (ks.map dP).any (fun d => PyData.eqv d (dP (up [(x : Int), (y : Int)]))) = decide (up [(x : Int), (y : Int)] ∈ ks) := any_dP _ ks
    rw [if_pos rfl, eany]
    by_cases hm : up [(x : Int), (y : Int)] ∈ ks
    · rw [decide_eq_true hm]
      refine iteF ?_
      generalize hu : up [(x : Int), (y : Int)] = u at gq
      have hUb : ∀ k ∈ but ks u, Up n k := fun k hk => hU k (but_mem.mp hk).1
      refine ⟨_, rfl, _, rfl, t, rfl, ⟨_, s1.seqT h2⟩, fun D hD => comp_tup (K := K) (a := t) (D := D) (ys := zs)
        (fun m xs σ' H' => ∃ v, σ' = [v, some (.ref tq)] ∧ Same H1 H' ∧ H' D = some (.lst xs) ∧ Tups K H' xs (but (ks.take m) u)) ⟨none, rfl, same_upd hD, upd_same, .nil⟩ (by omega)
        (fun m xs σ' H' hi' ⟨_, _, s5, g5, t5⟩ => ⟨(s1.trans s5).seqT h2, g5, by rw [t5.len]; exact but_len ks u m⟩) ?_ ?_⟩
      · rintro m xs x' σ' H' N kN hx' ⟨v, rfl, s5, g5, t5⟩
        obtain ⟨pb, kk, rfl, hk', hq'⟩ := h3.get hx'
        refine gName_to ?_
        have hq5 := (s1.trans s5).seqT hq'
        refine ⟨_, rfl, _, rfl, dP kk, dP u, Dt.mkP hq5, Dt.mkP (SqT.of (s5 _ _ gq)), lay_dP _, lay_dP _, ?_, _, rfl, ?_⟩
        · refine un_lt hun (Nat.le_trans (Nat.min_le_left _ _) ?_)
          have := dep_dP kk
          omega
        have en : (!PyData.eqv (dP kk) (dP u)) = !decide (kk = u) := by rw [eqv_dP]
        have et := but_take (t := u) hk'
        by_cases hkk : kk = u
        · rw [if_pos rfl, en, decide_eq_true hkk]
          refine iteF (kN _ _ _ ⟨_, rfl, s5, g5, ?_⟩)
          rw [et, if_pos hkk, List.append_nil]
          exact t5
        · rw [if_pos rfl, en, decide_eq_false hkk]
          refine iteT ⟨_, rfl, g5, kN _ _ _ ⟨_, rfl, s5.upd hD, upd_same, ?_⟩⟩
          rw [et, if_neg hkk]
          exact Tups.updL g5 (Tups.append t5 (Tups.one hq5))
      · rintro xs σ' H4 ⟨v, rfl, s5, g5, t5⟩
        rw [hzl, List.take_length] at t5
        refine ⟨n, D, xs, but ks u, rfl, hn, SqL.of g5, t5, hUb, fun l ms H6 s6 _ g6 hM hF => ?_⟩
        have hL := hM.len
        refine ⟨_, rfl, _, rfl, l, _, _, _, rfl, rfl, SqL.of g6, mkL_at (by omega), _, rfl, _, rfl, l, _, _, _, rfl, rfl, SqL.of g6, mkL_at (by omega), rfl, ?_⟩
        refine q _ H6 ((s1.trans s5).trans s6) ?_
        rw [decide_eq_true_iff, V.int.injEq]
        have hiff := Pc.marks_iff (fun _ _ => Tie.symm) (fun b c hb => (tie_of hUb hb).elim (fun z => ⟨by omega, z.2.2⟩) fun z => ⟨z.2.2, by omega⟩) hM hF hx hy
        unfold Rng
        rw [hu]
        show ((ms.getD x 0 : Nat) : Int) = ((ms.getD y 0 : Nat) : Int) ↔ u ∈ ks ∧ Pc.Rch (Tie (but ks u)) x y
        rw [← hiff]
        exact ⟨fun h => ⟨hu ▸ hm, by omega⟩, fun h => by rw [h.2]⟩
    · rw [decide_eq_false hm]
      exact iteT (q false H1 s1 ⟨(fun h => by cases h), fun h => absurd h.1 hm⟩)
end
end Web

namespace Web
open PySem L2
set_option autoImplicit false
set_option linter.all false
theorem len_pairs11 : ∀ n : Nat, n ≤ 11 → (pairsN n).length ≤ 55 := by decide +kernel
theorem p59 : (0 : Int) < 10 ^ (Int.toNat 59) := Int.pow_pos (by decide)
theorem map_up {n : Nat} {ks : List (List Int)} (h : ∀ k ∈ ks, Up n k) : ks.map up = ks := by
  have : ks.map up = ks.map id := List.map_congr_left fun k hk => up_up (h k hk)
  rw [this, List.map_id]
theorem rng_mem {ks ls : List (List Int)} (h : ∀ k, k ∈ ks ↔ k ∈ ls) {a b : Int} (r : Rng ks a b) : Rng ls a b :=
  ⟨(h _).mp r.1, r.2.imp fun x y t => but_mem.mpr ⟨(h _).mp (but_mem.mp t).1, (but_mem.mp t).2⟩⟩
section
variable {P : Program} {w : World} {K : PySem.W.Frag} {mg : Str → Option Value} {base : Heap}
def spLaw (K : PySem.W.Frag) : Sp := fun vs H Q _ => ∃ (a : Addr) (ns : List Int), vs = [.ref a] ∧ SqL K H a (ns.map V.int) ∧ ns.length ≤ 63 ∧ ∀ H', Q (.bl true) H'
theorem scLaw : FnScope ["script", "cell", "places", "ties", "web", "one", "other", "told", "far", "odd"] ["script"] (defScope sLaw) := ⟨rfl, rfl, rfl, by decide +kernel, rfl, by decide +kernel, by decide +kernel⟩
def lawI (HB : Hp) (sc : Addr) (_ : Nat) (σ : St) (H2 : Hp) : Prop := ∃ e1 e2 e3 e4 e5 e6 e7 e8 e9, σ = [some (.ref sc), e1, e2, e3, e4, e5, e6, e7, e8, e9] ∧ Same HB H2
theorem dk3 {H5 : Hp} {l : Addr} (h : H5 l = some (.lst [.bl true, .bl true, .bl false])) : Dt K H5 (.list [.bool true, .bool true, .bool false]) (.ref l) := Dt.mkL (SqL.of h) (by simp [DtAll, Dt])
set_option maxHeartbeats 4000000 in
theorem ok_law {f fI fC fU fA fT fB fP fR fE fO fD fM fL fG CT CN C1 C2 C3 C4 C5 C6 C7 C8 : Addr} {fd fdI fdC fdU fdA fdT fdB fdP fdR fdE fdO fdD fdM fdL fdG : FuncData} {tk : Tok} (F : Fun K "law" "law" sLaw f fd) (B : Bn mg)
    (FI : Fun K "is_place" "is_place" sIsP fI fdI) (bI : Binds K fdI ["places", "number"] []) (mI : mg "is_place" = some (.ref fI)) (mM : mg "MOST_PLACES" = some (.int 24 tk))
    (FC : Fun K "check_place" "check_place" sChk fC fdC) (bC : Binds K fdC ["places", "number"] []) (mC : mg "check_place" = some (.ref fC)) (FU : Fun K "turned_up" "turned_up" sUp fU fdU) (bU : Binds K fdU ["places", "tie"] []) (mU : mg "turned_up" = some (.ref fU))
    (FA : Fun K "made" "made" sMade fA fdA) (bA : Binds K fdA ["places", "ties"] []) (mA : mg "made" = some (.ref fA))
    (FT : Fun K "tied" "tied" sTied fT fdT) (bT : Binds K fdT ["web", "one", "other"] []) (mT : mg "tied" = some (.ref fT)) (FB : Fun K "beside" "beside" sBes fB fdB) (bB : Binds K fdB ["web"] []) (mB : mg "beside" = some (.ref fB))
    (FP : Fun K "piece_around" "piece_around" sPiece fP fdP) (bP : Binds K fdP ["near", "place"] []) (mP : mg "piece_around" = some (.ref fP)) (FR : Fun K "in_ring" "in_ring" sRing fR fdR) (bR : Binds K fdR ["web", "one", "other"] []) (mR : mg "in_ring" = some (.ref fR))
    (FE : Fun K "_law_cell_at" "_law_cell_at" sCell fE fdE) (bE : Binds K fdE ["script", "k"] []) (mE : mg "_law_cell_at" = some (.ref fE)) (FO : Fun K "_law_row" "_law_row" sRow fO fdO) (bO : Binds K fdO ["cell", "many", "size"] []) (mO : mg "_law_row" = some (.ref fO))
    (FD : Fun K "_law_ties" "_law_ties" sTies fD fdD) (bD : Binds K fdD ["cell", "places"] []) (mD : mg "_law_ties" = some (.ref fD)) (FM : Fun K "_law_marks" "_law_marks" sMarks fM fdM) (bM : Binds K fdM ["places", "ties"] []) (mK : mg "_law_marks" = some (.ref fM))
    (FL : Fun K "_law_told" "_law_told" sTold fL fdL) (bL : Binds K fdL ["web", "one", "other"] []) (mL : mg "_law_told" = some (.ref fL)) (FG : Fun K "_law_due" "_law_due" sDue fG fdG) (bG : Binds K fdG ["places", "ties", "one", "other"] []) (mG : mg "_law_due" = some (.ref fG))
    (L : Cl30 K mg CT CN C1 C2 C3 C4 C5 C6 C7 C8) : FnOk P w K mg base CX0 6 f fd ["script"] (spLaw K) := by
  have GE : FnOk P w K mg base CX0 5 fE fdE ["script", "k"] (spCell K) := (ok_cell FE B).mono (by decide)
  have GD : FnOk P w K mg base CX0 5 fD fdD ["cell", "places"] (spTies K) := (ok_ties FD B FO bO mO).mono (by decide)
  have GA : FnOk P w K mg base CX0 5 fA fdA ["places", "ties"] (spMade K) := (ok_made FA B FI bI mI FU bU mU mM).mono (by decide)
  have GL : FnOk P w K mg base CX0 5 fL fdL ["web", "one", "other"] (spTold K) := ok_told FL B FI bI mI FC bC mC FU bU mU FT bT mT FB bB mB FP bP mP FR bR mR L
  have GG : FnOk P w K mg base CX0 5 fG fdG ["places", "ties", "one", "other"] (spDue K) := (ok_due FG B FM bM mK).mono (by decide)
  refine F.ok scLaw (fun vs H Q E h => ?_) (fun cdv A outer s H vs Q E hr h => ?_)
  · obtain ⟨a, ns, rfl, _⟩ := h
    rfl
  · obtain ⟨sc, ns, rfl, hS, hlen, q⟩ := h
    have hsl := sl1000
    have hun := hr.units
    refine ⟨_, pss_cons (ps_for PassesOwn.never rfl (pi_list (pe_op op_cat (pe_lst (pa_cons (pe_call GE hr (by rfl) mE FE.kp bE .nil pass0 (pa_cons (pv 0) (pa_cons pe_int pa_nil))) pa_nil)) (pe_slice sl_list (pv 0) (po_some pe_int) (po_some pe_int)))) (pg_name (i := 1) scLaw.nd rfl (Or.inl rfl))
        (pss_cons (ps_set (i := 1) scLaw.nd rfl (Or.inl rfl) (pe_op op_mod (pv 1) (pe_op op_pow pe_int pe_int)))
        (pss_cons (ps_set (i := 2) scLaw.nd rfl (Or.inl rfl) (pe_op op_add pe_int (pe_op op_mod (pv 1) pe_int)))
        (pss_cut (ps_if (pt_cmpR op_eq (pe_op op_mod (pe_op op_fdiv (pv 1) pe_int) pe_int) pe_int (nomark _)) (pss_one (ps_set (i := 2) scLaw.nd rfl (Or.inl rfl) (pe_op op_add pe_int (pe_op op_mod (pe_op op_fdiv (pv 1) pe_int) pe_int)))) pss_nil)
        (pss_cons (ps_set (i := 3) scLaw.nd rfl (Or.inl rfl) (pe_call GD hr (by rfl) mD FD.kp bD .nil pass0 (pa_cons (pe_op op_fdiv (pv 1) pe_int) (pa_cons (pv 2) pa_nil))))
        (pss_cons (ps_set (i := 4) scLaw.nd rfl (Or.inl rfl) (pe_call GA hr (by rfl) mA FA.kp bA .nil pass0 (pa_cons (pv 2) (pa_cons (pv 3) pa_nil))))
        (pss_cons (ps_for PassesOwn.never rfl (pi_range1 rfl B.range (pa_cons (pv 2) pa_nil)) (pg_name (i := 5) scLaw.nd rfl (Or.inl rfl))
          (pss_one (ps_for PassesOwn.never rfl (pi_range1 rfl B.range (pa_cons (pv 2) pa_nil)) (pg_name (i := 6) scLaw.nd rfl (Or.inl rfl))
            (pss_cons (ps_set (i := 7) scLaw.nd rfl (Or.inl rfl) (pe_call GL hr (by rfl) mL FL.kp bL .nil pass0 (pa_cons (pv 4) (pa_cons (pv 5) (pa_cons (pv 6) pa_nil)))))
            (pss_one (ps_if (PW.pt (pw_or (pt_not (pt_val (pe_callB (call_isinstK K rfl) (by rfl) B.isin (by rfl) (pa_cons (pv 7) (pa_cons (pe_bltn (v := .ty "bool") (by rfl) B.bool (by rfl) rfl) pa_nil)))))
              (pw_or1 (pt_cmpR op_ne (pv 7) (pe_call GG hr (by rfl) mG FG.kp bG .nil pass0 (pa_cons (pv 2) (pa_cons (pv 3) (pa_cons (pv 5) (pa_cons (pv 6) pa_nil))))) (nomark _))))) pss_never pss_nil))))))
        (pss_cons (ps_set (i := 8) scLaw.nd rfl (Or.inl rfl) (pe_op op_mod (pe_op op_fdiv (pv 1) pe_int) (pe_op op_pow pe_int pe_int)))
        (pss_one (ps_for PassesOwn.never rfl (pi_list (pe_lst (pa_cons (pe_un un_neg pe_int) (pa_cons (pv 2) (pa_cons (pe_op op_add (pv 2) (pv 8)) (pa_cons (pe_op op_sub (pe_un un_neg pe_int) (pv 8)) pa_nil)))))) (pg_name (i := 9) scLaw.nd rfl (Or.inl rfl))
          (pss_cons (ps_if (PW.pt (pw_or (pt_cmpR op_neD (pe_call GL hr (by rfl) mL FL.kp bL .nil pass0 (pa_cons (pv 4) (pa_cons (pv 9) (pa_cons pe_int pa_nil)))) (pe_lst (pa_cons pe_bl (pa_cons pe_bl (pa_cons pe_bl pa_nil)))) (nomark _))
              (pw_or1 (pt_cmpR op_neD (pe_call GL hr (by rfl) mL FL.kp bL .nil pass0 (pa_cons (pv 4) (pa_cons pe_int (pa_cons (pv 9) pa_nil)))) (pe_lst (pa_cons pe_bl (pa_cons pe_bl (pa_cons pe_bl pa_nil)))) (nomark _))))) pss_never pss_nil)
          (pss_one (ps_if (pt_cmpR op_neD (pe_call GL hr (by rfl) mL FL.kp bL .nil pass0 (pa_cons (pv 4) (pa_cons (pv 9) (pa_cons (pv 9) pa_nil)))) (pe_lst (pa_cons pe_bl (pa_cons pe_bl (pa_cons pe_bl pa_nil)))) (nomark _)) pss_never pss_nil)))))))))))))
      (pss_one (ps_ret pe_bl)), ?_⟩
    refine ⟨_, rfl, sc, ns, 0, rfl, hS, fun r0 => ⟨(by show 1 ≤ sizeLine; decide), fun l0 f0 => ?_⟩⟩
    have sl0 := same_upd (o := .lst [.int r0]) f0
    obtain ⟨ms, hms, hml⟩ := cutV_ints ns (some 1) (some 7)
    refine ⟨_, rfl, _, rfl, _, rfl, sc, ns.map V.int, rfl, sl0.seq hS, fun l1 f1 => ?_⟩
    rw [hms]
    have sl1 := same_upd (o := .lst (ms.map V.int)) f1
    refine ⟨l0, l1, _, _, rfl, rfl, sl1 _ _ upd_same, upd_same, by rw [List.length_map]; show 1 + ms.length ≤ sizeLine; omega, fun lc fc => ⟨lc, rfl, ⟨_, SqL.of upd_same⟩, ?_⟩⟩
    have glc : (upd (upd (upd H l0 (.lst [.int r0])) l1 (.lst (ms.map V.int))) lc (.lst ([.int r0] ++ ms.map V.int))) lc = some (.lst (([r0] ++ ms : List Int).map V.int)) := by rw [upd_same, List.map_append]; rfl
    generalize upd (upd (upd H l0 (.lst [.int r0])) l1 (.lst (ms.map V.int))) lc (.lst ([.int r0] ++ ms.map V.int)) = HB at glc
    refine for_list (K := K) (a := lc) (xs := ([r0] ++ ms : List Int).map V.int) (lawI HB sc) ⟨_, _, _, _, _, _, _, _, _, rfl, Same.refl HB⟩ (fun i σ H2 _ ⟨_, _, _, _, _, _, _, _, _, _, s⟩ => SqL.of (s _ _ glc)) ?_ ?_
    · rintro i x σ Ha hx ⟨e1, e2, e3, e4, e5, e6, e7, e8, e9, rfl, sa⟩
      obtain ⟨z, rfl⟩ := int_at hx
      refine ⟨_, rfl, _, _, rfl, rfl, ⟨by decide, by decide, by decide⟩, _, _, rfl, rfl, p60, ?_⟩
      refine gName_int fun c _ => ?_
      obtain ⟨j7, h7, h7'⟩ := mod_nat c (n := 7) (by decide)
      refine ⟨_, rfl, _, _, rfl, rfl, (by show (0 : Int) < 7; decide), _, _, rfl, rfl, ?_⟩
      refine gName_eq (v' := .int ((1 + j7 : Nat) : Int)) (by show V.int (1 + c % 7) = _; have : c % 7 = (j7 : Int) := h7; rw [this]; rfl) ?_
      refine ⟨fun σ' H' => H' = Ha ∧ ∃ n : Nat, 1 ≤ n ∧ n ≤ 11 ∧ σ' = [some (.ref sc), some (.int c), some (.int n), e3, e4, e5, e6, e7, e8, e9], ?_, ?_⟩
      · refine ⟨_, rfl, _, _, rfl, rfl, ⟨by decide, by decide⟩, _, _, rfl, rfl, (by show (0 : Int) < 8; decide), rfl, _, rfl, ite2 (fun _ => ?_) (fun _ => ⟨rfl, _, by omega, by omega, rfl⟩)⟩
        obtain ⟨j4, h4, h4'⟩ := mod_nat (c / 56) (n := 4) (by decide)
        refine ⟨_, rfl, _, _, rfl, rfl, ⟨by decide, by decide⟩, _, _, rfl, rfl, (by show (0 : Int) < 4; decide), _, _, rfl, rfl, ?_⟩
        refine gName_eq (v' := .int ((8 + j4 : Nat) : Int)) (by show V.int (8 + c / 56 % 4) = _; have : c / 56 % 4 = (j4 : Int) := h4; rw [this]; rfl) ?_
        exact ⟨rfl, _, by omega, by omega, rfl⟩
      rintro σ' H' ⟨rfl, n, n1, n11, rfl⟩
      have n24 : n ≤ 24 := by omega
      refine ⟨_, rfl, _, _, rfl, rfl, ⟨by decide, by decide⟩, _, rfl, c / 56, n, rfl, n24, fun tl zs ks H1 s1 ftl g1 t1 sb => ?_⟩
      have hU : ∀ k ∈ ks, Up n k := fun k hk => mem_pairs (sb.subset hk)
      have hnd : ks.Nodup := asc_nodup (asc_sub sb (asc_pairs n))
      have hkl : ks.length ≤ 55 := Nat.le_trans sb.length_le (len_pairs11 n n11)
      have emu := map_up hU
      refine ⟨_, rfl, _, rfl, n, tl, zs, ks, rfl, n1, n24, .inr (SqT.of g1), t1, fun k hk => (hU k hk).ends, by rw [emu]; exact hnd, by omega, fun p t zs' ks' H2 s2 _ _ gp gt t2 pm _ => ?_⟩
      rw [emu] at pm
      have hW : WebAt K H2 p n ks' := ⟨t, zs', SqT.of gp, SqT.of gt, t2⟩
      have hU' : ∀ k ∈ ks', Up n k := fun k hk => hU k (pm.mem_iff.mp hk)
      have hkl' : ks'.length ≤ 300 := by rw [pm.length_eq]; omega
      have g2 := s2 _ _ g1
      have t12 := s2.tups t1
      have sb2 : Same HB H2 := sa.trans (s1.trans s2)
      have hrk : ∀ {a b : Int}, Rng ks' a b ↔ Rng ks a b := ⟨rng_mem fun k => pm.mem_iff, rng_mem fun k => pm.mem_iff.symm⟩
      refine ⟨_, rfl, n, rfl, by omega, by omega, for_range (lo := 0) (n := n) (fun i σ H3 => ∃ f5 f6 f7, σ = [some (.ref sc), some (.int c), some (.int n), some (.ref tl), some (.ref p), f5, f6, f7, e8, e9] ∧ Same H2 H3) ⟨_, _, _, rfl, Same.refl H2⟩ ?_ ?_⟩
      · rintro i1 σ H3 hi1 ⟨f5, f6, f7, rfl, s3⟩
        have e0 : ((0 : Int) + (i1 : Int)) = (i1 : Int) := by omega
        rw [e0]
        refine gName_to ?_
        refine ⟨_, rfl, n, rfl, by omega, by omega, for_range (lo := 0) (n := n) (fun i σ H3 => ∃ f6 f7, σ = [some (.ref sc), some (.int c), some (.int n), some (.ref tl), some (.ref p), some (.int (i1 : Int)), f6, f7, e8, e9] ∧ Same H2 H3) ⟨_, _, rfl, s3⟩ ?_ ?_⟩
        · rintro i2 σ H4 hi2 ⟨f6, f7, rfl, s4⟩
          have e02 : ((0 : Int) + (i2 : Int)) = (i2 : Int) := by omega
          rw [e02]
          refine gName_to ?_
          refine ⟨_, rfl, _, rfl, _, rfl, p, n, (i1 : Int), (i2 : Int), ks', rfl, hW.same s4, n24, hkl', hU', fun _ r H5 s5 hr5 => ?_, fun hn => absurd ⟨⟨by omega, by omega⟩, ⟨by omega, by omega⟩⟩ hn⟩
          refine ⟨_, rfl, _, _, _, true, rfl, .bl r, rfl, _, rfl, iteF ?_⟩
          refine ⟨_, rfl, _, rfl, _, rfl, _, rfl, _, rfl, n, i1, i2, tl, zs, ks, rfl, n24, hi1, hi2, SqT.of (s5 _ _ (s4 _ _ g2)), s5.tups (s4.tups t12), by omega, hU, fun r' H6 s6 hr6 => ?_⟩
          have err : r = r' := by
            rw [Bool.eq_iff_iff, hr5, hr6]
            exact hrk
          refine ⟨rfl, _, rfl, iteNS (by rw [err]) ?_⟩
          exact ⟨_, _, rfl, (s4.trans s5).trans s6⟩
        · rintro σ H4 ⟨f6, f7, rfl, s4⟩
          exact ⟨_, _, _, rfl, s4⟩
      · rintro σ H3 ⟨f5, f6, f7, rfl, s3⟩
        refine ⟨_, rfl, _, _, rfl, rfl, ⟨by decide, by decide⟩, _, _, rfl, rfl, ⟨by decide, by decide, by decide⟩, _, _, rfl, rfl, p59, ?_⟩
        refine gName_int fun fr hfr => ?_
        have hf0 : 0 ≤ fr := by rw [hfr]; exact Int.emod_nonneg _ (by have := p59; omega)
        clear hfr
        refine ⟨_, rfl, _, rfl, _, rfl, _, rfl, _, _, rfl, rfl, _, rfl, _, rfl, _, _, rfl, rfl, (by show 4 ≤ sizeLine; decide), fun lo flo => ⟨lo, rfl, ⟨_, SqL.of upd_same⟩, ?_⟩⟩
        have slo := same_upd (o := .lst [.int (-1), .int (n : Int), .int ((n : Int) + fr), .int (-1 - fr)]) flo
        have glo : (upd H3 lo (.lst [.int (-1), .int (n : Int), .int ((n : Int) + fr), .int (-1 - fr)])) lo = some (.lst (([-1, (n : Int), (n : Int) + fr, -1 - fr] : List Int).map V.int)) := upd_same
        have s3o := s3.trans slo
        generalize upd H3 lo (.lst [.int (-1), .int (n : Int), .int ((n : Int) + fr), .int (-1 - fr)]) = H4 at glo s3o
        refine for_list (K := K) (a := lo) (xs := ([-1, (n : Int), (n : Int) + fr, -1 - fr] : List Int).map V.int) (fun i σ H5 => ∃ f9, σ = [some (.ref sc), some (.int c), some (.int n), some (.ref tl), some (.ref p), f5, f6, f7, some (.int fr), f9] ∧ Same H4 H5) ⟨_, rfl, Same.refl H4⟩ (fun i σ H5 _ ⟨_, _, s⟩ => SqL.of (s _ _ glo)) ?_ ?_
        · rintro i3 y σ H5 hy ⟨f9, rfl, s5⟩
          have hbad : ∃ o : Int, y = .int o ∧ ¬ isPl n o := by
            rw [List.getElem?_map] at hy
            cases e : ([-1, (n : Int), (n : Int) + fr, -1 - fr] : List Int)[i3]? with
            | none => rw [e] at hy; cases hy
            | some o =>
              rw [e] at hy
              cases hy
              refine ⟨o, rfl, fun hp => ?_⟩
              have hm := List.mem_of_getElem? e
              simp only [List.mem_cons, List.not_mem_nil, or_false] at hm
              have := hp.1
              have := hp.2
              omega
          obtain ⟨o, rfl, hbo⟩ := hbad
          refine gName_to ?_
          have eE : PyData.eqv (.list [.bool true, .bool true, .bool false]) (.list [.bool true, .bool true, .bool false]) = true := by simp [PyData.eqv, PyData.eqvAll]
          have hlay : (PyData.list [.bool true, .bool true, .bool false]).canLay0 = true := by simp [PyData.canLay0, PyData.canLayAll0]
          have s25 := s3o.trans s5
          refine ⟨_, rfl, _, rfl, p, n, o, 0, ks', rfl, hW.same s25, n24, hkl', hU', (fun z => absurd z.1 hbo), fun _ l6 H6 s6 g6 => ?_⟩
          refine ⟨by show 3 ≤ sizeLine; omega, fun l7 f7' => ?_⟩
          have s7 := same_upd (o := .lst [.bl true, .bl true, .bl false]) f7'
          refine ⟨_, _, dk3 (s7 _ _ g6), dk3 upd_same, hlay, hlay, un_lt hun (Nat.le_trans (Nat.min_le_left _ _) (by simp [PyData.depth, PyData.depthAll])), _, rfl, ?_⟩
          rw [eE]
          refine iteF ?_
          have s27 := (s25.trans s6).trans s7
          refine ⟨_, rfl, _, rfl, p, n, 0, o, ks', rfl, hW.same s27, n24, hkl', hU', (fun z => absurd z.2 hbo), fun _ l8 H8 s8 g8 => ?_⟩
          refine ⟨by show 3 ≤ sizeLine; omega, fun l9 f9' => ?_⟩
          have s9 := same_upd (o := .lst [.bl true, .bl true, .bl false]) f9'
          refine ⟨_, _, dk3 (s9 _ _ g8), dk3 upd_same, hlay, hlay, un_lt hun (Nat.le_trans (Nat.min_le_left _ _) (by simp [PyData.depth, PyData.depthAll])), _, rfl, ?_⟩
          rw [eE]
          refine iteF ?_
          have s29 := (s27.trans s8).trans s9
          refine ⟨_, rfl, _, rfl, _, rfl, p, n, o, o, ks', rfl, hW.same s29, n24, hkl', hU', (fun z => absurd z.1 hbo), fun _ la Hb sb' gb => ?_⟩
          refine ⟨by show 3 ≤ sizeLine; omega, fun lb fb' => ?_⟩
          have sc' := same_upd (o := .lst [.bl true, .bl true, .bl false]) fb'
          refine ⟨_, _, dk3 (sc' _ _ gb), dk3 upd_same, hlay, hlay, un_lt hun (Nat.le_trans (Nat.min_le_left _ _) (by simp [PyData.depth, PyData.depthAll])), _, rfl, ?_⟩
          rw [eE]
          refine iteF ?_
          exact ⟨_, rfl, (s5.trans ((((s6.trans s7).trans s8).trans s9).trans sb')).trans sc'⟩
        · rintro σ H5 ⟨f9, rfl, s5⟩
          exact ⟨_, _, _, _, _, _, _, _, _, rfl, sb2.trans (s3o.trans s5)⟩
    · rintro σ H1 ⟨_, _, _, _, _, _, _, _, _, rfl, _⟩
      exact q _
end
end Web

namespace Web
open PySem L2
set_option autoImplicit false
set_option linter.all false
/-! ### what the top has written -/
theorem all_mk {l : PySem.W.OpenLaw} {w : World} {K : PySem.W.Frag} {h : Heap} {mg : Str → Option Value} {fa fI fC fU fA fT fB fP fR fE fO fD fM fL fG fZ CTallyError CBadWeb CBadTally CNoPlace CBadNumber CNoWeb CNoExchange CUnlike CTooMany CNoText : Addr} {tk : Tok} {cdNoPlace : ClassData} (X : K.In h) (G : h.Ns mainGlobals mg) (hfa : mg "law" = some (.ref fa))
    {odI anI odC anC odU anU odA anA odT anT odB anB odP anP odR anR odE anE odO anO odD anD odM anM odL anL odG anG odZ anZ : Option Addr} {slI slC slU slA slT slB slP slR slE slO slD slM slL slG slZ : Array (Option Value)}
    {ocI kVI dcI pmI cdI ctI ocC kVC dcC pmC cdC ctC ocU kVU dcU pmU cdU ctU ocA kVA dcA pmA cdA ctA ocT kVT dcT pmT cdT ctT ocB kVB dcB pmB cdB ctB ocP kVP dcP pmP cdP ctP ocR kVR dcR pmR cdR ctR ocE kVE dcE pmE cdE ctE ocO kVO dcO pmO cdO ctO ocD kVD dcD pmD cdD ctD ocM kVM dcM pmM cdM ctM ocL kVL dcL pmL cdL ctL ocG kVG dcG pmG cdG ctG ocZ kVZ dcZ pmZ cdZ ctZ : Value}
    (aI : PySem.W.nsIn K mainGlobals "is_place" = some (some (.ref fI))) (lI : K.lookup fI = some ⟨ocI, odI, .func (PySem.W.fnOf "is_place" "is_place" (defArgs sIsP) (defBody sIsP) (defScope sIsP) .none kVI dcI pmI anI cdI ctI), slI⟩) (cI : PySem.W.codeIn K cdI "is_place" = true) (kI : PySem.W.keepIn K (.ref fI) = true)
    (aC : PySem.W.nsIn K mainGlobals "check_place" = some (some (.ref fC))) (lC : K.lookup fC = some ⟨ocC, odC, .func (PySem.W.fnOf "check_place" "check_place" (defArgs sChk) (defBody sChk) (defScope sChk) .none kVC dcC pmC anC cdC ctC), slC⟩) (cC : PySem.W.codeIn K cdC "check_place" = true) (kC : PySem.W.keepIn K (.ref fC) = true)
    (aU : PySem.W.nsIn K mainGlobals "turned_up" = some (some (.ref fU))) (lU : K.lookup fU = some ⟨ocU, odU, .func (PySem.W.fnOf "turned_up" "turned_up" (defArgs sUp) (defBody sUp) (defScope sUp) .none kVU dcU pmU anU cdU ctU), slU⟩) (cU : PySem.W.codeIn K cdU "turned_up" = true) (kU : PySem.W.keepIn K (.ref fU) = true)
    (aA : PySem.W.nsIn K mainGlobals "made" = some (some (.ref fA))) (lA : K.lookup fA = some ⟨ocA, odA, .func (PySem.W.fnOf "made" "made" (defArgs sMade) (defBody sMade) (defScope sMade) .none kVA dcA pmA anA cdA ctA), slA⟩) (cA : PySem.W.codeIn K cdA "made" = true) (kA : PySem.W.keepIn K (.ref fA) = true)
    (aT : PySem.W.nsIn K mainGlobals "tied" = some (some (.ref fT))) (lT : K.lookup fT = some ⟨ocT, odT, .func (PySem.W.fnOf "tied" "tied" (defArgs sTied) (defBody sTied) (defScope sTied) .none kVT dcT pmT anT cdT ctT), slT⟩) (cT : PySem.W.codeIn K cdT "tied" = true) (kT : PySem.W.keepIn K (.ref fT) = true)
    (aB : PySem.W.nsIn K mainGlobals "beside" = some (some (.ref fB))) (lB : K.lookup fB = some ⟨ocB, odB, .func (PySem.W.fnOf "beside" "beside" (defArgs sBes) (defBody sBes) (defScope sBes) .none kVB dcB pmB anB cdB ctB), slB⟩) (cB : PySem.W.codeIn K cdB "beside" = true) (kB : PySem.W.keepIn K (.ref fB) = true)
    (aP : PySem.W.nsIn K mainGlobals "piece_around" = some (some (.ref fP))) (lP : K.lookup fP = some ⟨ocP, odP, .func (PySem.W.fnOf "piece_around" "piece_around" (defArgs sPiece) (defBody sPiece) (defScope sPiece) .none kVP dcP pmP anP cdP ctP), slP⟩) (cP : PySem.W.codeIn K cdP "piece_around" = true) (kP : PySem.W.keepIn K (.ref fP) = true)
    (aR : PySem.W.nsIn K mainGlobals "in_ring" = some (some (.ref fR))) (lR : K.lookup fR = some ⟨ocR, odR, .func (PySem.W.fnOf "in_ring" "in_ring" (defArgs sRing) (defBody sRing) (defScope sRing) .none kVR dcR pmR anR cdR ctR), slR⟩) (cR : PySem.W.codeIn K cdR "in_ring" = true) (kR : PySem.W.keepIn K (.ref fR) = true)
    (aE : PySem.W.nsIn K mainGlobals "_law_cell_at" = some (some (.ref fE))) (lE : K.lookup fE = some ⟨ocE, odE, .func (PySem.W.fnOf "_law_cell_at" "_law_cell_at" (defArgs sCell) (defBody sCell) (defScope sCell) .none kVE dcE pmE anE cdE ctE), slE⟩) (cE : PySem.W.codeIn K cdE "_law_cell_at" = true) (kE : PySem.W.keepIn K (.ref fE) = true)
    (aO : PySem.W.nsIn K mainGlobals "_law_row" = some (some (.ref fO))) (lO : K.lookup fO = some ⟨ocO, odO, .func (PySem.W.fnOf "_law_row" "_law_row" (defArgs sRow) (defBody sRow) (defScope sRow) .none kVO dcO pmO anO cdO ctO), slO⟩) (cO : PySem.W.codeIn K cdO "_law_row" = true) (kO : PySem.W.keepIn K (.ref fO) = true)
    (aD : PySem.W.nsIn K mainGlobals "_law_ties" = some (some (.ref fD))) (lD : K.lookup fD = some ⟨ocD, odD, .func (PySem.W.fnOf "_law_ties" "_law_ties" (defArgs sTies) (defBody sTies) (defScope sTies) .none kVD dcD pmD anD cdD ctD), slD⟩) (cD : PySem.W.codeIn K cdD "_law_ties" = true) (kD : PySem.W.keepIn K (.ref fD) = true)
    (aM : PySem.W.nsIn K mainGlobals "_law_marks" = some (some (.ref fM))) (lM : K.lookup fM = some ⟨ocM, odM, .func (PySem.W.fnOf "_law_marks" "_law_marks" (defArgs sMarks) (defBody sMarks) (defScope sMarks) .none kVM dcM pmM anM cdM ctM), slM⟩) (cM : PySem.W.codeIn K cdM "_law_marks" = true) (kM : PySem.W.keepIn K (.ref fM) = true)
    (aL : PySem.W.nsIn K mainGlobals "_law_told" = some (some (.ref fL))) (lL : K.lookup fL = some ⟨ocL, odL, .func (PySem.W.fnOf "_law_told" "_law_told" (defArgs sTold) (defBody sTold) (defScope sTold) .none kVL dcL pmL anL cdL ctL), slL⟩) (cL : PySem.W.codeIn K cdL "_law_told" = true) (kL : PySem.W.keepIn K (.ref fL) = true)
    (aG : PySem.W.nsIn K mainGlobals "_law_due" = some (some (.ref fG))) (lG : K.lookup fG = some ⟨ocG, odG, .func (PySem.W.fnOf "_law_due" "_law_due" (defArgs sDue) (defBody sDue) (defScope sDue) .none kVG dcG pmG anG cdG ctG), slG⟩) (cG : PySem.W.codeIn K cdG "_law_due" = true) (kG : PySem.W.keepIn K (.ref fG) = true)
    (aZ : PySem.W.nsIn K mainGlobals "law" = some (some (.ref fZ))) (lZ : K.lookup fZ = some ⟨ocZ, odZ, .func (PySem.W.fnOf "law" "law" (defArgs sLaw) (defBody sLaw) (defScope sLaw) .none kVZ dcZ pmZ anZ cdZ ctZ), slZ⟩) (cZ : PySem.W.codeIn K cdZ "law" = true) (kZ : PySem.W.keepIn K (.ref fZ) = true)
    (mo : PySem.W.nsIn K mainGlobals "MOST_PLACES" = some (some (.int 24 tk)))
    (aTallyError : PySem.W.nsIn K mainGlobals "TallyError" = some (some (.ref CTallyError)))
    (aBadWeb : PySem.W.nsIn K mainGlobals "BadWeb" = some (some (.ref CBadWeb)))
    (aBadTally : PySem.W.nsIn K mainGlobals "BadTally" = some (some (.ref CBadTally)))
    (aNoPlace : PySem.W.nsIn K mainGlobals "NoPlace" = some (some (.ref CNoPlace)))
    (aBadNumber : PySem.W.nsIn K mainGlobals "BadNumber" = some (some (.ref CBadNumber)))
    (aNoWeb : PySem.W.nsIn K mainGlobals "NoWeb" = some (some (.ref CNoWeb)))
    (aNoExchange : PySem.W.nsIn K mainGlobals "NoExchange" = some (some (.ref CNoExchange)))
    (aUnlike : PySem.W.nsIn K mainGlobals "Unlike" = some (some (.ref CUnlike)))
    (aTooMany : PySem.W.nsIn K mainGlobals "TooMany" = some (some (.ref CTooMany)))
    (aNoText : PySem.W.nsIn K mainGlobals "NoText" = some (some (.ref CNoText)))
    (qNoPlace : PySem.W.excIn K CNoPlace [.type "ValueError", .type "Exception", .type "BaseException", .type "object"] "ValueError.__new__" = true)
    (gaNoPlace : PySem.W.findIn K (.ref CNoPlace) "__getattribute__" = some (some (.builtin "BaseException.__getattribute__")))
    (naNoPlace : PySem.W.findIn K (.ref CNoPlace) "__getattr__" = some none)
    (clNoPlace : PySem.W.findIn K (.ref CNoPlace) "__class__" = some (some (.builtin "object.__class__")))
    (sbNoPlace : PySem.W.subIn K (.ref CNoPlace) (.type "BaseException") = some true)
    (soNoPlace : PySem.W.subIn K (.ref CNoPlace) (.type "object") = some true)
    (csNoPlace : PySem.W.clsIn K CNoPlace = some cdNoPlace)
    (xmNoPlace : PySem.W.exmOne K (.ref CNoPlace) (.ref CTallyError) = some true)
    (i0NoPlace : PySem.W.kitOne K (.ref CNoPlace) (.ref CNoPlace) = some true)
    (i1NoPlace : PySem.W.kitOne K (.ref CNoPlace) (.type "ValueError") = some true)
    (i2NoPlace : PySem.W.kitAny K (.ref CNoPlace) [.ref CBadNumber, .ref CBadTally, .ref CBadWeb, .ref CNoExchange, .ref CNoText, .ref CNoWeb, .ref CTooMany, .ref CUnlike] = some false)
    (z1 : PySem.W.nsIn K mainGlobals "len" = some none)
    (z2 : PySem.W.nsIn K mainGlobals "range" = some none)
    (z3 : PySem.W.nsIn K mainGlobals "enumerate" = some none)
    (z4 : PySem.W.nsIn K mainGlobals "list" = some none)
    (z5 : PySem.W.nsIn K mainGlobals "tuple" = some none)
    (z6 : PySem.W.nsIn K mainGlobals "sorted" = some none)
    (z7 : PySem.W.nsIn K mainGlobals "set" = some none)
    (z8 : PySem.W.nsIn K mainGlobals "isinstance" = some none)
    (z9 : PySem.W.nsIn K mainGlobals "int" = some none)
    (z10 : PySem.W.nsIn K mainGlobals "bool" = some none)
    (z11 : PySem.W.nsIn K mainGlobals "min" = some none)
    (z12 : PySem.W.nsIn K mainGlobals "max" = some none)
    (z13 : PySem.W.nsIn K mainGlobals "sum" = some none)
    (z14 : PySem.W.nsIn K mainGlobals "ValueError" = some none) :
    ∃ fd : FuncData, (∀ (s : Shared) (v : Value), BindsTo s fd ⟨[v], []⟩ [("script", v)]) ∧ ∀ base : Heap, K.In base → base.Ns mainGlobals mg → FnOk l.prog w K mg base CX0 6 fa fd ["script"] (spLaw K) := by
  have e := hfa.symm.trans (PySem.W.mg_of X G aZ)
  cases e
  have B : Bn mg := ⟨PySem.W.mg_none_of X G z1, PySem.W.mg_none_of X G z2, PySem.W.mg_none_of X G z3, PySem.W.mg_none_of X G z4, PySem.W.mg_none_of X G z5, PySem.W.mg_none_of X G z6, PySem.W.mg_none_of X G z7, PySem.W.mg_none_of X G z8, PySem.W.mg_none_of X G z9, PySem.W.mg_none_of X G z10, PySem.W.mg_none_of X G z11, PySem.W.mg_none_of X G z12, PySem.W.mg_none_of X G z13, PySem.W.mg_none_of X G z14⟩
  have FI := fun_mk (st := sIsP) lI cI kI
  have bI := FI.binds (ps := ["places", "number"]) fun _ _ _ _ _ _ us hl => match us, hl with | [_, _], _ => rfl
  have FC := fun_mk (st := sChk) lC cC kC
  have bC := FC.binds (ps := ["places", "number"]) fun _ _ _ _ _ _ us hl => match us, hl with | [_, _], _ => rfl
  have FU := fun_mk (st := sUp) lU cU kU
  have bU := FU.binds (ps := ["places", "tie"]) fun _ _ _ _ _ _ us hl => match us, hl with | [_, _], _ => rfl
  have FA := fun_mk (st := sMade) lA cA kA
  have bA := FA.binds (ps := ["places", "ties"]) fun _ _ _ _ _ _ us hl => match us, hl with | [_, _], _ => rfl
  have FT := fun_mk (st := sTied) lT cT kT
  have bT := FT.binds (ps := ["web", "one", "other"]) fun _ _ _ _ _ _ us hl => match us, hl with | [_, _, _], _ => rfl
  have FB := fun_mk (st := sBes) lB cB kB
  have bB := FB.binds (ps := ["web"]) fun _ _ _ _ _ _ us hl => match us, hl with | [_], _ => rfl
  have FP := fun_mk (st := sPiece) lP cP kP
  have bP := FP.binds (ps := ["near", "place"]) fun _ _ _ _ _ _ us hl => match us, hl with | [_, _], _ => rfl
  have FR := fun_mk (st := sRing) lR cR kR
  have bR := FR.binds (ps := ["web", "one", "other"]) fun _ _ _ _ _ _ us hl => match us, hl with | [_, _, _], _ => rfl
  have FE := fun_mk (st := sCell) lE cE kE
  have bE := FE.binds (ps := ["script", "k"]) fun _ _ _ _ _ _ us hl => match us, hl with | [_, _], _ => rfl
  have FO := fun_mk (st := sRow) lO cO kO
  have bO := FO.binds (ps := ["cell", "many", "size"]) fun _ _ _ _ _ _ us hl => match us, hl with | [_, _, _], _ => rfl
  have FD := fun_mk (st := sTies) lD cD kD
  have bD := FD.binds (ps := ["cell", "places"]) fun _ _ _ _ _ _ us hl => match us, hl with | [_, _], _ => rfl
  have FM := fun_mk (st := sMarks) lM cM kM
  have bM := FM.binds (ps := ["places", "ties"]) fun _ _ _ _ _ _ us hl => match us, hl with | [_, _], _ => rfl
  have FL := fun_mk (st := sTold) lL cL kL
  have bL := FL.binds (ps := ["web", "one", "other"]) fun _ _ _ _ _ _ us hl => match us, hl with | [_, _, _], _ => rfl
  have FG := fun_mk (st := sDue) lG cG kG
  have bG := FG.binds (ps := ["places", "ties", "one", "other"]) fun _ _ _ _ _ _ us hl => match us, hl with | [_, _, _, _], _ => rfl
  have FZ := fun_mk (st := sLaw) lZ cZ kZ
  exact ⟨PySem.W.fnOf "law" "law" (defArgs sLaw) (defBody sLaw) (defScope sLaw) .none kVZ dcZ pmZ anZ cdZ ctZ, fun s v => .of_eq rfl, fun base _ _ => ok_law FZ B FI bI (PySem.W.mg_of X G aI) (PySem.W.mg_of X G mo) FC bC (PySem.W.mg_of X G aC) FU bU (PySem.W.mg_of X G aU) FA bA (PySem.W.mg_of X G aA) FT bT (PySem.W.mg_of X G aT) FB bB (PySem.W.mg_of X G aB) FP bP (PySem.W.mg_of X G aP) FR bR (PySem.W.mg_of X G aR) FE bE (PySem.W.mg_of X G aE) FO bO (PySem.W.mg_of X G aO) FD bD (PySem.W.mg_of X G aD) FM bM (PySem.W.mg_of X G aM) FL bL (PySem.W.mg_of X G aL) FG bG (PySem.W.mg_of X G aG) ⟨PySem.W.mg_of X G aTallyError, PySem.W.mg_of X G aNoPlace, PySem.W.mg_of X G aBadNumber, PySem.W.mg_of X G aBadTally, PySem.W.mg_of X G aBadWeb, PySem.W.mg_of X G aNoExchange, PySem.W.mg_of X G aNoText, PySem.W.mg_of X G aNoWeb, PySem.W.mg_of X G aTooMany, PySem.W.mg_of X G aUnlike, ⟨qNoPlace⟩, ⟨gaNoPlace, naNoPlace, clNoPlace, sbNoPlace, soNoPlace, by rw [csNoPlace]; rfl⟩, xmNoPlace, i0NoPlace, i1NoPlace, i2NoPlace⟩⟩
theorem walk {l : PySem.W.OpenLaw} {q : Program} {loose : List Str} {XP : (Str → Option Value) → Heap → Prop} {YP : World → Heap → Prop} {d : DefRec} {K : Params → PySem.W.Frag} (hn : l.most = some 63) (hdf : d.params.defaults = [])
    (hY : ∀ (w : World) (h : Heap), YP w h → (K w.params).In h)
    (F : ∀ (w : World) (mg : Str → Option Value) (fa : Addr) (h : Heap), (K w.params).In h → h.Ns mainGlobals mg → mg d.name = some (.ref fa) →
      ∃ fd : FuncData, (∀ (s : Shared) (u : Value), BindsTo s fd ⟨[u], []⟩ [("script", u)]) ∧ ∀ base : Heap, (K w.params).In base → base.Ns mainGlobals mg → FnOk l.prog w (K w.params) mg base CX0 6 fa fd ["script"] (spLaw (K w.params))) :
    PySem.W.WalkO q loose XP YP l.row.toRowW d [] (fun f vs => PySem.call f vs) :=
  L2.walk_of (n := 63) (k := 6) (x := "script") (CX := fun _ => CX0) (sp := fun w => spLaw (K w.params)) hn (by decide) hdf ⟨rfl, by decide, by decide⟩ hY F (fun _ _ a ns hl _ hS => ⟨a, ns, rfl, hS, hl, fun _ => rfl⟩) fun _ _ _ _ _ z => z
end Web
open PySem PySem.W PyProof.Rows
set_option maxRecDepth 100000 in
set_option maxHeartbeats 0 in
theorem PySem.Challenge.cw_tallyweb_k30_ties_in_rings_holds : PySem.Challenge.rw_tallyweb_k30_ties_in_rings.Holds := by
  w_on; o_law; k_head; (case hw => w_witness2)
  k_fill
  refine Web.walk (l := PySem.Challenge.rw_tallyweb_k30_ties_in_rings) rfl rfl (fun w h Y => PySem.W.kIn_of Y) ?F
  case F =>
    intro w mg fa h KX G hmg
    refine' Web.all_mk KX G hmg ?aI ?lI ?cI ?kI ?aC ?lC ?cC ?kC ?aU ?lU ?cU ?kU ?aA ?lA ?cA ?kA ?aT ?lT ?cT ?kT ?aB ?lB ?cB ?kB ?aP ?lP ?cP ?kP ?aR ?lR ?cR ?kR ?aE ?lE ?cE ?kE ?aO ?lO ?cO ?kO ?aD ?lD ?cD ?kD ?aM ?lM ?cM ?kM ?aL ?lL ?cL ?kL ?aG ?lG ?cG ?kG ?aZ ?lZ ?cZ ?kZ ?mo ?aTallyError ?aBadWeb ?aBadTally ?aNoPlace ?aBadNumber ?aNoWeb ?aNoExchange ?aUnlike ?aTooMany ?aNoText ?qNoPlace ?gaNoPlace ?naNoPlace ?clNoPlace ?sbNoPlace ?soNoPlace ?csNoPlace ?xmNoPlace ?i0NoPlace ?i1NoPlace ?i2NoPlace ?z1 ?z2 ?z3 ?z4 ?z5 ?z6 ?z7 ?z8 ?z9 ?z10 ?z11 ?z12 ?z13 ?z14
    (case aI => k_is); (case lI => k_is); (case cI => k_is); (case kI => k_is)
    (case aC => k_is); (case lC => k_is); (case cC => k_is); (case kC => k_is)
    (case aU => k_is); (case lU => k_is); (case cU => k_is); (case kU => k_is)
    (case aA => k_is); (case lA => k_is); (case cA => k_is); (case kA => k_is)
    (case aT => k_is); (case lT => k_is); (case cT => k_is); (case kT => k_is)
    (case aB => k_is); (case lB => k_is); (case cB => k_is); (case kB => k_is)
    (case aP => k_is); (case lP => k_is); (case cP => k_is); (case kP => k_is)
    (case aR => k_is); (case lR => k_is); (case cR => k_is); (case kR => k_is)
    (case aE => k_is); (case lE => k_is); (case cE => k_is); (case kE => k_is)
    (case aO => k_is); (case lO => k_is); (case cO => k_is); (case kO => k_is)
    (case aD => k_is); (case lD => k_is); (case cD => k_is); (case kD => k_is)
    (case aM => k_is); (case lM => k_is); (case cM => k_is); (case kM => k_is)
    (case aL => k_is); (case lL => k_is); (case cL => k_is); (case kL => k_is)
    (case aG => k_is); (case lG => k_is); (case cG => k_is); (case kG => k_is)
    (case aZ => k_is); (case lZ => k_is); (case cZ => k_is); (case kZ => k_is)
    (case mo => k_is); (case aTallyError => k_is); (case aBadWeb => k_is); (case aBadTally => k_is)
    (case aNoPlace => k_is); (case aBadNumber => k_is); (case aNoWeb => k_is); (case aNoExchange => k_is)
    (case aUnlike => k_is); (case aTooMany => k_is); (case aNoText => k_is); (case qNoPlace => k_exc)
    (case gaNoPlace => k_is); (case naNoPlace => k_is); (case clNoPlace => k_is); (case sbNoPlace => k_is)
    (case soNoPlace => k_is); (case csNoPlace => k_is); (case xmNoPlace => kts_exm); (case i0NoPlace => kit_is)
    (case i1NoPlace => kit_is); (case i2NoPlace => kit_is); (case z1 => k_is); (case z2 => k_is)
    (case z3 => k_is); (case z4 => k_is); (case z5 => k_is); (case z6 => k_is)
    (case z7 => k_is); (case z8 => k_is); (case z9 => k_is); (case z10 => k_is)
    (case z11 => k_is); (case z12 => k_is); (case z13 => k_is); (case z14 => k_is)
#print axioms PySem.Challenge.cw_tallyweb_k30_ties_in_rings_holds

