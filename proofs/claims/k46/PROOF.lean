import PyProof.Rows.All
import Wide.All
import OpenK.AllK
import Wide.FinOn
import Lean
import PyProof.EqAt
import PyProof.EqKinds
import PyProof.TupleCall
import PyProof.Rows.SortRunsK
import PyProof.Rows.SortShellK
import KE.KSortTup
import PyProof.TupleKey
import PySem.SetOps
import PyProof.Rows.SetFrom
import PyProof.EnumFor
import PyProof.EnumStmt
import PyProof.EnumMake
import PyProof.P3Eq
import PyProof.NeData
import PyProof.P3In
import PyProof.Rows.SumAny
import KE.KTryMore
import PyProof.NsDelKeeps
import PyProof.RulesAs
import PyProof.ExcBaseAll.ValueError
import PyProof.ExcArgsOwn
import KE.KIsAll
import KE.KLam
import KE.KSortKey
import PyProof.ListRange
import PyProof.Rows.SortRev
import PyProof.TupleOfSeq
import PyProof.Draws
import KE.KTupSum
import PyProof.ListOps
import PyProof.AutoSeq1
import Wide.Txt2
import PyProof.Cells
import PyProof.Rows.TupAdd
import KE.RegKIsAll
import KE.RegKTryMore
import PySem.Challenge.RW_tallyweb_k46_whole_cells_of_all_tables
set_option Elab.async false
set_option linter.all false
set_option maxRecDepth 100000
/-! THE HAND LAYER, for ints, bools, texts, own classes, LISTS and tuples (index, slices, in, append, pop ..), calls, loops. Paste it whole ahead of your own text; what your proof does not reach may be deleted. -/
namespace L2
open PySem PySem.Spec PyProof.Rows

/-- a key: an int or a str -/
abbrev Key := Sum Int Str
def keyIs : Key → Value → Bool
  | .inl k, v => Value.isInt k v
  | .inr x, v => Value.isStrOf x v
def keyH (w : World) : Key → Int
  | .inl k => hashInt k
  | .inr x => hashStr w x
theorem keyIs_shape : ∀ {k : Key} {v : Value}, keyIs k v = true → (∃ i t, k = Sum.inl i ∧ v = Value.int i t) ∨ (∃ x t, k = Sum.inr x ∧ v = Value.str x t)
  | .inl i, v, h => by
    obtain ⟨t, e⟩ := Value.isInt_shape (k := i) (v := v) h
    exact .inl ⟨i, t, rfl, e⟩
  | .inr x, v, h => by
    obtain ⟨t, e⟩ := Value.isStrOf_shape (x := x) (v := v) h
    exact .inr ⟨x, t, rfl, e⟩
theorem key_ll (a b : Int) : decide ((Sum.inl a : Key) = Sum.inl b) = (a == b) := by
  by_cases e : a = b
  · subst e; simp
  · have h : ¬ (Sum.inl a : Key) = Sum.inl b := fun q => e (Sum.inl.inj q)
    rw [decide_eq_false h]
    exact (beq_eq_false_iff_ne.mpr e).symm
theorem key_rr (a b : Str) : decide ((Sum.inr a : Key) = Sum.inr b) = decide (a = b) := by
  by_cases e : a = b
  · subst e; simp
  · have h : ¬ (Sum.inr a : Key) = Sum.inr b := fun q => e (Sum.inr.inj q)
    rw [decide_eq_false h, decide_eq_false e]
theorem key_lr (a : Int) (b : Str) : decide ((Sum.inl a : Key) = Sum.inr b) = false := decide_eq_false (fun q => nomatch q)
theorem key_rl (a : Str) (b : Int) : decide ((Sum.inr a : Key) = Sum.inl b) = false := decide_eq_false (fun q => nomatch q)

def mixKind (prog : Program) (w : World) : PySem.KeyKind prog w Key where
  is := keyIs
  hash := keyH w
  inj := fun v a b ha hb => by
    rcases keyIs_shape ha with ⟨i, t, rfl, rfl⟩ | ⟨x, t, rfl, rfl⟩
    · rcases keyIs_shape hb with ⟨j, u, rfl, e⟩ | ⟨y, u, rfl, e⟩
      · injection e with e1 _; rw [e1]
      · exact nomatch e
    · rcases keyIs_shape hb with ⟨j, u, rfl, e⟩ | ⟨y, u, rfl, e⟩
      · exact nomatch e
      · injection e with e1 _; rw [e1]
  byValue := fun k v h => by
    rcases keyIs_shape h with ⟨i, t, rfl, rfl⟩ | ⟨x, t, rfl, rfl⟩ <;> rfl
  pyHash := fun hv h => by
    rcases keyIs_shape hv with ⟨i, t, rfl, rfl⟩ | ⟨x, t, rfl, rfl⟩
    · exact wpAny_pyHash_int h
    · exact wpAny_pyHash_str h
  eqBool := fun hu hv h => by
    rcases keyIs_shape hu with ⟨i, t, rfl, rfl⟩ | ⟨x, t, rfl, rfl⟩
    · rcases keyIs_shape hv with ⟨j, u, rfl, rfl⟩ | ⟨y, u, rfl, rfl⟩
      · rw [key_ll] at h; exact wpAny_eqBool_int h
      · rw [key_lr] at h; exact SeqAt.EqAt.int_str i t y u _ _ _ _ h
    · rcases keyIs_shape hv with ⟨j, u, rfl, rfl⟩ | ⟨y, u, rfl, rfl⟩
      · rw [key_rl] at h; exact SeqAt.EqAt.str_int x t j u _ _ _ _ h
      · rw [key_rr] at h; exact wpAny_eqBool_str h
  «strs» := fun k x t v h => by
    rcases keyIs_shape h with ⟨i, u, rfl, e⟩ | ⟨y, u, rfl, e⟩
    · exact nomatch e
    · injection e with e1 _
      subst e1
      cases v <;> rfl

end L2

namespace L2
open PySem PySem.Spec PyProof.Rows

/-- a value, without the heap -/
inductive V where
  | non | bl (b : Bool) | int (i : Int) | str (x : Str) | byt (b : Array UInt8) | flt (b : UInt64) | ref (a : Addr) | ty (n : String)
  deriving DecidableEq

def RelV : V → Value → Prop
  | .non, u => u = Value.none
  | .bl b, u => u = Value.bool b
  | .int i, u => ∃ t, u = Value.int i t
  | .str x, u => ∃ t, u = Value.str x t
  | .byt b, u => ∃ t, u = Value.bytes b t
  | .flt b, u => ∃ t, u = Value.float b t
  | .ref a, u => u = Value.ref a
  | .ty n, u => u = Value.type n

abbrev Vals : List V → List Value → Prop := Paired RelV
theorem Vals.length {xs : List V} {us : List Value} (r : Vals xs us) : xs.length = us.length := Paired.length r
theorem Vals.get : ∀ {xs : List V} {us : List Value} {i : Nat} {x : V}, Vals xs us → xs[i]? = some x → ∃ u, us[i]? = some u ∧ RelV x u
  | _, _, _, _, .nil, e => by simp at e
  | _, _, 0, _, .cons r _, e => by simp at e; subst e; exact ⟨_, rfl, r⟩
  | _, _, i + 1, x, .cons _ t, e => by
    obtain ⟨u, h1, h2⟩ := Vals.get (i := i) (x := x) t (by simpa using e)
    exact ⟨u, by simpa using h1, h2⟩
theorem Vals.set {x : V} {u : Value} (r : RelV x u) : ∀ {xs : List V} {us : List Value} (i : Nat), Vals xs us → Vals (xs.set i x) (us.set i u)
  | _, _, _, .nil => .nil
  | _, _, 0, .cons _ t => .cons r t
  | _, _, i + 1, .cons q t => .cons q (Vals.set r i t)
theorem Vals.append : ∀ {xs ys : List V} {us ws : List Value}, Vals xs us → Vals ys ws → Vals (xs ++ ys) (us ++ ws)
  | _, _, _, _, .nil, s => s
  | _, _, _, _, .cons r t, s => .cons r (Vals.append t s)
theorem Vals.take : ∀ {xs : List V} {us : List Value} (n : Nat), Vals xs us → Vals (xs.take n) (us.take n)
  | _, _, 0, _ => .nil
  | _, _, _ + 1, .nil => .nil
  | _, _, n + 1, .cons r t => .cons r (Vals.take n t)
theorem Vals.drop : ∀ {xs : List V} {us : List Value} (n : Nat), Vals xs us → Vals (xs.drop n) (us.drop n)
  | _, _, 0, r => r
  | _, _, _ + 1, .nil => .nil
  | _, _, n + 1, .cons _ t => Vals.drop n t
def RelO : Option V → Option Value → Prop
  | some v, some u => RelV v u
  | none, none => True
  | _, _ => False
def KV {κ : Type} : List (κ × V) → List (κ × Value) → Prop := Paired fun (p : κ × V) (q : κ × Value) => p.1 = q.1 ∧ RelV p.2 q.2

/-- a key of a dict (00_mix): an int or a text -/
def kV : Key → V
  | .inl i => .int i
  | .inr x => .str x

/-- what stands at a tracked address -/
inductive HO where
  /-- a list -/
  | lst (xs : List V)
  /-- a tuple (never changes) -/
  | tup (xs : List V)
  /-- a dict whose keys are ints and texts; one whose keys are tuples of ints and texts (the empty one is both) -/
  | dK (kvs : List (Key × V)) | dT (kvs : List (List Key × V))
  /-- a set of ints: its members, its size -/
  | set (S : Int → Bool) (n : Nat)
  /-- an instance of the class at C, its dict at dx, its attributes -/
  | ins (C dx : Addr) (fs : List (Str × V))
  /-- the dict of the instance at x -/
  | own (x : Addr)
  /-- the dict of an exception -/
  | xd (fs : List (Str × V))
  /-- a bound method, f of x -/
  | met (f x : Addr)
  /-- a range object lo, lo + 1, .. below hi -/
  | rng (lo hi : Int)
  /-- a thing that is known to the object (the script; a dict while a loop walks it): read, never written while it is so -/
  | frz (o : Obj) (u : HO)
  /-- a code object's table -/
  | tbl (ps : Array Value)
  /-- any other thing, by what is true of its one object (a def of one's own: SetO a S n := HO.ext fun h => ..) -/
  | ext (φ : Heap → Prop)

abbrev Hp := Addr → Option HO
def upd (H : Hp) (a : Addr) (o : HO) : Hp := fun b => if b = a then some o else H b
theorem upd_same {H : Hp} {a : Addr} {o : HO} : upd H a o a = some o := by unfold upd; rw [if_pos rfl]
theorem upd_ne {H : Hp} {a b : Addr} {o : HO} (h : b ≠ a) : upd H a o b = H b := by unfold upd; rw [if_neg h]
theorem upd_upd {H : Hp} {a : Addr} {o u : HO} : upd (upd H a o) a u = upd H a u := by
  funext b; unfold upd; split <;> rfl
/-- two objects of different content stand apart -/
theorem ne_of {H : Hp} {a b : Addr} {o u : HO} (h : H a = some o) (h' : H b = some u) (d : o ≠ u) : a ≠ b := by
  intro e; subst e; rw [h] at h'; exact d (Option.some.inj h')
theorem ne_of_none {H : Hp} {a b : Addr} {o : HO} (h : H a = some o) (h' : H b = none) : a ≠ b := by
  intro e; subst e; rw [h] at h'; cases h'

section
variable (P : Program) (w : World)
def ObjOk (H : Hp) (h : Heap) (a : Addr) : HO → Prop
  | .lst xs => xs.length ≤ sizeLine ∧ ∃ (its : List Value) (n : Nat), Vals xs its ∧ h.get? a = some { cls := .type "list", data := .seq its.toArray n }
  | .tup xs => xs.length ≤ sizeLine ∧ ∃ its : List Value, Vals xs its ∧ IsTup h a its.toArray
  | .dK kvs => kvs.length ≤ sizeLine ∧ (a == sysModules) = false ∧ ∃ vs, KV kvs vs ∧ h.DictOf (mixKind P w) a vs
  | .dT kvs => kvs.length ≤ sizeLine ∧ (a == sysModules) = false ∧ ∃ xs : List (List Key × Addr × Value),
      Paired (fun (p : List Key × V) (q : List Key × Addr × Value) => p.1 = q.1 ∧ H q.2.1 = some (.tup (p.1.map kV)) ∧ RelV p.2 q.2.2) kvs xs ∧
      ∃ o es ep, h.get? a = some o ∧ o.ExactDict ∧ o.data = .dict es ep ∧ es.toList = xs.map (entryOfKey (tupleKind (mixKind P w))) ∧ (xs.map (·.1)).Nodup
  | .set S n => h.SetOf (intKind P w) a S n
  | .ins C dx fs => H dx = some (.own a) ∧ fs.length ≤ 1000 ∧ dx ≠ a ∧ h.get? a = some (PySem.W.instObj C dx) ∧
      ∃ mA, h.Ns1 dx mA ∧ (∀ f, RelO (fs.lookup f) (mA f)) ∧ PySem.Within mA (fs.map (·.1))
  | .own _ => ∃ o, h.get? a = some o
  | .xd fs => ∃ mA, h.Ns1 a mA ∧ ∀ f, RelO (fs.lookup f) (mA f)
  | .rng lo hi => ∃ t u v, h.get? a = some { cls := .type "range", data := .fields #[.int lo t, .int hi u, .int 1 v] }
  | .frz o u => h.get? a = some o ∧ ObjOk H h a u
  | .tbl ps => h.get? a = some { cls := .none, data := .fields ps }
  | .met f x => h.get? a = some (PySem.W.methodObj (.ref f) (.ref x))
  | .ext φ => φ h ∧ (∃ o, h.get? a = some o) ∧ ∀ h1 h2 : Heap, φ h1 → (∀ o, h1.get? a = some o → h2.get? a = some o) → φ h2
/-- the abstract heap is held -/
def HOk (H : Hp) (h : Heap) : Prop := ∀ a o, H a = some o → ObjOk P w H h a o
end

section
variable {P : Program} {w : World} {H H' : Hp} {h h' : Heap} {a : Addr} {o : HO}
theorem ObjOk.lt (x : ObjOk P w H h a o) : a < h.objs.size := by
  cases o with
  | lst xs => obtain ⟨_, _, _, _, e⟩ := x; exact Heap.lt_size e
  | tup xs => obtain ⟨_, _, _, p⟩ := x; exact p.lt
  | dK kvs => obtain ⟨_, _, _, _, o, _, _, e, _⟩ := x; exact Heap.lt_size e
  | dT kvs => obtain ⟨_, _, _, _, o, _, _, e, _⟩ := x; exact Heap.lt_size e
  | set S n => obtain ⟨o, _, _, _, e, _⟩ := x; exact Heap.lt_size e
  | ins C dx fs => obtain ⟨_, _, _, e, _⟩ := x; exact Heap.lt_size e
  | own y => obtain ⟨_, e⟩ := x; exact Heap.lt_size e
  | xd fs => obtain ⟨_, ⟨_, _, _, e, _⟩, _⟩ := x; exact Heap.lt_size e
  | rng lo hi => obtain ⟨_, _, _, e⟩ := x; exact Heap.lt_size e
  | frz ob u => obtain ⟨e, _⟩ := x; exact Heap.lt_size e
  | tbl ps => exact Heap.lt_size (show h.get? a = some _ from x)
  | met f y => exact Heap.lt_size (show h.get? a = some _ from x)
  | ext φ => obtain ⟨_, ⟨_, e⟩, _⟩ := x; exact Heap.lt_size e
theorem Paired.mapP {α β : Type} {F G : α → β → Prop} : ∀ {l₁ : List α} {l₂ : List β}, Paired F l₁ l₂ → (∀ a b, F a b → G a b) → Paired G l₁ l₂
  | _, _, .nil, _ => .nil
  | _, _, .cons r t, f => .cons (f _ _ r) (Paired.mapP t f)
/-- what an object's description leans on: its own object, its own dict, the tuples -/
theorem ObjOk.stay (x : ObjOk P w H h a o) (k : ∀ b u, (b = a ∨ H b = some (.own a)) → h.get? b = some u → h'.get? b = some u)
    (ho : ∀ b, H b = some (.own a) → H' b = some (.own a)) (ht : ∀ b xs, H b = some (.tup xs) → H' b = some (.tup xs)) : ObjOk P w H' h' a o := by
  induction o with
  | lst xs => obtain ⟨z, its, n, r, e⟩ := x; exact ⟨z, its, n, r, k _ _ (.inl rfl) e⟩
  | tup xs => obtain ⟨z, its, r, ob, e, c⟩ := x; exact ⟨z, its, r, ob, k _ _ (.inl rfl) e, c⟩
  | dK kvs => obtain ⟨z, y, vs, r, ob, es, ep, e, c⟩ := x; exact ⟨z, y, vs, r, ob, es, ep, k _ _ (.inl rfl) e, c⟩
  | dT kvs =>
    obtain ⟨z, y, xs, r, ob, es, ep, e, c⟩ := x
    exact ⟨z, y, xs, Paired.mapP r fun p q z => ⟨z.1, ht _ _ z.2.1, z.2.2⟩, ob, es, ep, k _ _ (.inl rfl) e, c⟩
  | set S n => obtain ⟨ob, es, ep, t, e, c⟩ := x; exact ⟨ob, es, ep, t, k _ _ (.inl rfl) e, c⟩
  | ins C dx fs =>
    obtain ⟨d, z, ne, e, mA, ⟨od, es, ep, e2, c⟩, r⟩ := x
    exact ⟨ho _ d, z, ne, k _ _ (.inl rfl) e, mA, ⟨od, es, ep, k _ _ (.inr d) e2, c⟩, r⟩
  | own y => obtain ⟨ob, e⟩ := x; exact ⟨ob, k _ _ (.inl rfl) e⟩
  | xd fs => obtain ⟨mA, ⟨od, es, ep, e, c⟩, r⟩ := x; exact ⟨mA, ⟨od, es, ep, k _ _ (.inl rfl) e, c⟩, r⟩
  | rng lo hi => obtain ⟨t, u, v, e⟩ := x; exact ⟨t, u, v, k _ _ (.inl rfl) e⟩
  | frz ob u ih => obtain ⟨e, q⟩ := x; exact ⟨k _ _ (.inl rfl) e, ih q⟩
  | tbl ps =>
    have e : h.get? a = some { cls := .none, data := .fields ps } := x
    show h'.get? a = some { cls := .none, data := .fields ps }
    exact k a _ (.inl rfl) e
  | met f y =>
    have e : h.get? a = some (PySem.W.methodObj (.ref f) (.ref y)) := x
    show h'.get? a = some (PySem.W.methodObj (.ref f) (.ref y))
    exact k a _ (.inl rfl) e
  | ext φ => obtain ⟨p, ⟨o, e⟩, st⟩ := x; exact ⟨st _ _ p fun o q => k _ _ (.inl rfl) q, ⟨o, k _ _ (.inl rfl) e⟩, st⟩
theorem HOk.lt (x : HOk P w H h) (e : H a = some o) : a < h.objs.size := (x a o e).lt
theorem HOk.fresh (x : HOk P w H h) (e : h.objs.size ≤ a) : H a = none := by
  cases q : H a with
  | none => rfl
  | some u => exact absurd (Nat.lt_of_lt_of_le (x.lt q) e) (Nat.lt_irrefl _)
/-- every object of the heap is kept -/
theorem HOk.kept (x : HOk P w H h) (k : ∀ b u, h.get? b = some u → h'.get? b = some u) : HOk P w H h' := fun a o e =>
  (x a o e).stay (fun b u _ q => k b u q) (fun _ q => q) fun _ _ q => q
/-- a new object is laid and tracked -/
theorem HOk.laid (x : HOk P w H h) (k : ∀ b u, h.get? b = some u → h'.get? b = some u) (hp : h.objs.size ≤ a) (new : ObjOk P w (upd H a o) h' a o) : HOk P w (upd H a o) h' := fun b u e => by
  have hn := x.fresh hp
  by_cases hb : b = a
  · subst hb; rw [upd_same] at e; cases e; exact new
  · rw [upd_ne hb] at e
    exact (x b u e).stay (fun c v _ q => k c v q) (fun c q => by rw [upd_ne (ne_of_none q hn)]; exact q) fun c xs q => by rw [upd_ne (ne_of_none q hn)]; exact q
end

/-- what may be read as u: it is u, or a known u -/
def Rd (H : Hp) (a : Addr) (u : HO) : Prop := H a = some u ∨ ∃ o, H a = some (.frz o u)
theorem Rd.of {H : Hp} {a : Addr} {u : HO} (h : H a = some u) : Rd H a u := .inl h
theorem Rd.ok {P : Program} {w : World} {H : Hp} {h : Heap} {a : Addr} {u : HO} (r : Rd H a u) (x : HOk P w H h) : ObjOk P w H h a u := by
  rcases r with r | ⟨o, r⟩
  · exact x a u r
  · obtain ⟨_, q⟩ := x a _ r
    exact q
/-- what may be written -/
def Mut : Option HO → Prop
  | some (.lst _) => True
  | some (.dK _) => True
  | some (.dT _) => True
  | some (.set _ _) => True
  | some (.ins _ _ _) => True
  | some (.ext _) => True
  | _ => False
section
variable {P : Program} {w : World} {H : Hp} {h h' : Heap} {x e : Addr} {o' : HO}
/-- the object at e is changed: x itself, or the dict of the instance x -/
theorem HOk.write (ok : HOk P w H h) (mu : Mut (H x)) (he : e = x ∨ H e = some (.own x)) (k : ∀ b u, b ≠ e → h.get? b = some u → h'.get? b = some u) (heo : ∃ u, h'.get? e = some u)
    (new : ObjOk P w (upd H x o') h' x o') : HOk P w (upd H x o') h' := fun b u q => by
  have nown : ∀ c y, H c = some (.own y) → c ≠ x := fun c y r z => by subst z; rw [r] at mu; exact mu
  have ntup : ∀ c xs, H c = some (.tup xs) → c ≠ x := fun c xs r z => by subst z; rw [r] at mu; exact mu
  by_cases hb : b = x
  · subst hb; rw [upd_same] at q; cases q; exact new
  · rw [upd_ne hb] at q
    by_cases hbe : b = e
    · have q' : H b = some (.own x) := by
        rcases he with z | z
        · exact absurd (hbe.trans z) hb
        · rw [hbe]; exact z
      rw [q] at q'; cases q'
      obtain ⟨v, hv⟩ := heo
      exact ⟨v, by rw [hbe]; exact hv⟩
    · refine (ok b u q).stay (fun c v hc r => k c v ?_ r) (fun c r => by rw [upd_ne (nown c b r)]; exact r) fun c xs r => by rw [upd_ne (ntup c xs r)]; exact r
      rcases hc with rfl | hc
      · exact hbe
      · rintro rfl
        rcases he with z | z
        · exact nown c b hc z
        · rw [hc] at z; cases z; exact hb rfl
end

/-! ### kept unless tracked; of the frames at fs (the callers') the slots may change (an exception that passes writes there); of the records at ex (iterators) nothing is said -/
structure Un (fs ex : List Addr) (H H' : Hp) (h h' : Heap) : Prop where
  keep : ∀ b o, h.get? b = some o → H b = none → b ∉ fs → b ∉ ex → h'.get? b = some o
  slot : ∀ b o, h.get? b = some o → H b = none → b ∈ fs → b ∉ ex → ∃ sl, h'.get? b = some { o with slots := sl }
  free : ∀ b o, h.get? b = some o → H b = none → b ∉ ex → H' b = none
  there : ∀ b o, h.get? b = some o → b ∉ ex → ∃ o', h'.get? b = some o'
  tups : ∀ b xs, H b = some (.tup xs) → H' b = some (.tup xs)
  frzs : ∀ b o u, H b = some (.frz o u) → H' b = some (.frz o u)
  tbls : ∀ b ps, H b = some (.tbl ps) → ∃ more, H' b = some (.tbl (ps ++ more))
section
variable {fs fs' ex ex' : List Addr} {H H1 H2 : Hp} {h h1 h2 h' : Heap} {a x e : Addr} {o : HO}
theorem Un.any (u : Un fs ex H H1 h h1) {b : Addr} {ob : Obj} (q : h.get? b = some ob) (n : H b = none) (hx : b ∉ ex) : ∃ sl, h1.get? b = some { ob with slots := sl } := by
  by_cases hb : b ∈ fs
  · exact u.slot b ob q n hb hx
  · exact ⟨ob.slots, u.keep b ob q n hb hx⟩
theorem Un.trans (a : Un fs ex H H1 h h1) (b : Un fs ex H1 H2 h1 h2) : Un fs ex H H2 h h2 where
  keep := fun c ob q n hc hx => b.keep c ob (a.keep c ob q n hc hx) (a.free c ob q n hx) hc hx
  slot := fun c ob q n hc hx => by
    obtain ⟨sl, e1⟩ := a.slot c ob q n hc hx
    obtain ⟨sl', e2⟩ := b.slot c _ e1 (a.free c ob q n hx) hc hx
    exact ⟨sl', e2⟩
  free := fun c ob q n hx => by
    obtain ⟨o', e1⟩ := a.there c ob q hx
    exact b.free c o' e1 (a.free c ob q n hx) hx
  there := fun c ob q hx => by
    obtain ⟨o', e1⟩ := a.there c ob q hx
    exact b.there c o' e1 hx
  tups := fun c xs q => b.tups c xs (a.tups c xs q)
  frzs := fun c ob xs q => b.frzs c ob xs (a.frzs c ob xs q)
  tbls := fun c ps q => by
    obtain ⟨m1, e1⟩ := a.tbls c ps q
    obtain ⟨m2, e2⟩ := b.tbls c _ e1
    exact ⟨m1 ++ m2, by rw [e2, Array.append_assoc]⟩
theorem Un.kept (k : ∀ b u, h.get? b = some u → h'.get? b = some u) : Un fs ex H H h h' :=
  ⟨fun b ob q _ _ _ => k b ob q, fun b ob q _ _ _ => ⟨ob.slots, k b ob q⟩, fun _ _ _ n _ => n, fun b ob q _ => ⟨ob, k b ob q⟩, fun _ _ q => q, fun _ _ _ q => q, fun _ ps q => ⟨#[], by rw [q]; simp⟩⟩
theorem Un.refl : Un fs ex H H h h := Un.kept fun _ _ q => q
theorem Un.laid (k : ∀ b u, h.get? b = some u → h'.get? b = some u) (hp : h.objs.size ≤ a) (hn : H a = none) : Un fs ex H (upd H a o) h h' where
  keep := fun b u q _ _ _ => k b u q
  slot := fun b u q _ _ _ => ⟨u.slots, k b u q⟩
  free := fun b u q n _ => by rw [upd_ne (Nat.ne_of_lt (Nat.lt_of_lt_of_le (Heap.lt_size q) hp))]; exact n
  there := fun b u q _ => ⟨u, k b u q⟩
  tups := fun b xs q => by rw [upd_ne (ne_of_none q hn)]; exact q
  frzs := fun b u xs q => by rw [upd_ne (ne_of_none q hn)]; exact q
  tbls := fun b ps q => ⟨#[], by rw [upd_ne (ne_of_none q hn), q]; simp⟩
theorem Un.write (mu : Mut (H x)) (he : e = x ∨ H e = some (.own x)) (k : ∀ b u, b ≠ e → h.get? b = some u → h'.get? b = some u) (heo : ∃ u, h'.get? e = some u) : Un fs ex H (upd H x o) h h' := by
  have hx : ∀ b, H b = none → b ≠ x := fun b n z => by subst z; rw [n] at mu; exact mu
  have hb : ∀ b, H b = none → b ≠ e := fun b n z => by
    subst z
    rcases he with r | r
    · exact hx b n r
    · rw [n] at r; cases r
  have hm : ∀ b u, H b = some u → ¬ Mut (some u) → b ≠ x := fun b u q nm z => by subst z; rw [q] at mu; exact nm mu
  refine ⟨fun b u q n _ _ => k b u (hb b n) q, fun b u q n _ _ => ⟨u.slots, k b u (hb b n) q⟩, fun b u q n _ => by rw [upd_ne (hx b n)]; exact n, fun b u q _ => ?_,
    fun b xs q => by rw [upd_ne (hm b _ q fun z => z)]; exact q, fun b u xs q => by rw [upd_ne (hm b _ q fun z => z)]; exact q, fun b ps q => ⟨#[], by rw [upd_ne (hm b _ q fun z => z), q]; simp⟩⟩
  by_cases hbe : b = e
  · subst hbe; exact heo
  · exact ⟨u, k b u hbe q⟩
theorem Un.mono (u : Un fs ex H H1 h h1) (hs : ∀ b ∈ fs, b ∈ fs') (hx : ∀ b ∈ ex, b ∈ ex') : Un fs' ex' H H1 h h1 :=
  ⟨fun b ob q n hb he => u.keep b ob q n (fun z => hb (hs b z)) fun z => he (hx b z), fun _ _ q n _ he => u.any q n fun z => he (hx _ z), fun b ob q n he => u.free b ob q n fun z => he (hx b z), fun b ob q he => u.there b ob q fun z => he (hx b z), u.tups, u.frzs, u.tbls⟩
end

/-! ### the heap without what is tracked -/
def trk (h : Heap) (H : Hp) : List Addr := (List.range h.objs.size).filter fun a => (H a).isSome
def hidT (h : Heap) (H : Hp) : Heap := PySem.W.hideAll h (trk h H)
theorem hidT_size (h : Heap) (H : Hp) : (hidT h H).objs.size = h.objs.size := PySem.W.hideAll_size _ _
theorem hidT_get {h : Heap} {H : Hp} {b : Addr} {o : Obj} (e : h.get? b = some o) (n : H b = none) : (hidT h H).get? b = some o :=
  PySem.W.hideAll_get _ e fun hm => by
    have q : (H b).isSome = true := (List.mem_filter.mp hm).2
    rw [n] at q; simp at q
theorem of_hidT {h : Heap} {H : Hp} {b : Addr} {o : Obj} (e : (hidT h H).get? b = some o) : h.get? b = some o ∧ H b = none := by
  have e' : h.get? b = some o := PySem.W.of_hideAll (trk h H) e
  refine ⟨e', ?_⟩
  cases q : H b with
  | none => rfl
  | some x =>
    have hm : b ∈ trk h H := List.mem_filter.mpr ⟨List.mem_range.mpr (Heap.lt_size e'), by simp [q]⟩
    have z : (hidT h H).get? b = none := PySem.W.hideAll_none (trk h H) hm
    rw [z] at e; cases e

/-! ### OpenK's ledger, filled with every new object but one -/
def allNews (g h : Heap) (L : Addr) : List (Addr × Obj) := (List.range h.objs.size).filterMap fun a => if a = L ∨ (g.get? a).isSome = true then none else (h.get? a).map fun o => (a, o)
def rest (g h : Heap) (L d : Addr) : List (Addr × Obj) := (allNews g h L).filter fun p => decide (p.1 ≠ d)
end L2

namespace L2
open PySem PySem.Spec PyProof.Rows

/-- the module's facts, over the base: the heap at the law's entry without what is tracked there -/
structure Mod (K : PySem.W.Frag) (mg : Str → Option Value) (base : Heap) : Prop where
  kin : K.In base
  glob : base.Ns mainGlobals mg
  blt : ∃ mb, base.Ns builtinsNs mb ∧ ∀ x : Str, x ≠ "__name__" → mb x = bootBuiltins x
  nolimit : base.NoLimit

/-- the context: a def's body (or a comprehension's block) running. base: fixed through the whole law; s₀, H₀: the entry; outer: the frames whose slots others may change (a def's callers); stack: all frames that run;
   ex: iterators that were made ahead of the entry and are walked here (a comprehension's); fn: the names whose cells were made at the entry (a def: all; a comprehension's block: its own); calm: not within an except suite; pn: pins that every state bears; xe: what is wanted of an exception that leaves the code -/
structure Cx where
  prog : Program
  w : World
  K : PySem.W.Frag
  mg : Str → Option Value
  base : Heap
  A : Around
  N : List Str
  s₀ : Shared
  H₀ : Hp
  env : Env
  outer : List Env
  stack : List Env
  ex : List Addr
  fn : Str → Bool
  calm : Bool
  pn : List (Addr × Obj)
  xe : Value → Shared → Prop
/-- the callers' frames -/
def frs (l : List Env) : List Addr := l.filterMap (·.frame)
abbrev Cx.fs (X : Cx) : List Addr := frs X.outer

def Vis (sc : Scope) (x : Str) : Prop := sc.names.lookup x = some .local ∨ sc.names.lookup x = some .cell ∨ sc.names.lookup x = some .free
def Loc (sc : Scope) (x : Str) : Prop := sc.names.lookup x = some .local ∨ sc.names.lookup x = some .cell
def Look (env : Env) (h : Heap) (m : Str → Option Value) (x : Str) (u : Value) : Prop :=
  (env.kindOf x = some .local ∧ m x = some u) ∨ ((env.kindOf x = some .cell ∨ env.kindOf x = some .free) ∧ ∃ c, env.cells.lookup x = some c ∧ h.IsCell c (some u))

structure Cx.Ok (X : Cx) : Prop where
  mod : Mod X.K X.mg X.base
  kind : X.env.scope.kind = .function
  glob : X.env.globals = mainGlobals
  blt : X.env.builtins = builtinsNs
  above : X.s₀.heap.objs.size ≤ X.env.locals
  inj : ∀ x y c, X.env.cells.lookup x = some c → X.env.cells.lookup y = some c → x = y
  has : ∀ x, (X.env.kindOf x = some .cell ∨ X.env.kindOf x = some .free) → ∃ c, X.env.cells.lookup x = some c
  cab : ∀ x c, X.fn x = true → X.env.cells.lookup x = some c → X.s₀.heap.objs.size ≤ c
  hd : X.calm = true → X.A.handled = none
  frames : X.A.frames = some X.stack
  stk : X.stack = X.outer ∨ (X.stack = X.env :: X.outer ∧ X.env.frame = some X.env.locals)
  exf : ∀ b ∈ X.ex, b ≠ X.env.locals ∧ ∀ x c, X.env.cells.lookup x = some c → c ≠ b
  bs : ∀ b o, X.base.get? b = some o → X.s₀.heap.get? b = some o ∧ X.H₀ b = none
  bsz : X.base.objs.size ≤ X.s₀.heap.objs.size
  noex : ∀ b o, X.base.get? b = some o → b ∉ X.ex
  exfs : ∀ b ∈ X.ex, b ∉ X.fs
  funs : X.s₀.heap.FunFrames X.base X.outer
  frf : ∀ b ∈ X.fs, X.H₀ b = none

structure Inv (X : Cx) (pins : List (Addr × Obj)) (σ : List (Option V)) (H : Hp) (s : Shared) : Prop where
  ok : X.Ok
  os : s.os = X.s₀.os
  bare : AllBare s.gens
  base : Un X.fs X.ex X.H₀ H X.s₀.heap s.heap
  loc : ∃ m, s.heap.Ns X.env.locals m ∧ ∀ (i : Nat) (x : Str) (v : V), X.N[i]? = some x → σ[i]? = some (some v) → Vis X.env.scope x → ∃ u, RelV v u ∧ Look X.env s.heap m x u
  cell : ∀ x c, X.env.cells.lookup x = some c → ∃ v, s.heap.IsCell c v
  free : H X.env.locals = none
  freeC : ∀ x c, X.env.cells.lookup x = some c → H c = none
  pin : ∀ p ∈ X.pn ++ pins, s.heap.get? p.1 = some p.2 ∧ H p.1 = none ∧ p.1 ≠ X.env.locals ∧ p.1 ∉ X.fs ∧ ∀ v, p.2.data ≠ .cell v
  hok : HOk X.prog X.w H s.heap
  len : σ.length = X.N.length

section
variable {X : Cx} {pins : List (Addr × Obj)} {σ : List (Option V)} {H H' : Hp} {s : Shared} {h' : Heap}

theorem Cx.Ok.nofr (ok : X.Ok) {b : Addr} {o : Obj} (e : X.base.get? b = some o) : b ∉ X.fs := fun hb => by
  have := (ok.funs.mem hb).1
  rw [e] at this; cases this
theorem Inv.bs (I : Inv X pins σ H s) : ∀ b o, X.base.get? b = some o → s.heap.get? b = some o ∧ H b = none := fun b o e =>
  ⟨I.base.keep b o (I.ok.bs b o e).1 (I.ok.bs b o e).2 (I.ok.nofr e) (I.ok.noex b o e), I.base.free b o (I.ok.bs b o e).1 (I.ok.bs b o e).2 (I.ok.noex b o e)⟩
theorem Inv.bk (I : Inv X pins σ H s) : ∀ b o, X.base.get? b = some o → s.heap.get? b = some o := fun b o e => (I.bs b o e).1
theorem Inv.mod (I : Inv X pins σ H s) : Mod X.K X.mg X.base := I.ok.mod
theorem Inv.kIn (I : Inv X pins σ H s) : X.K.In s.heap := I.ok.mod.kin.keeps I.bk
theorem Inv.nolimit (I : Inv X pins σ H s) : s.heap.NoLimit := I.ok.mod.nolimit.keeps I.bk
/-- the frame over the base: for OpenK's rules (K.In X.base is I.mod.kin) -/
theorem Inv.fr (I : Inv X pins σ H s) : ∃ m, Fr X.base X.env.locals s.heap m :=
  let ⟨m, hn, _⟩ := I.loc
  ⟨m, hn, I.bk, Nat.le_trans I.ok.bsz I.ok.above⟩
theorem Inv.lt (I : Inv X pins σ H s) : X.env.locals < s.heap.objs.size := let ⟨_, hn, _⟩ := I.loc; hn.lt
theorem Inv.sz (I : Inv X pins σ H s) : X.s₀.heap.objs.size ≤ s.heap.objs.size := Nat.le_trans I.ok.above (Nat.le_of_lt I.lt)
theorem Inv.nofs (I : Inv X pins σ H s) {a : Addr} (h : s.heap.objs.size ≤ a) : a ∉ X.fs := fun hb => by
  obtain ⟨_, o, ho, _⟩ := I.ok.funs.mem hb
  exact absurd (Nat.lt_of_lt_of_le (Heap.lt_size ho) (Nat.le_trans I.sz h)) (Nat.lt_irrefl _)
theorem Inv.cne (I : Inv X pins σ H s) : ∀ x c, X.env.cells.lookup x = some c → c ≠ X.env.locals := fun x c e z => by
  obtain ⟨v, o, ho, hd⟩ := I.cell x c e
  obtain ⟨m, ⟨o', es, ep, ho', hd', _⟩, _⟩ := I.loc
  rw [z, ho'] at ho; cases ho; rw [hd'] at hd; cases hd
theorem Inv.funs (I : Inv X pins σ H s) : s.heap.FunFrames X.base X.outer := by
  have all : ∀ (l : List Env), (∀ b ∈ frs l, b ∈ X.fs) → X.s₀.heap.FunFrames X.base l → s.heap.FunFrames X.base l := by
    intro l
    induction l with
    | nil => intro _ _; trivial
    | cons env r ih =>
      intro hs hl
      obtain ⟨hk, ⟨L, o, hf, hn, ho, hd⟩, hr⟩ := hl
      have hL : L ∈ X.fs := hs L (by unfold frs; rw [List.filterMap_cons, hf]; exact List.mem_cons_self)
      obtain ⟨sl, e⟩ := I.base.slot L o ho (I.ok.frf L hL) hL fun z => I.ok.exfs L z hL
      exact ⟨hk, ⟨L, _, hf, hn, e, hd⟩, ih (fun b hb => hs b (by unfold frs; rw [List.filterMap_cons, hf]; exact List.mem_cons_of_mem _ hb)) hr⟩
  exact all X.outer (fun _ hb => hb) I.ok.funs

/-- the frames that run, for a call -/
theorem Inv.stack (I : Inv X pins σ H s) : s.heap.FunFrames X.base X.stack := by
  rcases I.ok.stk with e | ⟨e, hf⟩
  · rw [e]; exact I.funs
  · rw [e]
    obtain ⟨m, hn, _⟩ := I.loc
    refine .cons (by rw [I.ok.kind]; decide) hf hn ?_ I.funs
    exact Heap.get?_none_of_le (Nat.le_trans I.ok.bsz I.ok.above)
theorem Inv.stkSub (I : Inv X pins σ H s) : ∀ b ∈ frs X.stack, b ∈ X.env.locals :: X.fs := fun b hb => by
  rcases I.ok.stk with e | ⟨e, hf⟩
  · rw [e] at hb; exact List.mem_cons_of_mem _ hb
  · rw [e] at hb
    unfold frs at hb
    rw [List.filterMap_cons, hf] at hb
    exact hb
theorem Inv.stkFree (I : Inv X pins σ H s) : ∀ b ∈ frs X.stack, H b = none := fun b hb => by
  rcases List.mem_cons.mp (I.stkSub b hb) with e | hb
  · rw [e]; exact I.free
  · obtain ⟨_, o, ho, _⟩ := I.ok.funs.mem hb
    exact I.base.free b o ho (I.ok.frf b hb) fun z => I.ok.exfs b z hb

/-- THE STEP: the untracked objects but the frame and the records at ch are kept (the callers' frames up to slots), the frame's map is kept, the new abstract heap is held -/
theorem Inv.step {g' : Array GenState} {t' : Nat} {d' : Drawn} {ch : List Addr} (I : Inv X pins σ H s)
    (hch : ∀ b ∈ ch, (b ∈ X.ex ∨ X.s₀.heap.objs.size ≤ b) ∧ b ≠ X.env.locals ∧ (∀ x c, X.env.cells.lookup x = some c → c ≠ b) ∧ ∀ p ∈ X.pn ++ pins, p.1 ≠ b)
    (keep : ∀ b o, b ≠ X.env.locals → b ∉ X.fs → b ∉ ch → s.heap.get? b = some o → H b = none → h'.get? b = some o)
    (slot : ∀ b o, b ≠ X.env.locals → b ∈ X.fs → b ∉ ch → s.heap.get? b = some o → H b = none → ∃ sl, h'.get? b = some { o with slots := sl }) (free : ∀ b o, b ∉ ch → s.heap.get? b = some o → H b = none → H' b = none)
    (there : ∀ b o, b ∉ ch → s.heap.get? b = some o → ∃ o', h'.get? b = some o')
    (tups : ∀ b xs, H b = some (.tup xs) → H' b = some (.tup xs)) (frzs : ∀ b o u, H b = some (.frz o u) → H' b = some (.frz o u)) (tbls : ∀ b ps, H b = some (.tbl ps) → ∃ more, H' b = some (.tbl (ps ++ more)))
    (ns : ∀ m, s.heap.Ns X.env.locals m → h'.Ns X.env.locals m) (hok : HOk X.prog X.w H' h') (hg : AllBare g') :
    Inv X pins σ H' { s with heap := h', gens := g', drawn := d', toks := t' } := by
  have neL : ∀ b o, X.s₀.heap.get? b = some o → b ≠ X.env.locals := fun b o e => Nat.ne_of_lt (Nat.lt_of_lt_of_le (Heap.lt_size e) I.ok.above)
  have neC : ∀ b o, X.s₀.heap.get? b = some o → b ∉ X.ex → b ∉ ch := fun b o e hx hb => by
    rcases (hch b hb).1 with z | z
    · exact hx z
    · exact absurd (Nat.lt_of_lt_of_le (Heap.lt_size e) z) (Nat.lt_irrefl _)
  have cellK : ∀ x c, X.env.cells.lookup x = some c → ∀ v, s.heap.IsCell c v → h'.IsCell c v := fun x c e v ⟨o, ho, hd⟩ => by
    have nch : c ∉ ch := fun z => (hch c z).2.2.1 x c e rfl
    by_cases hc : c ∈ X.fs
    · obtain ⟨sl, q⟩ := slot c o (I.cne x c e) hc nch ho (I.freeC x c e)
      exact ⟨_, q, hd⟩
    · exact ⟨o, keep c o (I.cne x c e) hc nch ho (I.freeC x c e), hd⟩
  refine ⟨I.ok, I.os, hg, ⟨fun b o e n hb hx => ?_, fun b o e n hb hx => ?_, fun b o e n hx => ?_, fun b o e hx => ?_, fun b xs e => tups b xs (I.base.tups b xs e), fun b o xs e => frzs b o xs (I.base.frzs b o xs e), fun b ps e => ?_⟩, ?_, fun x c e => ?_, ?_, fun x c e => ?_, fun p hp => ?_, hok, I.len⟩
  · exact keep b o (neL b o e) hb (neC b o e hx) (I.base.keep b o e n hb hx) (I.base.free b o e n hx)
  · obtain ⟨sl, e1⟩ := I.base.slot b o e n hb hx
    obtain ⟨sl', e2⟩ := slot b _ (neL b o e) hb (neC b o e hx) e1 (I.base.free b o e n hx)
    exact ⟨sl', e2⟩
  · obtain ⟨o', e1⟩ := I.base.there b o e hx
    exact free b o' (neC b o e hx) e1 (I.base.free b o e n hx)
  · obtain ⟨o', e1⟩ := I.base.there b o e hx
    exact there b o' (neC b o e hx) e1
  · obtain ⟨m1, e1⟩ := I.base.tbls b ps e
    obtain ⟨m2, e2⟩ := tbls b _ e1
    exact ⟨m1 ++ m2, by rw [e2, Array.append_assoc]⟩
  · obtain ⟨m, hn, hl⟩ := I.loc
    refine ⟨m, ns m hn, fun i x v e1 e2 e3 => ?_⟩
    obtain ⟨u, r, l⟩ := hl i x v e1 e2 e3
    refine ⟨u, r, ?_⟩
    rcases l with l | ⟨k, c, e, z⟩
    · exact .inl l
    · exact .inr ⟨k, c, e, cellK x c e _ z⟩
  · obtain ⟨v, z⟩ := I.cell x c e
    exact ⟨v, cellK x c e v z⟩
  · obtain ⟨m, ⟨o, _, _, ho, _⟩, _⟩ := I.loc
    exact free _ o (fun z => (hch _ z).2.1 rfl) ho I.free
  · obtain ⟨v, o, ho, hd⟩ := I.cell x c e
    exact free c o (fun z => (hch c z).2.2.1 x c e rfl) ho (I.freeC x c e)
  · obtain ⟨e, n, ne, nf, d⟩ := I.pin p hp
    have nch : p.1 ∉ ch := fun z => (hch p.1 z).2.2.2 p hp rfl
    exact ⟨keep p.1 p.2 ne nf nch e n, free p.1 p.2 nch e n, ne, nf, d⟩
/-- .. where the frame's own object is kept too -/
theorem Inv.un {t' : Nat} (I : Inv X pins σ H s) (u : Un X.fs [] H H' s.heap h') (hok : HOk X.prog X.w H' h') : Inv X pins σ H' { s with heap := h', toks := t' } := by
  obtain ⟨m, ⟨o, es, ep, ho, r⟩, _⟩ := id I.loc
  obtain ⟨sl, hL⟩ := u.any ho I.free (by simp)
  exact I.step (g' := s.gens) (d' := s.drawn) (ch := []) (fun _ z => nomatch z) (fun b o _ hb _ e n => u.keep b o e n hb (by simp)) (fun b o _ hb _ e n => u.slot b o e n hb (by simp)) (fun b o _ e n => u.free b o e n (by simp)) (fun b o _ e => u.there b o e (by simp)) u.tups u.frzs u.tbls (fun m' hm => by
    obtain ⟨o', es', ep', ho', r'⟩ := hm
    rw [ho] at ho'; cases ho'
    exact ⟨_, es', ep', hL, r'⟩) hok I.bare
/-- behind a call (or a comprehension's block): the slots of this frame may have changed too, the records at ch may have turned -/
theorem Inv.call {g' : Array GenState} {t' : Nat} {d' : Drawn} {ch : List Addr} (I : Inv X pins σ H s) (u : Un (frs X.stack) ch H H' s.heap h') (hok : HOk X.prog X.w H' h') (hg : AllBare g')
    (hch : ∀ b ∈ ch, (b ∈ X.ex ∨ X.s₀.heap.objs.size ≤ b) ∧ b ≠ X.env.locals ∧ (∀ x c, X.env.cells.lookup x = some c → c ≠ b) ∧ ∀ p ∈ X.pn ++ pins, p.1 ≠ b) :
    Inv X pins σ H' { s with heap := h', gens := g', drawn := d', toks := t' } := by
  obtain ⟨m, ⟨o, es, ep, ho, r⟩, _⟩ := id I.loc
  obtain ⟨sl, hL⟩ := u.any ho I.free fun z => (hch _ z).2.1 rfl
  exact I.step (ch := ch) hch (fun b o hL hb hc e n => u.keep b o e n (fun z => (List.mem_cons.mp (I.stkSub b z)).elim hL hb) hc) (fun b o _ _ hc e n => u.any e n hc) (fun b o hc e n => u.free b o e n hc) (fun b o hc e => u.there b o e hc) u.tups u.frzs u.tbls (fun m' hm => by
    obtain ⟨o', es', ep', ho', r'⟩ := hm
    rw [ho] at ho'; cases ho'
    exact ⟨_, es', ep', hL, r'⟩) hok hg
/-- an untracked record of ours (an iterator) has turned -/
theorem Inv.turned {t' : Nat} {it : Addr} (I : Inv X pins σ H s) (k : ∀ b o, b ≠ it → s.heap.get? b = some o → h'.get? b = some o) (hn : H it = none) (hL : it ≠ X.env.locals)
    (h1 : it ∈ X.ex ∨ X.s₀.heap.objs.size ≤ it) (h2 : ∀ x c, X.env.cells.lookup x = some c → c ≠ it) (h3 : ∀ p ∈ X.pn ++ pins, p.1 ≠ it) : Inv X pins σ H { s with heap := h', toks := t' } := by
  have nit : ∀ b u, H b = some u → b ≠ it := fun b u e z => by rw [z, hn] at e; cases e
  refine I.step (g' := s.gens) (d' := s.drawn) (ch := [it]) (fun b hb => ?_) (fun b o _ _ hc e _ => k b o (fun z => hc (by simp [z])) e) (fun b o _ _ hc e _ => ⟨o.slots, k b o (fun z => hc (by simp [z])) e⟩) (fun _ _ _ _ n => n)
    (fun b o hc e => ⟨o, k b o (fun z => hc (by simp [z])) e⟩) (fun _ _ e => e) (fun _ _ _ e => e) (fun b ps e => ⟨#[], by rw [e]; simp⟩) (fun m hm => ?_) (fun b u e => ?_) I.bare
  · have e : b = it := by simpa using hb
    subst e
    exact ⟨h1, hL, h2, h3⟩
  · obtain ⟨o, es, ep, ho, r⟩ := hm
    exact ⟨o, es, ep, k _ o (Ne.symm hL) ho, r⟩
  · refine (I.hok b u e).stay (fun c v hc q => k c v ?_ q) (fun _ q => q) fun _ _ q => q
    rcases hc with z | z
    · rw [z]; exact nit b u e
    · exact nit c _ z
theorem Inv.tok (I : Inv X pins σ H s) (t : Nat) : Inv X pins σ H { s with toks := t } := I.un (h' := s.heap) (t' := t) Un.refl I.hok
/-- all objects kept -/
theorem Inv.kept {t' : Nat} (I : Inv X pins σ H s) (k : ∀ b u, s.heap.get? b = some u → h'.get? b = some u) : Inv X pins σ H { s with heap := h', toks := t' } := I.un (Un.kept k) (I.hok.kept k)
/-- a new object laid and tracked -/
theorem Inv.laid {a : Addr} {o : HO} {t' : Nat} (I : Inv X pins σ H s) (k : ∀ b u, s.heap.get? b = some u → h'.get? b = some u) (hp : s.heap.objs.size ≤ a) (new : ObjOk X.prog X.w (upd H a o) h' a o) :
    Inv X pins σ (upd H a o) { s with heap := h', toks := t' } := I.un (Un.laid k hp (I.hok.fresh hp)) (I.hok.laid k hp new)
/-- an object written -/
theorem Inv.write {x e : Addr} {o : HO} {t' : Nat} (I : Inv X pins σ H s) (mu : Mut (H x)) (he : e = x ∨ H e = some (.own x)) (k : ∀ b u, b ≠ e → s.heap.get? b = some u → h'.get? b = some u) (heo : ∃ u, h'.get? e = some u)
    (new : ObjOk X.prog X.w (upd H x o) h' x o) : Inv X pins σ (upd H x o) { s with heap := h', toks := t' } := I.un (Un.write mu he k heo) (I.hok.write mu he k heo new)
theorem Inv.pins_of {pins' : List (Addr × Obj)} (I : Inv X pins σ H s) (h : ∀ p ∈ pins', s.heap.get? p.1 = some p.2 ∧ H p.1 = none ∧ p.1 ≠ X.env.locals ∧ p.1 ∉ X.fs ∧ ∀ v, p.2.data ≠ .cell v) : Inv X pins' σ H s :=
  ⟨I.ok, I.os, I.bare, I.base, I.loc, I.cell, I.free, I.freeC, fun p hp => (List.mem_append.mp hp).elim (fun z => I.pin p (List.mem_append_left _ z)) (h p), I.hok, I.len⟩

theorem nodup_ix {N : List Str} (hN : N.Nodup) {i j : Nat} {x : Str} (a : N[i]? = some x) (b : N[j]? = some x) : i = j := by
  obtain ⟨h1, e1⟩ := List.getElem?_eq_some_iff.mp a
  obtain ⟨h2, e2⟩ := List.getElem?_eq_some_iff.mp b
  exact (List.getElem_inj hN).mp (e1.trans e2.symm)

/-- a name is stored; what changed -/
theorem store_ok2 {M : Model} {A : Around} {E : Value → Shared → Prop} {i : Nat} {x : Str} {v : V} {u : Value} {Q : Unit → Shared → Prop} (I : Inv X pins σ H s) (hN : X.N.Nodup) (hi : X.N[i]? = some x) (hx : Loc X.env.scope x) (r : RelV v u)
    (h : ∀ s', Inv X pins (σ.set i (some v)) H s' → (∃ a, Heap.SameBut a s.heap s'.heap ∧ (a = X.env.locals ∨ X.env.cells.lookup x = some a)) → Q () s') (hf : X.fn x = true ∨ X.env.scope.names.lookup x = some .local := by first | exact .inl rfl | exact .inr rfl | assumption) : wpAny M A (storeName X.env x u) Q E s := by
  obtain ⟨m, hn, hl⟩ := id I.loc
  have hcls : (X.env.scope.kind == .class || (X.env.scope.kind == .module && X.env.locals != X.env.globals)) = false := by rw [I.ok.kind]; rfl
  have hiσ : i < σ.length := by rw [I.len]; exact (List.getElem?_eq_some_iff.mp hi).1
  have cne := I.cne
  have tracked : ∀ {a : Addr} {h' : Heap}, (∃ o, s.heap.get? a = some o ∧ H a = none) → Heap.SameBut a s.heap h' → HOk X.prog X.w H h' := fun {a h'} ha hs b ob e => by
    obtain ⟨_, _, hfree⟩ := ha
    refine (I.hok b ob e).stay (fun c w' hc q => (hs.2 c ?_).trans q) (fun _ q => q) fun _ _ q => q
    rintro rfl
    rcases hc with rfl | hc
    · rw [hfree] at e; cases e
    · rw [hfree] at hc; cases hc
  rcases hx with hk | hk
  · refine wpAny_storeName_local hk hn (fun h' hn' hs => ?_) hcls
    obtain ⟨oL, _, _, hoL, _⟩ := id hn
    refine h _ ⟨I.ok, I.os, I.bare, ⟨fun b o e n hb hx => ?_, fun b o e n hb hx => ?_, I.base.free, fun b o e hx => ?_, I.base.tups, I.base.frzs, I.base.tbls⟩, ⟨_, hn', fun j y v' e1 e2 e3 => ?_⟩, fun y c e => ?_, I.free, I.freeC, fun p hp => ?_, tracked ⟨oL, hoL, I.free⟩ hs, by simpa using I.len⟩ ⟨_, hs, .inl rfl⟩
    · exact (hs.2 b (Nat.ne_of_lt (Nat.lt_of_lt_of_le (Heap.lt_size e) I.ok.above))).trans (I.base.keep b o e n hb hx)
    · obtain ⟨sl, e1⟩ := I.base.slot b o e n hb hx
      exact ⟨sl, (hs.2 b (Nat.ne_of_lt (Nat.lt_of_lt_of_le (Heap.lt_size e) I.ok.above))).trans e1⟩
    · obtain ⟨o', e1⟩ := I.base.there b o e hx
      exact ⟨o', (hs.2 b (Nat.ne_of_lt (Nat.lt_of_lt_of_le (Heap.lt_size e) I.ok.above))).trans e1⟩
    · by_cases hj : j = i
      · subst hj
        rw [hi] at e1; cases e1
        rw [List.getElem?_set_self hiσ] at e2
        cases e2
        exact ⟨u, r, .inl ⟨hk, by simp⟩⟩
      · rw [List.getElem?_set_ne (Ne.symm hj)] at e2
        obtain ⟨u', r', q⟩ := hl j y v' e1 e2 e3
        refine ⟨u', r', ?_⟩
        rcases q with ⟨k, e⟩ | ⟨k, c, e, z⟩
        · refine .inl ⟨k, ?_⟩
          have : y ≠ x := fun e => hj (nodup_ix hN e1 (e ▸ hi))
          simp [this, e]
        · exact .inr ⟨k, c, e, z.sameBut hs (cne y c e)⟩
    · obtain ⟨w', z⟩ := I.cell y c e
      exact ⟨w', z.sameBut hs (cne y c e)⟩
    · obtain ⟨e, n, ne, nf, d⟩ := I.pin p hp
      exact ⟨(hs.2 p.1 ne).trans e, n, ne, nf, d⟩
  · have hfn : X.fn x = true := by
      rcases hf with z | z
      · exact z
      · rw [z] at hk; cases hk
    obtain ⟨c, hc⟩ := I.ok.has x (.inl hk)
    obtain ⟨w', z⟩ := I.cell x c hc
    refine wpAny_storeName_cell I.ok.kind hk hc z (fun h' hc' hs => ?_)
    obtain ⟨oc, hoc, hocd⟩ := id z
    refine h { s with heap := h' } ⟨I.ok, I.os, I.bare, ⟨fun b o e n hb hx => ?_, fun b o e n hb hx => ?_, I.base.free, fun b o e hx => ?_, I.base.tups, I.base.frzs, I.base.tbls⟩, ⟨m, hn.sameBut hs (Ne.symm (cne x c hc)), fun j y v' e1 e2 e3 => ?_⟩, fun y c' e => ?_, I.free, I.freeC, fun p hp => ?_, tracked ⟨oc, hoc, I.freeC x c hc⟩ hs, by simpa using I.len⟩ ⟨c, hs, .inr hc⟩
    · exact (hs.2 b (Nat.ne_of_lt (Nat.lt_of_lt_of_le (Heap.lt_size e) (I.ok.cab x c hfn hc)))).trans (I.base.keep b o e n hb hx)
    · obtain ⟨sl, e1⟩ := I.base.slot b o e n hb hx
      exact ⟨sl, (hs.2 b (Nat.ne_of_lt (Nat.lt_of_lt_of_le (Heap.lt_size e) (I.ok.cab x c hfn hc)))).trans e1⟩
    · obtain ⟨o', e1⟩ := I.base.there b o e hx
      exact ⟨o', (hs.2 b (Nat.ne_of_lt (Nat.lt_of_lt_of_le (Heap.lt_size e) (I.ok.cab x c hfn hc)))).trans e1⟩
    · by_cases hj : j = i
      · subst hj
        rw [hi] at e1; cases e1
        rw [List.getElem?_set_self hiσ] at e2
        cases e2
        exact ⟨u, r, .inr ⟨.inl hk, c, hc, hc'⟩⟩
      · rw [List.getElem?_set_ne (Ne.symm hj)] at e2
        obtain ⟨u', r', q⟩ := hl j y v' e1 e2 e3
        refine ⟨u', r', ?_⟩
        rcases q with q | ⟨k, c', e, z'⟩
        · exact .inl q
        · refine .inr ⟨k, c', e, z'.sameBut hs ?_⟩
          rintro rfl
          exact hj (nodup_ix hN e1 (I.ok.inj _ _ _ e hc ▸ hi))
    · by_cases hcc : c' = c
      · subst hcc; exact ⟨_, hc'⟩
      · obtain ⟨w2, z2⟩ := I.cell y c' e
        exact ⟨w2, z2.sameBut hs hcc⟩
    · obtain ⟨e, n, ne, nf, d⟩ := I.pin p hp
      refine ⟨(hs.2 p.1 ?_).trans e, n, ne, nf, d⟩
      intro q
      rw [q, hoc] at e
      have q' : oc = p.2 := Option.some.inj e
      exact d w' (by rw [← q']; exact hocd)
theorem store_ok {M : Model} {A : Around} {E : Value → Shared → Prop} {i : Nat} {x : Str} {v : V} {u : Value} {Q : Unit → Shared → Prop} (I : Inv X pins σ H s) (hN : X.N.Nodup) (hi : X.N[i]? = some x) (hx : Loc X.env.scope x) (r : RelV v u)
    (h : ∀ s', Inv X pins (σ.set i (some v)) H s' → Q () s') (hf : X.fn x = true ∨ X.env.scope.names.lookup x = some .local := by first | exact .inl rfl | exact .inr rfl | assumption) : wpAny M A (storeName X.env x u) Q E s :=
  store_ok2 I hN hi hx r (fun s' I' _ => h s' I') hf
/-- behind a call or a block, the state as it is -/
theorem Inv.call' {s' : Shared} {ch : List Addr} (I : Inv X pins σ H s) (ho : s'.os = s.os) (u : Un (frs X.stack) ch H H' s.heap s'.heap) (hok : HOk X.prog X.w H' s'.heap) (hg : AllBare s'.gens)
    (hch : ∀ b ∈ ch, (b ∈ X.ex ∨ X.s₀.heap.objs.size ≤ b) ∧ b ≠ X.env.locals ∧ (∀ x c, X.env.cells.lookup x = some c → c ≠ b) ∧ ∀ p ∈ X.pn ++ pins, p.1 ≠ b) : Inv X pins σ H' s' := by
  obtain ⟨h', g', d', t', o'⟩ := s'
  have e : o' = s.os := ho
  subst e
  exact I.call (g' := g') (t' := t') (d' := d') u hok hg hch
end

/-! ### the judgements -/
/-- an exception: its class, its own dict's address (where it has one), the abstract heap behind it -/
abbrev XK := Value → Option Addr → Hp → Prop
abbrev St := List (Option V)
abbrev VK := V → Hp → Prop
/-- an expression's reading; a test's; an argument list's -/
abbrev TE := St → Hp → VK → Prop
abbrev TT := St → Hp → (Bool → Hp → Prop) → Prop
abbrev TA := St → Hp → (List V → Hp → Prop) → Prop
/-- what is wanted behind a statement -/
structure Ends where
  nx : St → Hp → Prop
  rt : VK
  bk : St → Hp → Prop := fun _ _ => False
  ct : St → Hp → Prop := fun _ _ => False
abbrev TS := Ends → St → Hp → Prop

def EP (X : Cx) (pins : List (Addr × Obj)) (σ : St) (Q : VK) (u : Value) (s' : Shared) : Prop := ∃ v H', Inv X pins σ H' s' ∧ RelV v u ∧ Q v H'
def TP (X : Cx) (pins : List (Addr × Obj)) (σ : St) (Q : Bool → Hp → Prop) (b : Bool) (s' : Shared) : Prop := ∃ H', Inv X pins σ H' s' ∧ Q b H'
def AP (X : Cx) (pins : List (Addr × Obj)) (σ : St) (Q : List V → Hp → Prop) (us : List Value) (s' : Shared) : Prop := ∃ vs H', Inv X pins σ H' s' ∧ Vals vs us ∧ Q vs H'
def SP (X : Cx) (pins : List (Addr × Obj)) (D : Ends) (f : Flow) (s' : Shared) : Prop :=
  match f with
  | .next => ∃ σ' H', Inv X pins σ' H' s' ∧ D.nx σ' H'
  | .brk => ∃ σ' H', Inv X pins σ' H' s' ∧ D.bk σ' H'
  | .cont => ∃ σ' H', Inv X pins σ' H' s' ∧ D.ct σ' H'
  | .ret u => ∃ v σ' H', Inv X pins σ' H' s' ∧ RelV v u ∧ D.rt v H'

def PE (X : Cx) (e : Expr) (t : TE) : Prop :=
  ∀ (pins : List (Addr × Obj)) (s : Shared) (σ : St) (H : Hp) (Q : VK), Inv X pins σ H s → t σ H Q → wpAny (model X.prog X.w) X.A (eval e X.env) (EP X pins σ Q) X.xe s
def PT (X : Cx) (e : Expr) (t : TT) : Prop :=
  ∀ (pins : List (Addr × Obj)) (s : Shared) (σ : St) (H : Hp) (Q : Bool → Hp → Prop), Inv X pins σ H s → t σ H Q → wpAny (model X.prog X.w) X.A (isTrue e X.env (eval e X.env)) (TP X pins σ Q) X.xe s
/-- a test whatever its 'whole' is (and, or) -/
def PW (X : Cx) (e : Expr) (t : TT) : Prop :=
  ∀ (whole : Sem Value) (pins : List (Addr × Obj)) (s : Shared) (σ : St) (H : Hp) (Q : Bool → Hp → Prop), Inv X pins σ H s → t σ H Q → wpAny (model X.prog X.w) X.A (isTrue e X.env whole) (TP X pins σ Q) X.xe s
theorem PW.pt {X : Cx} {e : Expr} {t : TT} (h : PW X e t) : PT X e t := h _
/-- an argument list (no star), from the left -/
def PA (X : Cx) (es : List Expr) (t : TA) : Prop :=
  ∀ (pos : Pos) (pins : List (Addr × Obj)) (s : Shared) (σ : St) (H : Hp) (Q : List V → Hp → Prop), Inv X pins σ H s → t σ H Q → wpAny (model X.prog X.w) X.A (spliced (backTo pos (starEach es X.env))) (AP X pins σ Q) X.xe s
def PS (X : Cx) (st : Stmt) (t : TS) : Prop :=
  ∀ (pins : List (Addr × Obj)) (s : Shared) (σ : St) (H : Hp) (D : Ends), Inv X pins σ H s → t D σ H → wpAny (model X.prog X.w) X.A (exec st X.env) (SP X pins D) X.xe s
def PSs (X : Cx) (st : List Stmt) (t : TS) : Prop :=
  ∀ (pins : List (Addr × Obj)) (s : Shared) (σ : St) (H : Hp) (D : Ends), Inv X pins σ H s → t D σ H → wpAny (model X.prog X.w) X.A (execs st X.env) (SP X pins D) X.xe s
/-- weaken the end -/
theorem thn {α : Type} {t : Sem α} {Q Q' : α → Shared → Prop} {M : Model} {A : Around} {E : Value → Shared → Prop} {s : Shared} (h : wpAny M A t Q E s) (hQ : ∀ a s, Q a s → Q' a s) : wpAny M A t Q' E s := wpAny_mono h hQ fun _ _ x => x
end L2

namespace L2
open PySem PySem.Spec PyProof.Rows
section
variable {X : Cx}

/-! ### names and constants -/
def tVar (i : Nat) : TE := fun σ H Q => ∃ v, σ[i]? = some (some v) ∧ Q v H
def tC (v : V) : TE := fun _ H Q => Q v H
theorem pe_var {i : Nat} {x : Str} {pos : Pos} (hN : X.N[i]? = some x) (hv : Vis X.env.scope x) (hd : (x == ("__debug__" : Str)) = false := by decide) (hcd : (x == ("__classdict__" : Str)) = false := by decide) : PE X (.Name x pos) (tVar i) := by
  intro pins s σ H Q I h
  obtain ⟨v, e, h⟩ := h
  obtain ⟨m, hn, hl⟩ := I.loc
  obtain ⟨u, r, l⟩ := hl i x v hN e hv
  have fin : EP X pins σ Q u s := ⟨v, H, I, r, h⟩
  rcases l with ⟨hk, hm⟩ | ⟨hk, c, hc, hcell⟩
  · exact wpAny_Name (wpAny_loadName_local I.ok.kind hk hn hm fin) hd
  · rcases hk with hk | hk
    · exact wpAny_Name (wpAny_loadName_cell I.ok.kind hk hc hcell fin) hd
    · exact wpAny_Name (wpAny_loadName_free I.ok.kind hk hc hcell fin hcd) hd
theorem pe_int {i j pos} : PE X (.Constant (.int i) j pos) (tC (.int i)) := fun _ _ _ H _ I h => wpAny_Constant_int ⟨.int i, H, I.tok _, ⟨_, rfl⟩, h⟩
theorem pe_bl {b j pos} : PE X (.Constant (.bool b) j pos) (tC (.bl b)) := fun _ _ _ H _ I h => Constant_bool ⟨.bl b, H, I, rfl, h⟩
theorem pe_non {j pos} : PE X (.Constant .none j pos) (tC .non) := fun _ _ _ H _ I h => Constant_none ⟨.non, H, I, rfl, h⟩
theorem pe_str {x j pos} : PE X (.Constant (.str x) j pos) (tC (.str x)) := fun _ _ _ H _ I h => Calls.Constant_str ⟨.str x, H, I.tok _, ⟨_, rfl⟩, h⟩

/-- a global name of the def -/
def Gl (X : Cx) (x : Str) : Prop := X.env.kindOf x = some .globalImplicit
theorem ld_glob {E : Value → Shared → Prop} {pins : List (Addr × Obj)} {s : Shared} {σ : St} {H : Hp} {x : Str} {u : Value} {pos : Pos} {Q : Value → Shared → Prop} (I : Inv X pins σ H s) (hg : Gl X x) (hm : X.mg x = some u) (h : Q u s)
    (hd : (x == ("__debug__" : Str)) = false := by decide) : wpAny (model X.prog X.w) X.A (eval (.Name x pos) X.env) Q E s :=
  Calls.Name_function_global I.ok.kind hg (Calls.loadGlobal_global (by rw [I.ok.glob]; exact I.mod.glob.keeps I.bk) hm h) hd
theorem ld_blt {E : Value → Shared → Prop} {pins : List (Addr × Obj)} {s : Shared} {σ : St} {H : Hp} {x : Str} {u : Value} {pos : Pos} {Q : Value → Shared → Prop} (I : Inv X pins σ H s) (hg : Gl X x) (hm : X.mg x = none) (hv : bootBuiltins x = some u) (h : Q u s)
    (hn : x ≠ "__name__" := by decide) (hd : (x == ("__debug__" : Str)) = false := by decide) : wpAny (model X.prog X.w) X.A (eval (.Name x pos) X.env) Q E s := by
  obtain ⟨mb, h1, h2⟩ := I.mod.blt
  exact Calls.Name_function_global I.ok.kind hg (Calls.loadGlobal_builtin (by rw [I.ok.glob]; exact I.mod.glob.keeps I.bk) hm (by rw [I.ok.blt]; exact h1.keeps I.bk) ((h2 x hn).trans hv) h) hd
/-- a module's constant, a class, a function, as a value -/
theorem pe_glob {x : Str} {v : V} {u : Value} {pos : Pos} (hg : Gl X x) (hm : X.mg x = some u) (r : RelV v u) (hd : (x == ("__debug__" : Str)) = false := by decide) : PE X (.Name x pos) (tC v) :=
  fun _ _ _ H _ I h => ld_glob I hg hm ⟨v, H, I, r, h⟩ hd
theorem pe_bltn {x : Str} {v : V} {u : Value} {pos : Pos} (hg : Gl X x) (hm : X.mg x = none) (hv : bootBuiltins x = some u) (r : RelV v u) (hn : x ≠ "__name__" := by decide) (hd : (x == ("__debug__" : Str)) = false := by decide) : PE X (.Name x pos) (tC v) :=
  fun _ _ _ H _ I h => ld_blt I hg hm hv ⟨v, H, I, r, h⟩ hn hd

variable {a b : Expr} {ta tb : TE} {pos : Pos}
/-- a comparison as a value, as a test -/
def tB (t : TE) : TT := fun σ H Q => t σ H fun x H1 => ∃ c, x = .bl c ∧ Q c H1
/-- an expression whose value is a bool, as a test -/
theorem pt_val {e : Expr} {t : TE} (h : PE X e t) (he : ∀ whole, isTrue e X.env whole = (do let v ← whole; standAt e.pos; holding [v] (truthy v)) := by intro _; rfl) : PT X e (tB t) := by
  intro pins s σ H Q I hw
  refine isTrue_plain (thn (h pins s σ H _ I hw) fun v s1 ⟨x, H1, I1, r1, q1⟩ => ?_) (he _)
  obtain ⟨d, rfl, q⟩ := q1
  cases r1
  exact wpAny_truthy_bool ⟨H1, I1, q⟩

/-! ### and, or, not -/
variable {tA tB' : TT} {rest : List Expr}
def tAnd (t u : TT) : TT := fun σ H Q => t σ H fun c H1 => if c = true then u σ H1 Q else Q false H1
def tOr (t u : TT) : TT := fun σ H Q => t σ H fun c H1 => if c = true then Q true H1 else u σ H1 Q
def tNot (t : TT) : TT := fun σ H Q => t σ H fun c H1 => Q (!c) H1
theorem pw_and1 (ha : PT X a tA) : PW X (.BoolOp .And [a] pos) tA := by
  intro wh pins s σ H Q I h
  refine isTrue_and (thn (ha pins s σ H Q I h) fun c s1 e => ?_)
  cases c with
  | true => exact isTrue_and_nil e
  | false => exact e
theorem pw_or1 (ha : PT X a tA) : PW X (.BoolOp .Or [a] pos) tA := by
  intro wh pins s σ H Q I h
  refine isTrue_or (thn (ha pins s σ H Q I h) fun c s1 e => ?_)
  cases c with
  | false => exact isTrue_or_nil e
  | true => exact e
theorem pw_and (ha : PT X a tA) (hb : PW X (.BoolOp .And (b :: rest) pos) tB') : PW X (.BoolOp .And (a :: b :: rest) pos) (tAnd tA tB') := by
  intro wh pins s σ H Q I h
  refine isTrue_and (thn (ha pins s σ H _ I h) fun c s1 ⟨H1, I1, q1⟩ => ?_)
  cases c with
  | true => exact hb wh pins s1 σ H1 Q I1 q1
  | false => exact ⟨H1, I1, q1⟩
theorem pw_or (ha : PT X a tA) (hb : PW X (.BoolOp .Or (b :: rest) pos) tB') : PW X (.BoolOp .Or (a :: b :: rest) pos) (tOr tA tB') := by
  intro wh pins s σ H Q I h
  refine isTrue_or (thn (ha pins s σ H _ I h) fun c s1 ⟨H1, I1, q1⟩ => ?_)
  cases c with
  | true => exact ⟨H1, I1, q1⟩
  | false => exact hb wh pins s1 σ H1 Q I1 q1
theorem pt_not (ha : PT X a tA) : PT X (.UnaryOp .Not a pos) (tNot tA) := by
  intro pins s σ H Q I h
  exact isTrue_not (ha pins s σ H (fun c H1 => Q (!c) H1) I h)
end
end L2

namespace L2
open PySem PySem.Spec PyProof.Rows

/-! ### a list, a tuple that is read: tracked, frozen, or an object of the module -/
def SqL (K : PySem.W.Frag) (H : Hp) (a : Addr) (xs : List V) : Prop :=
  Rd H a (.lst xs) ∨
    ∃ (o : Obj) (its : Array Value) (n : Nat), K.lookup a = some o ∧ o.cls = .type "list" ∧ o.dict = none ∧ o.data = .seq its n ∧ its.size ≤ sizeLine ∧ Vals xs its.toList
def SqT (K : PySem.W.Frag) (H : Hp) (a : Addr) (xs : List V) : Prop :=
  Rd H a (.tup xs) ∨
    ∃ (o : Obj) (its : Array Value) (n : Nat), K.lookup a = some o ∧ o.cls = .type "tuple" ∧ o.data = .seq its n ∧ its.size ≤ sizeLine ∧ Vals xs its.toList
def absV : Value → Option V
  | .none => some .non
  | .bool b => some (.bl b)
  | .int i _ => some (.int i)
  | .str x _ => some (.str x)
  | .bytes b _ => some (.byt b)
  | .float b _ => some (.flt b)
  | .ref a => some (.ref a)
  | .type n => some (.ty n)
  | _ => none
theorem RelV.abs {x : V} {u : Value} (r : RelV x u) : absV u = some x := by
  cases x with
  | non => cases r; rfl
  | bl _ => cases r; rfl
  | int _ => obtain ⟨t, rfl⟩ := r; rfl
  | str _ => obtain ⟨t, rfl⟩ := r; rfl
  | byt _ => obtain ⟨t, rfl⟩ := r; rfl
  | flt _ => obtain ⟨t, rfl⟩ := r; rfl
  | ref _ => cases r; rfl
  | ty _ => cases r; rfl
theorem RelV.inj {x y : V} {u : Value} (r : RelV x u) (q : RelV y u) : x = y := Option.some.inj (r.abs.symm.trans q.abs)
theorem Vals.inj : ∀ {xs ys : List V} {us : List Value}, Vals xs us → Vals ys us → xs = ys
  | _, _, _, .nil, .nil => rfl
  | _, _, _, .cons r t, .cons r' t' => by rw [r.inj r', Vals.inj t t']
section
variable {X : Cx} {pins : List (Addr × Obj)} {σ : St} {H : Hp} {s : Shared} {a : Addr} {xs ys : List V}
theorem SqL.of {K : PySem.W.Frag} (h : H a = some (.lst xs)) : SqL K H a xs := .inl (.inl h)
theorem SqT.of {K : PySem.W.Frag} (h : H a = some (.tup xs)) : SqT K H a xs := .inl (.inl h)
theorem Inv.list (I : Inv X pins σ H s) (h : SqL X.K H a xs) : ∃ its : List Value, Vals xs its ∧ PlainL s.heap a its.toArray ∧ xs.length ≤ sizeLine := by
  rcases h with h | ⟨o, its, n, hk, hc, hd, hs, hz, r⟩
  · obtain ⟨z, its, n, r, e⟩ := h.ok I.hok
    exact ⟨its, r, ⟨_, n, e, rfl, rfl, rfl⟩, z⟩
  · refine ⟨its.toList, r, ⟨o, n, I.kIn a o hk, hc, hd, by simpa using hs⟩, ?_⟩
    have e := r.length
    simp only [Array.length_toList] at e
    omega
theorem Inv.tuple (I : Inv X pins σ H s) (h : SqT X.K H a xs) : ∃ its : List Value, Vals xs its ∧ IsTup s.heap a its.toArray ∧ xs.length ≤ sizeLine := by
  rcases h with h | ⟨o, its, n, hk, hc, hs, hz, r⟩
  · obtain ⟨z, its, r, p⟩ := h.ok I.hok
    exact ⟨its, r, p, z⟩
  · refine ⟨its.toList, r, ⟨o, I.kIn a o hk, hc, n, by simpa using hs⟩, ?_⟩
    have e := r.length
    simp only [Array.length_toList] at e
    omega
theorem Inv.list_inj (I : Inv X pins σ H s) (h : SqL X.K H a xs) (h' : SqL X.K H a ys) : xs = ys := by
  obtain ⟨its, r, ⟨o, n, e, _, _, d⟩, _⟩ := I.list h
  obtain ⟨its', r', ⟨o', n', e', _, _, d'⟩, _⟩ := I.list h'
  rw [e] at e'; cases e'
  rw [d] at d'
  injection d' with d1 _
  have : its = its' := by simpa using congrArg Array.toList d1
  subst this
  exact r.inj r'
theorem Inv.tuple_inj (I : Inv X pins σ H s) (h : SqT X.K H a xs) (h' : SqT X.K H a ys) : xs = ys := by
  obtain ⟨its, r, ⟨o, e, _, n, d⟩, _⟩ := I.tuple h
  obtain ⟨its', r', ⟨o', e', _, n', d'⟩, _⟩ := I.tuple h'
  rw [e] at e'; cases e'
  rw [d] at d'
  injection d' with d1 _
  have : its = its' := by simpa using congrArg Array.toList d1
  subst this
  exact r.inj r'
end

/-! ### another wish about exceptions -/
abbrev Cx.wish (X : Cx) (E : Value → Shared → Prop) : Cx := { X with xe := E }
/-- no exception leaves -/
abbrev Cx.nox (X : Cx) : Cx := X.wish fun _ _ => False
theorem Cx.Ok.wish {X : Cx} (ok : X.Ok) (E : Value → Shared → Prop) : (X.wish E).Ok :=
  ⟨ok.mod, ok.kind, ok.glob, ok.blt, ok.above, ok.inj, ok.has, ok.cab, ok.hd, ok.frames, ok.stk, ok.exf, ok.bs, ok.bsz, ok.noex, ok.exfs, ok.funs, ok.frf⟩
theorem Cx.Ok.unwish {X : Cx} {E : Value → Shared → Prop} (ok : (X.wish E).Ok) : X.Ok :=
  ⟨ok.mod, ok.kind, ok.glob, ok.blt, ok.above, ok.inj, ok.has, ok.cab, ok.hd, ok.frames, ok.stk, ok.exf, ok.bs, ok.bsz, ok.noex, ok.exfs, ok.funs, ok.frf⟩
section
variable {X : Cx} {pins : List (Addr × Obj)} {σ : St} {H : Hp} {s : Shared} {E : Value → Shared → Prop}
theorem Inv.wish (I : Inv X pins σ H s) (E : Value → Shared → Prop) : Inv (X.wish E) pins σ H s := ⟨I.ok.wish E, I.os, I.bare, I.base, I.loc, I.cell, I.free, I.freeC, I.pin, I.hok, I.len⟩
theorem Inv.unwish (I : Inv (X.wish E) pins σ H s) : Inv X pins σ H s := ⟨I.ok.unwish, I.os, I.bare, I.base, I.loc, I.cell, I.free, I.freeC, I.pin, I.hok, I.len⟩
theorem SP.unwish {D : Ends} {f : Flow} {s' : Shared} (h : SP (X.wish E) pins D f s') : SP X pins D f s' := by
  cases f with
  | next => obtain ⟨σ', H', I, q⟩ := h; exact ⟨σ', H', I.unwish, q⟩
  | brk => obtain ⟨σ', H', I, q⟩ := h; exact ⟨σ', H', I.unwish, q⟩
  | cont => obtain ⟨σ', H', I, q⟩ := h; exact ⟨σ', H', I.unwish, q⟩
  | ret u => obtain ⟨v, σ', H', I, r, q⟩ := h; exact ⟨v, σ', H', I.unwish, r, q⟩
theorem PE.nox {e : Expr} {t : TE} (h : PE X.nox e t) : PE X e t := fun pins s σ H Q I hw =>
  wpAny_mono (h pins s σ H Q (I.wish _) hw) (fun _ _ ⟨v, H', I', r, q⟩ => ⟨v, H', I'.unwish, r, q⟩) fun _ _ z => False.elim z
theorem PT.nox {e : Expr} {t : TT} (h : PT X.nox e t) : PT X e t := fun pins s σ H Q I hw =>
  wpAny_mono (h pins s σ H Q (I.wish _) hw) (fun _ _ ⟨H', I', q⟩ => ⟨H', I'.unwish, q⟩) fun _ _ z => False.elim z
theorem PSs.nox {st : List Stmt} {t : TS} (h : PSs X.nox st t) : PSs X st t := fun pins s σ H D I hw =>
  wpAny_mono (h pins s σ H D (I.wish _) hw) (fun _ _ q => q.unwish) fun _ _ z => False.elim z
end

/-! ### blocks and small statements -/
section
variable {X : Cx} {st : Stmt} {rest : List Stmt} {t u : TS} {e : Expr} {te : TE} {pos : Pos}
def tNext : TS := fun D σ H => D.nx σ H
def tSeq (t u : TS) : TS := fun D σ H => t { D with nx := u D } σ H
theorem pss_nil : PSs X [] tNext := fun _ _ σ H _ I h => wpAny_execs_nil ⟨σ, H, I, h⟩
theorem pss_cons (h1 : PS X st t) (h2 : PSs X rest u) : PSs X (st :: rest) (tSeq t u) := by
  intro pins s σ H D I h
  refine wpAny_execs_cons (thn (h1 pins s σ H { D with nx := u D } I h) fun f s1 q => ?_)
  cases f with
  | next =>
    obtain ⟨σ', H', I', q⟩ := q
    exact h2 pins s1 σ' H' D I' q
  | ret v => exact q
  | brk => exact q
  | cont => exact q
theorem pss_one (h1 : PS X st t) : PSs X [st] t := by
  intro pins s σ H D I h
  refine wpAny_execs_cons (thn (h1 pins s σ H D I h) fun f s1 q => ?_)
  cases f with
  | next => exact wpAny_execs_nil q
  | ret v => exact q
  | brk => exact q
  | cont => exact q
/-- in a def's body nothing is shown -/
theorem Inv.quiet {pins : List (Addr × Obj)} {σ : St} {H : Hp} {s : Shared} (I : Inv X pins σ H s) : interactive X.env = false := by simp [interactive, I.ok.kind]
/-- an expression whose value is dropped -/
def tDrop (te : TE) : TS := fun D σ H => te σ H fun _ H1 => D.nx σ H1
theorem ps_expr (he : PE X e te) (hs : swapsWith e none pos.line X.env = pure false := by rfl) : PS X (.Expr e pos) (tDrop te) := by
  intro pins s σ H D I h
  exact wpAny_Expr_any (thn (he pins s σ H _ I h) fun v s1 ⟨x, H1, I1, r1, q1⟩ => ⟨σ, H1, I1, q1⟩) I.quiet hs
def tRet (te : TE) : TS := fun D σ H => te σ H D.rt
theorem ps_ret (he : PE X e te) : PS X (.Return (some e) pos) (tRet te) := by
  intro pins s σ H D I h
  exact wpAny_Return_some (thn (he pins s σ H _ I h) fun v s1 ⟨x, H1, I1, r1, q1⟩ => ⟨x, σ, H1, I1, r1, q1⟩)
def tIfS (c : TT) (t u : TS) : TS := fun D σ H => c σ H fun b H1 => if b = true then t D σ H1 else u D σ H1
theorem ps_if {c : Expr} {a b : List Stmt} {tc : TT} (hc : PT X c tc) (ha : PSs X a t) (hb : PSs X b u) : PS X (.If c a b pos) (tIfS tc t u) := by
  intro pins s σ H D I h
  refine wpAny_If (thn (hc pins s σ H _ I h) fun d s1 ⟨H1, I1, q1⟩ => ?_)
  cases d with
  | true => exact ha pins s1 σ H1 D I1 q1
  | false => exact hb pins s1 σ H1 D I1 q1
/-- code that the proof never comes to -/
def tNever : TS := fun _ _ _ => False
theorem pss_never {sts : List Stmt} : PSs X sts tNever := fun _ _ _ _ _ _ h => h.elim
end

/-! ### targets -/
abbrev TG := V → St → Hp → (St → Hp → Prop) → Prop
abbrev TGs := List V → St → Hp → (St → Hp → Prop) → Prop
def PG (X : Cx) (target : Expr) (t : TG) : Prop :=
  ∀ (pins : List (Addr × Obj)) (s : Shared) (σ : St) (H : Hp) (v : V) (u : Value) (Q : St → Hp → Prop), Inv X pins σ H s → RelV v u → t v σ H Q →
    wpAny (model X.prog X.w) X.A (assign target X.env u) (fun _ s' => ∃ σ' H', Inv X pins σ' H' s' ∧ Q σ' H') X.xe s
/-- several targets, one after another -/
def PGs (X : Cx) (ts : List Expr) (t : TGs) : Prop :=
  ∀ (pins : List (Addr × Obj)) (s : Shared) (σ : St) (H : Hp) (vs : List V) (us : List Value) (Q : St → Hp → Prop), Inv X pins σ H s → Vals vs us → t vs σ H Q →
    wpAny (model X.prog X.w) X.A (assignInOrder ((assignEach ts X.env).map (·.2)) us) (fun _ s' => ∃ σ' H', Inv X pins σ' H' s' ∧ Q σ' H') X.xe s
/-- o[i] = v, by values -/
abbrev TSet := V → V → V → Hp → (Hp → Prop) → Prop
def PSet (X : Cx) (t : TSet) : Prop :=
  ∀ (pins : List (Addr × Obj)) (s : Shared) (σ : St) (H : Hp) (o i v : V) (ov iv u : Value) (Q : Hp → Prop), Inv X pins σ H s → RelV o ov → RelV i iv → RelV v u → t o i v H Q →
    wpAny (model X.prog X.w) X.A (setItem ov iv u) (fun _ s' => ∃ H', Inv X pins σ H' s' ∧ Q H') X.xe s
/-- a op= b, by values -/
abbrev TIp := V → V → Hp → VK → Prop
def PIp (X : Cx) (op : Operator) (t : TIp) : Prop :=
  ∀ (pins : List (Addr × Obj)) (s : Shared) (σ : St) (H : Hp) (x y : V) (v u : Value) (Q : VK), Inv X pins σ H s → RelV x v → RelV y u → t x y H Q →
    wpAny (model X.prog X.w) X.A (inplaceOp op v u) (EP X pins σ Q) X.xe s
section
variable {X : Cx} {pos : Pos}
def gName (i : Nat) : TG := fun v σ H Q => Q (σ.set i (some v)) H
theorem pg_name {i : Nat} {x : Str} (hN : X.N.Nodup) (hi : X.N[i]? = some x) (hx : Loc X.env.scope x) (hf : X.fn x = true ∨ X.env.scope.names.lookup x = some .local := by first | exact .inl rfl | exact .inr rfl | assumption) : PG X (.Name x pos) (gName i) := by
  intro pins s σ H v u Q I r h
  exact wpAny_assign_Name (store_ok I hN hi hx r (fun s' I' => ⟨_, H, I', h⟩) hf)
def gNil : TGs := fun vs σ H Q => vs = [] ∧ Q σ H
def gCons (t : TG) (u : TGs) : TGs := fun vs σ H Q => ∃ v r, vs = v :: r ∧ t v σ H fun σ' H' => u r σ' H' Q
theorem pgs_nil : PGs X [] gNil := by
  intro pins s σ H vs us Q I r h
  obtain ⟨e, h⟩ := h
  subst e
  cases r
  exact assignInOrder_nil ⟨σ, H, I, h⟩
theorem pgs_cons {e : Expr} {es : List Expr} {t : TG} {u : TGs} (h1 : PG X e t) (h2 : PGs X es u)
    (hs : (assignEach (e :: es) X.env).map (·.2) = assign e X.env :: (assignEach es X.env).map (·.2) := by rfl) : PGs X (e :: es) (gCons t u) := by
  intro pins s σ H vs us Q I r h
  obtain ⟨v, vr, e1, h⟩ := h
  subst e1
  cases r with
  | cons r rr =>
    rw [hs]
    refine assignInOrder_cons (thn (h1 pins s σ H _ _ _ I r h) fun _ s1 ⟨σ1, H1, I1, q1⟩ => ?_)
    exact h2 pins s1 σ1 H1 _ _ Q I1 rr q1
/-- (a, b, ..) = a tuple of that length -/
def gTup (K : PySem.W.Frag) (n : Nat) (t : TGs) : TG := fun v σ H Q => ∃ a xs, v = .ref a ∧ SqT K H a xs ∧ xs.length = n ∧ t xs σ H Q
theorem pg_tup {es : List Expr} {k : Nat} {t : TGs} {n : Nat} (hc : X.calm = true) (h : PGs X es t)
    (hn : (assignEach es X.env).length = n := by rfl) (hst : (assignEach es X.env).findIdx? (·.1) = none := by rfl) : PG X (.Tuple es k pos) (gTup X.K n t) := by
  intro pins s σ H v u Q I r hw
  obtain ⟨a, xs, e1, hq, hl, hw⟩ := hw
  subst e1
  cases r
  obtain ⟨its, rv, ht, hz⟩ := I.tuple hq
  refine assign_Tuple_tuple (I.ok.hd hc) ht (by simp [hn, ← hl, rv.length]) hst fun h' hx => ?_
  have I1 : Inv X pins σ H { s with heap := h' } := I.kept (t' := s.toks) fun b o e => hx b o (Nat.ne_of_lt (Heap.lt_size e)) e
  exact h pins _ σ H xs _ Q I1 (by simpa using rv) hw
/-- o[i] = .. -/
def gSub (to ti : TE) (t : TSet) : TG := fun v σ H Q => to σ H fun o H1 => ti σ H1 fun i H2 => t o i v H2 fun H3 => Q σ H3
theorem pg_sub {o i : Expr} {to ti : TE} {t : TSet} (ho : PE X o to) (hi : PE X i ti) (hs : PSet X t)
    (ha : ∀ v, assign (.Subscript o i pos) X.env v = (do
      let ov ← holding [v] (eval o X.env)
      let iv ← holding [v, ov] (eval i X.env)
      standAt pos
      holding [v, ov, iv] (setItem ov iv v)
      release [v, ov, iv] []) := by intro _; rfl) : PG X (.Subscript o i pos) (gSub to ti t) := by
  intro pins s σ H v u Q I r h
  rw [ha]
  refine wpAny_bind (wpAny_holding (thn (ho pins s σ H _ I h) fun ov s1 ⟨x, H1, I1, r1, q1⟩ => ?_))
  refine wpAny_bind (wpAny_holding (thn (hi pins s1 σ H1 _ I1 q1) fun iv s2 ⟨y, H2, I2, r2, q2⟩ => ?_))
  refine wpAny_bind (wpAny_standAt (wpAny_bind (wpAny_holding (thn (hs pins s2 σ H2 x y v ov iv u _ I2 r1 r2 r q2) fun _ s3 ⟨H3, I3, q3⟩ => ?_))))
  exact wpAny_release ⟨σ, H3, I3, q3⟩
/-- target = value -/
def tAsg (te : TE) (g : TG) : TS := fun D σ H => te σ H fun x H1 => g x σ H1 D.nx
theorem ps_asg {tg e : Expr} {te : TE} {g : TG} (he : PE X e te) (hg : PG X tg g) (hs : swapsWithSole [tg] e pos.line X.env = pure false := by rfl) (hw : swappedStores [tg] e X.env = pure none := by rfl)
    (h1 : (assignEach [tg] X.env).map (·.2) = [assign tg X.env] := by rfl) : PS X (.Assign [tg] e pos) (tAsg te g) := by
  intro pins s σ H D I h
  refine wpAny_Assign_stores (thn (he pins s σ H _ I h) fun v s1 ⟨x, H1, I1, r1, q1⟩ => ?_) hs hw
  rw [h1]
  exact thn (hg pins s1 σ H1 x v _ I1 r1 q1) fun _ s2 q => q
/-- name = value -/
theorem ps_set {i : Nat} {x : Str} {e : Expr} {te : TE} {pos' : Pos} (hN : X.N.Nodup) (hi : X.N[i]? = some x) (hx : Loc X.env.scope x) (he : PE X e te) (hs : swapsWith e (some (.Name x pos')) pos.line X.env = pure false := by rfl) (hf : X.fn x = true ∨ X.env.scope.names.lookup x = some .local := by first | exact .inl rfl | exact .inr rfl | assumption) :
    PS X (.Assign [.Name x pos'] e pos) (tAsg te (gName i)) := by
  intro pins s σ H D I h
  refine wpAny_Assign_Name (thn (he pins s σ H _ I h) fun v s1 ⟨y, H1, I1, r1, q1⟩ => ?_) hs
  exact store_ok I1 hN hi hx r1 (fun s2 I2 => ⟨_, H1, I2, q1⟩) hf
/-- o[i] op= e -/
def tAugS (to ti te : TE) (tget : V → V → Hp → VK → Prop) (tip : TIp) (tset : TSet) : TS := fun D σ H => to σ H fun o H1 => ti σ H1 fun i H2 => tget o i H2 fun x H3 => te σ H3 fun y H4 => tip x y H4 fun z H5 => tset o i z H5 fun H6 => D.nx σ H6
/-- o[i], by values -/
def PGet (X : Cx) (t : V → V → Hp → VK → Prop) : Prop :=
  ∀ (pins : List (Addr × Obj)) (s : Shared) (σ : St) (H : Hp) (o i : V) (ov iv : Value) (Q : VK), Inv X pins σ H s → RelV o ov → RelV i iv → t o i H Q →
    wpAny (model X.prog X.w) X.A (getItem ov iv) (EP X pins σ Q) X.xe s
theorem ps_augS {o i e : Expr} {to ti te : TE} {tget : V → V → Hp → VK → Prop} {tip : TIp} {tset : TSet} {op : Operator} {tpos : Pos} (ho : PE X o to) (hi : PE X i ti) (hg : PGet X tget) (he : PE X e te) (hp : PIp X op tip) (hs : PSet X tset)
    (ha : ∀ ov iv new, augStore i ov iv new = (do holding [new, ov, iv] (setItem ov iv new); release [new, ov, iv] []; pure .next) := by intros; rfl) : PS X (.AugAssign (.Subscript o i tpos) op e pos) (tAugS to ti te tget tip tset) := by
  intro pins s σ H D I h
  refine wpAny_AugAssign_SubscriptAny (thn (ho pins s σ H _ I h) fun ov s1 ⟨x1, H1, I1, r1, q1⟩ => ?_) ha
  refine thn (hi pins s1 σ H1 _ I1 q1) fun iv s2 ⟨x2, H2, I2, r2, q2⟩ => ?_
  refine thn (hg pins s2 σ H2 x1 x2 ov iv _ I2 r1 r2 q2) fun old s3 ⟨x3, H3, I3, r3, q3⟩ => ?_
  refine thn (he pins s3 σ H3 _ I3 q3) fun v s4 ⟨x4, H4, I4, r4, q4⟩ => ?_
  refine thn (hp pins s4 σ H4 x3 x4 old v _ I4 r3 r4 q4) fun new s5 ⟨x5, H5, I5, r5, q5⟩ => ?_
  exact thn (hs pins s5 σ H5 x1 x2 x5 ov iv new _ I5 r1 r2 r5 q5) fun _ s6 ⟨H6, I6, q6⟩ => ⟨σ, H6, I6, q6⟩
/-- ints -/
def ipI (f : Int → Int → Int) : TIp := fun x y H Q => ∃ i j, x = .int i ∧ y = .int j ∧ Q (.int (f i j)) H
theorem ip_add : PIp X .Add (ipI fun i j => i + j) := by
  intro pins s σ H x y v u Q I r1 r2 h
  obtain ⟨i, j, e1, e2, q⟩ := h
  subst e1; subst e2
  obtain ⟨t, rfl⟩ := r1
  obtain ⟨t', rfl⟩ := r2
  exact iadd_int ⟨.int _, H, I.tok _, ⟨_, rfl⟩, q⟩
end

/-! ### while -/
section
variable {X : Cx} {pos : Pos}
end

/-! ### what a loop or a comprehension walks -/
/-- at turn i: it yields x (the heap may grow), or it stops -/
structure It where
  go : Nat → Hp → Prop
  yld : Nat → Hp → V → Hp → Prop
  stop : Nat → Hp → Prop
/-- the iterator's own objects may turn: they are not the frame's, not pinned, younger than the entry (or a comprehension's own) -/
def FpOk (X : Cx) (pins : List (Addr × Obj)) (H : Hp) (b : Addr) : Prop :=
  H b = none ∧ b ≠ X.env.locals ∧ b ∉ X.fs ∧ (b ∈ X.ex ∨ X.s₀.heap.objs.size ≤ b) ∧ (∀ x c, X.env.cells.lookup x = some c → c ≠ b) ∧ ∀ p ∈ X.pn ++ pins, p.1 ≠ b
theorem Inv.fpOk {X : Cx} {pins : List (Addr × Obj)} {σ : St} {H H' : Hp} {s : Shared} {b : Addr} (I : Inv X pins σ H s) (hb : s.heap.objs.size ≤ b) (hn : H' b = none) : FpOk X pins H' b := by
  refine ⟨hn, Nat.ne_of_gt (Nat.lt_of_lt_of_le I.lt hb), I.nofs hb, .inr (Nat.le_trans I.sz hb), fun x c e z => ?_, fun p hp z => ?_⟩
  · obtain ⟨v, q⟩ := I.cell x c e
    exact absurd (Nat.lt_of_lt_of_le q.lt (by rw [z]; exact hb)) (Nat.lt_irrefl _)
  · exact absurd (Nat.lt_of_lt_of_le (Heap.lt_size (I.pin p hp).1) (by rw [z]; exact hb)) (Nat.lt_irrefl _)
structure Turn (P : Program) (w : World) (K : PySem.W.Frag) (tg : Expr) (J : It) (fp : List Addr) (it : Addr) (tn : Nat → Heap → Prop) : Prop where
  mem : it ∈ fp
  obj : ∀ i h, tn i h → ∀ b ∈ fp, ∃ o, h.get? b = some o ∧ ∀ v, o.data ≠ .cell v
  keep : ∀ i h h', tn i h → (∀ b ∈ fp, ∀ o, h.get? b = some o → h'.get? b = some o) → tn i h'
  item : ∀ (X : Cx), X.prog = P → X.w = w → X.K = K → X.calm = true → ∀ (i : Nat) (pins : List (Addr × Obj)) (s : Shared) (σ : St) (H : Hp) (E : Value → Shared → Prop), Inv X pins σ H s → (∀ b ∈ fp, FpOk X pins H b) → tn i s.heap → J.go i H →
    wpAny (model P w) X.A (pyNext (.ref it)) (fun r s1 => ∃ u, r = some u ∧
      wpAny (model P w) X.A (letOwnedTupleGo tg (.ref it) u) (fun _ s2 => ∃ x H', Inv X pins σ H' s2 ∧ RelV x u ∧ J.yld i H x H' ∧ tn (i + 1) s2.heap ∧ ∀ b ∈ fp, H' b = none) E s1) E s
  done : ∀ (X : Cx), X.prog = P → X.w = w → X.K = K → X.calm = true → ∀ (i : Nat) (pins : List (Addr × Obj)) (s : Shared) (σ : St) (H : Hp) (E : Value → Shared → Prop), Inv X pins σ H s → (∀ b ∈ fp, FpOk X pins H b) → tn i s.heap → J.stop i H →
    wpAny (model P w) X.A (pyNext (.ref it)) (fun r s1 => r = none ∧ Inv X pins σ H s1) E s
  self : ∀ (A : Around) (i : Nat) (s : Shared) (Q : Value → Shared → Prop) (E : Value → Shared → Prop), tn i s.heap → Q (.ref it) s → wpAny (model P w) A (pyIter (.ref it)) Q E s
abbrev TI := St → Hp → (It → Hp → Prop) → Prop
/-- an iterator has come -/
def PIE (X : Cx) (pins : List (Addr × Obj)) (σ : St) (tg : Expr) (R : It → Hp → Prop) (itv : Value) (s2 : Shared) : Prop :=
  ∃ (it : Addr) (fp : List Addr) (tn : Nat → Heap → Prop) (J : It) (H' : Hp), itv = .ref it ∧ Inv X pins σ H' s2 ∧ Turn X.prog X.w X.K tg J fp it tn ∧ tn 0 s2.heap ∧ (∀ b ∈ fp, FpOk X pins H' b) ∧ R J H'
def PI (X : Cx) (tg iter : Expr) (wi : TI) : Prop :=
  ∀ (pins : List (Addr × Obj)) (s : Shared) (σ : St) (H : Hp) (R : It → Hp → Prop), Inv X pins σ H s → wi σ H R →
    wpAny (model X.prog X.w) X.A (eval iter X.env) (fun v s1 => wpAny (model X.prog X.w) X.A (pyIter v) (PIE X pins σ tg R) X.xe s1) X.xe s

/-- the step ahead of the store is nothing for an iterator that keeps no tuple -/
theorem go_of {M : Model} {A : Around} {E : Value → Shared → Prop} {s : Shared} {tg : Expr} {it : Addr} {u : Value} {o : Obj} {n : String} {vs : Array Value} {Q : Unit → Shared → Prop} (ho : s.heap.get? it = some o) (hc : o.cls = .type n) (hd : o.data = .fields vs)
    (hn : ["enumerate", "zip", "dict_itemiterator", "dict_reverseitemiterator", "odict_iterator", "itertools.zip_longest", "itertools.pairwise"].contains n = false) (hQ : Q () s) : wpAny M A (letOwnedTupleGo tg (.ref it) u) Q E s := by
  unfold letOwnedTupleGo
  cases tg <;> first
    | exact wpAny_pure hQ
    | (cases u <;> first
        | exact wpAny_pure hQ
        | (refine wpAny_bind (wpAny_load ho ?_)
           rw [hc, hd]
           show wpAny M A (if (["enumerate", "zip", "dict_itemiterator", "dict_reverseitemiterator", "odict_iterator", "itertools.zip_longest", "itertools.pairwise"].contains n && vs[0]? == some (rawInt _)) = true then _ else _) Q E s
           rw [if_neg (by intro h; rw [hn, Bool.false_and] at h; cases h)]
           exact wpAny_pure hQ))

/-- the list at a, as it stands at each turn (a loop may append to it) -/
def Itl (K : PySem.W.Frag) (a : Addr) : It :=
  ⟨fun i H => ∃ xs x, SqL K H a xs ∧ xs[i]? = some x, fun i H x H' => H' = H ∧ ∀ xs, SqL K H a xs → xs[i]? = some x, fun i H => ∃ xs, SqL K H a xs ∧ xs.length ≤ i⟩
def Itt (K : PySem.W.Frag) (a : Addr) : It :=
  ⟨fun i H => ∃ xs x, SqT K H a xs ∧ xs[i]? = some x, fun i H x H' => H' = H ∧ ∀ xs, SqT K H a xs → xs[i]? = some x, fun i H => ∃ xs, SqT K H a xs ∧ xs.length ≤ i⟩
/-- lo, lo + 1, .. (n of them) -/
def Itr (lo : Int) (n : Nat) : It := ⟨fun i _ => i < n, fun i H x H' => H' = H ∧ x = .int (lo + i), fun i _ => n ≤ i⟩
theorem turn_list {P : Program} {w : World} {K : PySem.W.Frag} {tg : Expr} (a it : Addr) : Turn P w K tg (Itl K a) [it] it (fun i h => h.IsListIter it a i) where
  mem := by simp
  obj := fun i h st b hb => by
    have e : b = it := by simpa using hb
    subst e
    obtain ⟨o, e, c, d⟩ := st
    exact ⟨o, e, fun v z => by rw [d] at z; cases z⟩
  keep := fun i h h' st k => st.at fun o e => k it (by simp) o e
  item := by
    intro X hP hw hK hc i pins s σ H E I hf st hg
    subst hP hw hK
    obtain ⟨xs, x, hq, hx⟩ := hg
    obtain ⟨its, rv, p, hz⟩ := I.list hq
    obtain ⟨u, hu, ru⟩ := rv.get hx
    obtain ⟨f0, f1, f2, f3, f4, f5⟩ := hf it (by simp)
    refine wpAny_pyNext_list_item st p.isList (x := u) (by simpa using hu) fun h' st' sb => ?_
    have I1 : Inv X pins σ H { s with heap := h' } := I.turned (t' := s.toks) (fun b o hb e => (sb.2 b hb).trans e) f0 f1 f3 f4 f5
    obtain ⟨o, e, c, d⟩ := id st'
    exact ⟨u, rfl, go_of (s := { s with heap := h' }) e c d (by decide) ⟨x, H, I1, ru, ⟨rfl, fun ys hy => by rw [I.list_inj hy hq]; exact hx⟩, st', fun b hb => (hf b hb).1⟩⟩
  done := by
    intro X hP hw hK hc i pins s σ H E I hf st hg
    subst hP hw hK
    obtain ⟨xs, hq, hx⟩ := hg
    obtain ⟨its, rv, p, hz⟩ := I.list hq
    obtain ⟨f0, f1, f2, f3, f4, f5⟩ := hf it (by simp)
    have hl := rv.length
    exact wpAny_pyNext_list_end (I.ok.hd hc) st p.isList (by simp; omega) fun h' eb => ⟨rfl, I.turned (t' := s.toks) (fun b o hb e => eb b o hb e) f0 f1 f3 f4 f5⟩
  self := fun _ _ _ _ _ st h => wpAny_pyIter_listiter st h
theorem turn_tuple {P : Program} {w : World} {K : PySem.W.Frag} {tg : Expr} (a it : Addr) : Turn P w K tg (Itt K a) [it] it (fun i h => h.IsTupleIter it a i) where
  mem := by simp
  obj := fun i h st b hb => by
    have e : b = it := by simpa using hb
    subst e
    obtain ⟨o, e, c, d⟩ := st
    exact ⟨o, e, fun v z => by rw [d] at z; cases z⟩
  keep := fun i h h' st k => st.at fun o e => k it (by simp) o e
  item := by
    intro X hP hw hK hc i pins s σ H E I hf st hg
    subst hP hw hK
    obtain ⟨xs, x, hq, hx⟩ := hg
    obtain ⟨its, rv, p, hz⟩ := I.tuple hq
    obtain ⟨u, hu, ru⟩ := rv.get hx
    obtain ⟨f0, f1, f2, f3, f4, f5⟩ := hf it (by simp)
    refine wpAny_pyNext_tuple_item st (show s.heap.IsTuple a its.toArray from p) (x := u) (by simpa using hu) fun h' st' sb => ?_
    have I1 : Inv X pins σ H { s with heap := h' } := I.turned (t' := s.toks) (fun b o hb e => (sb.2 b hb).trans e) f0 f1 f3 f4 f5
    obtain ⟨o, e, c, d⟩ := id st'
    exact ⟨u, rfl, go_of (s := { s with heap := h' }) e c d (by decide) ⟨x, H, I1, ru, ⟨rfl, fun ys hy => by rw [I.tuple_inj hy hq]; exact hx⟩, st', fun b hb => (hf b hb).1⟩⟩
  done := by
    intro X hP hw hK hc i pins s σ H E I hf st hg
    subst hP hw hK
    obtain ⟨xs, hq, hx⟩ := hg
    obtain ⟨its, rv, p, hz⟩ := I.tuple hq
    obtain ⟨f0, f1, f2, f3, f4, f5⟩ := hf it (by simp)
    have hl := rv.length
    exact wpAny_pyNext_tuple_end (I.ok.hd hc) st (show s.heap.IsTuple a its.toArray from p) (by simp; omega) fun h' eb => ⟨rfl, I.turned (t' := s.toks) (fun b o hb e => eb b o hb e) f0 f1 f3 f4 f5⟩
  self := fun _ _ _ _ _ st h => wpAny_pyIter_tupleiter st h
theorem turn_range {P : Program} {w : World} {K : PySem.W.Frag} {tg : Expr} (it : Addr) (lo : Int) (n : Nat) : Turn P w K tg (Itr lo n) [it] it (fun i h => IsRangeIter h it (lo + (i : Nat) * 1) ((n : Int) - (i : Nat)) 1) where
  mem := by simp
  obj := fun i h st b hb => by
    have e : b = it := by simpa using hb
    subst e
    exact ⟨_, st, fun v z => by
      have z' : Data.fields _ = Data.cell v := z
      cases z'⟩
  keep := fun i h h' st k => k it (by simp) _ st
  item := by
    intro X hP hw hK hc i pins s σ H E I hf st hg
    subst hP hw hK
    obtain ⟨f0, f1, f2, f3, f4, f5⟩ := hf it (by simp)
    have W := Walks.range (prog := X.prog) (w := X.w) (I.ok.hd hc) it lo 1 n
    refine W.item i s _ _ hg st fun v h' tk hv st' kk => ?_
    obtain ⟨t, rfl⟩ := hv
    have I1 : Inv X pins σ H { s with heap := h', toks := tk } := I.turned (fun b o hb e => kk b o (by simpa using hb) e) f0 f1 f3 f4 f5
    refine ⟨_, rfl, go_of (s := { s with heap := h', toks := tk }) (n := "range_iterator") st' rfl rfl (by decide) ⟨.int (lo + i), H, I1, ⟨t, ?_⟩, ⟨rfl, rfl⟩, st', fun b hb => (hf b hb).1⟩⟩
    rw [Int.mul_one]
  done := by
    intro X hP hw hK hc i pins s σ H E I hf st hg
    subst hP hw hK
    obtain ⟨f0, f1, f2, f3, f4, f5⟩ := hf it (by simp)
    exact wpAny_pyNext_range_end (I.ok.hd hc) st (by have : n ≤ i := hg; omega) fun h' eb => ⟨rfl, I.turned (t' := s.toks) (fun b o hb e => eb b o hb e) f0 f1 f3 f4 f5⟩
  self := fun _ _ _ _ _ st h => wpAny_pyIter_rangeiter st h
end L2

namespace L2
open PySem PySem.Spec PyProof.Rows
section
variable {X : Cx} {tg : Expr}
def iList (K : PySem.W.Frag) (tl : TE) : TI := fun σ H R => tl σ H fun x H1 => ∃ a, x = .ref a ∧ (∃ xs, SqL K H1 a xs) ∧ R (Itl K a) H1
def iTup (K : PySem.W.Frag) (tl : TE) : TI := fun σ H R => tl σ H fun x H1 => ∃ a, x = .ref a ∧ (∃ xs, SqT K H1 a xs) ∧ R (Itt K a) H1
theorem pi_list {l : Expr} {tl : TE} (hl : PE X l tl) : PI X tg l (iList X.K tl) := by
  intro pins s σ H R I h
  refine thn (hl pins s σ H _ I h) fun v s1 ⟨x, H1, I1, r1, q1⟩ => ?_
  obtain ⟨a, e, ⟨xs, hq⟩, q⟩ := q1
  subst e
  cases r1
  obtain ⟨its, rv, p, hz⟩ := I1.list hq
  refine wpAny_pyIter_list p.isList ?_
  refine ⟨s1.heap.objs.size, [s1.heap.objs.size], _, _, H1, rfl, I1.kept (t' := s1.toks) fun b o e => Heap.get?_push_of_some _ e, turn_list a _, ⟨_, Heap.get?_push_size _ rfl, rfl, rfl⟩, fun b hb => ?_, q⟩
  have e : b = s1.heap.objs.size := by simpa using hb
  subst e
  exact I1.fpOk (Nat.le_refl _) (I1.hok.fresh (Nat.le_refl _))
theorem pi_tup {l : Expr} {tl : TE} (hl : PE X l tl) : PI X tg l (iTup X.K tl) := by
  intro pins s σ H R I h
  refine thn (hl pins s σ H _ I h) fun v s1 ⟨x, H1, I1, r1, q1⟩ => ?_
  obtain ⟨a, e, ⟨xs, hq⟩, q⟩ := q1
  subst e
  cases r1
  obtain ⟨its, rv, p, hz⟩ := I1.tuple hq
  refine wpAny_pyIter_tuple (show s1.heap.IsTuple a its.toArray from p) ?_
  refine ⟨s1.heap.objs.size, [s1.heap.objs.size], _, _, H1, rfl, I1.kept (t' := s1.toks) fun b o e => Heap.get?_push_of_some _ e, turn_tuple a _, ⟨_, Heap.get?_push_size _ rfl, rfl, rfl⟩, fun b hb => ?_, q⟩
  have e : b = s1.heap.objs.size := by simpa using hb
  subst e
  exact I1.fpOk (Nat.le_refl _) (I1.hok.fresh (Nat.le_refl _))
/-- a range object just made, walked -/
theorem range_it {pins : List (Addr × Obj)} {σ : St} {H : Hp} {s : Shared} {R : It → Hp → Prop} {E : Value → Shared → Prop} {lo hi : Int} {t u v : Tok} {tk : Nat} (I : Inv X pins σ H s) (h1 : -(2 ^ 62) ≤ lo) (h2 : lo < 2 ^ 62) (h3 : -(2 ^ 62) ≤ hi) (h4 : hi < 2 ^ 62)
    (q : R (Itr lo (hi - lo).toNat) H) : wpAny (model X.prog X.w) X.A (pyIter (.ref s.heap.objs.size)) (PIE X pins σ tg R) E { s with heap := s.heap.push { cls := .type "range", data := .fields #[.int lo t, .int hi u, .int 1 v] }, toks := tk } := by
  refine wpAny_pyIter_range (IsRange.new ..) (small_one h1 h2 h3 h4) ?_
  have I1 : Inv X pins σ H { s with heap := s.heap.push { cls := .type "range", data := .fields #[.int lo t, .int hi u, .int 1 v] }, toks := tk } := I.kept fun b o e => Heap.get?_push_of_some _ e
  refine ⟨(s.heap.push { cls := .type "range", data := .fields #[.int lo t, .int hi u, .int 1 v] }).objs.size, [(s.heap.push { cls := .type "range", data := .fields #[.int lo t, .int hi u, .int 1 v] }).objs.size], _, _, H, rfl,
    I1.kept (t' := tk) fun b o e => Heap.get?_push_of_some _ e, turn_range _ lo (hi - lo).toNat, ?_, fun b hb => ?_, q⟩
  · have e1 : lo + ((0 : Nat) : Int) * 1 = lo := by simp
    have e2 : (((hi - lo).toNat : Nat) : Int) - ((0 : Nat) : Int) = Builtin.Range.rangeSize lo hi 1 := by rw [rangeSize_one]; split <;> omega
    show IsRangeIter _ _ (lo + ((0 : Nat) : Int) * 1) ((((hi - lo).toNat : Nat) : Int) - ((0 : Nat) : Int)) 1
    rw [e1, e2]
    exact Heap.get?_push_size _ rfl
  · have e : b = (s.heap.push { cls := .type "range", data := .fields #[.int lo t, .int hi u, .int 1 v] }).objs.size := by simpa using hb
    subst e
    exact I1.fpOk (Nat.le_refl _) (I1.hok.fresh (Nat.le_refl _))
def iRng1 (ta : TA) : TI := fun σ H R => ta σ H fun vs H1 => ∃ j : Int, vs = [.int j] ∧ -(2 ^ 62) ≤ j ∧ j < 2 ^ 62 ∧ R (Itr 0 j.toNat) H1
def iRng2 (ta : TA) : TI := fun σ H R => ta σ H fun vs H1 => ∃ i j : Int, vs = [.int i, .int j] ∧ (-(2 ^ 62) ≤ i ∧ i < 2 ^ 62 ∧ -(2 ^ 62) ≤ j ∧ j < 2 ^ 62) ∧ R (Itr i (j - i).toNat) H1
theorem pi_range1 {a : Expr} {ta : TA} {p pos : Pos} (hg : Gl X "range") (hm : X.mg "range" = none) (ha : PA X [a] ta) (hs : starEach [a] X.env = [(false, eval a X.env)] := by rfl) : PI X tg (.Call (.Name "range" p) [a] [] pos) (iRng1 ta) := by
  intro pins s σ H R I h
  refine Call_ (ld_blt I hg hm boot_range (PyProof.Rows.callWith_type1 (thn (ha pos pins s σ H _ I h) fun us s1 ⟨vs, H1, I1, r1, q1⟩ => ?_) hs rfl))
  obtain ⟨j, e, q1, q2, q⟩ := q1
  subst e
  cases r1 with
  | cons r rr =>
    cases rr
    obtain ⟨t, rfl⟩ := r
    exact call_range_1 (range_it I1 (by omega) (by omega) q1 q2 (by simpa using q))
theorem pi_range2 {a b : Expr} {ta : TA} {p pos : Pos} (hg : Gl X "range") (hm : X.mg "range" = none) (ha : PA X [a, b] ta) (hs : starEach [a, b] X.env = [(false, eval a X.env), (false, eval b X.env)] := by rfl) (hs2 : starEach [b] X.env = [(false, eval b X.env)] := by rfl) :
    PI X tg (.Call (.Name "range" p) [a, b] [] pos) (iRng2 ta) := by
  intro pins s σ H R I h
  refine Call_ (ld_blt I hg hm boot_range (PyProof.Rows.callWith_type1 (thn (ha pos pins s σ H _ I h) fun us s1 ⟨vs, H1, I1, r1, q1⟩ => ?_) (by rw [hs, hs2]) (by rw [hs2]; rfl)))
  obtain ⟨i, j, e, ⟨q1, q2, q3, q4⟩, q⟩ := q1
  subst e
  cases r1 with
  | cons r rr =>
    cases rr with
    | cons r' rr =>
      cases rr
      obtain ⟨t, rfl⟩ := r
      obtain ⟨t', rfl⟩ := r'
      exact call_range_2 (range_it I1 q1 q2 q3 q4 q)

/-! ### for -/
/-- W: the invariant by the turn and a measure; N: what the body is to reach -/
def tFor (wi : TI) (g : TG) (tb : TS) : TS := fun D σ H => wi σ H fun J H1 => ∃ W : Nat → Nat → St → Hp → Prop, (∃ m, W 0 m σ H1) ∧ ∀ i m σ H, W i m σ H →
  (J.stop i H ∧ D.nx σ H) ∨ (J.go i H ∧ ∃ N : St → Hp → Prop, (∀ σ' H', N σ' H' → ∃ m', m' < m ∧ W (i + 1) m' σ' H') ∧ ∀ x H', J.yld i H x H' → g x σ H' fun σ2 H2 => tb { D with nx := N, ct := N, bk := D.nx } σ2 H2)
/-- the records at fp as they stand -/
def pinsAt (fp : List Addr) (h : Heap) : List (Addr × Obj) := fp.filterMap fun b => (h.get? b).map fun o => (b, o)
theorem mem_pinsAt {fp : List Addr} {h : Heap} {b : Addr} {o : Obj} (hb : b ∈ fp) (e : h.get? b = some o) : (b, o) ∈ pinsAt fp h := List.mem_filterMap.mpr ⟨b, hb, by rw [e]; rfl⟩
theorem of_pinsAt {fp : List Addr} {h : Heap} {p : Addr × Obj} (hp : p ∈ pinsAt fp h) : p.1 ∈ fp ∧ h.get? p.1 = some p.2 := by
  obtain ⟨b, hb, e⟩ := List.mem_filterMap.mp hp
  cases q : h.get? b with
  | none => rw [q] at e; cases e
  | some o =>
    rw [q] at e
    have e' : (b, o) = p := Option.some.inj e
    subst e'
    exact ⟨hb, q⟩
theorem Inv.pinned {pins : List (Addr × Obj)} {σ : St} {H : Hp} {s : Shared} {fp : List Addr} (I : Inv X pins σ H s) (hf : ∀ b ∈ fp, FpOk X pins H b) (ho : ∀ b ∈ fp, ∃ o, s.heap.get? b = some o ∧ ∀ v, o.data ≠ .cell v) : Inv X (pins ++ pinsAt fp s.heap) σ H s :=
  I.pins_of fun p hp => (List.mem_append.mp hp).elim (fun z => I.pin p (List.mem_append_right _ z)) fun z => by
    obtain ⟨hb, e⟩ := of_pinsAt z
    obtain ⟨f0, f1, f2, _⟩ := hf p.1 hb
    obtain ⟨o, e', d⟩ := ho p.1 hb
    rw [e] at e'; cases e'
    exact ⟨e, f0, f1, f2, d⟩
theorem Inv.unpinned {pins pl : List (Addr × Obj)} {σ : St} {H : Hp} {s : Shared} (I : Inv X (pins ++ pl) σ H s) : Inv X pins σ H s := I.pins_of fun p hp => I.pin p (List.mem_append_right _ (List.mem_append_left _ hp))
theorem ps_for {iter : Expr} {body : List Stmt} {wi : TI} {g : TG} {tb : TS} {pos : Pos} (hp : PassesOwn (model X.prog X.w) X.A X.env X.xe) (hc : X.calm = true) (hi : PI X tg iter wi) (hg : PG X tg g) (hb : PSs X body tb)
    (hs : ∀ x, foldedSetIterable iter X.env x = pure x := by intro _; rfl) : PS X (.For tg iter body [] pos) (tFor wi g tb) := by
  intro pins s σ H D I h
  refine wpAny_For (thn (hi pins s σ H _ I h) fun v s1 h1 => thn h1 fun itv s2 h2 => ?_) hs
  obtain ⟨it, fp, tn, J, H2, e, I2, T, st2, f2, W, ⟨m0, w0⟩, turn⟩ := h2
  subst e
  -- what stays true of the iterator's objects through the loop
  have stat : ∀ {H' : Hp}, (∀ b ∈ fp, H' b = none) → ∀ b ∈ fp, FpOk X pins H' b := fun hn b hb => ⟨hn b hb, (f2 b hb).2⟩
  refine codeAny_forLoop_any (fun n s' => ∃ i σ' H', Inv X pins σ' H' s' ∧ tn i s'.heap ∧ (∀ b ∈ fp, H' b = none) ∧ W i n σ' H') ?_ m0 ⟨0, σ, H2, I2, st2, fun b hb => (f2 b hb).1, w0⟩
  rintro n s3 ⟨i, σ3, H3, I3, st3, fr3, w3⟩
  rcases turn i n σ3 H3 w3 with ⟨stop, qn⟩ | ⟨go, N, hN, step⟩
  · refine wpAny_passesOwn hp (thn (T.done X rfl rfl rfl hc i pins s3 σ3 H3 X.xe I3 (stat fr3) st3 stop) fun r s4 ⟨hr, I4⟩ => ?_)
    subst hr
    exact wpAny_execs_nil ⟨σ3, H3, I4, qn⟩
  · refine wpAny_passesOwn hp (thn (T.item X rfl rfl rfl hc i pins s3 σ3 H3 X.xe I3 (stat fr3) st3 go) fun r s4 ⟨u, hr, h4⟩ => ?_)
    subst hr
    refine wpAny_passesOwn hp (thn h4 fun _ s5 ⟨x, H5, I5, r5, y5, st5, fr5⟩ => ?_)
    have I5' := I5.pinned (stat fr5) (T.obj _ _ st5)
    refine wpAny_passesOwn hp (thn (hg _ s5 σ3 H5 x u _ I5' r5 (step x H5 y5)) fun _ s6 ⟨σ6, H6, I6, q6⟩ => ?_)
    refine wpAny_passesOwn hp (thn (hb _ s6 σ6 H6 _ I6 q6) fun f s7 q7 => ?_)
    have again : ∀ {σ7 : St} {H7 : Hp}, Inv X (pins ++ pinsAt fp s5.heap) σ7 H7 s7 → N σ7 H7 → ∃ m, m < n ∧ ∃ i σ' H', Inv X pins σ' H' s7 ∧ tn i s7.heap ∧ (∀ b ∈ fp, H' b = none) ∧ W i m σ' H' := fun {σ7 H7} I7 n7 => by
      obtain ⟨m', hm, w7⟩ := hN σ7 H7 n7
      refine ⟨m', hm, i + 1, σ7, H7, I7.unpinned, T.keep _ _ _ st5 fun b hb o e => (I7.pin (b, o) (List.mem_append_right _ (List.mem_append_right _ (mem_pinsAt hb e)))).1, fun b hb => ?_, w7⟩
      obtain ⟨o, e, d⟩ := T.obj _ _ st5 b hb
      exact (I7.pin (b, o) (List.mem_append_right _ (List.mem_append_right _ (mem_pinsAt hb e)))).2.1
    cases f with
    | next => obtain ⟨σ7, H7, I7, n7⟩ := q7; exact again I7 n7
    | cont => obtain ⟨σ7, H7, I7, n7⟩ := q7; exact again I7 n7
    | brk => obtain ⟨σ7, H7, I7, q7⟩ := q7; exact ⟨σ7, H7, I7.unpinned, q7⟩
    | ret v => obtain ⟨x7, σ7, H7, I7, r7, q7⟩ := q7; exact ⟨x7, σ7, H7, I7.unpinned, r7, q7⟩
end

/-! ### the forms one uses -/
/-- over a list that the body leaves as it is -/
theorem for_list {K : PySem.W.Frag} {a : Addr} {xs : List V} {g : TG} {tb : TS} {D : Ends} {σ : St} {H : Hp} (Pv : Nat → St → Hp → Prop) (h0 : Pv 0 σ H) (hl : ∀ i σ H, i ≤ xs.length → Pv i σ H → SqL K H a xs)
    (hs : ∀ i x σ H, xs[i]? = some x → Pv i σ H → g x σ H fun σ2 H2 => tb { D with nx := Pv (i + 1), ct := Pv (i + 1), bk := D.nx } σ2 H2) (hd : ∀ σ H, Pv xs.length σ H → D.nx σ H) :
    ∃ W : Nat → Nat → St → Hp → Prop, (∃ m, W 0 m σ H) ∧ ∀ i m σ H, W i m σ H →
      ((Itl K a).stop i H ∧ D.nx σ H) ∨ ((Itl K a).go i H ∧ ∃ N : St → Hp → Prop, (∀ σ' H', N σ' H' → ∃ m', m' < m ∧ W (i + 1) m' σ' H') ∧ ∀ x H', (Itl K a).yld i H x H' → g x σ H' fun σ2 H2 => tb { D with nx := N, ct := N, bk := D.nx } σ2 H2) := by
  refine ⟨fun i m σ H => m = xs.length - i ∧ i ≤ xs.length ∧ Pv i σ H, ⟨xs.length, by simp, Nat.zero_le _, h0⟩, ?_⟩
  rintro i m σ H ⟨rfl, hi, p⟩
  have q := hl i σ H hi p
  by_cases hlt : i < xs.length
  · refine .inr ⟨⟨xs, xs[i], q, by simp [hlt]⟩, Pv (i + 1), fun σ' H' p' => ⟨xs.length - (i + 1), by omega, rfl, hlt, p'⟩, fun x H' y => ?_⟩
    obtain ⟨e, y⟩ := y
    subst e
    exact hs i x σ _ (y xs q) p
  · have e : i = xs.length := by omega
    subst e
    exact .inl ⟨⟨xs, q, Nat.le_refl _⟩, hd σ H p⟩
theorem for_range {lo : Int} {n : Nat} {g : TG} {tb : TS} {D : Ends} {σ : St} {H : Hp} (Pv : Nat → St → Hp → Prop) (h0 : Pv 0 σ H)
    (hs : ∀ i σ H, i < n → Pv i σ H → g (.int (lo + i)) σ H fun σ2 H2 => tb { D with nx := Pv (i + 1), ct := Pv (i + 1), bk := D.nx } σ2 H2) (hd : ∀ σ H, Pv n σ H → D.nx σ H) :
    ∃ W : Nat → Nat → St → Hp → Prop, (∃ m, W 0 m σ H) ∧ ∀ i m σ H, W i m σ H →
      ((Itr lo n).stop i H ∧ D.nx σ H) ∨ ((Itr lo n).go i H ∧ ∃ N : St → Hp → Prop, (∀ σ' H', N σ' H' → ∃ m', m' < m ∧ W (i + 1) m' σ' H') ∧ ∀ x H', (Itr lo n).yld i H x H' → g x σ H' fun σ2 H2 => tb { D with nx := N, ct := N, bk := D.nx } σ2 H2) := by
  refine ⟨fun i m σ H => m = n - i ∧ i ≤ n ∧ Pv i σ H, ⟨n, by simp, Nat.zero_le _, h0⟩, ?_⟩
  rintro i m σ H ⟨rfl, hi, p⟩
  by_cases hlt : i < n
  · refine .inr ⟨hlt, Pv (i + 1), fun σ' H' p' => ⟨n - (i + 1), by omega, rfl, hlt, p'⟩, fun x H' y => ?_⟩
    obtain ⟨e, y⟩ := y
    subst e y
    exact hs i σ _ hlt p
  · have e : i = n := by omega
    subst e
    exact .inl ⟨Nat.le_refl _, hd σ H p⟩
end L2

namespace L2
open PySem PySem.Spec PyProof.Rows

abbrev R2 := V → V → Hp → VK → Prop
/-- a two-place operation on values: f is binaryOp op, inplaceOp op or compareOp op -/
def OpR (X : Cx) (f : Value → Value → Sem Value) (r : R2) : Prop :=
  ∀ (pins : List (Addr × Obj)) (s : Shared) (σ : St) (H : Hp) (x y : V) (v u : Value) (Q : VK), Inv X pins σ H s → RelV x v → RelV y u → r x y H Q →
    wpAny (model X.prog X.w) X.A (f v u) (EP X pins σ Q) X.xe s
/-- a one-place operation -/
def UnR (X : Cx) (f : Value → Sem Value) (r : V → Hp → VK → Prop) : Prop :=
  ∀ (pins : List (Addr × Obj)) (s : Shared) (σ : St) (H : Hp) (x : V) (v : Value) (Q : VK), Inv X pins σ H s → RelV x v → r x H Q →
    wpAny (model X.prog X.w) X.A (f v) (EP X pins σ Q) X.xe s
/-- a call of a value that is known (a builtin, a type) with values -/
def CallR (X : Cx) (f : Value) (r : List V → Hp → VK → Prop) : Prop :=
  ∀ (pins : List (Addr × Obj)) (s : Shared) (σ : St) (H : Hp) (xs : List V) (us : List Value) (Q : VK), Inv X pins σ H s → Vals xs us → r xs H Q →
    wpAny (model X.prog X.w) X.A (call f us) (EP X pins σ Q) X.xe s
/-- a value's truth -/
def TruR (X : Cx) (r : V → Hp → (Bool → Hp → Prop) → Prop) : Prop :=
  ∀ (pins : List (Addr × Obj)) (s : Shared) (σ : St) (H : Hp) (x : V) (v : Value) (Q : Bool → Hp → Prop), Inv X pins σ H s → RelV x v → r x H Q →
    wpAny (model X.prog X.w) X.A (truthy v) (TP X pins σ Q) X.xe s

def tOp (r : R2) (ta tb : TE) : TE := fun σ H Q => ta σ H fun x H1 => tb σ H1 fun y H2 => r x y H2 Q
def tUn (r : V → Hp → VK → Prop) (ta : TE) : TE := fun σ H Q => ta σ H fun x H1 => r x H1 Q
/-- ints in, under C, and a value out -/
def rI (C : Int → Int → Prop) (g : Int → Int → V) : R2 := fun x y H Q => ∃ i j, x = .int i ∧ y = .int j ∧ C i j ∧ Q (g i j) H
def rI0 (g : Int → Int → V) : R2 := fun x y H Q => ∃ i j, x = .int i ∧ y = .int j ∧ Q (g i j) H
def rU (g : Int → V) : V → Hp → VK → Prop := fun x H Q => ∃ i, x = .int i ∧ Q (g i) H

section
variable {X : Cx} {a b c : Expr} {ta tb tc : TE} {pos : Pos}

theorem binT (ha : PE X a ta) (hb : PE X b tb) {pins : List (Addr × Obj)} {s : Shared} {σ : St} {H : Hp} {R : V → V → Hp → Prop} (I : Inv X pins σ H s)
    (h : ta σ H fun x H1 => tb σ H1 fun y H2 => R x y H2) {Q : Value → Shared → Prop} {f : Value → Value → Sem Value}
    (hf : ∀ v u s2 x y H2, Inv X pins σ H2 s2 → RelV x v → RelV y u → R x y H2 → wpAny (model X.prog X.w) X.A (f v u) Q X.xe s2) :
    wpAny (model X.prog X.w) X.A (eval a X.env) (fun v s₁ => wpAny (model X.prog X.w) X.A (eval b X.env) (fun u s₂ => wpAny (model X.prog X.w) X.A (f v u) Q X.xe s₂) X.xe s₁) X.xe s := by
  refine thn (ha pins s σ H _ I h) fun v s1 ⟨x, H1, I1, r1, q1⟩ => ?_
  refine thn (hb pins s1 σ H1 _ I1 q1) fun u s2 ⟨y, H2, I2, r2, q2⟩ => ?_
  exact hf v u s2 x y H2 I2 r1 r2 q2

theorem pe_op {op : Operator} {r : R2} (ho : OpR X (binaryOp op) r) (ha : PE X a ta) (hb : PE X b tb) : PE X (.BinOp a op b pos) (tOp r ta tb) := by
  intro pins s σ H Q I h
  exact wpAny_BinOp (binT ha hb I h fun v u s2 x y H2 I2 rx ry q => ho pins s2 σ H2 x y v u Q I2 rx ry q)
theorem pe_un {op : UnaryOp} {r : V → Hp → VK → Prop} (ho : UnR X (unaryOp op) r) (ha : PE X a ta) : PE X (.UnaryOp op a pos) (tUn r ta) := by
  intro pins s σ H Q I h
  exact UnaryOp_ (thn (ha pins s σ H _ I h) fun v s1 ⟨x, H1, I1, r1, q1⟩ => ho pins s1 σ H1 x v Q I1 r1 q1)
/-! ### ints -/
theorem opI {f : Value → Value → Sem Value} {C : Int → Int → Prop} {g : Int → Int → Int}
    (rule : ∀ (i j : Int) (t u : Tok) (s : Shared) (Q : Value → Shared → Prop) (E : Value → Shared → Prop), C i j → Q (.int (g i j) s.toks) { s with toks := s.toks + 1 } → wpAny (model X.prog X.w) X.A (f (.int i t) (.int j u)) Q E s) :
    OpR X f (rI C fun i j => .int (g i j)) := by
  intro pins s σ H x y v u Q I rx ry h
  obtain ⟨i, j, rfl, rfl, hc, q⟩ := h
  obtain ⟨t, rfl⟩ := rx
  obtain ⟨t', rfl⟩ := ry
  exact rule i j t t' s _ _ hc ⟨.int (g i j), H, I.tok _, ⟨_, rfl⟩, q⟩
theorem opI0 {f : Value → Value → Sem Value} {g : Int → Int → Int}
    (rule : ∀ (i j : Int) (t u : Tok) (s : Shared) (Q : Value → Shared → Prop) (E : Value → Shared → Prop), Q (.int (g i j) s.toks) { s with toks := s.toks + 1 } → wpAny (model X.prog X.w) X.A (f (.int i t) (.int j u)) Q E s) :
    OpR X f (rI0 fun i j => .int (g i j)) := by
  intro pins s σ H x y v u Q I rx ry h
  obtain ⟨i, j, rfl, rfl, q⟩ := h
  obtain ⟨t, rfl⟩ := rx
  obtain ⟨t', rfl⟩ := ry
  exact rule i j t t' s _ _ ⟨.int (g i j), H, I.tok _, ⟨_, rfl⟩, q⟩
theorem opB0 {f : Value → Value → Sem Value} {g : Int → Int → Bool}
    (rule : ∀ (i j : Int) (t u : Tok) (s : Shared) (Q : Value → Shared → Prop) (E : Value → Shared → Prop), Q (.bool (g i j)) s → wpAny (model X.prog X.w) X.A (f (.int i t) (.int j u)) Q E s) :
    OpR X f (rI0 fun i j => .bl (g i j)) := by
  intro pins s σ H x y v u Q I rx ry h
  obtain ⟨i, j, rfl, rfl, q⟩ := h
  obtain ⟨t, rfl⟩ := rx
  obtain ⟨t', rfl⟩ := ry
  exact rule i j t t' s _ _ ⟨.bl (g i j), H, I, rfl, q⟩

def CDiv (i j : Int) : Prop := 0 < j ∧ j < 1073741824
def CPow (i j : Int) : Prop := 0 ≤ j ∧ j ≤ 1000000 ∧ i.natAbs < 2 ^ 64
def CMul (i j : Int) : Prop := (-(2 ^ 64) < i ∧ i < 2 ^ 64) ∨ (-(2 ^ 64) < j ∧ j < 2 ^ 64)
theorem CMul.ok {i j : Int} (h : CMul i j) : IntMulOk i j := by
  rcases h with ⟨h1, h2⟩ | ⟨h1, h2⟩
  · exact .of_left (intBits_le_64 h1 h2)
  · exact .of_right (intBits_le_64 h1 h2)
theorem two_pow_nn (k : Nat) : (0 : Int) ≤ 2 ^ k := by
  rw [two_pow_cast]
  exact Int.natCast_nonneg _

theorem op_add : OpR X (binaryOp .Add) (rI0 fun i j => .int (i + j)) := opI0 fun _ _ _ _ _ _ _ q => add_int q
theorem op_sub : OpR X (binaryOp .Sub) (rI0 fun i j => .int (i - j)) := opI0 fun _ _ _ _ _ _ _ q => sub_int q
theorem op_mul : OpR X (binaryOp .Mult) (rI CMul fun i j => .int (i * j)) := opI fun _ _ _ _ _ _ _ hc q => mul_int q hc.ok
/-- // by a positive divisor -/
theorem op_fdiv : OpR X (binaryOp .FloorDiv) (rI CDiv fun i j => .int (i / j)) := opI fun i j _ _ _ _ _ hc q => by
  have h1 : (0 : Int) < j := hc.1
  have h2 : j < 1073741824 := hc.2
  exact floordiv_int (by omega) (by rw [Int.fdiv_eq_ediv_of_nonneg i (by omega)]; exact q) (.inl (PyProof.noPylong_small (by omega)))
/-- % by a positive divisor of any size -/
theorem op_mod : OpR X (binaryOp .Mod) (rI (fun _ j => 0 < j) fun i j => .int (i % j)) := opI fun i j _ _ _ _ _ hc q => by
  have h1 : (0 : Int) < j := hc
  exact mod_int' (by omega) (by rw [Int.fmod_eq_emod_of_nonneg i (by omega)]; exact q)
theorem op_pow : OpR X (binaryOp .Pow) (rI CPow fun i j => .int (i ^ j.toNat)) := opI fun _ _ _ _ _ _ _ hc q => pow_int_small hc.1 hc.2.1 hc.2.2 q
theorem op_shr : OpR X (binaryOp .RShift) (rI (fun _ j => 0 ≤ j) fun i j => .int (i / 2 ^ j.toNat)) := opI fun i j _ _ _ _ _ hc q =>
  rshift_int hc (by rw [Int.fdiv_eq_ediv_of_nonneg i (two_pow_nn _)]; exact q)
theorem op_and : OpR X (binaryOp .BitAnd) (rI0 fun i j => .int (Builtin.bitAnd i j)) := opI0 fun _ _ _ _ _ _ _ q => and_int q
theorem unI {f : Value → Sem Value} {g : Int → Int}
    (rule : ∀ (i : Int) (t : Tok) (s : Shared) (Q : Value → Shared → Prop) (E : Value → Shared → Prop), Q (.int (g i) s.toks) { s with toks := s.toks + 1 } → wpAny (model X.prog X.w) X.A (f (.int i t)) Q E s) :
    UnR X f (rU fun i => .int (g i)) := by
  intro pins s σ H x v Q I rx h
  obtain ⟨i, rfl, q⟩ := h
  obtain ⟨t, rfl⟩ := rx
  exact rule i t s _ _ ⟨.int (g i), H, I.tok _, ⟨_, rfl⟩, q⟩
theorem un_neg : UnR X (unaryOp .USub) (rU fun i => .int (-i)) := unI fun _ _ _ _ _ q => neg_int q
end

/-! ### comparisons -/
/-- the scalars that == tells apart as data does -/
def scal : V → V → Bool
  | .non, .non => true | .non, .int _ => true | .int _, .non => true | .non, .bl _ => true | .bl _, .non => true | .non, .str _ => true | .str _, .non => true
  | .int _, .int _ => true | .bl _, .bl _ => true | .str _, .str _ => true | .byt _, .byt _ => true
  | .int _, .str _ => true | .str _, .int _ => true | .bl _, .str _ => true | .str _, .bl _ => true
  | _, _ => false
def rEq : R2 := fun x y H Q => scal x y = true ∧ Q (.bl (decide (x = y))) H
def rNe : R2 := fun x y H Q => scal x y = true ∧ Q (.bl (!decide (x = y))) H

theorem dec_int {i j : Int} : decide (V.int i = V.int j) = (i == j) := by
  rw [Bool.eq_iff_iff]
  simp
theorem dec_bl {i j : Bool} : decide (V.bl i = V.bl j) = (i == j) := by
  rw [Bool.eq_iff_iff]
  simp
theorem dec_str {i j : Str} : decide (V.str i = V.str j) = (i == j) := by
  rw [Bool.eq_iff_iff]
  simp
theorem dec_byt {i j : Array UInt8} : decide (V.byt i = V.byt j) = (i.toList == j.toList) := by
  rw [Bool.eq_iff_iff]
  cases i
  cases j
  simp

section
variable {X : Cx} {a b c : Expr} {ta tb tc : TE} {pos : Pos}
theorem fin_bl {pins : List (Addr × Obj)} {σ : St} {H : Hp} {s : Shared} {Q : VK} {k k' : Bool} (I : Inv X pins σ H s) (q : Q (.bl k) H) (e : k = k') : EP X pins σ Q (.bool k') s := by
  subst e
  exact ⟨.bl k, H, I, rfl, q⟩
theorem op_eq : OpR X (compareOp .Eq) rEq := by
  intro pins s σ H x y v u Q I rx ry h
  obtain ⟨hs, q⟩ := h
  cases x with
  | non =>
    cases rx
    cases y with
    | non => cases ry; exact PySem.EqNone.eq_none_none (fin_bl I q (by simp))
    | bl j => cases ry; exact PySem.EqNone.eq_none_bool (fin_bl I q (by simp))
    | int j => obtain ⟨t', rfl⟩ := ry; exact PySem.EqNone.eq_none_int (fin_bl I q (by simp))
    | str j => obtain ⟨t', rfl⟩ := ry; exact PySem.EqNone.eq_none_str (fin_bl I q (by simp))
    | _ => exact absurd (show false = true from hs) Bool.false_ne_true
  | bl i =>
    cases rx
    cases y with
    | non => cases ry; exact PySem.EqNone.eq_bool_none (fin_bl I q (by simp))
    | bl j => cases ry; exact eq_bool (fin_bl I q dec_bl)
    | str j => obtain ⟨t', rfl⟩ := ry; exact PySem.EqMixed.eq_bool_str (fin_bl I q (by simp))
    | _ => exact absurd (show false = true from hs) Bool.false_ne_true
  | int i =>
    obtain ⟨t, rfl⟩ := rx
    cases y with
    | non => cases ry; exact PySem.EqNone.eq_int_none (fin_bl I q (by simp))
    | int j => obtain ⟨t', rfl⟩ := ry; exact eq_int (fin_bl I q dec_int)
    | str j => obtain ⟨t', rfl⟩ := ry; exact PySem.EqMixed.eq_int_str (fin_bl I q (by simp))
    | _ => exact absurd (show false = true from hs) Bool.false_ne_true
  | str i =>
    obtain ⟨t, rfl⟩ := rx
    cases y with
    | non => cases ry; exact PySem.EqNone.eq_str_none (fin_bl I q (by simp))
    | bl j => cases ry; exact PySem.EqMixed.eq_str_bool (fin_bl I q (by simp))
    | int j => obtain ⟨t', rfl⟩ := ry; exact PySem.EqMixed.eq_str_int (fin_bl I q (by simp))
    | str j => obtain ⟨t', rfl⟩ := ry; exact eq_str (fin_bl I q dec_str)
    | _ => exact absurd (show false = true from hs) Bool.false_ne_true
  | byt i =>
    obtain ⟨t, rfl⟩ := rx
    cases y with
    | byt j => obtain ⟨t', rfl⟩ := ry; exact PySem.W.eq_bytes (fin_bl I q dec_byt)
    | _ => exact absurd (show false = true from hs) Bool.false_ne_true
  | _ => cases y <;> exact absurd (show false = true from hs) Bool.false_ne_true
theorem op_ne : OpR X (compareOp .NotEq) rNe := by
  intro pins s σ H x y v u Q I rx ry h
  obtain ⟨hs, q⟩ := h
  cases x with
  | non =>
    cases rx
    cases y with
    | non => cases ry; exact PySem.EqNone.ne_none_none (fin_bl I q (by simp))
    | bl j => cases ry; exact PySem.EqNone.ne_none_bool (fin_bl I q (by simp))
    | int j => obtain ⟨t', rfl⟩ := ry; exact PySem.EqNone.ne_none_int (fin_bl I q (by simp))
    | str j => obtain ⟨t', rfl⟩ := ry; exact PySem.EqNone.ne_none_str (fin_bl I q (by simp))
    | _ => exact absurd (show false = true from hs) Bool.false_ne_true
  | bl i =>
    cases rx
    cases y with
    | non => cases ry; exact PySem.EqNone.ne_bool_none (fin_bl I q (by simp))
    | bl j => cases ry; exact ne_bool (fin_bl I q (congrArg not dec_bl))
    | str j => obtain ⟨t', rfl⟩ := ry; exact PySem.EqMixed.ne_bool_str (fin_bl I q (by simp))
    | _ => exact absurd (show false = true from hs) Bool.false_ne_true
  | int i =>
    obtain ⟨t, rfl⟩ := rx
    cases y with
    | non => cases ry; exact PySem.EqNone.ne_int_none (fin_bl I q (by simp))
    | int j => obtain ⟨t', rfl⟩ := ry; exact ne_int (fin_bl I q (congrArg not dec_int))
    | str j => obtain ⟨t', rfl⟩ := ry; exact PySem.EqMixed.ne_int_str (fin_bl I q (by simp))
    | _ => exact absurd (show false = true from hs) Bool.false_ne_true
  | str i =>
    obtain ⟨t, rfl⟩ := rx
    cases y with
    | non => cases ry; exact PySem.EqNone.ne_str_none (fin_bl I q (by simp))
    | bl j => cases ry; exact PySem.EqMixed.ne_str_bool (fin_bl I q (by simp))
    | int j => obtain ⟨t', rfl⟩ := ry; exact PySem.EqMixed.ne_str_int (fin_bl I q (by simp))
    | str j => obtain ⟨t', rfl⟩ := ry; exact ne_str (fin_bl I q (congrArg not dec_str))
    | _ => exact absurd (show false = true from hs) Bool.false_ne_true
  | byt i =>
    obtain ⟨t, rfl⟩ := rx
    cases y with
    | byt j => obtain ⟨t', rfl⟩ := ry; exact PySem.W.ne_bytes (fin_bl I q (congrArg not dec_byt))
    | _ => exact absurd (show false = true from hs) Bool.false_ne_true
  | _ => cases y <;> exact absurd (show false = true from hs) Bool.false_ne_true

theorem op_lt : OpR X (compareOp .Lt) (rI0 fun i j => .bl (decide (i < j))) := opB0 fun _ _ _ _ _ _ _ q => lt_int q
theorem op_le : OpR X (compareOp .LtE) (rI0 fun i j => .bl (decide (i ≤ j))) := opB0 fun _ _ _ _ _ _ _ q => le_int q
theorem op_gt : OpR X (compareOp .Gt) (rI0 fun i j => .bl (decide (j < i))) := opB0 fun _ _ _ _ _ _ _ q => gt_int q
theorem op_notN : OpR X (compareOp .IsNot) (fun x y H Q => y = .non ∧ Q (.bl (!decide (x = .non))) H) := by
  intro pins s σ H x y v u Q I rx ry h
  obtain ⟨rfl, q⟩ := h
  cases ry
  refine isnot_none_gen (fin_bl I q ?_)
  cases x <;> first
    | (cases rx; rfl)
    | (obtain ⟨t, rfl⟩ := rx; rfl)

/-- two rules for one operation: by cases -/
theorem OpR.or {f : Value → Value → Sem Value} {r r' : R2} (h : OpR X f r) (h' : OpR X f r') : OpR X f (fun x y H Q => r x y H Q ∨ r' x y H Q) := by
  intro pins s σ H x y v u Q I rx ry q
  rcases q with q | q
  · exact h pins s σ H x y v u Q I rx ry q
  · exact h' pins s σ H x y v u Q I rx ry q

theorem nomark (b : Expr) {op : CmpOp} (h : op ≠ .In := by decide) (h2 : op ≠ .NotIn := by decide) : behindInMarks op b = false := by
  have e1 : (op == CmpOp.In) = false := by cases op <;> first | rfl | exact absurd rfl h
  have e2 : (op == CmpOp.NotIn) = false := by cases op <;> first | rfl | exact absurd rfl h2
  cases b <;> simp [behindInMarks, e1, e2]
/-- a comparison as a value; hm: nomark b, or (for in, not in) by with_unfolding_all rfl -/
theorem pe_cmpR {op : CmpOp} {r : R2} (ho : OpR X (compareOp op) r) (ha : PE X a ta) (hb : PE X b tb) (hm : behindInMarks op b = false) : PE X (.Compare a [op] [b] pos) (tOp r ta tb) := by
  intro pins s σ H Q I h
  exact wpAny_Compare1 (binT ha hb I h fun v u s2 x y H2 I2 rx ry q => ho pins s2 σ H2 x y v u Q I2 rx ry q) hm
/-- a reading of a value as a test -/
def tTest (t : TE) : TT := fun σ H Q => t σ H fun x H' => ∃ k, x = .bl k ∧ Q k H'
theorem pt_cmpR {op : CmpOp} {r : R2} (ho : OpR X (compareOp op) r) (ha : PE X a ta) (hb : PE X b tb) (hm : behindInMarks op b = false) : PT X (.Compare a [op] [b] pos) (tTest (tOp r ta tb)) := by
  intro pins s σ H Q I h
  refine wpAny_isTrue_Compare1 (thn (ha pins s σ H _ I h) fun v s1 ⟨x, H1, I1, r1, q1⟩ => thn (hb pins s1 σ H1 _ I1 q1) fun u s2 ⟨y, H2, I2, r2, q2⟩ =>
    thn (ho pins s2 σ H2 x y v u _ I2 r1 r2 q2) fun c s3 ⟨z, H3, I3, r3, k, e, q3⟩ => ?_) hm
  subst e
  cases r3
  exact wpAny_truthy_bool ⟨H3, I3, q3⟩
/-- a op1 b op2 c -/
def tChain (r r' : R2) (ta tb tc : TE) : TE := fun σ H Q => ta σ H fun x H1 => tb σ H1 fun y H2 => r x y H2 fun z H3 => ∃ k, z = .bl k ∧
  (if k = true then tc σ H3 fun w' H4 => r' y w' H4 Q else Q (.bl false) H3)
theorem pe_chain {op op' : CmpOp} {r r' : R2} (ho : OpR X (compareOp op) r) (ho' : OpR X (compareOp op') r') (ha : PE X a ta) (hb : PE X b tb) (hc : PE X c tc)
    (hm : lastMarks [op, op'] [b, c] = false := by with_unfolding_all rfl) : PE X (.Compare a [op, op'] [b, c] pos) (tChain r r' ta tb tc) := by
  intro pins s σ H Q I h
  refine Compare_chain (thn (ha pins s σ H _ I h) fun v s1 ⟨x, H1, I1, r1, q1⟩ => chain_link (thn (hb pins s1 σ H1 _ I1 q1) fun u s2 ⟨y, H2, I2, r2, q2⟩ =>
    thn (ho pins s2 σ H2 x y v u _ I2 r1 r2 q2) fun d s3 ⟨z, H3, I3, r3, k, e, q3⟩ => ?_)) hm
  subst e
  cases r3
  refine wpAny_truthy_bool ?_
  cases k with
  | false => exact ite_ff ⟨.bl false, H3, I3, rfl, q3⟩
  | true => exact ite_tt (chain_last (thn (hc pins s3 σ H3 _ I3 q3) fun w' s4 ⟨z', H4, I4, r4, q4⟩ => ho' pins s4 σ H4 y z' u w' Q I4 r2 r4 q4))
theorem pt_chain {op op' : CmpOp} {r r' : R2} (ho : OpR X (compareOp op) r) (ho' : OpR X (compareOp op') r') (ha : PE X a ta) (hb : PE X b tb) (hc : PE X c tc)
    (hm : lastMarks [op, op'] [b, c] = false := by with_unfolding_all rfl) : PT X (.Compare a [op, op'] [b, c] pos) (tTest (tChain r r' ta tb tc)) := by
  intro pins s σ H Q I h
  refine isTrue_chain (thn (ha pins s σ H _ I h) fun v s1 ⟨x, H1, I1, r1, q1⟩ => test_link (thn (hb pins s1 σ H1 _ I1 q1) fun u s2 ⟨y, H2, I2, r2, q2⟩ =>
    thn (ho pins s2 σ H2 x y v u _ I2 r1 r2 q2) fun d s3 ⟨z, H3, I3, r3, k, e, q3⟩ => ?_)) hm
  subst e
  cases r3
  refine wpAny_truthy_bool ?_
  cases k with
  | false =>
    obtain ⟨k', e', q'⟩ := q3
    cases e'
    exact ite_ff ⟨H3, I3, q'⟩
  | true =>
    refine ite_tt (test_last (thn (hc pins s3 σ H3 _ I3 q3) fun w' s4 ⟨z', H4, I4, r4, q4⟩ => thn (ho' pins s4 σ H4 y z' u w' _ I4 r2 r4 q4) fun d' s5 ⟨z2, H5, I5, r5, k2, e2, q5⟩ => ?_))
    subst e2
    cases r5
    exact wpAny_truthy_bool ⟨H5, I5, q5⟩

/-! ### truth -/
/-- a value's truth by the abstract heap -/
def TruV (K : PySem.W.Frag) (x : V) (H : Hp) (k : Bool) : Prop :=
  match x with
  | .non => k = false
  | .bl b => k = b
  | .int i => k = (i != 0)
  | .str y => y.length ≤ sizeLine ∧ k = ((y.length : Int) != 0)
  | .byt y => y.size ≤ sizeLine ∧ k = ((y.size : Int) != 0)
  | .ref p => (∃ xs, SqL K H p xs ∧ k = !xs.isEmpty) ∨ (∃ xs, SqT K H p xs ∧ k = !xs.isEmpty) ∨ ∃ kvs, H p = some (.dK kvs) ∧ k = !kvs.isEmpty
  | _ => False
theorem isEmpty_kv {κ : Type} {kvs : List (κ × V)} {vs : List (κ × Value)} (r : KV kvs vs) : (!vs.isEmpty) = !kvs.isEmpty := by
  cases r <;> rfl
theorem isEmpty_of {xs : List V} {its : List Value} (r : Vals xs its) : (!its.toArray.isEmpty) = !xs.isEmpty := by
  cases r <;> simp
theorem line63 : (sizeLine : Nat) < 2 ^ 63 := by rw [sizeLine_eq]; decide
theorem tru_ok : TruR X (fun x H Q => ∃ k, TruV X.K x H k ∧ Q k H) := by
  intro pins s σ H x v Q I rx h
  obtain ⟨k, e, q⟩ := h
  have hl := line63
  have hs : sizeLine = 16777216 := sizeLine_eq
  cases x with
  | non =>
    cases rx
    have e' : k = false := e
    subst e'
    exact truthy_none ⟨H, I, q⟩
  | bl b =>
    cases rx
    have e' : k = b := e
    subst e'
    exact wpAny_truthy_bool ⟨H, I, q⟩
  | int i =>
    obtain ⟨t, rfl⟩ := rx
    have e' : k = (i != 0) := e
    subst e'
    exact PySem.P.truthy_int ⟨H, I, q⟩
  | str y =>
    obtain ⟨t, rfl⟩ := rx
    obtain ⟨hy, e'⟩ : y.length ≤ sizeLine ∧ k = ((y.length : Int) != 0) := e
    subst e'
    exact PySem.P.truthy_str (by omega) ⟨H, I.tok _, q⟩
  | byt y =>
    obtain ⟨t, rfl⟩ := rx
    obtain ⟨hy, e'⟩ : y.size ≤ sizeLine ∧ k = ((y.size : Int) != 0) := e
    subst e'
    exact PySem.W.truthy_bytes (by omega) ⟨H, I.tok _, q⟩
  | ref p =>
    cases rx
    have e' : (∃ xs, SqL X.K H p xs ∧ k = !xs.isEmpty) ∨ (∃ xs, SqT X.K H p xs ∧ k = !xs.isEmpty) ∨ ∃ kvs, H p = some (.dK kvs) ∧ k = !kvs.isEmpty := e
    rcases e' with ⟨xs, hx, e'⟩ | ⟨xs, hx, e'⟩ | ⟨kvs, hx, e'⟩
    · subst e'
      obtain ⟨its, r, pl, hz⟩ := I.list hx
      have hlen := r.length
      exact wpAny_truthy_list pl.isList (by simp only [List.size_toArray]; omega) ⟨H, I.tok _, by rw [isEmpty_of r]; exact q⟩
    · subst e'
      obtain ⟨its, r, pl, hz⟩ := I.tuple hx
      have hlen := r.length
      exact truthy_tuple pl (by simp only [List.size_toArray]; omega) ⟨H, I.tok _, by rw [isEmpty_of r]; exact q⟩
    · subst e'
      obtain ⟨hz, hS, vs, r, m⟩ : kvs.length ≤ sizeLine ∧ (p == sysModules) = false ∧ ∃ vs, KV kvs vs ∧ s.heap.DictOf (mixKind X.prog X.w) p vs := I.hok p _ hx
      have hlen : kvs.length = vs.length := Paired.length r
      exact wpAny_truthy_dict hS m (by omega) ⟨H, I.tok _, by rw [isEmpty_kv r]; exact q⟩
  | _ => exact (show False from e).elim
/-- any expression whose test is its value's truth (a name, a call, a subscript, a field ..: he by fun _ => rfl) -/
theorem pt_truth (ha : PE X a ta) (he : ∀ whole, isTrue a X.env whole = (do let v ← whole; standAt a.pos; holding [v] (truthy v))) :
    PT X a (fun σ H Q => ta σ H fun x H' => ∃ k, TruV X.K x H' k ∧ Q k H') := by
  intro pins s σ H Q I h
  exact isTrue_plain (thn (ha pins s σ H _ I h) fun v s1 ⟨x, H1, I1, r1, q1⟩ => tru_ok pins s1 σ H1 x v Q I1 r1 q1) (he _)

/-! ### scalar builtins, by CallR -/
theorem vals1 {x : V} {us : List Value} (r : Vals [x] us) : ∃ u, us = [u] ∧ RelV x u := by
  cases r with
  | cons r1 r2 => cases r2; exact ⟨_, rfl, r1⟩
theorem vals2 {x y : V} {us : List Value} (r : Vals [x, y] us) : ∃ u w', us = [u, w'] ∧ RelV x u ∧ RelV y w' := by
  cases r with
  | cons r1 r2 =>
    cases r2 with
    | cons r3 r4 => cases r4; exact ⟨_, _, rfl, r1, r3⟩
theorem call_min2 (hc : X.calm = true) : CallR X (.builtin "min") (fun xs H Q => ∃ i j, xs = [.int i, .int j] ∧ Q (.int (if j < i then j else i)) H) := by
  intro pins s σ H xs us Q I r h
  obtain ⟨i, j, rfl, q⟩ := h
  obtain ⟨u, w', rfl, ⟨t, rfl⟩, ⟨t', rfl⟩⟩ := vals2 r
  refine min_two_ints (I.ok.hd hc) fun h' tk k => ⟨_, H, I.kept k, ?_, q⟩
  by_cases hj : j < i
  · rw [if_pos hj, if_pos hj]; exact ⟨_, rfl⟩
  · rw [if_neg hj, if_neg hj]; exact ⟨_, rfl⟩
theorem call_int1 : CallR X (.type "int") (fun xs H Q => (∃ i, xs = [.int i] ∧ Q (.int i) H) ∨ ∃ k, xs = [.bl k] ∧ Q (.int (if k then 1 else 0)) H) := by
  intro pins s σ H xs us Q I r h
  rcases h with ⟨i, rfl, q⟩ | ⟨k, rfl, q⟩
  · obtain ⟨u, rfl, t, rfl⟩ := vals1 r
    exact call_int_int ⟨.int i, H, I, ⟨_, rfl⟩, q⟩
  · obtain ⟨u, rfl, r1⟩ := vals1 r
    cases r1
    exact call_int_bool ⟨.int (if k then 1 else 0), H, I.tok _, ⟨_, rfl⟩, q⟩
end
end L2

namespace L2
open PySem PySem.Spec PyProof.Rows

/-! ### an instance, its attributes a map -/
structure ObjM (h : Heap) (x dx C : Addr) (mA : Str → Option Value) : Prop where
  obj : h.get? x = some (PySem.W.instObj C dx)
  ns : h.Ns1 dx mA
  ne : dx ≠ x

section
variable {prog : Program} {w : World} {A : Around} {E : Value → Shared → Prop} {s : Shared} {K : PySem.W.Frag} {x dx C f : Addr} {mA : Str → Option Value} {name : Str} {v : Value}

end

section
variable {P : Program} {w : World} {H H' : Hp} {h h' : Heap} {a C dx : Addr} {fs fs' : List (Str × V)}
end

/-! ### what of the text a class must have -/
structure Cls (K : PySem.W.Frag) (C : Addr) : Prop where
  pg : PySem.W.plainGet K C Str.empty = true
  hd : PySem.W.hasDictIn K C = true
  po : PySem.W.plainOver K C = true
  sa : PySem.W.findIn K (.ref C) "__setattr__" = some (some (.builtin "object.__setattr__"))
theorem Cls.get {K : PySem.W.Frag} {C : Addr} (c : Cls K C) (f : Str) : PySem.W.plainGet K C f = true := c.pg
/-- a constant of the class -/
structure Con (K : PySem.W.Frag) (C : Addr) (f : Str) (v : V) (u : Value) : Prop where
  at_ : PySem.W.findIn K (.ref C) f = some (some u)
  rel : RelV v u
  get : PySem.W.specialIn K u "__get__" = some none
  cp : PySem.W.copiedNames.contains f = false
/-- a method: a plain def of the class or of one above it -/
structure Meth (K : PySem.W.Frag) (C : Addr) (m : Str) (f : Addr) : Prop where
  at_ : PySem.W.findIn K (.ref C) m = some (some (.ref f))
  fn : PySem.W.isFn K (.ref f) = true
  kp : PySem.W.keepIn K (.ref f) = true

section
variable {X : Cx} {pins : List (Addr × Obj)} {σ : St} {H : Hp} {s : Shared} {a C dx : Addr} {fs : List (Str × V)} {f : Str} {v : V} {A : Around} {E : Value → Shared → Prop}

end

section
variable {X : Cx} {o e value : Expr} {f : Str} {pos pos' tpos : Pos} {ta tv : TE}
end

/-! ### isinstance -/
section
variable {X : Cx} {pins : List (Addr × Obj)} {σ : St} {H : Hp} {s : Shared} {A : Around} {E : Value → Shared → Prop} {Q : Value → Shared → Prop} {c : Value} {b : Bool}
/-- the type of a value, as the fragment's deciders take it; for an instance its class -/
inductive TyOf (K : PySem.W.Frag) (H : Hp) : V → Value → Prop where
  | non : TyOf K H .non (.type "NoneType")
  | bl (x : Bool) : TyOf K H (.bl x) (.type "bool")
  | int (i : Int) : TyOf K H (.int i) (.type "int")
  | str (x : Str) : TyOf K H (.str x) (.type "str")
  | flt (x : UInt64) : TyOf K H (.flt x) (.type "float")
  | lst {a : Addr} {xs : List V} (e : H a = some (.lst xs)) : TyOf K H (.ref a) (.type "list")
  | frz {a : Addr} {o : Obj} {xs : List V} (e : H a = some (.frz o (.lst xs))) : TyOf K H (.ref a) (.type "list")
  | tup {a : Addr} {xs : List V} (e : H a = some (.tup xs)) : TyOf K H (.ref a) (.type "tuple")
  | dK {a : Addr} {kvs : List (Key × V)} (e : H a = some (.dK kvs)) : TyOf K H (.ref a) (.type "dict")
  | dT {a : Addr} {kvs : List (List Key × V)} (e : H a = some (.dT kvs)) : TyOf K H (.ref a) (.type "dict")
  | ins {a C dx : Addr} {fs : List (Str × V)} (e : H a = some (.ins C dx fs)) (cl : Cls K C) (ha : PySem.W.findIn K (.ref C) "__class__" = some (some (.builtin "object.__class__")))
      (hn : PySem.W.specialIn K (.builtin "object.__class__") "__get__" = some (some (.builtin "getset_descriptor.__get__"))) (htk : PySem.W.takesIn K (.builtin "object.__class__") = some true)
      (hm : PySem.W.mroIn K C (.type "object") = some true) : TyOf K H (.ref a) (.ref C)
end
end L2

namespace L2
open PySem PySem.Spec PyProof.Rows

/-! ### room -/
structure Room (k : Nat) (A : Around) : Prop where
  hd : A.handled = none
  dp : A.depth + 3 * k + 5 < recursionLimit
  un : A.units + 16 * k + 200 < cLine
theorem Room.mono {j k : Nat} {A : Around} (r : Room k A) (h : j ≤ k) : Room j A := ⟨r.hd, by have := r.dp; omega, by have := r.un; omega⟩
theorem Room.deeper {k : Nat} {A : Around} (r : Room (k + 1) A) (env : Env) : Room k (A.deeper env) :=
  ⟨r.hd, by have := r.dp; show A.depth + 1 + 3 * k + 5 < _; omega, by have := r.un; show A.units + 3 + 16 * k + 200 < _; omega⟩
theorem Room.in1 {k : Nat} {A : Around} (r : Room (k + 1) A) : Room k A.in1 :=
  ⟨r.hd, by have := r.dp; show A.depth + 3 * k + 5 < _; omega, by have := r.un; show A.units + 1 + 16 * k + 200 < _; omega⟩
theorem Room.depth {k : Nat} {A : Around} (r : Room k A) : A.depth < recursionLimit := by have := r.dp; omega
theorem Room.units {k : Nat} {A : Around} (r : Room k A) : A.units + 64 < cLine := by have := r.un; omega
/-! ### argument lists and displays -/
def tNil : TA := fun _ H Q => Q [] H
def tCons (ta : TE) (tr : TA) : TA := fun σ H Q => ta σ H fun x H1 => tr σ H1 fun xs H2 => Q (x :: xs) H2
section
variable {X : Cx} {e : Expr} {es : List Expr} {te : TE} {t : TA} {pos : Pos}
theorem pa_nil : PA X [] tNil := fun _ _ _ _ H Q I h => Calls.spliced_nil ⟨[], H, I, .nil, h⟩
theorem pa_cons (ha : PE X e te) (hr : PA X es t) (hs : starEach (e :: es) X.env = (false, eval e X.env) :: starEach es X.env := by rfl) : PA X (e :: es) (tCons te t) := by
  intro pos pins s σ H Q I h
  rw [hs]
  show wpAny _ _ (spliced ((false, eval e X.env) :: backTo pos (starEach es X.env))) _ _ s
  refine Calls.spliced_cons (thn (ha pins s σ H _ I h) fun u s1 ⟨x, H1, I1, r1, q1⟩ => ?_)
  exact thn (hr pos pins s1 σ H1 _ I1 q1) fun us s2 ⟨xs, H2, I2, r2, q2⟩ => ⟨x :: xs, H2, I2, .cons r1 r2, q2⟩

/-- a tuple, a list of written items -/
def tTup (t : TA) : TE := fun σ H Q => t σ H fun xs H1 => xs.length ≤ sizeLine ∧ ∀ p, H1 p = none → Q (.ref p) (upd H1 p (.tup xs))
def tLst (t : TA) : TE := fun σ H Q => t σ H fun xs H1 => xs.length ≤ sizeLine ∧ ∀ p, H1 p = none → Q (.ref p) (upd H1 p (.lst xs))
theorem pe_tup {x1} (h : PA X es t) : PE X (.Tuple es x1 pos) (tTup t) := by
  intro pins s σ H Q I hq
  refine wpAny_Tuple_spliced (thn (h pos pins s σ H _ I hq) fun us s1 ⟨xs, H1, I1, r, z, q⟩ => ⟨by rw [← r.length]; exact z, ?_⟩)
  have hf : H1 s1.heap.objs.size = none := I1.hok.fresh (Nat.le_refl _)
  refine ⟨.ref s1.heap.objs.size, upd H1 s1.heap.objs.size (.tup xs), I1.laid (t' := s1.toks) (fun b u e => Heap.get?_push_of_some _ e) (Nat.le_refl _) ?_, rfl, q _ hf⟩
  exact ⟨z, us, r, ⟨_, Heap.get?_push_size _ rfl, rfl, _, rfl⟩⟩
theorem pe_lst (h : PA X es t) : PE X (.List es pos) (tLst t) := by
  intro pins s σ H Q I hq
  refine wpAny_List_spliced (thn (h pos pins s σ H _ I hq) fun us s1 ⟨xs, H1, I1, r, z, q⟩ => ⟨by rw [← r.length]; exact z, ?_⟩)
  have hf : H1 s1.heap.objs.size = none := I1.hok.fresh (Nat.le_refl _)
  refine ⟨.ref s1.heap.objs.size, upd H1 s1.heap.objs.size (.lst xs), I1.laid (t' := s1.toks) (fun b u e => Heap.get?_push_of_some _ e) (Nat.le_refl _) ?_, rfl, q _ hf⟩
  exact ⟨z, us, 0, r, Heap.get?_push_size _ rfl⟩
end

/-! ### what a def promises -/
/-- a def's promise: the bound arguments in the parameters' order, the heap, the wanted end, the wanted exception -/
abbrev Sp := List V → Hp → VK → XK → Prop
/-- how an exception lies behind a call (file 08 gives it): the callers' frames, abstract heap and state ahead of the call, the wish, the exception, the state -/
abbrev CXT := List Env → Hp → Shared → XK → Value → Shared → Prop

/-- the state at a call -/
structure Env0 (P : Program) (w : World) (K : PySem.W.Frag) (mg : Str → Option Value) (base : Heap) (A : Around) (outer : List Env) (s : Shared) (H : Hp) : Prop where
  frames : A.frames = some outer
  mod : Mod K mg base
  bs : ∀ b o, base.get? b = some o → s.heap.get? b = some o ∧ H b = none
  bsz : base.objs.size ≤ s.heap.objs.size
  funs : s.heap.FunFrames base outer
  frf : ∀ b ∈ frs outer, H b = none
  hok : HOk P w H s.heap
  bare : AllBare s.gens
/-- a call's end -/
def CE (outer : List Env) (P : Program) (w : World) (H : Hp) (s : Shared) (Q : VK) (u : Value) (s' : Shared) : Prop :=
  ∃ v H', s'.os = s.os ∧ AllBare s'.gens ∧ Un (frs outer) [] H H' s.heap s'.heap ∧ HOk P w H' s'.heap ∧ RelV v u ∧ Q v H'
def CR (CX : CXT) (outer : List Env) (P : Program) (w : World) (H : Hp) (s : Shared) (Q : VK) (E : XK) (r : Result) (s' : Shared) : Prop :=
  match r with
  | .ok (.ret u) => CE outer P w H s Q u s'
  | .ok _ => False
  | .error e => CX outer H s E e s'
structure FnOk (P : Program) (w : World) (K : PySem.W.Frag) (mg : Str → Option Value) (base : Heap) (CX : CXT) (k : Nat) (f : Addr) (fd : FuncData) (ps : List Str) (sp : Sp) : Prop where
  len : ∀ vs H Q E, sp vs H Q E → vs.length = ps.length
  run : ∀ (A : Around) (outer : List Env) (s : Shared) (H : Hp) (args : Args) (us : List Value) (vs : List V) (Q : VK) (E : XK), Room k A → Env0 P w K mg base A outer s H → BindsTo s fd args (ps.zip us) → Vals vs us → sp vs H Q E →
    codeAny (model P w) A (.call (.ref f) args) (CR CX outer P w H s Q E) s
theorem FnOk.mono {P : Program} {w : World} {K : PySem.W.Frag} {mg : Str → Option Value} {base : Heap} {CX : CXT} {j k : Nat} {f : Addr} {fd : FuncData} {ps : List Str} {sp : Sp} (F : FnOk P w K mg base CX j f fd ps sp) (h : j ≤ k) :
    FnOk P w K mg base CX k f fd ps sp := ⟨F.len, fun A outer s H args us vs Q E hr => F.run A outer s H args us vs Q E (hr.mono h)⟩
/-- a weaker promise -/
theorem FnOk.imp {P : Program} {w : World} {K : PySem.W.Frag} {mg : Str → Option Value} {base : Heap} {CX : CXT} {k : Nat} {f : Addr} {fd : FuncData} {ps : List Str} {sp sp' : Sp} (F : FnOk P w K mg base CX k f fd ps sp)
    (h : ∀ vs H Q E, sp' vs H Q E → sp vs H Q E) : FnOk P w K mg base CX k f fd ps sp' :=
  ⟨fun vs H Q E q => F.len vs H Q E (h _ _ _ _ q), fun A outer s H args us vs Q E hr he hb hv hs => F.run A outer s H args us vs Q E hr he hb hv (h _ _ _ _ hs)⟩

theorem Env0.in1 {P : Program} {w : World} {K : PySem.W.Frag} {mg : Str → Option Value} {base : Heap} {A : Around} {outer : List Env} {s : Shared} {H : Hp} (e : Env0 P w K mg base A outer s H) :
    Env0 P w K mg base A.in1 outer s H := ⟨e.frames, e.mod, e.bs, e.bsz, e.funs, e.frf, e.hok, e.bare⟩

section
variable {X : Cx} {pins : List (Addr × Obj)} {σ : St} {H : Hp} {s s' : Shared}
/-- from a body: what a callee wants -/
theorem Inv.env0 (I : Inv X pins σ H s) : Env0 X.prog X.w X.K X.mg X.base X.A X.stack s H :=
  ⟨I.ok.frames, I.ok.mod, I.bs, Nat.le_trans I.ok.bsz I.sz, I.stack, I.stkFree, I.hok, I.bare⟩
/-- behind a call -/
theorem Inv.after {Q : VK} {u : Value} (I : Inv X pins σ H s) (h : CE X.stack X.prog X.w H s Q u s') : EP X pins σ Q u s' := by
  obtain ⟨v, H', os, bare, un, hok, r, q⟩ := h
  obtain ⟨hh, g, d, t, os'⟩ := s'
  obtain rfl : os' = s.os := os
  exact ⟨v, H', I.call (h' := hh) (g' := g) (d' := d) (t' := t) (ch := []) un hok bare (fun b z => absurd z (by simp)), r, q⟩
end

/-! ### calls -/
/-- f(..): the written arguments, then the defaults dvs; E: what is wanted of an exception -/
def tCall (sp : Sp) (dvs : List V) (E : XK) (t : TA) : TE := fun σ H Q => t σ H fun vs H1 => sp (vs ++ dvs) H1 Q E
/-- how the parameters are bound: us the positional arguments, kw the keywords' values by name, ds the defaults that fill up -/
def Binds (K : PySem.W.Frag) (fd : FuncData) (ps : List Str) (ds : List Value) : Prop :=
  ∀ (s : Shared) (us : List Value), K.In s.heap → (us ++ ds).length = ps.length → BindsTo s fd ⟨us, []⟩ (ps.zip (us ++ ds))
/-- every parameter is given -/
theorem Binds.all {K : PySem.W.Frag} {fd : FuncData} {ps : List Str} (h : ∀ us : List Value, us.length = ps.length → bindArgs fd ⟨us, []⟩ = pure (ps.zip us)) : Binds K fd ps [] := fun s us _ hl => by
  rw [List.append_nil] at hl ⊢
  exact .of_eq (h us hl)

/-- an exception of a callee reaches what this body wants of exceptions -/
def Passes (CX : CXT) (X : Cx) (E : XK) : Prop := ∀ (pins : List (Addr × Obj)) (σ : St) (H : Hp) (s : Shared) (e : Value) (s' : Shared), Inv X pins σ H s → CX X.stack H s E e s' → X.xe e s'

section
variable {X : Cx} {CX : CXT} {k : Nat} {f C : Addr} {fd : FuncData} {ps : List Str} {sp : Sp} {dvs : List V} {ds : List Value} {E : XK} {x m : Str} {p pos apos : Pos} {e o : Expr} {es : List Expr} {ta : TE} {t : TA}

/-- the callee runs -/
theorem run_fn {pins : List (Addr × Obj)} {σ : St} {H : Hp} {s : Shared} {Q : VK} {us : List Value} {vs : List V} (F : FnOk X.prog X.w X.K X.mg X.base CX k f fd ps sp) (hr : Room k X.A) (hb : Binds X.K fd ps ds) (hd : Vals dvs ds) (hx : Passes CX X E)
    (I : Inv X pins σ H s) (r : Vals vs us) (h : sp (vs ++ dvs) H Q E) : wpAny (model X.prog X.w) X.A (call (.ref f) us) (EP X pins σ Q) X.xe s := by
  have r2 : Vals (vs ++ dvs) (us ++ ds) := r.append hd
  have hl : (us ++ ds).length = ps.length := by rw [← r2.length]; exact F.len _ _ _ _ h
  refine wpAny_call (codeAny_mono (F.run X.A X.stack s H ⟨us, []⟩ (us ++ ds) (vs ++ dvs) Q E hr I.env0 (hb s us I.kIn hl) r2 h) fun r s' hq => ?_)
  cases r with
  | error e => exact hx pins σ H s e s' I hq
  | ok fl =>
    cases fl with
    | ret u => exact I.after hq
    | next => exact False.elim hq
    | brk => exact False.elim hq
    | cont => exact False.elim hq

theorem pe_call (F : FnOk X.prog X.w X.K X.mg X.base CX k f fd ps sp) (hr : Room k X.A) (hg : Gl X x) (hm : X.mg x = some (.ref f)) (hk : PySem.W.keepIn X.K (.ref f) = true) (hb : Binds X.K fd ps ds) (hd : Vals dvs ds) (hx : Passes CX X E)
    (ha : PA X (e :: es) t) (hdb : (x == ("__debug__" : Str)) = false := by decide) (he : starEach (e :: es) X.env = (false, eval e X.env) :: starEach es X.env := by rfl) (hpl : (backTo pos (starEach es X.env)).any (·.1) = false := by rfl) :
    PE X (.Call (.Name x p) (e :: es) [] pos) (tCall sp dvs E t) := by
  intro pins s σ H Q I h
  refine wpAny_Call_Name_kw (ld_glob I hg hm ?_ hdb)
  refine PySem.W.callWith_K (h₀ := X.base) I.ok.mod.kin hk (thn (ha pos pins s σ H _ I h) fun us s1 ⟨vs, H1, I1, r, q⟩ => ⟨I1.kIn, ?_⟩) he hpl
  exact run_fn F hr hb hd hx I1 r q
/-- what a class must have to be made -/
structure Mk (K : PySem.W.Frag) (C f : Addr) : Prop where
  makes : PySem.W.makesIn K C = true
  init : PySem.W.findIn K (.ref C) "__init__" = some (some (.ref f))
  fn : PySem.W.isFn K (.ref f) = true
  kp : PySem.W.keepIn K (.ref C) = true

end

/-! ### keywords -/
/-- the values of the keywords, from the left -/
def PK (X : Cx) (kws : List Keyword) (t : TA) : Prop :=
  ∀ (pos : Pos) (pins : List (Addr × Obj)) (s : Shared) (σ : St) (H : Hp) (Q : List V → Hp → Prop), Inv X pins σ H s → t σ H Q → wpAny (model X.prog X.w) X.A (evalAll ((backToKw pos (keywordEach kws X.env)).map (·.2))) (AP X pins σ Q) X.xe s
section
variable {X : Cx} {CX : CXT} {k : Nat} {f C : Addr} {fd : FuncData} {ps ks : List Str} {sp : Sp} {E : XK} {x m : Str} {p pos apos kpos : Pos} {e o : Expr} {es : List Expr} {kws : List Keyword} {te ta : TE} {t tk : TA} {nm : Option Str}
theorem pk_nil : PK X [] tNil := fun _ _ _ _ H Q I h => wpAny_evalAll_nil ⟨[], H, I, .nil, h⟩
theorem pk_cons (ha : PE X e te) (hr : PK X kws t) : PK X (⟨nm, e, kpos⟩ :: kws) (tCons te t) := by
  intro pos pins s σ H Q I h
  show wpAny _ _ (evalAll ((do let v ← eval e X.env; standAt pos; pure v) :: (backToKw pos (keywordEach kws X.env)).map (·.2))) _ _ s
  refine wpAny_evalAll_cons (wpAny_bind (thn (ha pins s σ H _ I h) fun u s1 ⟨x, H1, I1, r1, q1⟩ => wpAny_bind (wpAny_standAt (wpAny_pure ?_))))
  exact thn (hr pos pins s1 σ H1 _ I1 q1) fun us s2 ⟨xs, H2, I2, r2, q2⟩ => ⟨x :: xs, H2, I2, .cons r1 r2, q2⟩

/-- how a call with keywords binds: g puts the positional values us and the keywords' values ws (names ks) in the parameters' order, defaults among them -/
structure KBinds (K : PySem.W.Frag) (fd : FuncData) (ps ks : List Str) (g : List Value → List Value → List Value) (gV : List V → List V → List V) : Prop where
  to : ∀ (s : Shared) (us ws : List Value), K.In s.heap → (g us ws).length = ps.length → BindsTo s fd ⟨us, ks.zip ws⟩ (ps.zip (g us ws))
  rel : ∀ {vs : List V} {us : List Value} {zs : List V} {ws : List Value}, Vals vs us → Vals zs ws → Vals (gV vs zs) (g us ws)
variable {g : List Value → List Value → List Value} {gV : List V → List V → List V}
end

/-! ### a def's body keeps its promise -/
/-- names: the parameters first -/
structure FnScope (N P : List Str) (sc : Scope) : Prop where
  kind : sc.kind = .function
  co : sc.isCoroutine = false
  gen : sc.isGenerator = false
  nd : N.Nodup
  pre : N.take P.length = P
  par : ∀ x ∈ P, sc.names.lookup x = some .local ∨ sc.names.lookup x = some .cell
  nofree : ∀ y ∈ sc.names, y.2 ≠ .free

theorem bindL_out {kindOf : Str → Option NameKind} {x : Str} : ∀ {binds : List (Str × Value)} {m : Str → Option Value}, (∀ v, (x, v) ∉ binds) → bindL kindOf binds m x = m x
  | [], _, _ => rfl
  | (n, v) :: r, m, h => by
    unfold bindL
    rw [bindL_out fun w hw => h w (List.mem_cons_of_mem _ hw)]
    split
    · have : x ≠ n := by rintro rfl; exact h v List.mem_cons_self
      simp [this]
    · rfl
theorem bindC_out {kindOf : Str → Option NameKind} {x : Str} : ∀ {binds : List (Str × Value)} {m : Str → Option Value}, (∀ v, (x, v) ∉ binds) → bindC kindOf binds m x = m x
  | [], _, _ => rfl
  | (n, v) :: r, m, h => by
    unfold bindC
    rw [bindC_out fun w hw => h w (List.mem_cons_of_mem _ hw)]
    split
    · rfl
    · have : x ≠ n := by rintro rfl; exact h v List.mem_cons_self
      simp [this]
theorem bindL_get {kindOf : Str → Option NameKind} {x : Str} {v : Value} : ∀ {P : List Str} {vs : List Value} {i : Nat} {m : Str → Option Value}, P.Nodup → P[i]? = some x → vs[i]? = some v → kindOf x = some .local →
    bindL kindOf (P.zip vs) m x = some v
  | [], _, _, _, _, h, _, _ => by simp at h
  | _ :: _, [], _, _, _, _, h, _ => by simp at h
  | p :: P, w :: vs, 0, m, nd, h1, h2, hk => by
    simp at h1 h2; subst h1; subst h2
    show bindL kindOf ((p, w) :: P.zip vs) m p = _
    unfold bindL
    rw [bindL_out fun v hv => (List.nodup_cons.mp nd).1 (List.of_mem_zip hv).1, if_pos hk]
    simp
  | p :: P, w :: vs, i + 1, m, nd, h1, h2, hk => by
    show bindL kindOf ((p, w) :: P.zip vs) m x = _
    unfold bindL
    exact bindL_get (i := i) (List.nodup_cons.mp nd).2 (by simpa using h1) (by simpa using h2) hk
theorem bindC_get {kindOf : Str → Option NameKind} {x : Str} {v : Value} : ∀ {P : List Str} {vs : List Value} {i : Nat} {m : Str → Option Value}, P.Nodup → P[i]? = some x → vs[i]? = some v → kindOf x ≠ some .local →
    bindC kindOf (P.zip vs) m x = some v
  | [], _, _, _, _, h, _, _ => by simp at h
  | _ :: _, [], _, _, _, _, h, _ => by simp at h
  | p :: P, w :: vs, 0, m, nd, h1, h2, hk => by
    simp at h1 h2; subst h1; subst h2
    show bindC kindOf ((p, w) :: P.zip vs) m p = _
    unfold bindC
    rw [bindC_out fun v hv => (List.nodup_cons.mp nd).1 (List.of_mem_zip hv).1, if_neg hk]
    simp
  | p :: P, w :: vs, i + 1, m, nd, h1, h2, hk => by
    show bindC kindOf ((p, w) :: P.zip vs) m x = _
    unfold bindC
    exact bindC_get (i := i) (List.nodup_cons.mp nd).2 (by simpa using h1) (by simpa using h2) hk

/-- the names' values at the entry -/
def start (N : List Str) (vs : List V) : St := vs.map some ++ List.replicate (N.length - vs.length) none

/-- the context of a def's body, at its entry; an exception leaves the frame, then lies as CX says -/
def cxOf (CX : CXT) (P : Program) (w : World) (K : PySem.W.Frag) (mg : Str → Option Value) (base : Heap) (N : List Str) (qual : Str) (scope : Scope) (f : Addr) (cd : Value) (A : Around) (outer : List Env) (s : Shared) (H : Hp) (E : XK) : Cx where
  prog := P
  w := w
  K := K
  mg := mg
  base := base
  A := A.deeper (envOfC qual scope s.heap.objs.size f cd)
  N := N
  s₀ := s
  H₀ := H
  env := envOfC qual scope s.heap.objs.size f cd
  outer := outer
  stack := envOfC qual scope s.heap.objs.size f cd :: outer
  ex := []
  calm := true
  fn := fun _ => true
  pn := []
  xe := fun e s' => wpAny (model P w) (A.deeper (envOfC qual scope s.heap.objs.size f cd)) (leaving (envOfC qual scope s.heap.objs.size f cd) e) (fun _ s'' => CX outer H s E e s'') (fun e' s'' => CX outer H s E e' s'') s'

theorem cell_has {sc : Scope} {n : Nat} {x : Str} (h : sc.names.lookup x = some .cell) : ∃ c, (cellsFrom n sc.names []).lookup x = some c := by
  have q := PySem.W.cellsFrom_some sc.names n [] (.inl h)
  exact Option.isSome_iff_exists.mp q

theorem inv_start {CX : CXT} {P : Program} {w : World} {K : PySem.W.Frag} {mg : Str → Option Value} {base : Heap} {N ps : List Str} {qual : Str} {scope : Scope} {f : Addr} {cd : Value} {A : Around} {outer : List Env} {s s1 : Shared} {H : Hp} {E : XK} {us : List Value} {vs : List V}
    (S : FnScope N ps scope) (hd : A.handled = none) (e0 : Env0 P w K mg base A outer s H) (hl : vs.length = ps.length) (r : Vals vs us)
    (x : InCallC s s.heap.objs.size (bindL (envOfC qual scope s.heap.objs.size f cd).kindOf (ps.zip us) fun _ => none) (cellsFrom (s.heap.objs.size + 1) scope.names []) (bindC (envOfC qual scope s.heap.objs.size f cd).kindOf (ps.zip us) fun _ => none) s1) :
    Inv (cxOf CX P w K mg base N qual scope f cd A outer s H E) [] (start N vs) H s1 := by
  have hpl : ps.length ≤ N.length := by have := congrArg List.length S.pre; rw [List.length_take] at this; omega
  obtain ⟨h1, tk, rfl, hk⟩ := x.done
  have noA : ∀ b : Addr, b ∉ (cxOf CX P w K mg base N qual scope f cd A outer s H E).ex := fun b z => absurd (show b ∈ ([] : List Addr) from z) (by simp)
  refine ⟨⟨e0.mod, S.kind, rfl, rfl, Nat.le_refl _, fun y z c h1 h2 => ?_, fun y hy => ?_, fun y c _ h => ?_, fun _ => hd, Around.frames_deeper e0.frames, .inr ⟨rfl, rfl⟩, fun b z => absurd z (noA b), e0.bs, e0.bsz, fun b _ _ => noA b, fun b z => absurd z (noA b), e0.funs, e0.frf⟩,
    rfl, e0.bare, Un.kept hk, ⟨_, x.toInCall.ns, fun i y v h1 h2 h3 => ?_⟩, fun y c h => ⟨_, x.cell y c h⟩, e0.hok.fresh (Nat.le_refl _), fun y c h => ?_, fun p hp => absurd (show p ∈ ([] : List (Addr × Obj)) from hp) (by simp), e0.hok.kept hk, ?_⟩
  · exact name_of_addr x.apart (PySem.mem_of_lookup h1) (PySem.mem_of_lookup h2)
  · have hy : scope.names.lookup y = some .cell ∨ scope.names.lookup y = some .free := hy
    rcases hy with hy | hy
    · exact cell_has hy
    · exact absurd rfl (S.nofree _ (PySem.mem_of_lookup hy))
  · exact Nat.le_of_lt (x.above y c (PySem.mem_of_lookup h))
  · have hi : i < vs.length := by
      unfold start at h2
      by_cases hi : i < vs.length
      · exact hi
      · rw [List.getElem?_append_right (by simpa using hi)] at h2
        rw [List.getElem?_replicate] at h2
        split at h2 <;> cases h2
    have ha : vs[i]? = some v := by
      unfold start at h2
      rw [List.getElem?_append_left (by simpa using hi), List.getElem?_map] at h2
      cases e : vs[i]? with
      | none => rw [e] at h2; cases h2
      | some a => rw [e] at h2; cases h2; rfl
    obtain ⟨u, hu, rv⟩ := r.get ha
    have hp : ps[i]? = some y := by
      rw [← S.pre, List.getElem?_take_of_lt (by omega)]; exact h1
    have ndP : ps.Nodup := by rw [← S.pre]; exact S.nd.sublist (List.take_sublist _ _)
    refine ⟨u, rv, ?_⟩
    rcases S.par y (List.mem_of_getElem? hp) with k | k
    · exact .inl ⟨k, bindL_get ndP hp hu k⟩
    · obtain ⟨c, e⟩ := cell_has (n := s.heap.objs.size + 1) k
      refine .inr ⟨.inl k, c, e, ?_⟩
      have q := x.cell y c e
      rw [bindC_get ndP hp hu (by show scope.names.lookup y ≠ _; rw [k]; decide)] at q
      exact q
  · exact e0.hok.fresh (Nat.le_of_lt (x.above y c (PySem.mem_of_lookup h)))
  · unfold start
    show _ = N.length
    rw [List.length_append, List.length_map, List.length_replicate]
    omega

/-- THE RULE: a def (or a method) of the text, by its body. The body's reading t is chosen for each entry; it is run at the parameters' values -/
theorem fn_of {CX : CXT} {P : Program} {w : World} {K : PySem.W.Frag} {mg : Str → Option Value} {base : Heap} {k : Nat} {f : Addr} {name qual : Str} {params : Arguments} {body : List Stmt} {scope : Scope} {dV kV doc pm cdv ct oc : Value} {an od : Option Addr}
    {osl : Array (Option Value)} {N ps : List Str} {sp : Sp} (lk : K.lookup f = some ⟨oc, od, .func (PySem.W.fnOf name qual params body scope dV kV doc pm an cdv ct), osl⟩) (hcd : PySem.W.codeIn K cdv qual = true) (S : FnScope N ps scope)
    (len : ∀ vs H Q E, sp vs H Q E → vs.length = ps.length)
    (hbody : ∀ (A : Around) (outer : List Env) (s : Shared) (H : Hp) (vs : List V) (Q : VK) (E : XK), Room k (A.deeper (envOfC qual scope s.heap.objs.size f cdv)) → sp vs H Q E →
      ∃ t, PSs (cxOf CX P w K mg base N qual scope f cdv A outer s H E) body t ∧ t { nx := fun _ H' => Q .non H', rt := Q } (start N vs) H) :
    FnOk P w K mg base CX (k + 1) f (PySem.W.fnOf name qual params body scope dV kV doc pm an cdv ct) ps sp := by
  refine ⟨len, fun A outer s H args us vs Q E hr e0 hb r hsp => ?_⟩
  have hl := len _ _ _ _ hsp
  have KX : K.In s.heap := e0.mod.kin.keeps fun b o e => (e0.bs b o e).1
  have lim : s.heap.NoLimit := e0.mod.nolimit.keeps fun b o e => (e0.bs b o e).1
  have hkind : ∀ y ∈ ps.zip us, scope.names.lookup y.1 = some .local ∨ (scope.names.lookup y.1 = some .cell ∧ ((cellsFrom (s.heap.objs.size + 1) scope.names []).lookup y.1).isSome = true) := fun ⟨n, v⟩ hy => by
    rcases S.par n (List.of_mem_zip hy).1 with q | q
    · exact .inl q
    · exact .inr ⟨q, PySem.W.cellsFrom_some _ _ _ (.inl q)⟩
  refine codeAny_call_function hr.depth (KX _ _ lk) rfl S.co S.gen rfl (PySem.W.codeRec_of KX hcd) (hb _ _ _ _ ?_)
  refine wpAny_newFunctionEnv_cells S.kind hkind fun env he s1 x => ?_
  subst he
  refine ⟨lim.keeps x.toInCall.keep, codeAny_func ?_⟩
  obtain ⟨t, ht, hq⟩ := hbody A outer s H vs Q E (hr.deeper _) hsp
  have I : Inv (cxOf CX P w K mg base N qual scope f cdv A outer s H E) [] (start N vs) H s1 := inv_start S hr.hd e0 hl r x
  refine wpAny_mono (ht [] s1 (start N vs) H _ I hq) (fun fl s' hs => ?_) fun e s' hs => hs
  have fin : ∀ {σ' : St} {H' : Hp} {v : V} {u : Value}, Inv (cxOf CX P w K mg base N qual scope f cdv A outer s H E) [] σ' H' s' → RelV v u → Q v H' → CE outer P w H s Q u s' :=
    fun {σ' H' v u} J rv q => ⟨v, H', J.os, J.bare, J.base, J.hok, rv, q⟩
  cases fl with
  | ret u =>
    obtain ⟨v, σ', H', J, rv, q⟩ := hs
    exact fin J rv q
  | next =>
    obtain ⟨σ', H', J, q⟩ := hs
    exact fin (v := V.non) (u := Value.none) J rfl q
  | brk =>
    obtain ⟨_, _, _, q⟩ := hs
    exact False.elim q
  | cont =>
    obtain ⟨_, _, _, q⟩ := hs
    exact False.elim q
end L2

namespace L2
open PySem PySem.Spec PyProof.Rows
section
variable {X : Cx} {x : Str} {p pos : Pos} {e : Expr} {es : List Expr} {t : TA} {id T : String} {r : List V → Hp → VK → Prop}

def tCB (r : List V → Hp → VK → Prop) (t : TA) : TE := fun σ H Q => t σ H fun vs H1 => r vs H1 Q
/-- f(e, ..), f a built-in function -/
theorem pe_callB (hc : CallR X (.builtin id) r) (hg : Gl X x) (hm : X.mg x = none) (hv : bootBuiltins x = some (.builtin id)) (ha : PA X (e :: es) t) (hn : x ≠ "__name__" := by decide) (hdb : (x == ("__debug__" : Str)) = false := by decide)
    (he : starEach (e :: es) X.env = (false, eval e X.env) :: starEach es X.env := by rfl) (hpl : (backTo pos (starEach es X.env)).any (·.1) = false := by rfl) : PE X (.Call (.Name x p) (e :: es) [] pos) (tCB r t) := by
  intro pins s σ H Q I h
  refine wpAny_Call_Name_kw (ld_blt I hg hm hv ?_ hn hdb)
  exact PyProof.Rows.callWith_builtin1 (thn (ha pos pins s σ H _ I h) fun us s1 ⟨vs, H1, I1, r1, q1⟩ => hc pins s1 σ H1 vs us Q I1 r1 q1) he hpl
/-- T(e, ..), T a built-in type -/
theorem pe_callTy (hc : CallR X (.type T) r) (hg : Gl X x) (hm : X.mg x = none) (hv : bootBuiltins x = some (.type T)) (ha : PA X (e :: es) t) (hn : x ≠ "__name__" := by decide) (hdb : (x == ("__debug__" : Str)) = false := by decide)
    (he : starEach (e :: es) X.env = (false, eval e X.env) :: starEach es X.env := by rfl) (hpl : (backTo pos (starEach es X.env)).any (·.1) = false := by rfl) : PE X (.Call (.Name x p) (e :: es) [] pos) (tCB r t) := by
  intro pins s σ H Q I h
  refine wpAny_Call_Name_kw (ld_blt I hg hm hv ?_ hn hdb)
  exact PyProof.Rows.callWith_type1 (thn (ha pos pins s σ H _ I h) fun us s1 ⟨vs, H1, I1, r1, q1⟩ => hc pins s1 σ H1 vs us Q I1 r1 q1) he hpl
end
end L2

namespace HT
open PySem PyProof.Rows

section
open PySem.SeqAt
open PySem.AutoSeq1 (wpAny_loadPart')
open PySem.MeetsSeq PySem.MeetsSeq2 PySem.MeetsSeq3

end

section
variable {prog : Program} {w : World} {A : Around} {E : Value → Shared → Prop} {s : Shared}

/-- t + u, t not empty -/
theorem cat_tup {t b : Addr} {vs ws : List Value} {Q : Value → Shared → Prop} (ht : IsTup s.heap t vs.toArray) (hb : IsTup s.heap b ws.toArray) (hv : vs ≠ [])
    (h1 : ws = [] → Q (.ref t) s) (h2 : ws ≠ [] → Q (.ref s.heap.objs.size) { s with heap := s.heap.push { cls := .type "tuple", data := .seq (vs ++ ws).toArray } })
    (hsz : vs.length + ws.length ≤ sizeLine) : wpAny (model prog w) A (binaryOp .Add (.ref t) (.ref b)) Q E s := by
  obtain ⟨⟨cls, dd, data, sl⟩, ho, hc, n, hd⟩ := id ht
  obtain ⟨⟨cls2, dd2, data2, sl2⟩, ho2, hc2, n2, hd2⟩ := id hb
  simp only at hc hd hc2 hd2
  subst hc hd hc2 hd2
  have e : vs.toArray ++ ws.toArray = (vs ++ ws).toArray := by simp
  by_cases hw : ws = []
  · exact concat_meets ⟨_, ho, rfl⟩ ⟨_, ho2, rfl⟩ noFill_tuple_add seq_tuple_add PySem.F.slot_tuple_add PySem.F.entry_tuple_add (PySem.F.args_tuple_add_2 _ _)
      (tuple_addW1 t b vs.toArray ws.toArray n n2 dd dd2 sl sl2 (by simpa using hv) (by simp [hw])) ⟨ho, ho2, h1 hw⟩
  · refine concat_meets ⟨_, ho, rfl⟩ ⟨_, ho2, rfl⟩ noFill_tuple_add seq_tuple_add PySem.F.slot_tuple_add PySem.F.entry_tuple_add (PySem.F.args_tuple_add_2 _ _)
      (tuple_addW2 t b vs.toArray ws.toArray n n2 dd dd2 sl sl2 (by simpa using hv) (by simpa using hw) (by rw [List.size_toArray, List.size_toArray]; exact hsz)) ⟨ho, ho2, ?_⟩
    rw [e]
    exact h2 hw

/-! ### t[a:b], not the whole -/
/-- a slice's bound as a place among n (d where it is left out) -/
def sIx (n d : Nat) : Option Int → Nat
  | none => d
  | some v => if v < 0 then (v + (n : Int)).toNat else min v.toNat n
theorem sIx_none (n d : Nat) : sIx n d none = d := rfl
theorem sIx_nat (n d k : Nat) : sIx n d (some (k : Int)) = min k n := by
  show (if (k : Int) < 0 then ((k : Int) + (n : Int)).toNat else min (k : Int).toNat n) = min k n
  rw [if_neg (by omega), Int.toNat_natCast]
end
end HT

namespace L2
open PySem PySem.Spec PyProof.Rows

/-! ### the parts of a slice -/
abbrev TO := St → Hp → (Option Int → Hp → Prop) → Prop
/-- a slice's part (left out, or an int) -/
def PO (X : Cx) (e : Option Expr) (t : TO) : Prop :=
  ∀ (pins : List (Addr × Obj)) (s : Shared) (σ : St) (H : Hp) (Q : Option Int → Hp → Prop), Inv X pins σ H s → t σ H Q →
    wpAny (model X.prog X.w) X.A (evalPart e X.env) (fun u s' => ∃ o H', Inv X pins σ H' s' ∧ IsPart u o ∧ Q o H') X.xe s
def tNoPart : TO := fun _ H Q => Q none H
def tPart (t : TE) : TO := fun σ H Q => t σ H fun x H1 => ∃ i, x = .int i ∧ Q (some i) H1

theorem intsAre_of {ns : List Int} : ∀ {us : List Value}, Vals (ns.map V.int) us → IntsAre us ns := by
  induction ns with
  | nil => intro us r; rw [List.map_nil] at r; cases r; exact .nil
  | cons n ns ih =>
    intro us r
    rw [List.map_cons] at r
    cases r with
    | cons r1 r2 =>
      obtain ⟨t, e⟩ := r1
      subst e
      exact .cons n t (ih r2)

section
variable {X : Cx} {e : Expr} {te : TE} {lo hi : Option Expr} {tl th : TO} {pos p2 : Pos}

theorem po_none : PO X none tNoPart := by
  intro pins s σ H Q I h
  rw [evalPart_none]
  exact wpAny_pure ⟨none, H, I, .none, h⟩
theorem po_some (h : PE X e te) : PO X (some e) (tPart te) := by
  intro pins s σ H Q I hw
  rw [evalPart_some]
  refine thn (h pins s σ H _ I hw) fun u s1 ⟨x, H1, I1, r1, q1⟩ => ?_
  obtain ⟨i, rfl, q⟩ := q1
  obtain ⟨t, rfl⟩ := r1
  exact ⟨some i, H1, I1, .int i t, q⟩

/-- what a slice of a value is, by values: the slice object stands at sl -/
def SlR (X : Cx) (r : V → Option Int → Option Int → Hp → VK → Prop) : Prop :=
  ∀ (pins : List (Addr × Obj)) (s : Shared) (σ : St) (H : Hp) (x : V) (v vl vu : Value) (lo hi : Option Int) (sl : Addr) (Q : VK), Inv X pins σ H s → RelV x v → s.heap.IsSliceOf sl vl vu .none → IsPart vl lo → IsPart vu hi → r x lo hi H Q →
    ∃ T id, typeLookup (.type T) "__getitem__" = pure (some (.builtin id)) ∧ s.TypeIs v T ∧ wpAny (model X.prog X.w) X.A (getItem v (.ref sl)) (EP X pins σ Q) X.xe s
theorem SlR.or {r r' : V → Option Int → Option Int → Hp → VK → Prop} (h : SlR X r) (h' : SlR X r') : SlR X (fun x lo hi H Q => r x lo hi H Q ∨ r' x lo hi H Q) := by
  intro pins s σ H x v vl vu lo hi sl Q I rx hs pl pu q
  rcases q with q | q
  · exact h pins s σ H x v vl vu lo hi sl Q I rx hs pl pu q
  · exact h' pins s σ H x v vl vu lo hi sl Q I rx hs pl pu q
def tSl (r : V → Option Int → Option Int → Hp → VK → Prop) (te : TE) (tl th : TO) : TE := fun σ H Q => te σ H fun x H1 => tl σ H1 fun l H2 => th σ H2 fun u H3 => r x l u H3 Q
/-- a[lo:hi], any a -/
theorem pe_slice {r : V → Option Int → Option Int → Hp → VK → Prop} (hr : SlR X r) (he : PE X e te) (hl : PO X lo tl) (hu : PO X hi th) : PE X (.Subscript e (.Slice lo hi none p2) pos) (tSl r te tl th) := by
  intro pins s σ H Q I h
  refine Subscript_ (thn (he pins s σ H _ I h) fun v s1 ⟨x, H1, I1, r1, q1⟩ => ?_)
  refine wpAny_Slice (thn (hl pins s1 σ H1 _ I1 q1) fun vl s2 ⟨l, H2, I2, pl, q2⟩ => thn (hu pins s2 σ H2 _ I2 q2) fun vu s3 ⟨u, H3, I3, pu, q3⟩ => ?_)
  rw [evalPart_none]
  refine wpAny_pure ?_
  have I4 : Inv X pins σ H3 { s3 with heap := s3.heap.push { cls := .type "slice", data := .fields #[vl, vu, .none] } } := I3.kept (t' := s3.toks) fun b ob q => Heap.get?_push_of_some _ q
  obtain ⟨T, id, hT, ht, hg⟩ := hr pins { s3 with heap := s3.heap.push { cls := .type "slice", data := .fields #[vl, vu, .none] } } σ H3 x v vl vu l u s3.heap.objs.size Q I4 r1 (Heap.IsSliceOf.new ..) pl pu q3
  show wpAny (model X.prog X.w) X.A (subscriptTail e (.Slice lo hi none p2) v (.ref s3.heap.objs.size)) (EP X pins σ Q) X.xe { s3 with heap := s3.heap.push { cls := .type "slice", data := .fields #[vl, vu, .none] } }
  exact tail_any (ops := [.ref s3.heap.objs.size, v]) ht hT hg (by with_unfolding_all rfl)

/-- the items of xs[lo:hi] -/
def cutV (xs : List V) (lo hi : Option Int) : List V := (xs.drop (HT.sIx xs.length 0 lo)).take (HT.sIx xs.length xs.length hi - HT.sIx xs.length 0 lo)
theorem cutV_length (xs : List V) (lo hi : Option Int) : (cutV xs lo hi).length ≤ xs.length := by
  unfold cutV
  rw [List.length_take, List.length_drop]
  omega
/-- t + u, t not empty: u empty gives t itself -/
def rCatT (K : PySem.W.Frag) : R2 := fun x y H Q => ∃ a b xs ys, x = .ref a ∧ y = .ref b ∧ SqT K H a xs ∧ SqT K H b ys ∧ xs ≠ [] ∧ xs.length + ys.length ≤ sizeLine ∧
  (ys = [] → Q (.ref a) H) ∧ (ys ≠ [] → ∀ p, H p = none → Q (.ref p) (upd H p (.tup (xs ++ ys))))
theorem Vals.nil_iff {xs : List V} {us : List Value} (r : Vals xs us) : us = [] ↔ xs = [] := by
  cases r with
  | nil => simp
  | cons _ _ => simp
theorem op_catT : OpR X (binaryOp .Add) (rCatT X.K) := by
  intro pins s σ H x y v u Q I rx ry h
  obtain ⟨a, b, xs, ys, rfl, rfl, ha, hb, hx, hz, q1, q2⟩ := h
  cases rx
  cases ry
  obtain ⟨its, r1, p1, _⟩ := I.tuple ha
  obtain ⟨its2, r2, p2, _⟩ := I.tuple hb
  refine HT.cat_tup p1 p2 (fun z => hx (r1.nil_iff.mp z)) (fun z => ⟨.ref a, H, I, rfl, q1 (r2.nil_iff.mp z)⟩) (fun z => ?_) (by rw [← r1.length, ← r2.length]; exact hz)
  refine ⟨.ref s.heap.objs.size, _, I.laid (t' := s.toks) (o := .tup (xs ++ ys)) (fun b ob q => Heap.get?_push_of_some _ q) (Nat.le_refl _) ?_, rfl, q2 (fun w => z (r2.nil_iff.mpr w)) _ (I.hok.fresh (Nat.le_refl _))⟩
  exact ⟨by rw [List.length_append]; exact hz, _, r1.append r2, IsTup.new _ _⟩
end
end L2

namespace L2
open PySem PySem.Spec PyProof.Rows

/-! ### places -/
/-- the place that an index of any sign means -/
def ixN (n : Nat) (i : Int) : Option Nat := if 0 ≤ i then (if i < n then some i.toNat else none) else if -(n : Int) ≤ i then some (i + n).toNat else none
def atI {α : Type} (xs : List α) (i : Int) : Option α := (ixN xs.length i).bind fun j => xs[j]?
theorem ixN_seq {n : Nat} {i : Int} {j : Nat} (h : ixN n i = some j) : seqIndex? i n = some j ∧ j < n ∧ -(n : Int) ≤ i ∧ i < n := by
  unfold ixN at h
  by_cases h0 : 0 ≤ i
  · rw [if_pos h0] at h
    by_cases h1 : i < n
    · rw [if_pos h1] at h
      have e : i.toNat = j := Option.some.inj h
      exact ⟨by rw [seqIndex_of h0 h1, e], by omega, by omega, h1⟩
    · rw [if_neg h1] at h; cases h
  · rw [if_neg h0] at h
    by_cases h1 : -(n : Int) ≤ i
    · rw [if_pos h1] at h
      have e : (i + n).toNat = j := Option.some.inj h
      exact ⟨by rw [seqIndex_neg (by omega) h1, e], by omega, h1, by omega⟩
    · rw [if_neg h1] at h; cases h
theorem atI_get {α : Type} {xs : List α} {i : Int} {v : α} (h : atI xs i = some v) : ∃ j, seqIndex? i xs.length = some j ∧ xs[j]? = some v ∧ j < xs.length ∧ -(xs.length : Int) ≤ i ∧ i < xs.length := by
  unfold atI at h
  cases e : ixN xs.length i with
  | none => rw [e] at h; cases h
  | some j =>
    rw [e] at h
    obtain ⟨h1, h2, h3, h4⟩ := ixN_seq e
    exact ⟨j, h1, h, h2, h3, h4⟩
theorem atI_nat {α : Type} {xs : List α} {j : Nat} {v : α} (h : xs[j]? = some v) : atI xs (j : Int) = some v := by
  have hj : j < xs.length := (List.getElem?_eq_some_iff.mp h).1
  have e : ixN xs.length (j : Int) = some j := by
    unfold ixN
    rw [if_pos (by omega), if_pos (by omega)]; simp
  unfold atI; rw [e]; exact h
/-! ### what may be subscripted -/
/-- what stands as an index of a plain subscript -/
def PlainIx (b : Expr) : Prop := ∀ o i, subscripted b false o i = operate [o, i] (getItem o i)
/-- a subscript by values -/
def IxR (X : Cx) (r : R2) : Prop :=
  ∀ (value slice : Expr) (pins : List (Addr × Obj)) (s : Shared) (σ : St) (H : Hp) (x y : V) (v u : Value) (Q : VK), Inv X pins σ H s → RelV x v → RelV y u → r x y H Q →
    subscripted slice false v u = operate [v, u] (getItem v u) → wpAny (model X.prog X.w) X.A (subscriptTail value slice v u) (EP X pins σ Q) X.xe s
/-- a call of a builtin's method by values: the receiver, the arguments -/
def MtR (X : Cx) (id : String) (r : V → List V → Hp → VK → Prop) : Prop :=
  ∀ (pins : List (Addr × Obj)) (s : Shared) (σ : St) (H : Hp) (x : V) (xs : List V) (v : Value) (us : List Value) (Q : VK), Inv X pins σ H s → RelV x v → Vals xs us → r x xs H Q →
    wpAny (model X.prog X.w) X.A (call (.builtin id) (v :: us)) (EP X pins σ Q) X.xe s
section
variable {X : Cx} {a b : Expr} {ta tb : TE} {pos : Pos}
theorem IxR.or {r r' : R2} (h : IxR X r) (h' : IxR X r') : IxR X (fun x y H Q => r x y H Q ∨ r' x y H Q) := by
  intro value slice pins s σ H x y v u Q I rx ry q hs
  rcases q with q | q
  · exact h value slice pins s σ H x y v u Q I rx ry q hs
  · exact h' value slice pins s σ H x y v u Q I rx ry q hs
theorem MtR.or {id : String} {r r' : V → List V → Hp → VK → Prop} (h : MtR X id r) (h' : MtR X id r') : MtR X id (fun x xs H Q => r x xs H Q ∨ r' x xs H Q) := by
  intro pins s σ H x xs v us Q I rx rs q
  rcases q with q | q
  · exact h pins s σ H x xs v us Q I rx rs q
  · exact h' pins s σ H x xs v us Q I rx rs q
/-- a[b] -/
theorem pe_ix {r : R2} (hr : IxR X r) (ha : PE X a ta) (hb : PE X b tb) (hs : PlainIx b) : PE X (.Subscript a b pos) (tOp r ta tb) := by
  intro pins s σ H Q I h
  exact Subscript_ (binT ha hb I h fun v u s2 x y H2 I2 rx ry q => hr a b pins s2 σ H2 x y v u Q I2 rx ry q (hs _ _))

def rIxL (K : PySem.W.Frag) : R2 := fun x y H Q => ∃ p xs i v, x = .ref p ∧ y = .int i ∧ SqL K H p xs ∧ atI xs i = some v ∧ Q v H
def rIxT (K : PySem.W.Frag) : R2 := fun x y H Q => ∃ p xs i v, x = .ref p ∧ y = .int i ∧ SqT K H p xs ∧ atI xs i = some v ∧ Q v H
def rIxS : R2 := fun x y H Q => ∃ z i c, x = .str z ∧ y = .int i ∧ z.length ≤ sizeLine ∧ atI z.cps.toList i = some c ∧ Q (.str ⟨#[c]⟩) H
theorem ix_list : IxR X (rIxL X.K) := by
  intro value slice pins s σ H x y v u Q I rx ry h hs
  obtain ⟨p, xs, i, z, rfl, rfl, hq, he, q⟩ := h
  cases rx
  obtain ⟨t, rfl⟩ := ry
  obtain ⟨its, r, pl, hz⟩ := I.list hq
  obtain ⟨j, h1, h2, h3, h4, h5⟩ := atI_get he
  obtain ⟨w, ew, rw'⟩ := r.get h2
  have hl := r.length
  have hn := line63
  have fin : EP X pins σ Q w s := ⟨z, H, I, rw', q⟩
  by_cases h0 : 0 ≤ i
  · have hj : i.toNat = j := by
      rw [seqIndex_of h0 h5] at h1
      exact Option.some.inj h1
    exact item_listR pl.isList h0 (by omega) (by rw [hj]; simpa using ew) fin hs
  · have hj : (i + (its.toArray.size : Int)).toNat = j := by
      rw [seqIndex_neg (by omega) h4] at h1
      rw [List.size_toArray, ← hl]
      exact Option.some.inj h1
    exact subscriptTail_builtinR (x := w) pl.isList.typeIs slot_list_getitem.lookup
      (wpAny_getItem_list_neg (Q := fun r s' => r = w ∧ EP X pins σ Q r s') pl.isList (by omega) (by rw [List.size_toArray] <;> omega) (by omega) (by rw [hj]; simpa using ew) ⟨rfl, fin⟩) hs
theorem ix_tup : IxR X (rIxT X.K) := by
  intro value slice pins s σ H x y v u Q I rx ry h hs
  obtain ⟨p, xs, i, z, rfl, rfl, hq, he, q⟩ := h
  cases rx
  obtain ⟨t, rfl⟩ := ry
  obtain ⟨its, r, pl, hz⟩ := I.tuple hq
  obtain ⟨j, h1, h2, h3, h4, h5⟩ := atI_get he
  obtain ⟨w, ew, rw'⟩ := r.get h2
  have hl := r.length
  have hn := line63
  have fin : EP X pins σ Q w s := ⟨z, H, I, rw', q⟩
  exact subscriptTail_builtinR (x := w) pl.typeIs slot_tuple_getitem.lookup
    (getItem_tuple (j := j) (Q := fun r s' => r = w ∧ EP X pins σ Q r s') pl (by omega) (by omega) (by rw [List.size_toArray, ← hl]; exact h1) (by simpa using ew) ⟨rfl, fin⟩) hs
theorem ix_str : IxR X rIxS := by
  intro value slice pins s σ H x y v u Q I rx ry h hs
  obtain ⟨z, i, c, rfl, rfl, hz, he, q⟩ := h
  obtain ⟨t, rfl⟩ := rx
  obtain ⟨t', rfl⟩ := ry
  obtain ⟨j, h1, h2, h3, h4, h5⟩ := atI_get he
  have hl : z.cps.toList.length = z.length := by simp [Str.length]
  rw [hl] at h1 h4 h5
  have hn := line63
  exact tail_any (typeIs_str s z t) slot_str_getitem.lookup (getItem_str (c := c) (by
    have e1 : decide (i < -(2 ^ 63 : Int)) = false := decide_eq_false (by omega)
    have e2 : decide (i ≥ 2 ^ 63) = false := decide_eq_false (by omega)
    rw [e1, e2, Bool.or_false]) (by rw [h1]; simpa using h2) ⟨.str ⟨#[c]⟩, H, I.tok _, ⟨_, rfl⟩, q⟩) hs
/-- list, tuple or str -/
def rIx (K : PySem.W.Frag) : R2 := fun x y H Q => rIxL K x y H Q ∨ rIxT K x y H Q ∨ rIxS x y H Q
theorem ix_seq : IxR X (rIx X.K) := ix_list.or (ix_tup.or ix_str)

/-! ### xs[i] = v, any sign -/
/-- the list's object behind a store -/
theorem mapSeq_set (its : List Value) (n j : Nat) (u : Value) : Obj.mapSeq (·.setIfInBounds j u) { cls := .type "list", data := .seq its.toArray n } = { cls := .type "list", data := .seq (its.set j u).toArray n } := by
  simp [Obj.mapSeq]
theorem Inv.lst {pins : List (Addr × Obj)} {σ : St} {H : Hp} {s : Shared} {p : Addr} {xs : List V} (I : Inv X pins σ H s) (h : H p = some (.lst xs)) :
    ∃ (its : List Value) (n : Nat), Vals xs its ∧ s.heap.get? p = some { cls := .type "list", data := .seq its.toArray n } ∧ xs.length ≤ sizeLine := by
  obtain ⟨z, its, n, r, e⟩ := I.hok p _ h
  exact ⟨its, n, r, e, z⟩
/-- the list at p is written by an update of its object -/
theorem Inv.lstUpd {pins : List (Addr × Obj)} {σ : St} {H : Hp} {s : Shared} {p : Addr} {xs ys : List V} {its its' : List Value} {n n' : Nat} {f : Obj → Obj} (I : Inv X pins σ H s) (h : H p = some (.lst xs))
    (ho : s.heap.get? p = some { cls := .type "list", data := .seq its.toArray n }) (hf : f { cls := .type "list", data := .seq its.toArray n } = { cls := .type "list", data := .seq its'.toArray n' }) (r : Vals ys its') (hz : ys.length ≤ sizeLine) (t : Nat) :
    Inv X pins σ (upd H p (.lst ys)) { s with heap := s.heap.update p f, toks := t } := by
  have e : (s.heap.update p f).get? p = some { cls := .type "list", data := .seq its'.toArray n' } := by
    rw [Heap.get?_update_self f ho (by rw [hf] <;> rfl), hf]
  refine I.write (x := p) (e := p) (by rw [h]; trivial) (.inl rfl) (fun b u hb q => (Heap.get?_update_other _ _ (Ne.symm hb)).trans q) ⟨_, e⟩ ?_
  exact ⟨hz, its', n', r, e⟩
def rSetL : V → V → V → Hp → (Hp → Prop) → Prop := fun o i v H Q => ∃ p xs k j, o = .ref p ∧ i = .int k ∧ H p = some (.lst xs) ∧ ixN xs.length k = some j ∧ Q (upd H p (.lst (xs.set j v)))
theorem set_list : PSet X rSetL := by
  intro pins s σ H o i v ov iv u Q I ro ri rv h
  obtain ⟨p, xs, k, j, rfl, rfl, hp, hj, q⟩ := h
  cases ro
  obtain ⟨t, rfl⟩ := ri
  obtain ⟨its, n, r, ho, hz⟩ := I.lst hp
  obtain ⟨h1, h2, h3, h4⟩ := ixN_seq hj
  have hl := r.length
  have hn := line63
  have I' : Inv X pins σ (upd H p (.lst (xs.set j v))) { s with heap := s.heap.update p (Obj.mapSeq (·.setIfInBounds j u)) } :=
    I.lstUpd hp ho (mapSeq_set its n j u) (r.set rv j) (by rw [List.length_set]; exact hz) s.toks
  by_cases h0 : 0 ≤ k
  · have hk : k.toNat = j := by
      rw [seqIndex_of h0 h4] at h1
      exact Option.some.inj h1
    exact PySem.W.ki_setAt ho h0 (by omega) (by rw [List.size_toArray, ← hl]; exact h4) (by rw [hk]; exact ⟨_, I', q⟩)
  · have hk : (k + (its.toArray.size : Int)).toNat = j := by
      rw [seqIndex_neg (by omega) h3] at h1
      rw [List.size_toArray, ← hl]
      exact Option.some.inj h1
    exact PySem.W.ki_setBack ho (by omega) (by rw [List.size_toArray, ← hl]; exact h3) (by omega) (by rw [hk]; exact ⟨_, I', q⟩)

/-! ### slices -/
theorem slice_bounds (lo hi : Option Int) (n : Nat) : (sliceBounds lo hi none n).1 = ((HT.sIx n 0 lo : Nat) : Int) ∧ (sliceBounds lo hi none n).2.1 = ((HT.sIx n n hi : Nat) : Int) ∧ (sliceBounds lo hi none n).2.2 = 1 := by
  refine ⟨?_, ?_, rfl⟩
  · cases lo with
    | none => simp [sliceBounds, HT.sIx]
    | some i =>
      simp only [sliceBounds, HT.sIx, Option.getD_none, show (1 : Int) > 0 by decide, if_true]
      by_cases h : i < 0
      · simp only [h, if_true] <;> omega
      · simp only [h, if_false] <;> omega
  · cases hi with
    | none => simp [sliceBounds, HT.sIx]
    | some i =>
      simp only [sliceBounds, HT.sIx, Option.getD_none, show (1 : Int) > 0 by decide, if_true]
      by_cases h : i < 0
      · simp only [h, if_true] <;> omega
      · simp only [h, if_false] <;> omega
theorem slicePick_cut (its : List Value) (lo hi : Option Int) : slicePick its.toArray lo hi none = ((its.drop (HT.sIx its.length 0 lo)).take (HT.sIx its.length its.length hi - HT.sIx its.length 0 lo)).toArray := by
  obtain ⟨h1, h2, h3⟩ := slice_bounds lo hi its.toArray.size
  unfold slicePick
  rw [h1, h2, h3]
  simp only [sliceRange_one, pick_run, List.size_toArray] <;> rfl
/-- xs[lo:hi] of a list: a new list -/
def rSlL (K : PySem.W.Frag) : V → Option Int → Option Int → Hp → VK → Prop := fun x lo hi H Q => ∃ a xs, x = .ref a ∧ SqL K H a xs ∧ ∀ p, H p = none → Q (.ref p) (upd H p (.lst (cutV xs lo hi)))
theorem sl_list : SlR X (rSlL X.K) := by
  intro pins s σ H x v vl vu lo hi sl Q I rx hs pl pu h
  obtain ⟨a, xs, rfl, hx, q⟩ := h
  cases rx
  obtain ⟨its, r, ht, hz⟩ := I.list hx
  have hlen := r.length
  refine ⟨"list", _, slot_list_getitem.lookup, ht.isList.typeIs, ?_⟩
  refine wpAny_getItem_list_slice ht.isList hs pl pu .none (by simp) ?_ (by rw [List.size_toArray] <;> omega)
  rw [slicePick_cut, ← hlen]
  refine ⟨.ref s.heap.objs.size, _, I.laid (t' := s.toks) (o := .lst (cutV xs lo hi)) (fun b ob q => Heap.get?_push_of_some _ q) (Nat.le_refl _) ?_, rfl, q _ (I.hok.fresh (Nat.le_refl _))⟩
  exact ⟨Nat.le_trans (cutV_length xs lo hi) hz, _, 0, (r.drop (HT.sIx xs.length 0 lo)).take (HT.sIx xs.length xs.length hi - HT.sIx xs.length 0 lo), Heap.get?_push_size _ rfl⟩

/-! ### len, list(x), tuple(x) of any list or tuple that is read -/
theorem call_len_seq : CallR X (.builtin "len") (fun xs H Q => ∃ p ys, xs = [.ref p] ∧ (SqL X.K H p ys ∨ SqT X.K H p ys) ∧ Q (.int ys.length) H) := by
  intro pins s σ H xs us Q I r h
  obtain ⟨p, ys, rfl, hq, q⟩ := h
  obtain ⟨u, rfl, rx⟩ := vals1 r
  cases rx
  have hn := line63
  rcases hq with hq | hq
  · obtain ⟨its, r', pl, hz⟩ := I.list hq
    have hlen := r'.length
    exact Calls.call_len_list pl.isList (by simp only [List.size_toArray] <;> omega) ⟨.int ys.length, H, I.tok _, ⟨s.toks + 1, by rw [List.size_toArray, hlen]⟩, q⟩
  · obtain ⟨its, r', pl, hz⟩ := I.tuple hq
    have hlen := r'.length
    exact len_tuple pl (by simp only [List.size_toArray] <;> omega) ⟨.int ys.length, H, I.tok _, ⟨s.toks + 1, by rw [List.size_toArray, hlen]⟩, q⟩
theorem CallR.or {f : Value} {r r' : List V → Hp → VK → Prop} (h : CallR X f r) (h' : CallR X f r') : CallR X f (fun xs H Q => r xs H Q ∨ r' xs H Q) := by
  intro pins s σ H xs us Q I rs q
  rcases q with q | q
  · exact h pins s σ H xs us Q I rs q
  · exact h' pins s σ H xs us Q I rs q
theorem call_list_of : CallR X (.type "list") (fun xs H Q => ∃ p ys, xs = [.ref p] ∧ (SqL X.K H p ys ∨ SqT X.K H p ys) ∧ ∀ l, H l = none → Q (.ref l) (upd H l (.lst ys))) := by
  intro pins s σ H xs us Q I r h
  obtain ⟨p, ys, rfl, hq, q⟩ := h
  obtain ⟨u, rfl, rx⟩ := vals1 r
  cases rx
  have fin : ∀ (its : List Value), Vals ys its → ys.length ≤ sizeLine → ∀ (h' : Heap) (c' : Nat), (∀ b o', s.heap.get? b = some o' → h'.get? b = some o') →
      h'.get? s.heap.objs.size = some { cls := .type "list", dict := none, data := .seq its.toArray c', slots := #[] } → EP X pins σ Q (.ref s.heap.objs.size) { s with heap := h' } := fun its r' hz h' c' kp e =>
    ⟨.ref s.heap.objs.size, _, I.laid (t' := s.toks) kp (Nat.le_refl _) (show ObjOk X.prog X.w _ h' _ (.lst ys) from ⟨hz, its, c', r', e⟩), rfl, q _ (I.hok.fresh (Nat.le_refl _))⟩
  rcases hq with hq | hq
  · obtain ⟨its, r', pl, hz⟩ := I.list hq
    have hlen := r'.length
    obtain ⟨o, ho, hc, n, hd⟩ := pl.isList
    exact call_list_seq p (.inl rfl) ho hc hd (fun h' c' kp e => fin its r' hz h' c' kp e) (by simp only [List.size_toArray] <;> omega)
  · obtain ⟨its, r', pl, hz⟩ := I.tuple hq
    have hlen := r'.length
    obtain ⟨o, ho, hc, n, hd⟩ := pl
    exact call_list_seq p (.inr rfl) ho hc hd (fun h' c' kp e => fin its r' hz h' c' kp e) (by simp only [List.size_toArray] <;> omega)
theorem call_tuple_of : CallR X (.type "tuple") (fun xs H Q => ∃ p ys, xs = [.ref p] ∧ ((SqL X.K H p ys ∧ ∀ l, H l = none → Q (.ref l) (upd H l (.tup ys))) ∨ (SqT X.K H p ys ∧ Q (.ref p) H))) := by
  intro pins s σ H xs us Q I r h
  obtain ⟨p, ys, rfl, h⟩ := h
  obtain ⟨u, rfl, rx⟩ := vals1 r
  cases rx
  rcases h with ⟨hq, q⟩ | ⟨hq, q⟩
  · obtain ⟨its, r', pl, hz⟩ := I.list hq
    have hlen := r'.length
    refine call_tuple_list pl.isList (fun h' kp => ?_) (by simp only [List.size_toArray] <;> omega)
    have I1 : Inv X pins σ H { s with heap := h' } := I.kept (t' := s.toks) kp
    have I2 : Inv X pins σ (upd H h'.objs.size (.tup ys)) { s with heap := h'.push { cls := .type "tuple", data := .seq its.toArray } } :=
      I1.laid (t' := s.toks) (fun b o e => Heap.get?_push_of_some _ e) (Nat.le_refl _) (show ObjOk X.prog X.w _ _ _ (.tup ys) from ⟨hz, its, r', IsTup.new _ _⟩)
    exact ⟨.ref h'.objs.size, _, I2, rfl, q _ (I1.hok.fresh (Nat.le_refl _))⟩
  · obtain ⟨its, r', pl, hz⟩ := I.tuple hq
    exact call_tuple_same pl ⟨.ref p, H, I, rfl, q⟩

/-! ### the call of a builtin's method: o.m(..) -/
/-- the value is of that builtin type -/
def tyV (K : PySem.W.Frag) (T : String) (x : V) (H : Hp) : Prop := match x with
  | .str _ => T = "str"
  | .int _ => T = "int"
  | .ref p => (T = "list" ∧ ∃ xs, SqL K H p xs) ∨ (T = "tuple" ∧ ∃ o, K.lookup p = some o ∧ o.cls = .type "tuple" ∧ o.dict = none) ∨
      (T = "dict" ∧ ((∃ kvs, H p = some (.dK kvs)) ∨ ∃ kvs, H p = some (.dT kvs))) ∨ (T = "set" ∧ ∃ S n, H p = some (.set S n))
  | _ => False
theorem tyV_is {pins : List (Addr × Obj)} {σ : St} {H : Hp} {s : Shared} {T : String} {x : V} {v : Value} (I : Inv X pins σ H s) (r : RelV x v) (ty : tyV X.K T x H) :
    s.TypeIs v T ∧ ∀ a, v = .ref a → ∃ ob, s.heap.get? a = some ob ∧ ob.dict = none := by
  cases x with
  | str z =>
    obtain ⟨t, rfl⟩ := r
    cases (show T = "str" from ty)
    exact ⟨typeIs_str s z t, fun _ e => nomatch e⟩
  | int i =>
    obtain ⟨t, rfl⟩ := r
    cases (show T = "int" from ty)
    exact ⟨typeIs_int s i t, fun _ e => nomatch e⟩
  | ref p =>
    cases r
    rcases ty with ⟨rfl, xs, hq⟩ | ⟨rfl, o, hk, hc, hd⟩ | ⟨rfl, hk⟩ | ⟨rfl, S, n, hk⟩
    · obtain ⟨its, _, pl, _⟩ := I.list hq
      refine ⟨pl.isList.typeIs, fun a e => ?_⟩
      cases e
      obtain ⟨o, n, e, c, hd, _⟩ := pl
      exact ⟨o, e, hd⟩
    · refine ⟨⟨o, I.kIn p o hk, hc⟩, fun a e => ?_⟩
      cases e
      exact ⟨o, I.kIn _ o hk, hd⟩
    · have z : ∃ o, s.heap.get? p = some o ∧ o.ExactDict := by
        rcases hk with ⟨kvs, hk⟩ | ⟨kvs, hk⟩
        · obtain ⟨_, _, _, _, o, _, _, e, ex, _⟩ := I.hok p _ hk
          exact ⟨o, e, ex⟩
        · obtain ⟨_, _, _, _, o, _, _, e, ex, _⟩ := I.hok p _ hk
          exact ⟨o, e, ex⟩
      obtain ⟨o, e, ex⟩ := z
      refine ⟨⟨o, e, ex.1⟩, fun a e2 => ?_⟩
      cases e2
      exact ⟨o, e, ex.2.1⟩
    · obtain ⟨o, _, _, _, e, ex, _⟩ := I.hok p _ hk
      refine ⟨⟨o, e, ex.1⟩, fun a e2 => ?_⟩
      cases e2
      exact ⟨o, e, ex.2.1⟩
  | _ => exact False.elim ty
def tBM (K : PySem.W.Frag) (T : String) (r : V → List V → Hp → VK → Prop) (to : TE) (t : TA) : TE := fun σ H Q => to σ H fun x H1 => tyV K T x H1 ∧ t σ H1 fun xs H2 => r x xs H2 Q
variable {o e : Expr} {es : List Expr} {to : TE} {t : TA} {name : Str} {apos cpos : Pos} {T id : String} {r : V → List V → Hp → VK → Prop}
theorem pe_bm (pa : PlainAttrs T) (slot : Slot T name id) (hty : typeOf (.builtin id) = pure (.type "method_descriptor")) (hm : MtR X id r) (ho : PE X o to) (ha : PA X (e :: es) t)
    (hbase : attributeBase o name X.env (eval o X.env) = eval o X.env := by rfl)
    (hfew : ((backTo cpos (starEach (e :: es) X.env)).all (fun x => !x.1) && (backToKw cpos (keywordEach [] X.env)).all (fun x => x.1.isSome)
      && decide ((e :: es).length + ([] : List Keyword).length + (if ([] : List Keyword).isEmpty then 0 else 1) < 30)) = true := by rfl)
    (hline : (apos.endLine == cpos.line) = true := by rfl) (hs : starEach (e :: es) X.env = (false, eval e X.env) :: starEach es X.env := by rfl) (hplain : (backTo cpos (starEach es X.env)).any (·.1) = false := by rfl) :
    PE X (.Call (.Attribute o name apos) (e :: es) [] cpos) (tBM X.K T r to t) := by
  intro pins s σ H Q I h
  refine wpAny_Call_method_late hbase hfew hline rfl (thn (ho pins s σ H _ I h) fun v s1 ⟨x, H1, I1, r1, ty, q1⟩ => ?_)
  obtain ⟨h1, h2⟩ := tyV_is I1 r1 ty
  refine ⟨T, id, pa, slot, hty, h1, h2, ?_⟩
  have hA := ha cpos pins s1 σ H1 _ I1 q1
  rw [hs] at hA ⊢
  refine Calls.callWith_builtin (by show (false || (backTo cpos (starEach es X.env)).any (·.1)) = false; rw [hplain] <;> rfl) (Calls.evalArgs_plain ?_)
  exact thn hA fun us s2 ⟨vs, H2, I2, r2, q2⟩ => hm pins s2 σ H2 x vs v us Q I2 r1 r2 q2
/- xs.append(e), list.index on a module's tuple .. are MtR facts of 06m -/
end
end L2

namespace L2
open PySem PySem.Spec PyProof.Rows

def MtM (X : Cx) (id : String) (r : V → List V → Hp → VK → Prop) : Prop :=
  ∀ (pins : List (Addr × Obj)) (s : Shared) (σ : St) (H : Hp) (x : V) (xs : List V) (v : Value) (us : List Value) (Q : VK), Inv X pins σ H s → RelV x v → Vals xs us → r x xs H Q →
    wpAny (model X.prog X.w) X.A (call (.builtin id) (v :: us)) (EP X pins σ Q) X.xe s

/-! ### lists of values -/
theorem Vals.one : ∀ {x : V} {us : List Value}, Vals [x] us → ∃ u, us = [u] ∧ RelV x u
  | _, _, .cons r .nil => ⟨_, rfl, r⟩
theorem Vals.two : ∀ {x y : V} {us : List Value}, Vals [x, y] us → ∃ u v, us = [u, v] ∧ RelV x u ∧ RelV y v
  | _, _, _, .cons r (.cons q .nil) => ⟨_, _, rfl, r, q⟩
theorem Vals.zero : ∀ {us : List Value}, Vals [] us → us = []
  | _, .nil => rfl
theorem Vals.dropLast {xs : List V} {us : List Value} (h : Vals xs us) : Vals xs.dropLast us.dropLast := by
  induction h with
  | nil => exact .nil
  | cons r t ih =>
    cases t with
    | nil => exact .nil
    | cons q t' => exact .cons r ih
theorem Vals.reverse {xs : List V} {us : List Value} (h : Vals xs us) : Vals xs.reverse us.reverse := by
  induction h with
  | nil => exact .nil
  | cons r t ih => rw [List.reverse_cons, List.reverse_cons]; exact Vals.append ih (.cons r .nil)
section
variable {X : Cx} {pins : List (Addr × Obj)} {σ : St} {H : Hp} {s : Shared} {l b : Addr} {xs ys zs : List V}

/-! ### the two steps: a tracked list is rewritten, a new list is laid -/
theorem Inv.lset {its its' : List Value} {n : Nat} {f : Array Value → Array Value} {t' : Nat} (I : Inv X pins σ H s) (hH : H l = some (.lst xs))
    (e : s.heap.get? l = some { cls := .type "list", data := .seq its.toArray n }) (hf : f its.toArray = its'.toArray) (hv : Vals ys its') (hz : ys.length ≤ sizeLine) :
    Inv X pins σ (upd H l (.lst ys)) { s with heap := s.heap.update l (Obj.mapSeq f), toks := t' } := by
  have q := PySem.IsL.update e f
  rw [hf] at q
  refine I.write (x := l) (e := l) (by rw [hH]; exact trivial) (.inl rfl) (fun b' u hb hu => (Heap.get?_update_other s.heap (Obj.mapSeq f) (Ne.symm hb)).trans hu) ⟨_, q⟩ ?_
  exact ⟨hz, its', _, hv, q⟩
theorem Inv.lnew {its : List Value} {t' : Nat} (I : Inv X pins σ H s) (hv : Vals ys its) (hz : ys.length ≤ sizeLine) :
    Inv X pins σ (upd H s.heap.objs.size (.lst ys)) { s with heap := s.heap.push { cls := .type "list", data := .seq its.toArray }, toks := t' } :=
  I.laid (fun _ _ q => Heap.get?_push_of_some _ q) (Nat.le_refl _) ⟨hz, its, 0, hv, Heap.get?_push_size _ rfl⟩
theorem Inv.fresh (I : Inv X pins σ H s) : H s.heap.objs.size = none := I.hok.fresh (Nat.le_refl _)
theorem Inv.lstM (I : Inv X pins σ H s) (hH : H l = some (.lst xs)) : xs.length ≤ sizeLine ∧ ∃ (its : List Value) (n : Nat), Vals xs its ∧ xs.length = its.length ∧ s.heap.get? l = some { cls := .type "list", data := .seq its.toArray n } := by
  obtain ⟨z, its, n, r, e⟩ := I.hok l _ hH
  exact ⟨z, its, n, r, r.length, e⟩

end

section
variable {X : Cx}

/-! ### methods -/
def rAppend : V → List V → Hp → VK → Prop := fun x vs H Q => ∃ l xs y, x = .ref l ∧ vs = [y] ∧ H l = some (.lst xs) ∧ xs.length < sizeLine ∧ Q .non (upd H l (.lst (xs ++ [y])))
theorem mt_append : MtM X "list.append" rAppend := by
  intro pins s σ H x vs v us Q I rx rv h
  obtain ⟨l, xs, y, rfl, rfl, hH, hz, q⟩ := h
  cases rx
  obtain ⟨u, rfl, ru⟩ := rv.one
  obtain ⟨z, its, n, r, hl, e⟩ := I.lstM hH
  refine call_meets F.slot_list_append ⟨_, e, rfl⟩ F.entry_list_append (F.args_list_append_2 _ _) (PySem.list_append l its.toArray n u (by rw [List.size_toArray]; omega)) ⟨e, ?_⟩
  refine ⟨.non, _, I.lset (its' := its ++ [u]) hH e (by simp) (r.append (.cons ru .nil)) ?_, rfl, q⟩
  rw [List.length_append, List.length_singleton]
  omega

end

/-! ### xs[a:b] = ys -/
section
variable {prog : Program} {w : World} {A : Around} {E : Value → Shared → Prop} {s : Shared}
end

section
variable {X : Cx}
end
end L2

namespace Att
open PySem PySem.W PySem.Calls PyProof.Rows

/-! ### the script -/
theorem ints_of_wellAll {P : Params} {h : Heap} : ∀ (ns : List Int) (vs : List Value), WellAll P h vs (ns.map WData.int) → IntsAre vs ns := by
  intro ns
  induction ns with
  | nil =>
    intro vs w
    rw [List.map_nil] at w
    cases w
    exact .nil
  | cons n ns ih =>
    intro vs w
    rw [List.map_cons] at w
    cases w with
    | cons a b =>
      cases a
      exact .cons _ _ (ih _ b)

theorem script_of {l : OpenLaw} {n : Nat} (hn : l.most = some n) {P : Params} {h : Heap} {args : List WData} {vals : List Value}
    (hpre : l.row.toRowW.claim.pre args = true) (hwl : WellAll P h vals args) :
    ∃ a vs ns, vals = [Value.ref a] ∧ args = [WData.list (ns.map WData.int)] ∧ h.get? a = some { cls := .type "list", data := .seq vs.toArray } ∧ IntsAre vs ns ∧ ns.length ≤ n := by
  have hsh : WShape.hasAll [] args [.list .int] = true := (pre_splitW hpre).1
  have hc : l.pre.holds [] { args := args } = true := (pre_splitW hpre).2
  obtain ⟨d, r, rfl, h1, h2⟩ := hasAllW_cons hsh
  obtain rfl := hasAllW_nil h2
  obtain ⟨xs, rfl, h3⟩ := hasW_list h1
  obtain ⟨ns, rfl⟩ := items_int h3
  have hlen : ns.length ≤ n := by
    unfold OpenLaw.pre at hc
    have h4 : (WTm.not (.lt (.lit (.int (n : Int))) (.len (.arg 0)))).holds [] { args := [.list (ns.map .int)] } = true := by
      have h4 := (holds_andW hc).1
      rw [hn] at h4
      exact h4
    have h5 := condW_of h4 (w_not (w_lt w_lit (w_len_list (w_arg rfl))))
    rw [List.length_map] at h5
    refine Nat.le_of_not_lt fun q => ?_
    have q' : (n : Int) < ((ns.length : Nat) : Int) := by omega
    first
      | (rw [decide_eq_true q'] at h5; exact absurd h5 (by decide))
      | (simp at h5; omega)
  cases hwl with
  | cons w1 w2 =>
    cases w2
    cases w1 with
    | list ho hall => exact ⟨_, _, ns, rfl, rfl, ho, ints_of_wellAll ns _ hall, hlen⟩

theorem post_true (l : OpenLaw) (args : List WData) : l.row.toRowW.claim.post args (.bool true) args = true :=
  postW_of (r := l.row.toRowW) (X := (true == true))
    (show WShape.has [] (.bool true) .bool = true by first | rfl | decide | simp [WShape.has, WShape.arms, WShape.armsAll])
    (show (WTm.eq .res (.lit (.bool true))).value [] { args := args, res := some (.bool true), after := args } = some (.bool (true == true)) from w_eq_bool (w_res rfl) w_lit) rfl

/-- the same from a codeAny of the CALL (for a layer whose function contracts speak of calls) -/
theorem attach_call {l : OpenLaw} {n : Nat} {q : Program} {loose : List Str} {XP : (Str → Option Value) → Heap → Prop} {YP : World → Heap → Prop} {d : DefRec}
    (hn : l.most = some n) (hdf : d.params.defaults = [])
    (call : ∀ (w : World) (s₀ s₁ : Shared) (mg mb : Str → Option Value) (fa : Addr) (o : Obj) (pm cd doc : Value) (a : Addr) (vs : List Value) (ns : List Int),
      Ground q loose [] XP w s₀ mg mb s₁.heap → YP w s₁.heap →
      s₁.heap.get? fa = some o → o.data = .func (docDef d.name d.params d.body d.scope pm cd doc) → s₁.heap.CodeRec cd d.name → mg d.name = some (.ref fa) →
      s₁.heap.get? a = some { cls := .type "list", data := .seq vs.toArray } → IntsAre vs ns → ns.length ≤ n → s₁.gens = #[] →
      codeAny (model l.prog w) callerA (.call (.ref fa) ⟨[.ref a], []⟩) (fun r s' => r = .ok (.ret (.bool true)) ∧ OldK s₁.heap s'.heap ∧ s'.os = s₁.os ∧ AllBare s'.gens) s₁) :
    WalkO q loose XP YP l.row.toRowW d [] (fun f vs => PySem.call f vs) := by
  intro w s₀ s₁ mg mb G Y fa o pm cd doc dV kV ho hd hcd hD hmg hg args vals as hpre hlay hrd hwl hlo
  obtain rfl : dV = .none := Dflts.none hD hdf
  obtain rfl : kV = .none := Dflts.noKw hD
  obtain ⟨a, vs, ns, rfl, rfl, hobj, hints, hlen⟩ := script_of hn hpre hwl
  refine enter_call (codeAny_mono (call w s₀ s₁ mg mb fa o pm cd doc a vs ns G Y ho (fd_plain hd) hcd hmg hobj hints hlen hg) fun r s' hq => ?_)
  obtain ⟨rfl, h2, h3, h4⟩ := hq
  exact ⟨.inl ⟨.bool true, .bool true, [], rfl, fun _ => rfl, .bool true, post_true l _, fun _ => ⟨List.Pairwise.nil, fun _ hm => (nomatch hm)⟩⟩, h2, h3, h4⟩

/-! ### rules over ANY heap (no ledger) from facts about the written part K: the library's own take a ledger (News) for what they write -/
section
variable {prog : Program} {w : World} {A : Around} {E : Value → Shared → Prop} {s : Shared} {K : Frag}

end
end Att

namespace L2
open PySem PySem.Spec PyProof.Rows

theorem vals_ints : ∀ {vs : List Value} {ns : List Int}, IntsAre vs ns → Vals (ns.map V.int) vs
  | _, _, .nil => .nil
  | _, _, .cons n t h => .cons ⟨t, rfl⟩ (vals_ints h)

/-- nothing is tracked but the script, known to the object (or it is an object of the module) -/
def Only (H : Hp) : Prop := ∀ b, H b = none ∨ ∃ o xs, H b = some (.frz o (.lst xs))

/-- THE HEAD: the law's promise, at the heap behind the top. F, the promise of the law's def, may use that base is part of the heap (so K.In base, base.Ns mainGlobals mg stand in Mod) -/
theorem law_call {P : Program} {w : World} {K : PySem.W.Frag} {mg mb : Str → Option Value} {CX : CXT} {k : Nat} {fa a : Addr} {fd : FuncData} {x : Str} {sp : Sp} {s₁ : Shared} {vs : List Value} {ns : List Int}
    (KX : K.In s₁.heap) (hns : s₁.heap.Ns mainGlobals mg) (hb : s₁.heap.Ns builtinsNs mb) (hbb : ∀ x : Str, x ≠ "__name__" → mb x = bootBuiltins x) (hlim : s₁.heap.NoLimit) (hg : s₁.gens = #[])
    (ha : s₁.heap.get? a = some { cls := .type "list", data := .seq vs.toArray }) (hi : IntsAre vs ns) (hl : ns.length ≤ sizeLine) (hr : Room k callerA)
    (F : ∀ base : Heap, K.In base → base.Ns mainGlobals mg → FnOk P w K mg base CX k fa fd [x] sp) (hbind : ∀ (s : Shared) (u : Value), BindsTo s fd ⟨[u], []⟩ [(x, u)])
    (hsp : ∀ H : Hp, Only H → SqL K H a (ns.map V.int) → sp [.ref a] H (fun v _ => v = .bl true) fun _ _ _ => False)
    (hCX : ∀ H e s', CX [] H s₁ (fun _ _ _ => False) e s' → False) :
    codeAny (model P w) callerA (.call (.ref fa) ⟨[.ref a], []⟩) (fun r s' => r = .ok (.ret (.bool true)) ∧ OldK s₁.heap s'.heap ∧ s'.os = s₁.os ∧ AllBare s'.gens) s₁ := by
  have rv := vals_ints hi
  have lenV := hi.length
  -- from an abstract heap in which nothing but the script may be tracked
  have core : ∀ H : Hp, Only H → SqL K H a (ns.map V.int) → HOk P w H s₁.heap → (∀ b, H b ≠ none → b = a) → (H a ≠ none → K.lookup a = none) →
      codeAny (model P w) callerA (.call (.ref fa) ⟨[.ref a], []⟩) (fun r s' => r = .ok (.ret (.bool true)) ∧ OldK s₁.heap s'.heap ∧ s'.os = s₁.os ∧ AllBare s'.gens) s₁ := by
    intro H hO hS hok hA hK
    have base_of : ∀ {b : Addr} {o : Obj}, s₁.heap.get? b = some o → H b = none → (hidT s₁.heap H).get? b = some o := fun e n => hidT_get e n
    have noA : ∀ {b : Addr} {o : Obj} {es : Array DictEntry} {ep : Nat}, s₁.heap.get? b = some o → o.data = .dict es ep → H b = none := fun {b o es ep} e d => by
      cases q : H b with
      | none => rfl
      | some u =>
        have e' : b = a := hA b (by rw [q]; simp)
        subst e'
        rw [ha] at e; cases e
        have d' : Data.seq vs.toArray _ = Data.dict es ep := d
        cases d'
    have nsK : ∀ {b : Addr} {m : Str → Option Value}, s₁.heap.Ns b m → (hidT s₁.heap H).Ns b m := fun {b m} ⟨o, es, ep, e, d, r⟩ => ⟨o, es, ep, base_of e (noA e d), d, r⟩
    have hKb : K.In (hidT s₁.heap H) := fun b o e => base_of (KX b o e) (by
      cases q : H b with
      | none => rfl
      | some u =>
        have e' : b = a := hA b (by rw [q]; simp)
        subst e'
        rw [hK (by rw [q]; simp)] at e; cases e)
    have hM : Mod K mg (hidT s₁.heap H) := ⟨hKb, nsK hns, ⟨mb, nsK hb, hbb⟩, let ⟨mc, h1, h2⟩ := hlim; ⟨mc, nsK h1, h2⟩⟩
    have e0 : Env0 P w K mg (hidT s₁.heap H) callerA [] s₁ H := ⟨rfl, hM, fun b o e => of_hidT e, Nat.le_of_eq (hidT_size _ _), trivial, fun b hb => absurd (show b ∈ ([] : List Addr) from hb) (by simp), hok, .of_eq hg⟩
    refine codeAny_mono ((F _ hKb (nsK hns)).run callerA [] s₁ H ⟨[.ref a], []⟩ [.ref a] [.ref a] _ _ hr e0 (hbind s₁ (.ref a)) (.cons rfl .nil) (hsp H hO hS)) fun r s' h => ?_
    cases r with
    | error e => exact (hCX H e s' h).elim
    | ok fl =>
      cases fl with
      | next => exact False.elim h
      | brk => exact False.elim h
      | cont => exact False.elim h
      | ret u =>
        obtain ⟨v, H', os, bare, un, hok', r', q⟩ := h
        have q' : v = .bl true := q
        subst q'
        obtain rfl : u = Value.bool true := r'
        refine ⟨rfl, OldK.of_keep fun b o e => ?_, os, bare⟩
        cases q : H b with
        | none => exact un.keep b o e q (by intro z; exact absurd (show b ∈ ([] : List Addr) from z) (by simp)) (by simp)
        | some u =>
          rcases hO b with z | ⟨ob, xs, z⟩
          · rw [q] at z; cases z
          · have z2 := un.frzs b ob _ z
            obtain ⟨e1, _⟩ := hok b _ z
            obtain ⟨e2, _⟩ := hok' b _ z2
            rw [e] at e1; cases e1
            exact e2
  cases hk : K.lookup a with
  | some o =>
    -- the script is one of the module's own objects
    have e := KX a o hk
    rw [ha] at e
    cases e
    refine core (fun _ => none) (fun _ => .inl rfl) (.inr ⟨_, vs.toArray, _, hk, rfl, rfl, rfl, by rw [List.size_toArray, lenV]; exact hl, by simpa using rv⟩) (fun b u z => by have z' : (none : Option HO) = some u := z; cases z') (fun b z => absurd rfl z) fun z => absurd rfl z
  | none =>
    refine core (fun b => if b = a then some (.frz { cls := .type "list", data := .seq vs.toArray } (.lst (ns.map V.int))) else none) (fun b => ?_) (.inl (.inr ⟨{ cls := .type "list", data := .seq vs.toArray }, if_pos rfl⟩)) (fun b u z => ?_) (fun b z => ?_) fun _ => hk
    · by_cases hb : b = a
      · exact .inr ⟨_, _, if_pos hb⟩
      · exact .inl (if_neg hb)
    · by_cases hb : b = a
      · have z' := (if_pos hb).symm.trans z
        cases z'
        subst hb
        exact ⟨ha, by rw [List.length_map]; exact hl, vs, _, rv, ha⟩
      · have z' := (if_neg hb).symm.trans z
        cases z'
    · by_cases hb : b = a
      · exact hb
      · exact absurd (if_neg hb) z
end L2

namespace L2
open PySem PySem.Spec PyProof.Rows

/-- the goal that k_head leaves (case hc), from the law's promise. F gives the function object fd (K's own) once, then the promise over every base -/
theorem walk_of {l : PySem.W.OpenLaw} {n k : Nat} {q : Program} {loose : List Str} {XP : (Str → Option Value) → Heap → Prop} {YP : World → Heap → Prop} {d : DefRec} {K : Params → PySem.W.Frag} {CX : World → CXT} {sp : World → Sp} {x : Str}
    (hn : l.most = some n) (hn2 : n ≤ sizeLine) (hdf : d.params.defaults = []) (hr : Room k callerA)
    (hY : ∀ (w : World) (h : Heap), YP w h → (K w.params).In h)
    (F : ∀ (w : World) (mg : Str → Option Value) (fa : Addr) (h : Heap), (K w.params).In h → h.Ns mainGlobals mg → mg d.name = some (.ref fa) →
      ∃ fd : FuncData, (∀ (s : Shared) (u : Value), BindsTo s fd ⟨[u], []⟩ [(x, u)]) ∧
        ∀ base : Heap, (K w.params).In base → base.Ns mainGlobals mg → FnOk l.prog w (K w.params) mg base (CX w) k fa fd [x] (sp w))
    (hsp : ∀ (w : World) (H : Hp) (a : Addr) (ns : List Int), ns.length ≤ n → Only H → SqL (K w.params) H a (ns.map V.int) → sp w [.ref a] H (fun v _ => v = .bl true) fun _ _ _ => False)
    (hCX : ∀ (w : World) (H : Hp) (s : Shared) (e : Value) (s' : Shared), CX w [] H s (fun _ _ _ => False) e s' → False) :
    PySem.W.WalkO q loose XP YP l.row.toRowW d [] (fun f vs => PySem.call f vs) := by
  refine Att.attach_call hn hdf fun w s₀ s₁ mg mb fa o pm cd doc a vs ns G Y ho hd hcd hmg hobj hints hlen hg => ?_
  have KX := hY w _ Y
  obtain ⟨fd, hb, hF⟩ := F w mg fa _ KX G.T.g hmg
  exact law_call KX G.T.g G.T.b G.T.builtins G.T.nolimit hg hobj hints (Nat.le_trans hlen hn2) hr hF hb (fun H hO hS => hsp w H a ns hlen hO hS) fun H e s' => hCX w H s₁ e s'
end L2

/- THE LAST THEOREM (shape; LID, My.* are yours):
   My.Adr: a structure of the addresses that your layer names (classes, functions); My.Txt K t: a structure (Prop) of the equations over K;
   My.txt_mk : {K} {implicit addresses ..} (e1 : nsIn K mainGlobals "law" = some (some (.ref f))) (e2 : K.lookup f = some ⟨oc, od, .func (fnOf "law" "law" params body scope dV kV doc pm an cdv ct), sl⟩) (e3 : codeIn K cdv "law" = true) .. : ∃ t, My.Txt K t

set_option maxRecDepth 100000 in
set_option maxHeartbeats 0 in
theorem PySem.Challenge.cw_LID_holds : PySem.Challenge.rw_LID.Holds := by
  w_on; o_law; k_head; (case hw => w_witness2)
  k_fill
  refine L2.walk_of (l := PySem.Challenge.rw_LID) (n := 63) (k := 40) (x := "script") (CX := fun w => ..) (sp := fun _ => My.sp_law) rfl (by decide) rfl ⟨rfl, by decide, by decide⟩ (fun w h Y => PySem.W.kIn_of Y) ?F ?S ?C
  case F =>
    intro w mg fa h KX G hmg
    have T : ∃ t, My.Txt (L2.KOf KX) t := by
      dsimp only [L2.KOf]                          -- K must stand as «<heap const> w.params» for k_is
      refine' My.txt_mk ?e1 ?e2 ?e3 ..
      (case e1 => PySem.W.k_is)                    -- in the order: a name -> its address -> its object -> its parts
      (case e2 => PySem.W.k_is)
      ..
    obtain ⟨t, T⟩ := T
    have e0 := hmg.symm.trans (PySem.W.mg_of KX G T.law)
    cases e0                                       -- fa is the law's own address
    exact ⟨_, fun s u => .of_eq rfl, fun base kb nb => My.law_fn T kb nb⟩     -- if «.of_eq rfl» comes too early: refine' ⟨_, ?b, fun base kb nb => My.law_fn T kb nb⟩; exact fun s u => .of_eq rfl
  case S => exact fun w H a ns hl hO hS => ..
  case C => exact ..
(the tactic k_is has no namespace: write k_is) -/
/-! SHORT WORDS over the layer: a def of the text, its body, what a loop and a test want. -/
namespace L2
open PySem PySem.Spec PyProof.Rows

def defArgs (s : Stmt) : Arguments := match s with
  | .FunctionDef _ a _ _ _ _ _ _ _ _ => a
  | _ => { posonlyargs := [], args := [], vararg := none, kwonlyargs := [], kw_defaults := [], kwarg := none, defaults := [] }
def defBody (s : Stmt) : List Stmt := match s with
  | .FunctionDef _ _ b _ _ _ _ _ _ _ => b
  | _ => []
def defScope (s : Stmt) : Scope := match s with
  | .FunctionDef _ _ _ _ _ _ sc _ _ _ => sc
  | _ => { kind := .function, names := [], isGenerator := false, isCoroutine := false }

/-! ### no exception leaves a def -/
abbrev CX0 : CXT := fun _ _ _ _ _ _ => False
abbrev E0 : XK := fun _ _ _ => False
theorem pass0 {X : Cx} : Passes CX0 X E0 := fun _ _ _ _ _ _ _ h => h.elim

/-! ### a def (or method) of the text as it stands behind the top -/
structure Fun (K : PySem.W.Frag) (x qual : Str) (st : Stmt) (f : Addr) (fd : FuncData) : Prop where
  ex : ∃ (oc : Value) (od : Option Addr) (kV doc pm : Value) (an : Option Addr) (cdv ct : Value) (osl : Array (Option Value)),
    fd = PySem.W.fnOf x qual (defArgs st) (defBody st) (defScope st) .none kV doc pm an cdv ct ∧ K.lookup f = some ⟨oc, od, .func fd, osl⟩ ∧ PySem.W.codeIn K cdv qual = true
  kp : PySem.W.keepIn K (.ref f) = true
section
variable {P : Program} {w : World} {K : PySem.W.Frag} {mg : Str → Option Value} {base : Heap}
/-- THE RULE for a def: its body as a term of rules, and the reading of that term -/
theorem Fun.ok {x qual : Str} {st : Stmt} {f : Addr} {fd : FuncData} {N ps : List Str} {k : Nat} {sp : Sp} (F : Fun K x qual st f fd) (S : FnScope N ps (defScope st)) (len : ∀ vs H Q E, sp vs H Q E → vs.length = ps.length)
    (hbody : ∀ (cdv : Value) (A : Around) (outer : List Env) (s : Shared) (H : Hp) (vs : List V) (Q : VK) (E : XK), Room k (A.deeper (envOfC qual (defScope st) s.heap.objs.size f cdv)) → sp vs H Q E →
      ∃ t, PSs (cxOf CX0 P w K mg base N qual (defScope st) f cdv A outer s H E).nox (defBody st) t ∧ t { nx := fun _ H' => Q .non H', rt := Q } (start N vs) H) : FnOk P w K mg base CX0 (k + 1) f fd ps sp := by
  obtain ⟨oc, od, kV, doc, pm, an, cdv, ct, osl, rfl, lk, hcd⟩ := F.ex
  refine fn_of lk hcd S len fun A outer s H vs Q E hr hsp => ?_
  obtain ⟨t, h, q⟩ := hbody cdv A outer s H vs Q E hr hsp
  exact ⟨t, h.nox, q⟩
/-- how its arguments bind (no defaults): h is «fun _ _ _ _ _ _ us hl => match us, hl with | [_, _], _ => rfl», one _ a parameter -/
theorem Fun.binds {x qual : Str} {st : Stmt} {f : Addr} {fd : FuncData} {ps : List Str} (F : Fun K x qual st f fd)
    (h : ∀ (kV doc pm : Value) (an : Option Addr) (cdv ct : Value) (us : List Value), us.length = ps.length → bindArgs (PySem.W.fnOf x qual (defArgs st) (defBody st) (defScope st) .none kV doc pm an cdv ct) ⟨us, []⟩ = pure (ps.zip us)) : Binds K fd ps [] := by
  obtain ⟨oc, od, kV, doc, pm, an, cdv, ct, osl, rfl, lk, hcd⟩ := F.ex
  exact .all (h kV doc pm an cdv ct)
theorem fun_mk {x qual : Str} {st : Stmt} {f : Addr} {oc : Value} {od an : Option Addr} {osl : Array (Option Value)} {kV doc pm cdv ct : Value} (l : K.lookup f = some ⟨oc, od, .func (PySem.W.fnOf x qual (defArgs st) (defBody st) (defScope st) .none kV doc pm an cdv ct), osl⟩)
    (c : PySem.W.codeIn K cdv qual = true) (k : PySem.W.keepIn K (.ref f) = true) : Fun K x qual st f (PySem.W.fnOf x qual (defArgs st) (defBody st) (defScope st) .none kV doc pm an cdv ct) := ⟨⟨oc, od, kV, doc, pm, an, cdv, ct, osl, rfl, l, c⟩, k⟩
end
/-! ### expressions in short: the name that stands in the i-th slot -/
section
variable {X : Cx}
theorem pv (i : Nat) {x : Str} {pos : Pos} (hN : X.N[i]? = some x := by rfl) (hv : Vis X.env.scope x := by first | exact Or.inl rfl | exact Or.inr (Or.inl rfl) | exact Or.inr (Or.inr rfl)) (hd : (x == ("__debug__" : Str)) = false := by decide)
    (hcd : (x == ("__classdict__" : Str)) = false := by decide) : PE X (.Name x pos) (tVar i) := pe_var hN hv hd hcd
end

/-! ### tests -/
theorem iteF {A B : Prop} (h : B) : if false = true then A else B := by
  rw [if_neg Bool.false_ne_true]
  exact h
theorem iteT {A B : Prop} (h : A) : if true = true then A else B := by
  rw [if_pos rfl]
  exact h
theorem ite2 {c A B : Prop} [Decidable c] (h1 : c → A) (h2 : ¬ c → B) : if c then A else B := by
  by_cases h : c
  · rw [if_pos h]
    exact h1 h
  · rw [if_neg h]
    exact h2 h
theorem iteNS {c A B : Prop} [Decidable c] (hc : c) (h : B) : if (!decide c) = true then A else B := by
  rw [decide_eq_true hc]
  exact iteF h

/-! ### heaps -/
/-- all that was tracked is as it was -/
def Same (H H' : Hp) : Prop := ∀ b o, H b = some o → H' b = some o
theorem Same.refl (H : Hp) : Same H H := fun _ _ h => h
theorem Same.trans {H H1 H2 : Hp} (a : Same H H1) (b : Same H1 H2) : Same H H2 := fun c o h => b c o (a c o h)
theorem Same.free {H H' : Hp} (e : Same H H') {l : Addr} (h : H' l = Option.none) : H l = Option.none := by
  cases q : H l with
  | none => rfl
  | some o =>
    rw [e l o q] at h
    cases h
theorem Same.seq {K : PySem.W.Frag} {H H' : Hp} {a : Addr} {xs : List V} (e : Same H H') (h : SqL K H a xs) : SqL K H' a xs := by
  rcases h with (h | ⟨o, h⟩) | h
  · exact .inl (.inl (e _ _ h))
  · exact .inl (.inr ⟨o, e _ _ h⟩)
  · exact .inr h

end L2

namespace Tim
open PySem PyProof.Rows
set_option autoImplicit false
set_option linter.all false

/-! ### the order, and what a comparison gives -/
structure Ord (B : Keyed → Keyed → Bool) : Prop where
  irr : ∀ x, B x x = false
  tr : ∀ x y z, B x y = true → B y z = true → B x z = true
  ng : ∀ x y z, B x z = true → B x y = true ∨ B y z = true
def le (B : Keyed → Keyed → Bool) (x y : Keyed) : Prop := B y x = false
theorem Ord.trans {B : Keyed → Keyed → Bool} (o : Ord B) {x y z : Keyed} (h1 : le B x y) (h2 : le B y z) : le B x z := by
  unfold le at *
  cases e : B z x with
  | false => rfl
  | true =>
    rcases o.ng _ y _ e with h | h
    · rw [h2] at h; cases h
    · rw [h1] at h; cases h
section
variable {prog : Program} {w : World} {A : Around} {E : Value → Shared → Prop} {s : Shared} {κ : SortKind} {S : Keyed → Prop} {B : Keyed → Keyed → Bool}

end
end Tim

namespace Tim
open PySem PyProof.Rows
set_option autoImplicit false
set_option linter.all false

/-! ### two lists become one -/
structure MI (R : Keyed → Keyed → Prop) (out ra rb all : List Keyed) : Prop where
  so : out.Pairwise R
  oa : ∀ x ∈ out, ∀ y ∈ ra, R x y
  ob : ∀ x ∈ out, ∀ y ∈ rb, R x y
  sa : ra.Pairwise R
  sb : rb.Pairwise R
  pm : (out ++ (ra ++ rb)).Perm all
/-- of the sort's state all but the gallop's measure is as it was -/
structure Sm (st st' : SortSt) : Prop where
  k : kindOf st' = kindOf st
  a : arrOf st' = arrOf st
  p : pendingOf st' = pendingOf st
  f : failedOf st' = failedOf st
theorem Sm.mg {st st' : SortSt} (h : Sm st st') (g : Nat) : Sm st (SortSt.mk' (kindOf st') (arrOf st') (pendingOf st') g (failedOf st')) := ⟨h.k, h.a, h.p, h.f⟩

section
variable {prog : Program} {w : World} {A : Around} {E : Value → Shared → Prop} {s : Shared} {κ : SortKind} {S : Keyed → Prop} {B : Keyed → Keyed → Bool}

/-- between two turns of mergeLo -/
structure LoI (B : Keyed → Keyed → Bool) (a b out : Array Keyed) (ia ib : Nat) : Prop where
  m : MI (le B) out.toList (a.toList.drop ia) (b.toList.drop ib) (a.toList ++ b.toList)
  ha : ia + 1 < a.size
  hb : ib < b.size
  sz : out.size = ia + ib
def Good (B : Keyed → Keyed → Bool) (a b r : Array Keyed) : Prop := r.toList.Pairwise (le B) ∧ r.toList.Perm (a.toList ++ b.toList)

end
end Tim

namespace Tim
open PySem PyProof.Rows
set_option autoImplicit false
set_option linter.all false

section
variable {prog : Program} {w : World} {A : Around} {E : Value → Shared → Prop} {s : Shared} {κ : SortKind} {S : Keyed → Prop} {B : Keyed → Keyed → Bool}

abbrev HM (B : Keyed → Keyed → Bool) (a b out : Array Keyed) (na nb : Nat) : Prop := MI (fun x y => le B y x) out.toList (a.toList.take na).reverse (b.toList.take nb).reverse (a.toList ++ b.toList)
/-- between two turns of mergeHi -/
structure HiI (B : Keyed → Keyed → Bool) (a b out : Array Keyed) (na nb : Nat) : Prop where
  m : HM B a b out na nb
  ha : 0 < na
  ha' : na ≤ a.size
  hb : 1 < nb
  hb' : nb ≤ b.size
  sz : out.size + na + nb = a.size + b.size

end
end Tim

namespace Tim
open PySem PyProof.Rows
set_option autoImplicit false
set_option linter.all false

section
variable {O : KeyOrd} {f : Keyed → O.α} {d : O.α}
end
/-- ahead of lo nothing is touched -/
def Pre (lo : Nat) (xs ys : Array Keyed) : Prop := ∀ k, k < lo → ys[k]? = xs[k]?
theorem Pre.trans {lo : Nat} {xs ys zs : Array Keyed} (a : Pre lo xs ys) (b : Pre lo ys zs) : Pre lo xs zs := fun k hk => (b k hk).trans (a k hk)
structure SI (a₀ : Array Keyed) (κ : SortKind) (p : Array (Nat × Nat × Nat)) (st : SortSt) : Prop where
  perm : (arrOf st).Perm a₀
  kind : kindOf st = κ
  failed : failedOf st = none
  pend : pendingOf st = p
section
variable {prog : Program} {w : World} {A : Around} {E : Value → Shared → Prop} {s : Shared} {κ : SortKind} {a₀ : Array Keyed} {p : Array (Nat × Nat × Nat)} {O : KeyOrd} {f : Keyed → O.α} {d : O.α}

theorem SI.size {st : SortSt} (h : SI a₀ κ p st) : (arrOf st).size = a₀.size := h.perm.size_eq
theorem SI.at {st : SortSt} (h : SI a₀ κ p st) {i : Nat} (hi : i < a₀.size) : ∃ x, (arrOf st)[i]? = some x ∧ x ∈ a₀.toList := by
  have hi' : i < (arrOf st).size := by rw [h.size]; exact hi
  exact ⟨(arrOf st)[i], getElem?_pos _ i hi', (Array.perm_iff_toList_perm.mp h.perm).mem_iff.mp (by simp)⟩
theorem SI.mem {st : SortSt} (h : SI a₀ κ p st) {x : Keyed} (hx : x ∈ (arrOf st).toList) : x ∈ a₀.toList := (Array.perm_iff_toList_perm.mp h.perm).mem_iff.mp hx

end
end Tim

namespace Tim
open PySem PyProof.Rows
set_option autoImplicit false
set_option linter.all false

def shape (ps : List (Nat × Nat × Nat)) : List (Nat × Nat) := ps.map fun x => (x.1, x.2.1)
def offs : Nat → List (List Keyed) → List (Nat × Nat)
  | _, [] => []
  | k, r :: rs => (k, r.length) :: offs (k + r.length) rs
theorem split_at {α : Type} {l : List α} {i : Nat} (h : i + 1 < l.length) : ∃ l1 u v l2, l = l1 ++ u :: v :: l2 ∧ l1.length = i := by
  refine ⟨l.take i, l[i], l[i + 1], l.drop (i + 2), ?_, by rw [List.length_take]; omega⟩
  rw [← List.drop_eq_getElem_cons, ← List.drop_eq_getElem_cons, List.take_append_drop]

/-- the sort between two steps: the runs ahead, what is behind them -/
structure SR (a₀ : Array Keyed) (κ : SortKind) (B : Keyed → Keyed → Bool) (runs : List (List Keyed)) (suf : List Keyed) (st : SortSt) : Prop where
  perm : (arrOf st).Perm a₀
  kind : kindOf st = κ
  failed : failedOf st = none
  sh : shape (pendingOf st).toList = offs 0 runs
  ok : ∀ r ∈ runs, r ≠ [] ∧ r.Pairwise (le B)
  arr : (arrOf st).toList = runs.flatten ++ suf

section
variable {prog : Program} {w : World} {A : Around} {E : Value → Shared → Prop} {s : Shared} {κ : SortKind} {a₀ : Array Keyed} {B : Keyed → Keyed → Bool}

end

section
variable {prog : Program} {w : World} {A : Around} {E : Value → Shared → Prop} {s : Shared} {κ : SortKind} {a₀ : Array Keyed} {O : KeyOrd} {f : Keyed → O.α}

end
end Tim

namespace Tim
open PySem PyProof.Rows PySem.W
set_option autoImplicit false
set_option linter.all false

/-! ### tuples of ints, as they compare -/
def lexB : List Int → List Int → Bool
  | [], [] => false
  | [], _ :: _ => true
  | _ :: _, [] => false
  | a :: x, b :: y => if a = b then lexB x y else decide (a < b)
section
variable {prog : Program} {w : World}
/-- the tuple of ints at a value -/
def IsK (prog : Program) (w : World) (h : Heap) (k : List Int) (v : Value) : Prop := ∃ a, v = .ref a ∧ IsTupleKey (intKind prog w) h k a
theorem IsK.inj {h : Heap} {k k' : List Int} {v : Value} (x : IsK prog w h k v) (y : IsK prog w h k' v) : k = k' := by
  obtain ⟨a, rfl, h1⟩ := x
  obtain ⟨b, e, h2⟩ := y
  cases e
  exact h1.inj h2
theorem IsK.up {h h' : Heap} {k : List Int} {v : Value} (x : IsK prog w h k v) (hs : ∀ b o, h.get? b = some o → h'.get? b = some o) : IsK prog w h' k v := by
  obtain ⟨a, e, o, items, n, h2, h3⟩ := x
  exact ⟨a, e, o, items, n, hs a o h2, h3⟩

variable {A : Around} {E : Value → Shared → Prop} {s : Shared}
end
end Tim

namespace Sett
open PySem PySem.SetTable
set_option autoImplicit false
set_option linter.all false

/-! ### the path of a search -/
/-- a run's start -/
def st (m i pt : Nat) : Probe := { j := i, more := runEnd m i - i, i := i, perturb := pt, dummy := none }
/-- n steps on -/
def it (t : SetTable) : Nat → Probe → Probe
  | 0, p => p
  | n + 1, p => it t n (t.advance p)
/-- the masks that occur, and the walk i ↦ 5 i + 1 upon them -/
def f5 (m i : Nat) : Nat := (i * 5 + 1) % (m + 1)
def Good (m : Nat) : Prop := m = 7 ∨ m = 31 ∨ m = 127 ∨ m = 511
theorem it_mask {t t' : SetTable} (h : t'.mask = t.mask) : ∀ (n : Nat) (p : Probe), it t' n p = it t n p
  | 0, p => rfl
  | n + 1, p => by
    show it t' n (t'.advance p) = it t n (t.advance p)
    have : t'.advance p = t.advance p := by unfold advance; rw [h]
    rw [this, it_mask h n]

/-! ### places in order -/
def Asc (xs : Array Nat) : Prop := ∀ (i j a b : Nat), i < j → xs[i]? = some a → xs[j]? = some b → a < b
end Sett

namespace Sett
open PySem PySem.SetTable
set_option autoImplicit false
set_option linter.all false

abbrev En := Int × Value
/-- a table that fits its elements, with no dummies, not too full, and every element on its own path -/
structure Tb (t : SetTable) (es : Array En) : Prop where
  dum : t.dummies = #[]
  len : t.place.size = es.size
  asc : Asc t.place
  bnd : ∀ (i j : Nat), t.place[i]? = some j → j ≤ t.mask
  good : Good t.mask
  nf : es.size * 5 < t.mask * 3
  path : ∀ (i : Nat) (e : En), es[i]? = some e → ∃ n, n < 10 * turns t.mask ∧ t.place[i]? = some (it t n (t.probeStart e.1)).j ∧ ∀ k, k < n → ∃ i' : Nat, t.place[i']? = some (it t k (t.probeStart e.1)).j

theorem Tb.odd {t : SetTable} {es : Array En} (T : Tb t es) : t.gaveWay = false := by
  unfold gaveWay
  rcases T.good with e | e | e | e <;> rw [e] <;> rfl
/-- the table with one more, but for the fullness -/
structure Tb' (t : SetTable) (es : Array En) : Prop where
  dum : t.dummies = #[]
  len : t.place.size = es.size
  asc : Asc t.place
  bnd : ∀ (i j : Nat), t.place[i]? = some j → j ≤ t.mask
  good : Good t.mask
  fil : es.size ≤ t.mask
  path : ∀ (i : Nat) (e : En), es[i]? = some e → ∃ n, n < 10 * turns t.mask ∧ t.place[i]? = some (it t n (t.probeStart e.1)).j ∧ ∀ k, k < n → ∃ i' : Nat, t.place[i']? = some (it t k (t.probeStart e.1)).j
theorem Tb'.plain {t : SetTable} {es : Array En} (T : Tb' t es) (b : Bool) : Tb' { t with plain := b } es := by
  have e : ∀ n (p : Probe), it { t with plain := b } n p = it t n p := fun n p => it_mask (t := t) (t' := { t with plain := b }) rfl n p
  refine ⟨T.dum, T.len, T.asc, T.bnd, T.good, T.fil, fun i x hx => ?_⟩
  obtain ⟨n, h1, h2, h3⟩ := T.path i x hx
  exact ⟨n, h1, by rw [e]; exact h2, fun k hk => by rw [e]; exact h3 k hk⟩
end Sett

namespace Sett
open PySem PySem.SetTable
set_option autoImplicit false
set_option linter.all false

theorem pigeon : ∀ (k n : Nat) (g : Nat → Nat), (∀ i, i < n → g i < k) → (∀ i j, i < n → j < n → g i = g j → i = j) → n ≤ k
  | 0, n, g, h, _ => by
    rcases Nat.eq_zero_or_pos n with e | e
    · omega
    · exact absurd (h 0 e) (Nat.not_lt_zero _)
  | k + 1, 0, g, _, _ => Nat.zero_le _
  | k + 1, n + 1, g, h, inj => by
    by_cases q : ∃ i0, i0 < n + 1 ∧ g i0 = k
    · obtain ⟨i0, h0, e0⟩ := q
      have := pigeon k n (fun i => if i = i0 then g n else g i) (fun i hi => ?_) (fun i j hi hj e => ?_)
      · omega
      · try dsimp only
        split
        · rename_i hii
          have h1 := h n (by omega)
          have h2 : g n ≠ k := fun z => by have := inj n i0 (by omega) h0 (by rw [z, e0]); omega
          omega
        · have h1 := h i (by omega)
          have h2 : g i ≠ k := fun z => by have := inj i i0 (by omega) h0 (by rw [z, e0]); omega
          omega
      · try dsimp only at e
        split at e
        · split at e
          · omega
          · have := inj n j (by omega) (by omega) e; omega
        · split at e
          · have := inj i n (by omega) (by omega) e; omega
          · exact inj i j (by omega) (by omega) e
    · have := pigeon k (n + 1) g (fun i hi => ?_) inj
      · omega
      · have h1 := h i hi
        have h2 : g i ≠ k := fun z => q ⟨i, hi, z⟩
        omega

/-- the owners laid so far: those of the first k hashes, each on its path -/
structure LI (t : SetTable) (hs : Array Int) (owner : Array (Option Nat)) (k : Nat) : Prop where
  size : owner.size = t.mask + 1
  lt : ∀ (j i : Nat), owner[j]? = some (some i) → i < k
  inj : ∀ (j j' i : Nat), owner[j]? = some (some i) → owner[j']? = some (some i) → j = j'
  has : ∀ (i : Nat) (h : Int), i < k → hs[i]? = some h → ∃ n, n < 10 * turns t.mask ∧ owner[(it t n (t.probeStart h)).j]? = some (some i) ∧ ∀ c, c < n → ∃ i' : Nat, owner[(it t c (t.probeStart h)).j]? = some (some i')
theorem LI.free {t : SetTable} {hs : Array Int} {owner : Array (Option Nat)} {k : Nat} (L : LI t hs owner k) (hk : k ≤ t.mask) : ∃ b, b ≤ t.mask ∧ owner[b]? = some none := by
  apply Classical.byContradiction
  intro z
  have all : ∀ b, b ≤ t.mask → ∃ i, owner[b]? = some (some i) := fun b hb => by
    have e := getElem?_pos owner b (by rw [L.size]; omega)
    cases q : owner[b]'(by rw [L.size]; omega) with
    | none => rw [q] at e; exact absurd ⟨b, hb, e⟩ z
    | some i => rw [q] at e; exact ⟨i, e⟩
  have := pigeon k (t.mask + 1) (fun b => match owner[b]? with | some (some i) => i | _ => 0) (fun b hb => ?_) (fun b b' hb hb' e => ?_)
  · omega
  · obtain ⟨i, e⟩ := all b (by omega)
    try dsimp only
    rw [e]
    exact L.lt b i e
  · obtain ⟨i, e1⟩ := all b (by omega)
    obtain ⟨i', e2⟩ := all b' (by omega)
    try dsimp only at e
    rw [e1, e2] at e
    dsimp only at e
    subst e
    exact L.inj b b' i e1 e2

end Sett

namespace Sett
open PySem PySem.SetTable PyProof.Rows
set_option autoImplicit false
set_option linter.all false

def hp (n : Nat) : Nat := bits (reduceHash (Builtin.Tuple.tupleHashOf [hashInt ((n / 24 : Nat) : Int), hashInt ((n % 24 : Nat) : Int)])) % 3708
/-- a pair of places -/
def KeyOk (ks : List Int) : Prop := ∃ i j : Nat, i < 24 ∧ j < 24 ∧ ks = [(i : Int), (j : Int)]
/-! ### a set of pairs -/
section
variable {prog : Program} {w : World}
/-- the entry e is the key k -/
def IsEn (prog : Program) (w : World) (h : Heap) (k : List Int) (e : En) : Prop := ∃ a, e.2 = .ref a ∧ IsTupleKey (intKind prog w) h k a ∧ e.1 = tupleKeyHash (intKind prog w) k
theorem key_up {h h' : Heap} {k : List Int} {a : Addr} (x : IsTupleKey (intKind prog w) h k a) (hs : ∀ b o, h.get? b = some o → h'.get? b = some o) : IsTupleKey (intKind prog w) h' k a := by
  obtain ⟨o, items, n, h2, h3⟩ := x
  exact ⟨o, items, n, hs a o h2, h3⟩
theorem IsEn.up {h h' : Heap} {k : List Int} {e : En} (x : IsEn prog w h k e) (hs : ∀ b o, h.get? b = some o → h'.get? b = some o) : IsEn prog w h' k e := by
  obtain ⟨a, h1, h2, h6⟩ := x
  exact ⟨a, h1, key_up h2 hs, h6⟩
theorem IsEn.inj {h : Heap} {k k' : List Int} {e : En} (x : IsEn prog w h k e) (y : IsEn prog w h k' e) : k = k' := by
  obtain ⟨a, h1, h2, _⟩ := x
  obtain ⟨b, h3, h4, _⟩ := y
  rw [h1] at h3
  cases h3
  exact h2.inj h4

variable {A : Around} {E : Value → Shared → Prop} {s : Shared}

end
end Sett

namespace Sett
open PySem PySem.SetTable PyProof.Rows
set_option autoImplicit false
set_option linter.all false
section
variable {prog : Program} {w : World} {A : Around} {E : Value → Shared → Prop} {s : Shared}

end
end Sett

namespace Sett
open PySem PySem.SetTable PyProof.Rows
set_option autoImplicit false
set_option linter.all false

section
variable {prog : Program} {w : World} {A : Around} {E : Value → Shared → Prop} {s : Shared}

end
end Sett

namespace Sett
open PySem PySem.SetTable PyProof.Rows
set_option autoImplicit false
set_option linter.all false

section
variable {prog : Program} {w : World}

variable {A : Around} {E : Value → Shared → Prop} {s : Shared}
end
end Sett

namespace L2
open PySem PySem.Spec PyProof.Rows
set_option autoImplicit false
set_option linter.all false

/-! ### tuples of ints among the values -/
/-- the values ys are tuples of the ints ks -/
def Tups (K : PySem.W.Frag) (H : Hp) (ys : List V) (ks : List (List Int)) : Prop := Paired (fun y k => ∃ a, y = V.ref a ∧ SqT K H a (k.map V.int)) ys ks
theorem Tups.len {K : PySem.W.Frag} {H : Hp} {ys : List V} {ks : List (List Int)} (t : Tups K H ys ks) : ys.length = ks.length := Paired.length t
theorem Tups.get {K : PySem.W.Frag} {H : Hp} : ∀ {ys : List V} {ks : List (List Int)} {i : Nat} {y : V}, Tups K H ys ks → ys[i]? = some y → ∃ a k, y = V.ref a ∧ ks[i]? = some k ∧ SqT K H a (k.map V.int)
  | _, _, _, _, .nil, e => by simp at e
  | _, _, 0, _, .cons r _, e => by
    simp at e
    subst e
    obtain ⟨a, h1, h2⟩ := r
    exact ⟨a, _, h1, rfl, h2⟩
  | _, _, i + 1, y, .cons _ t, e => by
    obtain ⟨a, k, h1, h2, h3⟩ := Tups.get (i := i) (y := y) t (by simpa using e)
    exact ⟨a, k, h1, by simpa using h2, h3⟩
theorem Tups.same {K : PySem.W.Frag} {H H' : Hp} (hs : ∀ b o, H b = some o → H' b = some o) : ∀ {ys : List V} {ks : List (List Int)}, Tups K H ys ks → Tups K H' ys ks
  | _, _, .nil => .nil
  | _, _, .cons r t => by
    obtain ⟨a, h1, h2⟩ := r
    refine .cons ⟨a, h1, ?_⟩ (Tups.same hs t)
    rcases h2 with (h | ⟨o, h⟩) | h
    · exact .inl (.inl (hs _ _ h))
    · exact .inl (.inr ⟨o, hs _ _ h⟩)
    · exact .inr h
theorem Tups.append {K : PySem.W.Frag} {H : Hp} : ∀ {ys zs : List V} {ks ls : List (List Int)}, Tups K H ys ks → Tups K H zs ls → Tups K H (ys ++ zs) (ks ++ ls)
  | _, _, _, _, .nil, s => s
  | _, _, _, _, .cons r t, s => .cons r (Tups.append t s)
theorem Tups.take {K : PySem.W.Frag} {H : Hp} : ∀ {ys : List V} {ks : List (List Int)} (n : Nat), Tups K H ys ks → Tups K H (ys.take n) (ks.take n)
  | _, _, 0, _ => .nil
  | _, _, _ + 1, .nil => .nil
  | _, _, n + 1, .cons r t => .cons r (Tups.take n t)
theorem Tups.drop {K : PySem.W.Frag} {H : Hp} : ∀ {ys : List V} {ks : List (List Int)} (n : Nat), Tups K H ys ks → Tups K H (ys.drop n) (ks.drop n)
  | _, _, 0, t => t
  | _, _, _ + 1, .nil => .nil
  | _, _, n + 1, .cons _ t => Tups.drop n t
theorem Tups.reverse {K : PySem.W.Frag} {H : Hp} : ∀ {ys : List V} {ks : List (List Int)}, Tups K H ys ks → Tups K H ys.reverse ks.reverse
  | _, _, .nil => .nil
  | _, _, .cons r t => by
    rw [List.reverse_cons, List.reverse_cons]
    exact Tups.append (Tups.reverse t) (.cons r .nil)

section
variable {X : Cx} {pins : List (Addr × Obj)} {σ : St} {H : Hp} {s : Shared}
end

section
variable {X : Cx}
end
end L2

namespace L2
open PySem PySem.Spec PyProof.Rows
set_option autoImplicit false
set_option linter.all false

/-! ### comprehensions -/
/-- the block's context: its own frame at the heap's end; the callers' frames and this one may change in their slots; the iterator at fp turns -/
def compCx (X : Cx) (scope : Scope) (cl : List (Str × Addr)) (N' : List Str) (s₃ : Shared) (H₃ : Hp) (fp : List Addr) (xe' : Value → Shared → Prop) : Cx :=
  { X with N := N', s₀ := s₃, H₀ := H₃, env := compEnvC scope cl s₃.heap.objs.size X.env, outer := X.stack, ex := fp, fn := fun _ => false, pn := [], xe := xe' }
/-- the cells that the block takes over are this frame's -/
def ClOk (env : Env) : List (Str × Addr) → Prop
  | [] => True
  | (x, c) :: r => env.cells.lookup x = some c ∧ ClOk env r
theorem ClOk.get {env : Env} : ∀ {cl : List (Str × Addr)} {x : Str} {c : Addr}, ClOk env cl → cl.lookup x = some c → env.cells.lookup x = some c
  | [], _, _, _, h => by cases h
  | (y, d) :: r, x, c, ⟨h1, h2⟩, h => by
    rw [List.lookup_cons] at h
    cases e : x == y with
    | true =>
      rw [e] at h
      cases h
      rw [eq_of_beq e]
      exact h1
    | false =>
      rw [e] at h
      exact ClOk.get h2 h
/-- every free name of the block is among them -/
def FrOk (names : List (Str × NameKind)) (cl : List (Str × Addr)) : Bool := names.all fun y => y.2 != .cell && (y.2 != .free || (cl.lookup y.1).isSome)
theorem lookup_relabel {env : Env} : ∀ {names : List (Str × NameKind)} {x : Str} {k : NameKind}, (names.map fun (n, k) => if (k == NameKind.free && env.scope.kind == .function && env.kindOf n == some .cell) then (n, NameKind.cell) else (n, k)).lookup x = some k →
    ∃ k', (x, k') ∈ names ∧ (k' = k ∨ (k' = .free ∧ k = .cell))
  | [], _, _, h => by cases h
  | (n, k0) :: r, x, k, h => by
    rw [List.map_cons] at h
    have hn : ∀ k1, (List.lookup x ((n, k1) :: r.map fun (n, k) => if (k == NameKind.free && env.scope.kind == .function && env.kindOf n == some .cell) then (n, NameKind.cell) else (n, k))) = some k → (x = n ∧ k1 = k) ∨ ∃ k', (x, k') ∈ r ∧ (k' = k ∨ (k' = .free ∧ k = .cell)) := fun k1 h => by
      rw [List.lookup_cons] at h
      cases e : x == n with
      | true => rw [e] at h; cases h; exact .inl ⟨eq_of_beq e, rfl⟩
      | false => rw [e] at h; exact .inr (lookup_relabel h)
    dsimp only at h
    by_cases hc : (k0 == NameKind.free && env.scope.kind == .function && env.kindOf n == some .cell) = true
    · rw [if_pos hc] at h
      rcases hn _ h with ⟨rfl, rfl⟩ | ⟨k', h1, h2⟩
      · simp only [Bool.and_eq_true] at hc
        have e0 : k0 = .free := eq_of_beq hc.1.1
        exact ⟨k0, List.mem_cons_self, .inr ⟨e0, rfl⟩⟩
      · exact ⟨k', List.mem_cons_of_mem _ h1, h2⟩
    · rw [if_neg hc] at h
      rcases hn _ h with ⟨rfl, rfl⟩ | ⟨k', h1, h2⟩
      · exact ⟨k0, List.mem_cons_self, .inl rfl⟩
      · exact ⟨k', List.mem_cons_of_mem _ h1, h2⟩
/-- the values that the block's names have at its start: links to this frame's slots -/
def capt (lk : List (Option Nat)) (σ : St) : St := lk.map fun o => o.bind fun j => (σ[j]?).join
/-- the links are right: the names agree, and they are cells here -/
def LkOk (X : Cx) (N' : List Str) (lk : List (Option Nat)) (scope : Scope) (cl : List (Str × Addr)) : Prop :=
  lk.length = N'.length ∧ ∀ (i j : Nat) (x : Str), N'[i]? = some x → lk[i]? = some (some j) → X.N[j]? = some x ∧ (X.env.scope.names.lookup x = some .cell ∨ X.env.scope.names.lookup x = some .free) ∧ (cl.lookup x).isSome = true ∧
    ((compEnvC scope cl 0 X.env).kindOf x = some .cell ∨ (compEnvC scope cl 0 X.env).kindOf x = some .free)

section
variable {X : Cx}
theorem comp_start {pins : List (Addr × Obj)} {σ : St} {H3 : Hp} {s3 : Shared} {h1 : Heap} {tk : Nat} {scope : Scope} {cl : List (Str × Addr)} {N' : List Str} {lk : List (Option Nat)} {fp : List Addr} {xe' : Value → Shared → Prop} {m0 : Str → Option Value}
    (I : Inv X pins σ H3 s3) (hf : ∀ b ∈ fp, FpOk X pins H3 b) (hkind : scope.kind = .function) (hcl : ClOk X.env cl) (hfr : FrOk scope.names cl = true) (hlk : LkOk X N' lk scope cl)
    (hn : h1.Ns s3.heap.objs.size m0) (hk : ∀ b u, s3.heap.get? b = some u → h1.get? b = some u) (hfs : ∀ b ∈ fp, b < s3.heap.objs.size) : Inv (compCx X scope cl N' s3 H3 fp xe') [] (capt lk σ) H3 { s3 with heap := h1, toks := tk } := by
  have hC : H3 s3.heap.objs.size = none := I.hok.fresh (Nat.le_refl _)
  have hmem : ∀ y ∈ scope.names, y.2 ≠ .cell ∧ (y.2 = .free → (cl.lookup y.1).isSome = true) := fun y hy => by
    unfold FrOk at hfr
    rw [List.all_eq_true] at hfr
    have := hfr y hy
    rw [Bool.and_eq_true] at this
    refine ⟨by simpa using this.1, fun e => ?_⟩
    have h2 := this.2
    rw [e] at h2
    simpa using h2
  have hcell : ∀ x c, cl.lookup x = some c → X.env.cells.lookup x = some c := fun x c e => hcl.get e
  have clt : ∀ x c, cl.lookup x = some c → c < s3.heap.objs.size := fun x c e => by
    obtain ⟨v, q⟩ := I.cell x c (hcell x c e)
    exact q.lt
  refine ⟨⟨I.ok.mod, hkind, I.ok.glob, I.ok.blt, Nat.le_refl _, fun x y c e1 e2 => I.ok.inj x y c (hcell x c e1) (hcell y c e2), fun x hx => ?_, (fun x c e => by cases e), I.ok.hd, I.ok.frames, .inl rfl, fun b hb => ?_, fun b o e => I.bs b o e, Nat.le_trans I.ok.bsz I.sz, fun b o e hb => ?_, fun b hb z => ?_, I.stack, I.stkFree⟩,
    rfl, I.bare, Un.kept hk, ⟨m0, hn, fun i x v e1 e2 e3 => ?_⟩, fun x c e => ?_, hC, fun x c e => ?_, (fun p hp => nomatch hp), I.hok.kept hk, ?_⟩
  · have hx' : (relabel scope X.env).names.lookup x = some .cell ∨ (relabel scope X.env).names.lookup x = some .free := hx
    have : ∃ k', (x, k') ∈ scope.names ∧ k' = .free := by
      rcases hx' with h | h
      · obtain ⟨k', h1, h2⟩ := lookup_relabel h
        rcases h2 with h2 | h2
        · exact absurd h2 (hmem _ h1).1
        · exact ⟨k', h1, h2.1⟩
      · obtain ⟨k', h1, h2⟩ := lookup_relabel h
        rcases h2 with h2 | h2
        · exact ⟨k', h1, h2⟩
        · exact ⟨k', h1, h2.1⟩
    obtain ⟨k', h1, h2⟩ := this
    exact Option.isSome_iff_exists.mp ((hmem _ h1).2 h2)
  · obtain ⟨f0, f1, f2, f3, f4, f5⟩ := hf b hb
    exact ⟨Nat.ne_of_lt (hfs b hb), fun x c e => f4 x c (hcell x c e)⟩
  · obtain ⟨f0, f1, f2, f3, f4, f5⟩ := hf b hb
    rcases f3 with f3 | f3
    · exact I.ok.noex b o e f3
    · exact absurd (Nat.lt_of_lt_of_le (Heap.lt_size e) (Nat.le_trans I.ok.bsz f3)) (Nat.lt_irrefl _)
  · obtain ⟨f0, f1, f2, f3, f4, f5⟩ := hf b hb
    rcases List.mem_cons.mp (I.stkSub b z) with e | e
    · exact f1 e
    · exact f2 e
  · -- a captured name
    have e2' : (capt lk σ)[i]? = some (some v) := e2
    unfold capt at e2'
    rw [List.getElem?_map] at e2'
    cases hq : lk[i]? with
    | none => rw [hq] at e2'; cases e2'
    | some o =>
      rw [hq] at e2'
      have e2'' : (o.bind fun j => (σ[j]?).join) = some v := Option.some.inj e2'
      cases o with
      | none => cases e2''
      | some j =>
        obtain ⟨q1, q2, q3, q4⟩ := hlk.2 i j x e1 hq
        have hσ : σ[j]? = some (some v) := by
          have z : (σ[j]?).join = some v := e2''
          cases hh : σ[j]? with
          | none => rw [hh] at z; cases z
          | some o => rw [hh] at z; rw [show o = some v from z]
        obtain ⟨m, hnX, hl⟩ := I.loc
        obtain ⟨u, r, lo⟩ := hl j x v q1 hσ (q2.elim (fun a => .inr (.inl a)) (fun a => .inr (.inr a)))
        refine ⟨u, r, .inr ?_⟩
        obtain ⟨c, hc⟩ := Option.isSome_iff_exists.mp q3
        refine ⟨q4, c, hc, ?_⟩
        have hcX := hcell x c hc
        rcases lo with ⟨k, _⟩ | ⟨_, c', hc', z⟩
        · have k' : X.env.scope.names.lookup x = some .local := k
          rw [k'] at q2
          rcases q2 with q2 | q2 <;> cases q2
        · rw [hcX] at hc'
          cases hc'
          obtain ⟨o, ho, hd⟩ := z
          exact ⟨o, hk c o ho, hd⟩
  · obtain ⟨v, o, ho, hd⟩ := I.cell x c (hcell x c e)
    exact ⟨v, o, hk c o ho, hd⟩
  · exact I.freeC x c (hcell x c e)
  · show (capt lk σ).length = N'.length
    unfold capt
    rw [List.length_map]
    exact hlk.1

/-- the tests of a block -/
def PTs (X : Cx) (ifs : List Expr) (t : TT) : Prop :=
  ∀ (pins : List (Addr × Obj)) (s : Shared) (σ : St) (H : Hp) (Q : Bool → Hp → Prop), Inv X pins σ H s → t σ H Q → wpAny (model X.prog X.w) X.A (forIn ifs true fun c r => if r = true then do let ok ← isTrue c X.env (eval c X.env); pure (ForInStep.yield ok) else pure (ForInStep.yield r)) (TP X pins σ Q) X.xe s
/-- no test -/
def tTrue : TT := fun _ H Q => Q true H
theorem pts_nil : PTs X [] tTrue := fun pins s σ H Q I h => wpAny_tests_nil ⟨H, I, h⟩
theorem pts_one {c : Expr} {t : TT} (h : PT X c t) : PTs X [c] t := fun pins s σ H Q I q => wpAny_tests_one (h pins s σ H Q I q)

/-- the reading of [elt for tg in iter if ..] -/
def tComp (wi : TI) (lk : List (Option Nat)) (g : TG) (tt : TT) (te : TE) : TE := fun σ H Q => wi σ H fun J H1 => ∀ D, H1 D = none → ∃ W : Nat → Nat → List V → St → Hp → Prop, (∃ m, W 0 m [] (capt lk σ) (upd H1 D (.lst []))) ∧ ∀ i m xs σ' H', W i m xs σ' H' →
  H' D = some (.lst xs) ∧ ((J.stop i H' ∧ Q (.ref D) H') ∨ (J.go i H' ∧ xs.length < sizeLine ∧ ∀ x H'', J.yld i H' x H'' → g x σ' H'' fun σ2 H2 => tt σ2 H2 fun b H3 =>
    if b = true then te σ2 H3 fun v H4 => H4 D = some (.lst xs) ∧ ∃ m', m' < m ∧ W (i + 1) m' (xs ++ [v]) σ2 (upd H4 D (.lst (xs ++ [v]))) else ∃ m', m' < m ∧ W (i + 1) m' xs σ2 H3))

theorem pe_comp {elt iter tg : Expr} {ifs : List Expr} {scope : Scope} {pos : Pos} {cl : List (Str × Addr)} {N' : List Str} {lk : List (Option Nat)} {wi : TI} {g : TG} {tt : TT} {te : TE} (hc : X.calm = true) (hi : PI X tg iter wi) (hclos : closureFor scope X.env = pure cl) (hkind : scope.kind = .function)
    (hnames : ∀ y ∈ scope.names, y.2 = .local → scope.names.lookup y.1 = some .local) (hcl : ClOk X.env cl) (hfr : FrOk scope.names cl = true) (hlk : LkOk X N' lk scope cl)
    (hg : ∀ s3 H3 fp, PG (compCx X scope cl N' s3 H3 fp fun _ _ => False) tg g) (ht : ∀ s3 H3 fp, PTs (compCx X scope cl N' s3 H3 fp fun _ _ => False) ifs tt) (he : ∀ s3 H3 fp, PE (compCx X scope cl N' s3 H3 fp fun _ _ => False) elt te)
    (hs : ∀ x, foldedSetIterable iter X.env x = pure x := by intro _; rfl) : PE X (.ListComp elt [⟨tg, iter, ifs, 0⟩] scope pos) (tComp wi lk g tt te) := by
  intro pins s σ H Q I h
  rw [eval_ListComp]
  have hcellN : ∀ y ∈ scope.names, y.2 ≠ .cell := fun y hy => by
    unfold FrOk at hfr
    rw [List.all_eq_true] at hfr
    have := hfr y hy
    rw [Bool.and_eq_true] at this
    simpa using this.1
  refine wpAny_comprehension_free (use := none) rfl hs hclos hkind hnames (thn (hi pins s σ H _ I h) fun v s1 h1 => thn h1 fun itv s2 h2 => ?_)
  obtain ⟨it, fp, tn, J, H2, e, I2, T, st2, f2, q⟩ := h2
  subst e
  refine wpAny_newList ?_ (Nat.zero_le _)
  have hD : H2 s2.heap.objs.size = none := I2.hok.fresh (Nat.le_refl _)
  have I3 := I2.lnew (ys := []) (its := []) (t' := s2.toks) .nil (Nat.zero_le _)
  obtain ⟨W, ⟨m0, w0⟩, turn⟩ := q s2.heap.objs.size hD
  have fpl : ∀ b ∈ fp, b < s2.heap.objs.size := fun b hb => by
    obtain ⟨o, ho, _⟩ := T.obj 0 s2.heap st2 b hb
    exact Heap.lt_size ho
  refine wpAny_newFunctionEnv hcellN (by intro y hy; cases hy) (fun h1 hns1 hsb1 => ?_) hkind
  dsimp only at hns1 hsb1 ⊢
  -- the state ahead of the frame, the block's context
  have e3 : s2.heap.push { cls := .type "list", dict := none, data := .seq ([] : List Value).toArray } = s2.heap.push { cls := .type "list", data := .seq ([] : List Value).toArray } := rfl
  generalize hh3 : s2.heap.push { cls := .type "list", dict := none, data := .seq ([] : List Value).toArray } = h3 at *
  have I3' : Inv X pins σ (upd H2 s2.heap.objs.size (.lst [])) { s2 with heap := h3, toks := s2.toks } := I3
  have size3 : h3.objs.size = s2.heap.objs.size + 1 := by rw [← hh3, Heap.size_push]
  have f3 : ∀ b ∈ fp, FpOk X pins (upd H2 s2.heap.objs.size (.lst [])) b := fun b hb => by
    obtain ⟨f0, fr⟩ := f2 b hb
    exact ⟨by rw [upd_ne (Nat.ne_of_lt (fpl b hb))]; exact f0, fr⟩
  have up : ∀ b u, h3.get? b = some u → h1.get? b = some u := fun b u eb => by
    rw [hsb1.2 b (Nat.ne_of_lt (Heap.lt_size eb))]
    exact Heap.get?_push_of_some _ eb
  have I4 : Inv (compCx X scope cl N' { s2 with heap := h3, toks := s2.toks } (upd H2 s2.heap.objs.size (.lst [])) fp fun _ _ => False) [] (capt lk σ) (upd H2 s2.heap.objs.size (.lst [])) { s2 with heap := h1, toks := s2.toks + ([] : List (Str × Value)).length } :=
    comp_start (s3 := { s2 with heap := h3, toks := s2.toks }) I3' f3 hkind hcl hfr hlk hns1 up fun b hb => by show b < h3.objs.size; rw [size3]; exact Nat.lt_succ_of_lt (fpl b hb)
  have st4 : tn 0 h1 := T.keep 0 s2.heap h1 st2 fun b hb o eb => up b o (by rw [← hh3]; exact Heap.get?_push_of_some _ eb)
  have hCs : h3.objs.size = (compEnvC scope cl h3.objs.size X.env).locals := rfl
  -- what stays true of the iterator's objects
  have stat : ∀ {H' : Hp}, (∀ b ∈ fp, H' b = none) → ∀ b ∈ fp, FpOk (compCx X scope cl N' { s2 with heap := h3, toks := s2.toks } (upd H2 s2.heap.objs.size (.lst [])) fp fun _ _ => False) [] H' b := fun {H'} hn b hb => by
    obtain ⟨f0, f1, f2', f3', f4, f5⟩ := f3 b hb
    refine ⟨hn b hb, ?_, fun z => ?_, .inl hb, fun x c ex => f4 x c (hcl.get ex), fun p hp => nomatch hp⟩
    · show b ≠ h3.objs.size
      rw [size3]
      exact Nat.ne_of_lt (Nat.lt_succ_of_lt (fpl b hb))
    · rcases List.mem_cons.mp (I3'.stkSub b z) with q | q
      · exact f1 q
      · exact f2' q
  -- the block's end
  have fin : ∀ (s' : Shared) (σ' : St) (H' : Hp), Inv (compCx X scope cl N' { s2 with heap := h3, toks := s2.toks } (upd H2 s2.heap.objs.size (.lst [])) fp fun _ _ => False) [] σ' H' s' → Q (.ref s2.heap.objs.size) H' →
      compPost (model X.prog X.w) X.A X.xe none (EP X pins σ Q) (.ref s2.heap.objs.size) h3.objs.size (.ok .next) s' := fun s' σ' H' I' q' => by
    obtain ⟨m, hm, _⟩ := id I'.loc
    have I5 : Inv X pins σ H' s' := I3'.call' (ch := fp) I'.os I'.base I'.hok I'.bare fun b hb => by
      obtain ⟨f0, f1, f2', f3', f4, f5⟩ := f3 b hb
      exact ⟨f3', f1, f4, f5⟩
    refine ⟨m, hm, fun h' hsb => ?_⟩
    refine ⟨.ref s2.heap.objs.size, H', ?_, rfl, q'⟩
    have hfc : H' h3.objs.size = none := I'.free
    have hcl1 : ∀ b o, h3.get? b = some o → b ≠ h3.objs.size := fun b o eb => Nat.ne_of_lt (Heap.lt_size eb)
    obtain ⟨h0', g0, d0, t0, o0⟩ := s'
    refine I5.turned (t' := t0) (it := h3.objs.size) (fun b o hb eb => (hsb.2 b hb).trans eb) hfc ?_ (.inr I3'.sz) (fun x c ex z => ?_) (fun p hp z => ?_)
    · exact Nat.ne_of_gt I3'.lt
    · obtain ⟨v', q2⟩ := I3'.cell x c ex
      exact absurd q2.lt (by rw [z]; exact Nat.lt_irrefl _)
    · exact absurd (Heap.lt_size (I3'.pin p hp).1) (by rw [z]; exact Nat.lt_irrefl _)
  have loop : ∀ s5 : Shared, s5 = { s2 with heap := h1, toks := s2.toks + ([] : List (Str × Value)).length } →
      codeAny (model X.prog X.w) X.A (.compLoop (.ListComp elt [⟨tg, iter, ifs, 0⟩] scope pos) 0 (.ref it) (.ref s2.heap.objs.size) (compEnvC scope cl h3.objs.size X.env)) (compPost (model X.prog X.w) X.A X.xe none (EP X pins σ Q) (.ref s2.heap.objs.size) h3.objs.size) s5 := by
    rintro s5 rfl
    refine codeAny_loop rfl (fun n s' => ∃ i xs σ' H', Inv (compCx X scope cl N' { s2 with heap := h3, toks := s2.toks } (upd H2 s2.heap.objs.size (.lst [])) fp fun _ _ => False) [] σ' H' s' ∧ tn i s'.heap ∧ (∀ b ∈ fp, H' b = none) ∧ W i n xs σ' H')
      (fun n s6 hI => ?_) m0 ⟨0, [], capt lk σ, _, I4, st4, fun b hb => (f3 b hb).1, w0⟩
    obtain ⟨i, xs, σ6, H6, I6, st6, fr6, w6⟩ := hI
    show wpAny _ X.A ((compTurn (.ListComp elt [⟨tg, iter, ifs, 0⟩] scope pos) 0 (.ref it) (.ref s2.heap.objs.size) (compEnvC scope cl h3.objs.size X.env)).onRaise (fun x => do noteFrame x (compEnvC scope cl h3.objs.size X.env); theTreesLotGoes x)) _ _ s6
    refine wpAny_noted ?_
    rw [compTurn_list]
    refine wpAny_bind (wpAny_standAt (wpAny_bind ?_))
    obtain ⟨hD6, hw⟩ := turn i n xs σ6 H6 w6
    rcases hw with ⟨stop, qn⟩ | ⟨go, hlen, step⟩
    · refine thn (T.done (compCx X scope cl N' { s2 with heap := h3, toks := s2.toks } (upd H2 s2.heap.objs.size (.lst [])) fp fun _ _ => False) rfl rfl rfl hc i [] s6 σ6 H6 _ I6 (stat fr6) st6 stop) fun r s7 ⟨hr, I7⟩ => ?_
      subst hr
      exact wpAny_pure (fin s7 σ6 H6 I7 qn)
    · refine thn (T.item (compCx X scope cl N' { s2 with heap := h3, toks := s2.toks } (upd H2 s2.heap.objs.size (.lst [])) fp fun _ _ => False) rfl rfl rfl hc i [] s6 σ6 H6 _ I6 (stat fr6) st6 go) fun r s7 ⟨u, hr, h7⟩ => ?_
      subst hr
      refine wpAny_bind (thn h7 fun _ s8 ⟨x, H8, I8, r8, y8, st8, fr8⟩ => ?_)
      have I8' := I8.pinned (stat fr8) (T.obj _ _ st8)
      refine wpAny_bind (wpAny_mono (hg _ _ _ _ s8 σ6 H8 x u _ I8' r8 (step x H8 y8)) (fun _ s9 ⟨σ9, H9, I9, q9⟩ => ?_) (fun _ _ z => False.elim z))
      refine wpAny_bind (wpAny_mono (ht _ _ _ _ s9 σ9 H9 _ I9 q9) (fun ok s10 ⟨H10, I10, q10⟩ => ?_) (fun _ _ z => False.elim z))
      have again : ∀ {σ' : St} {H' : Hp} {ys : List V} {s' : Shared}, Inv (compCx X scope cl N' { s2 with heap := h3, toks := s2.toks } (upd H2 s2.heap.objs.size (.lst [])) fp fun _ _ => False) ([] ++ pinsAt fp s8.heap) σ' H' s' → (∃ m', m' < n ∧ W (i + 1) m' ys σ' H') →
          ∃ m', m' < n ∧ ∃ i xs σ' H', Inv (compCx X scope cl N' { s2 with heap := h3, toks := s2.toks } (upd H2 s2.heap.objs.size (.lst [])) fp fun _ _ => False) [] σ' H' s' ∧ tn i s'.heap ∧ (∀ b ∈ fp, H' b = none) ∧ W i m' xs σ' H' := fun {σ' H' ys s'} I' ⟨m', hm, w'⟩ => by
        refine ⟨m', hm, i + 1, ys, σ', H', I'.unpinned, T.keep _ _ _ st8 fun b hb o eb => (I'.pin (b, o) (List.mem_append_right _ (List.mem_append_right _ (mem_pinsAt hb eb)))).1, fun b hb => ?_, w'⟩
        obtain ⟨o, eb, _⟩ := T.obj _ _ st8 b hb
        exact (I'.pin (b, o) (List.mem_append_right _ (List.mem_append_right _ (mem_pinsAt hb eb)))).2.1
      cases ok with
      | false =>
        have q10' : ∃ m', m' < n ∧ W (i + 1) m' xs σ9 H10 := by simpa using q10
        exact wpAny_pure ⟨rfl, again I10 q10'⟩
      | true =>
        rw [if_pos rfl] at q10
        refine wpAny_bind (wpAny_bind (wpAny_mono (he _ _ _ _ s10 σ9 H10 _ I10 q10) (fun y s11 ⟨v11, H11, I11, r11, hD11, q11⟩ => ?_) (fun _ _ z => False.elim z)))
        refine wpAny_bind (wpAny_mono (mt_append (X := compCx X scope cl N' { s2 with heap := h3, toks := s2.toks } (upd H2 s2.heap.objs.size (.lst [])) fp fun _ _ => False) _ s11 σ9 H11 (.ref s2.heap.objs.size) [v11] (.ref s2.heap.objs.size) [y] (fun _ H' => ∃ m', m' < n ∧ W (i + 1) m' (xs ++ [v11]) σ9 H') I11 rfl (.cons r11 .nil) ⟨s2.heap.objs.size, xs, v11, rfl, rfl, hD11, hlen, q11⟩) (fun _ s12 ⟨_, H12, I12, _, q12⟩ => ?_) (fun _ _ z => False.elim z))
        exact wpAny_pure (wpAny_pure ⟨rfl, again I12 q12⟩)
  exact codeAny_compStart_list (loop _ rfl) (T.self X.A 0 _ _ _ st4 (loop _ rfl))
end
end L2

namespace L2
open PySem PySem.Spec PyProof.Rows
set_option autoImplicit false
set_option linter.all false

/-! ### enumerate(a list), its pairs unpacked -/
def Itn (K : PySem.W.Frag) (a : Addr) : It :=
  ⟨fun i H => ∃ xs x, SqL K H a xs ∧ xs[i]? = some x, fun i H x H' => ∃ t v, H t = none ∧ x = .ref t ∧ (∀ xs, SqL K H a xs → xs[i]? = some v) ∧ H' = upd H t (.tup [.int i, v]), fun i H => ∃ xs, SqL K H a xs ∧ xs.length ≤ i⟩
def iEnum (K : PySem.W.Frag) (ta : TA) : TI := fun σ H R => ta σ H fun vs H1 => ∃ a, vs = [.ref a] ∧ (∃ xs, SqL K H1 a xs) ∧ R (Itn K a) H1
theorem turn_enum {P : Program} {w : World} {K : PySem.W.Frag} {elts : List Expr} {x1 : Nat} {pos : Pos} (a it e : Addr) (hne : e ≠ it) : Turn P w K (.Tuple elts x1 pos) (Itn K a) [e, it] e (fun i h => (∃ old, IsEnum h e it (i : Int) old) ∧ h.IsListIter it a i) where
  mem := by simp
  obj := fun i h st b hb => by
    obtain ⟨⟨old, he⟩, o, ho, hc, hd⟩ := st
    rcases List.mem_cons.mp hb with rfl | hb
    · exact ⟨_, he, fun v z => by cases z⟩
    · have eb : b = it := by simpa using hb
      subst eb
      exact ⟨o, ho, fun v z => by rw [hd] at z; cases z⟩
  keep := fun i h h' st k => by
    obtain ⟨⟨old, he⟩, hit⟩ := st
    exact ⟨⟨old, k e (by simp) _ he⟩, hit.at fun o q => k it (by simp) o q⟩
  item := by
    intro X hP hw hK hc i pins s σ H E I hf st hg
    subst hP hw hK
    obtain ⟨xs, x, hq, hx⟩ := hg
    obtain ⟨⟨old, he⟩, hit⟩ := st
    obtain ⟨its, rv, p, hz⟩ := I.list hq
    obtain ⟨u, hu, ru⟩ := rv.get hx
    obtain ⟨f0, f1, f2, f3, f4, f5⟩ := hf e (by simp)
    obtain ⟨g0, g1, g2, g3, g4, g5⟩ := hf it (by simp)
    refine wpAny_pyNext_enum_item he hit p.isList (x := u) (by simpa using hu) hne fun h1 heo hit1 ht1 hz1 hk1 => ?_
    refine ⟨_, rfl, ?_⟩
    refine wpAny_letOwnedTupleGo_enum heo fun h2 he2 hs2 => ?_
    have hlt : e < s.heap.objs.size := Heap.lt_size he
    have hs2' : Heap.SameBut e h1 h2 := hs2
    have ht2 : h2.get? s.heap.objs.size = some { cls := .type "tuple", data := .seq #[.int i s.toks, u] } := (hs2'.2 _ (Nat.ne_of_gt hlt)).trans ht1
    have kp : ∀ b o, b ≠ e → b ≠ it → s.heap.get? b = some o → h2.get? b = some o := fun b o h1' h2' q => (hs2'.2 b h1').trans (hk1 b o h1' h2' q)
    -- the two records turn, then the tuple is laid
    have hT : H s.heap.objs.size = none := I.hok.fresh (Nat.le_refl _)
    have nH : ∀ b, H b ≠ none → b ≠ e ∧ b ≠ it := fun b hb => ⟨fun z => hb (z ▸ f0), fun z => hb (z ▸ g0)⟩
    have keepH : ∀ b o, H b = some o → upd H s.heap.objs.size (.tup [.int i, x]) b = some o := fun b o q => by rw [upd_ne (ne_of_none q hT)]; exact q
    have hok2 : HOk X.prog X.w (upd H s.heap.objs.size (.tup [.int i, x])) h2 := fun b o eb => by
      by_cases hb : b = s.heap.objs.size
      · subst hb
        rw [upd_same] at eb
        cases eb
        exact ⟨by show 2 ≤ sizeLine; decide, [.int i s.toks, u], .cons ⟨_, rfl⟩ (.cons ru .nil), ⟨_, ht2, rfl, _, rfl⟩⟩
      · rw [upd_ne hb] at eb
        refine (I.hok b o eb).stay (fun c v hcc q => kp c v ?_ ?_ q) (fun c q => keepH c _ q) fun c ys q => keepH c _ q
        · rcases hcc with z | z
          · exact (nH c (by rw [z, eb]; simp)).1
          · exact (nH c (by rw [z]; simp)).1
        · rcases hcc with z | z
          · exact (nH c (by rw [z, eb]; simp)).2
          · exact (nH c (by rw [z]; simp)).2
    have I2 : Inv X pins σ (upd H s.heap.objs.size (.tup [.int i, x])) { s with heap := h2, toks := s.toks + 1 } := by
      refine I.step (g' := s.gens) (d' := s.drawn) (t' := s.toks + 1) (ch := [e, it]) (fun b hb => ?_) (fun b o _ _ hcc q _ => kp b o (fun z => hcc (by simp [z])) (fun z => hcc (by simp [z])) q) (fun b o _ _ hcc q _ => ⟨o.slots, kp b o (fun z => hcc (by simp [z])) (fun z => hcc (by simp [z])) q⟩) (fun b o _ q n => ?_)
        (fun b o hcc q => ⟨o, kp b o (fun z => hcc (by simp [z])) (fun z => hcc (by simp [z])) q⟩) (fun b ys q => keepH b _ q) (fun b o v q => keepH b _ q) (fun b ps q => ⟨#[], by rw [keepH b _ q]; simp⟩) (fun m hm => ?_) hok2 I.bare
      · rcases List.mem_cons.mp hb with rfl | hb
        · exact ⟨f3, f1, f4, f5⟩
        · have eb : b = it := by simpa using hb
          subst eb
          exact ⟨g3, g1, g4, g5⟩
      · rw [upd_ne (Nat.ne_of_lt (Heap.lt_size q))]
        exact n
      · obtain ⟨o, es, ep, ho, r⟩ := hm
        exact ⟨o, es, ep, kp _ o (Ne.symm f1) (Ne.symm g1) ho, r⟩
    have hilt : it < s.heap.objs.size := by
      obtain ⟨o, ho, _⟩ := id hit
      exact Heap.lt_size ho
    refine ⟨.ref s.heap.objs.size, _, I2, rfl, ⟨s.heap.objs.size, x, hT, rfl, fun ys hy => by rw [I.list_inj hy hq]; exact hx, rfl⟩, ⟨⟨u, ?_⟩, ?_⟩, fun b hb => ?_⟩
    · have := he2
      rw [show ((i : Int) + 1) = (((i + 1 : Nat) : Int)) by simp] at this
      exact this
    · exact hit1.at fun o q => (hs2'.2 it (Ne.symm hne)).trans q
    · rcases List.mem_cons.mp hb with rfl | hb
      · rw [upd_ne (Nat.ne_of_lt hlt)]; exact f0
      · have eb : b = it := by simpa using hb
        subst eb
        rw [upd_ne (Nat.ne_of_lt hilt)]
        exact g0
  done := by
    intro X hP hw hK hc i pins s σ H E I hf st hg
    subst hP hw hK
    obtain ⟨xs, hq, hx⟩ := hg
    obtain ⟨⟨old, he⟩, hit⟩ := st
    obtain ⟨its, rv, p, hz⟩ := I.list hq
    obtain ⟨g0, g1, g2, g3, g4, g5⟩ := hf it (by simp)
    have hl := rv.length
    exact wpAny_pyNext_enum_end (I.ok.hd hc) he hit p.isList (by simp; omega) fun h' eb => ⟨rfl, I.turned (t' := s.toks) (fun b o hb q => eb b o hb q) g0 g1 g3 g4 g5⟩
  self := fun _ _ _ _ _ st h => by
    obtain ⟨⟨old, he⟩, _⟩ := st
    exact wpAny_pyIter_enum he h
section
variable {X : Cx}
theorem pi_enum {a : Expr} {ta : TA} {elts : List Expr} {x1 : Nat} {tpos p pos : Pos} (hg : Gl X "enumerate") (hm : X.mg "enumerate" = none) (ha : PA X [a] ta) (hv : bootBuiltins "enumerate" = some (.type "enumerate") := by rfl) (hs : starEach [a] X.env = [(false, eval a X.env)] := by rfl) :
    PI X (.Tuple elts x1 tpos) (.Call (.Name "enumerate" p) [a] [] pos) (iEnum X.K ta) := by
  intro pins s σ H R I h
  refine Call_ (ld_blt I hg hm hv (PyProof.Rows.callWith_type1 (thn (ha pos pins s σ H _ I h) fun us s1 ⟨vs, H1, I1, r1, q1⟩ => ?_) hs rfl))
  obtain ⟨b, e, ⟨xs, hq⟩, q⟩ := q1
  subst e
  obtain ⟨u, rfl, rx⟩ := vals1 r1
  cases rx
  obtain ⟨its, rv, pl, hz⟩ := I1.list hq
  refine call_enumerate_list pl.isList fun h' he hit hsz kp => ?_
  refine wpAny_pyIter_enum he ?_
  have hne : s1.heap.objs.size + 1 ≠ s1.heap.objs.size := Nat.succ_ne_self _
  refine ⟨s1.heap.objs.size + 1, [s1.heap.objs.size + 1, s1.heap.objs.size], _, _, H1, rfl, I1.kept (t' := s1.toks) kp, turn_enum b s1.heap.objs.size (s1.heap.objs.size + 1) hne, ⟨⟨_, he⟩, hit⟩, fun c hc => ?_, q⟩
  rcases List.mem_cons.mp hc with rfl | hc
  · exact I1.fpOk (Nat.le_succ _) (I1.hok.fresh (Nat.le_succ _))
  · have e : c = s1.heap.objs.size := by simpa using hc
    subst e
    exact I1.fpOk (Nat.le_refl _) (I1.hok.fresh (Nat.le_refl _))
end
/-! ### comprehensions over a list or tuple that stays -/
theorem comp_list {K : PySem.W.Frag} {a D : Addr} {ys : List V} {g : TG} {tt : TT} {te : TE} {Qd : Hp → Prop} {σ0 : St} {H0 : Hp} (Pv : Nat → List V → St → Hp → Prop) (h0 : Pv 0 [] σ0 H0) (hz : ys.length ≤ sizeLine) (hl : ∀ i xs σ H, i ≤ ys.length → Pv i xs σ H → SqL K H a ys ∧ H D = some (.lst xs) ∧ xs.length ≤ i)
    (hs : ∀ i xs x σ H (N : List V → St → Hp → Prop), (∀ xs' σ' H', Pv (i + 1) xs' σ' H' → N xs' σ' H') → ys[i]? = some x → Pv i xs σ H → g x σ H fun σ2 H2 => tt σ2 H2 fun b H3 => if b = true then te σ2 H3 fun v H4 => H4 D = some (.lst xs) ∧ N (xs ++ [v]) σ2 (upd H4 D (.lst (xs ++ [v]))) else N xs σ2 H3)
    (hd : ∀ xs σ H, Pv ys.length xs σ H → Qd H) :
    ∃ W : Nat → Nat → List V → St → Hp → Prop, (∃ m, W 0 m [] σ0 H0) ∧ ∀ i m xs σ' H', W i m xs σ' H' → H' D = some (.lst xs) ∧ (((Itl K a).stop i H' ∧ Qd H') ∨ ((Itl K a).go i H' ∧ xs.length < sizeLine ∧ ∀ x H'', (Itl K a).yld i H' x H'' → g x σ' H'' fun σ2 H2 => tt σ2 H2 fun b H3 =>
      if b = true then te σ2 H3 fun v H4 => H4 D = some (.lst xs) ∧ ∃ m', m' < m ∧ W (i + 1) m' (xs ++ [v]) σ2 (upd H4 D (.lst (xs ++ [v]))) else ∃ m', m' < m ∧ W (i + 1) m' xs σ2 H3)) := by
  refine ⟨fun i m xs σ H => m = ys.length - i ∧ i ≤ ys.length ∧ Pv i xs σ H, ⟨ys.length, by simp, Nat.zero_le _, h0⟩, ?_⟩
  rintro i m xs σ H ⟨rfl, hi, p⟩
  obtain ⟨q, hD, hx⟩ := hl i xs σ H hi p
  refine ⟨hD, ?_⟩
  by_cases hlt : i < ys.length
  · refine .inr ⟨⟨ys, ys[i], q, by simp [hlt]⟩, by omega, fun x H'' y => ?_⟩
    obtain ⟨e, y⟩ := y
    subst e
    exact hs i xs x σ _ (fun zs σ' H' => ∃ m', m' < ys.length - i ∧ m' = ys.length - (i + 1) ∧ i + 1 ≤ ys.length ∧ Pv (i + 1) zs σ' H') (fun zs σ' H' r => ⟨_, by omega, rfl, hlt, r⟩) (y ys q) p
  · have e : i = ys.length := by omega
    subst e
    exact .inl ⟨⟨ys, q, Nat.le_refl _⟩, hd xs σ H p⟩
theorem comp_tup {K : PySem.W.Frag} {a D : Addr} {ys : List V} {g : TG} {tt : TT} {te : TE} {Qd : Hp → Prop} {σ0 : St} {H0 : Hp} (Pv : Nat → List V → St → Hp → Prop) (h0 : Pv 0 [] σ0 H0) (hz : ys.length ≤ sizeLine) (hl : ∀ i xs σ H, i ≤ ys.length → Pv i xs σ H → SqT K H a ys ∧ H D = some (.lst xs) ∧ xs.length ≤ i)
    (hs : ∀ i xs x σ H (N : List V → St → Hp → Prop), (∀ xs' σ' H', Pv (i + 1) xs' σ' H' → N xs' σ' H') → ys[i]? = some x → Pv i xs σ H → g x σ H fun σ2 H2 => tt σ2 H2 fun b H3 => if b = true then te σ2 H3 fun v H4 => H4 D = some (.lst xs) ∧ N (xs ++ [v]) σ2 (upd H4 D (.lst (xs ++ [v]))) else N xs σ2 H3)
    (hd : ∀ xs σ H, Pv ys.length xs σ H → Qd H) :
    ∃ W : Nat → Nat → List V → St → Hp → Prop, (∃ m, W 0 m [] σ0 H0) ∧ ∀ i m xs σ' H', W i m xs σ' H' → H' D = some (.lst xs) ∧ (((Itt K a).stop i H' ∧ Qd H') ∨ ((Itt K a).go i H' ∧ xs.length < sizeLine ∧ ∀ x H'', (Itt K a).yld i H' x H'' → g x σ' H'' fun σ2 H2 => tt σ2 H2 fun b H3 =>
      if b = true then te σ2 H3 fun v H4 => H4 D = some (.lst xs) ∧ ∃ m', m' < m ∧ W (i + 1) m' (xs ++ [v]) σ2 (upd H4 D (.lst (xs ++ [v]))) else ∃ m', m' < m ∧ W (i + 1) m' xs σ2 H3)) := by
  refine ⟨fun i m xs σ H => m = ys.length - i ∧ i ≤ ys.length ∧ Pv i xs σ H, ⟨ys.length, by simp, Nat.zero_le _, h0⟩, ?_⟩
  rintro i m xs σ H ⟨rfl, hi, p⟩
  obtain ⟨q, hD, hx⟩ := hl i xs σ H hi p
  refine ⟨hD, ?_⟩
  by_cases hlt : i < ys.length
  · refine .inr ⟨⟨ys, ys[i], q, by simp [hlt]⟩, by omega, fun x H'' y => ?_⟩
    obtain ⟨e, y⟩ := y
    subst e
    exact hs i xs x σ _ (fun zs σ' H' => ∃ m', m' < ys.length - i ∧ m' = ys.length - (i + 1) ∧ i + 1 ≤ ys.length ∧ Pv (i + 1) zs σ' H') (fun zs σ' H' r => ⟨_, by omega, rfl, hlt, r⟩) (y ys q) p
  · have e : i = ys.length := by omega
    subst e
    exact .inl ⟨⟨ys, q, Nat.le_refl _⟩, hd xs σ H p⟩
end L2

namespace L2
open PySem PySem.Spec PyProof.Rows
set_option autoImplicit false
set_option linter.all false

/-! ### data: what a value is, down to its ints -/
mutual
def Dt (K : PySem.W.Frag) (H : Hp) : PyData → V → Prop
  | .none, v => v = .non
  | .bool b, v => v = .bl b
  | .int i, v => v = .int i
  | .str x, v => v = .str x
  | .list ds, v => ∃ a xs, v = .ref a ∧ SqL K H a xs ∧ DtAll K H ds xs
  | .tuple ds, v => ∃ a xs, v = .ref a ∧ SqT K H a xs ∧ DtAll K H ds xs
  | .dict _, _ => False
def DtAll (K : PySem.W.Frag) (H : Hp) : List PyData → List V → Prop
  | [], xs => xs = []
  | d :: ds, xs => ∃ y ys, xs = y :: ys ∧ Dt K H d y ∧ DtAll K H ds ys
end
section
variable {X : Cx} {pins : List (Addr × Obj)} {σ : St} {H : Hp} {s : Shared}
mutual
theorem Dt.reads (I : Inv X pins σ H s) : ∀ (d : PyData) (v : V) (u : Value), Dt X.K H d v → RelV v u → ∃ as, Reads s.heap u d as
  | .none, v, u, h, r => by unfold Dt at h; subst h; cases r; exact ⟨_, .none⟩
  | .bool b, v, u, h, r => by unfold Dt at h; subst h; cases r; exact ⟨_, .bool b⟩
  | .int i, v, u, h, r => by unfold Dt at h; subst h; obtain ⟨t, rfl⟩ := r; exact ⟨_, .int i t⟩
  | .str x, v, u, h, r => by unfold Dt at h; subst h; obtain ⟨t, rfl⟩ := r; exact ⟨_, .str x t⟩
  | .list ds, v, u, h, r => by
    unfold Dt at h
    obtain ⟨a, xs, rfl, hq, hd⟩ := h
    cases r
    obtain ⟨its, rv, ⟨o, n, ho, hc, _, hdd⟩, _⟩ := I.list hq
    obtain ⟨as, ra⟩ := DtAll.reads I ds xs its hd rv
    exact ⟨_, .list ho hc hdd (by simpa using ra)⟩
  | .tuple ds, v, u, h, r => by
    unfold Dt at h
    obtain ⟨a, xs, rfl, hq, hd⟩ := h
    cases r
    obtain ⟨its, rv, ⟨o, ho, hc, n, hdd⟩, _⟩ := I.tuple hq
    obtain ⟨as, ra⟩ := DtAll.reads I ds xs its hd rv
    exact ⟨_, .tuple ho hc hdd (by simpa using ra)⟩
  | .dict _, v, u, h, r => by unfold Dt at h; exact h.elim
theorem DtAll.reads (I : Inv X pins σ H s) : ∀ (ds : List PyData) (xs : List V) (us : List Value), DtAll X.K H ds xs → Vals xs us → ∃ as, ReadsAll s.heap us ds as
  | [], xs, us, h, r => by unfold DtAll at h; subst h; cases r; exact ⟨_, .nil⟩
  | d :: ds, xs, us, h, r => by
    unfold DtAll at h
    obtain ⟨y, ys, rfl, h1, h2⟩ := h
    cases r with
    | cons q t =>
      obtain ⟨as, ra⟩ := Dt.reads I d y _ h1 q
      obtain ⟨bs, rb⟩ := DtAll.reads I ds ys _ h2 t
      exact ⟨_, .cons ra rb⟩
end
end
mutual
theorem Dt.same {K : PySem.W.Frag} {H H' : Hp} (hs : ∀ b o, H b = some o → H' b = some o) : ∀ (d : PyData) (v : V), Dt K H d v → Dt K H' d v
  | .none, v, h => by unfold Dt at h ⊢; exact h
  | .bool b, v, h => by unfold Dt at h ⊢; exact h
  | .int i, v, h => by unfold Dt at h ⊢; exact h
  | .str x, v, h => by unfold Dt at h ⊢; exact h
  | .list ds, v, h => by
    unfold Dt at h ⊢
    obtain ⟨a, xs, rfl, hq, hd⟩ := h
    refine ⟨a, xs, rfl, ?_, DtAll.same hs ds xs hd⟩
    rcases hq with (h | ⟨o, h⟩) | h
    · exact .inl (.inl (hs _ _ h))
    · exact .inl (.inr ⟨o, hs _ _ h⟩)
    · exact .inr h
  | .tuple ds, v, h => by
    unfold Dt at h ⊢
    obtain ⟨a, xs, rfl, hq, hd⟩ := h
    refine ⟨a, xs, rfl, ?_, DtAll.same hs ds xs hd⟩
    rcases hq with (h | ⟨o, h⟩) | h
    · exact .inl (.inl (hs _ _ h))
    · exact .inl (.inr ⟨o, hs _ _ h⟩)
    · exact .inr h
  | .dict _, v, h => by unfold Dt at h; exact h.elim
theorem DtAll.same {K : PySem.W.Frag} {H H' : Hp} (hs : ∀ b o, H b = some o → H' b = some o) : ∀ (ds : List PyData) (xs : List V), DtAll K H ds xs → DtAll K H' ds xs
  | [], xs, h => by unfold DtAll at h ⊢; exact h
  | d :: ds, xs, h => by
    unfold DtAll at h ⊢
    obtain ⟨y, ys, rfl, h1, h2⟩ := h
    exact ⟨y, ys, rfl, Dt.same hs d y h1, DtAll.same hs ds ys h2⟩
end
/-- a tuple of ints, a list of such -/
def dP (k : List Int) : PyData := .tuple (k.map .int)
theorem DtAll.ints {K : PySem.W.Frag} {H : Hp} : ∀ (k : List Int), DtAll K H (k.map PyData.int) (k.map V.int)
  | [] => by unfold DtAll; rfl
  | i :: k => by
    rw [List.map_cons, List.map_cons]
    unfold DtAll
    exact ⟨_, _, rfl, by unfold Dt; rfl, DtAll.ints k⟩
theorem DtAll.tups {K : PySem.W.Frag} {H : Hp} : ∀ {ys : List V} {ks : List (List Int)}, Tups K H ys ks → DtAll K H (ks.map dP) ys
  | _, _, .nil => by unfold DtAll; rfl
  | _, _, .cons r t => by
    obtain ⟨a, rfl, h⟩ := r
    rw [List.map_cons]
    unfold DtAll
    refine ⟨_, _, rfl, ?_, DtAll.tups t⟩
    unfold dP Dt
    exact ⟨a, _, rfl, h, DtAll.ints _⟩
theorem lay_ints : ∀ k : List Int, PyData.canLayAll0 (k.map .int) = true
  | [] => by simp [PyData.canLayAll0]
  | i :: k => by rw [List.map_cons]; simp [PyData.canLayAll0, PyData.canLay0, lay_ints k]
theorem lay_pairs : ∀ ks : List (List Int), PyData.canLayAll0 (ks.map dP) = true
  | [] => by simp [PyData.canLayAll0]
  | k :: ks => by rw [List.map_cons]; simp [PyData.canLayAll0, PyData.canLay0, dP, lay_ints k, lay_pairs ks]
section
variable {X : Cx}
/-- ==, != of data -/
def rEqD (K : PySem.W.Frag) (A : Around) (neg : Bool) : R2 := fun x y H Q => ∃ dx dy, Dt K H dx x ∧ Dt K H dy y ∧ dx.canLay0 = true ∧ dy.canLay0 = true ∧ A.units + min dx.depth dy.depth < cLine ∧ Q (.bl (if neg then !PyData.eqv dx dy else PyData.eqv dx dy)) H
theorem op_eqD : OpR X (compareOp .Eq) (rEqD X.K X.A false) := by
  intro pins s σ H x y v u Q I rx ry h
  obtain ⟨dx, dy, h1, h2, h3, h4, h5, q⟩ := h
  obtain ⟨as, ra⟩ := h1.reads I dx x v rx
  obtain ⟨bs, rb⟩ := h2.reads I dy y u ry
  exact SeqAt.compareEq_reads ra rb h3 h4 h5 ⟨.bl _, H, I, rfl, q⟩
theorem op_neD : OpR X (compareOp .NotEq) (rEqD X.K X.A true) := by
  intro pins s σ H x y v u Q I rx ry h
  obtain ⟨dx, dy, h1, h2, h3, h4, h5, q⟩ := h
  obtain ⟨as, ra⟩ := h1.reads I dx x v rx
  obtain ⟨bs, rb⟩ := h2.reads I dy y u ry
  exact SeqAt.compareNe_reads ra rb h3 h4 h5 ⟨.bl _, H, I, rfl, q⟩

end
end L2

namespace L2
open PySem PySem.Spec PyProof.Rows
set_option autoImplicit false
set_option linter.all false
section
variable {X : Cx}
/-- sum(a list of ints) -/
theorem call_sum (hc : X.calm = true) : CallR X (.builtin "sum") (fun xs H Q => ∃ (p : Addr) (ns : List Int), xs = [.ref p] ∧ SqL X.K H p (ns.map V.int) ∧ Q (.int ns.sum) H) := by
  intro pins s σ H xs us Q I r h
  obtain ⟨p, ns, rfl, hq, q⟩ := h
  obtain ⟨u, rfl, rx⟩ := vals1 r
  cases rx
  obtain ⟨its, r', pl, hz⟩ := I.list hq
  have hi : IntsAre its ns := intsAre_of r'
  obtain ⟨ys, e⟩ := hi.allInts.items
  refine sum_intListG (xs := ys) (I.ok.hd hc) (by rw [← e]; exact pl.isList) fun h' tk t' hk => ⟨.int ns.sum, H, I.kept (t' := tk) hk, ⟨t', ?_⟩, q⟩
  have e2 : numsOf (intItems ys).toList = ns := by rw [← e]; exact hi.numsOf
  rw [nums_intItems] at e2
  rw [preSum_eq, List.take_of_length_le (by simp), e2]
/-- xs[i] of a list, by values -/
theorem get_list : PGet X (rIxL X.K) := by
  intro pins s σ H o i ov iv Q I ro ri h
  obtain ⟨p, xs, k, z, rfl, rfl, hq, he, q⟩ := h
  cases ro
  obtain ⟨t, rfl⟩ := ri
  obtain ⟨its, r, pl, hz⟩ := I.list hq
  obtain ⟨j, h1, h2, h3, h4, h5⟩ := atI_get he
  obtain ⟨w, ew, rw'⟩ := r.get h2
  have hl := r.length
  have hn := line63
  have fin : EP X pins σ Q w s := ⟨z, H, I, rw', q⟩
  by_cases h0 : 0 ≤ k
  · have hj : k.toNat = j := by
      rw [seqIndex_of h0 h5] at h1
      exact Option.some.inj h1
    exact wpAny_getItem_list pl.isList h0 (by omega) (by rw [hj]; simpa using ew) fin
  · have hj : (k + (its.toArray.size : Int)).toNat = j := by
      rw [seqIndex_neg (by omega) h4] at h1
      rw [List.size_toArray, ← hl]
      exact Option.some.inj h1
    exact wpAny_getItem_list_neg pl.isList (by omega) (by rw [List.size_toArray]; omega) (by omega) (by rw [hj]; simpa using ew) fin
end
end L2

namespace L2
open PySem PySem.Spec PyProof.Rows
set_option autoImplicit false
set_option linter.all false
section
variable {X : Cx}
end
end L2
namespace L2
open PySem PySem.Spec PyProof.Rows
set_option autoImplicit false
set_option linter.all false
/-- the links of a block, name by name -/
def LkL (X : Cx) (scope : Scope) (cl : List (Str × Addr)) : List Str → List (Option Nat) → Prop
  | [], [] => True
  | _ :: N, none :: lk => LkL X scope cl N lk
  | x :: N, some j :: lk => (X.N[j]? = some x ∧ (X.env.scope.names.lookup x = some .cell ∨ X.env.scope.names.lookup x = some .free) ∧ (cl.lookup x).isSome = true ∧
    ((compEnvC scope cl 0 X.env).kindOf x = some .cell ∨ (compEnvC scope cl 0 X.env).kindOf x = some .free)) ∧ LkL X scope cl N lk
  | _, _ => False
theorem LkL.len {X : Cx} {scope : Scope} {cl : List (Str × Addr)} : ∀ {N : List Str} {lk : List (Option Nat)}, LkL X scope cl N lk → lk.length = N.length
  | [], [], _ => rfl
  | _ :: N, none :: lk, h => congrArg (· + 1) (LkL.len (N := N) (lk := lk) h)
  | _ :: N, some _ :: lk, h => congrArg (· + 1) (LkL.len (N := N) (lk := lk) h.2)
  | [], _ :: _, h => h.elim
  | _ :: _, [], h => h.elim
theorem LkL.get {X : Cx} {scope : Scope} {cl : List (Str × Addr)} : ∀ {N : List Str} {lk : List (Option Nat)}, LkL X scope cl N lk → ∀ (i j : Nat) (x : Str), N[i]? = some x → lk[i]? = some (some j) →
    X.N[j]? = some x ∧ (X.env.scope.names.lookup x = some .cell ∨ X.env.scope.names.lookup x = some .free) ∧ (cl.lookup x).isSome = true ∧ ((compEnvC scope cl 0 X.env).kindOf x = some .cell ∨ (compEnvC scope cl 0 X.env).kindOf x = some .free)
  | [], [], _, i, j, x, h1, _ => by simp at h1
  | _ :: N, none :: lk, h, 0, j, x, h1, h2 => by simp at h2
  | _ :: N, none :: lk, h, i + 1, j, x, h1, h2 => LkL.get (N := N) (lk := lk) h i j x (by simpa using h1) (by simpa using h2)
  | y :: N, some k :: lk, h, 0, j, x, h1, h2 => by
    simp at h1 h2
    subst h1 h2
    exact h.1
  | _ :: N, some _ :: lk, h, i + 1, j, x, h1, h2 => LkL.get (N := N) (lk := lk) h.2 i j x (by simpa using h1) (by simpa using h2)
  | [], _ :: _, h, _, _, _, _, _ => h.elim
  | _ :: _, [], h, _, _, _, _, _ => h.elim
theorem LkL.ok {X : Cx} {scope : Scope} {cl : List (Str × Addr)} {N : List Str} {lk : List (Option Nat)} (h : LkL X scope cl N lk) : LkOk X N lk scope cl := ⟨h.len, h.get⟩
theorem tTrue_if {σ : St} {H : Hp} {A B : Hp → Prop} (h : A H) : tTrue σ H (fun b H3 => if b = true then A H3 else B H3) := by
  show if true = true then A H else B H
  exact iteT h
theorem gName_to {i : Nat} {v : V} {σ : St} {H : Hp} {Q : St → Hp → Prop} (h : Q (σ.set i (some v)) H) : gName i v σ H Q := h
/-- tuples stand when a list is rewritten -/
theorem SqT.updL {K : PySem.W.Frag} {H : Hp} {a l : Addr} {xs : List V} {ys zs : List V} (h : SqT K H a ys) (hl : H l = some (.lst xs)) : SqT K (upd H l (.lst zs)) a ys := by
  rcases h with (h | ⟨o, h⟩) | h
  · exact .inl (.inl (by rw [upd_ne (ne_of h hl (by intro z; cases z))]; exact h))
  · exact .inl (.inr ⟨o, by rw [upd_ne (ne_of h hl (by intro z; cases z))]; exact h⟩)
  · exact .inr h
theorem Tups.updL {K : PySem.W.Frag} {H : Hp} {l : Addr} {xs zs : List V} (hl : H l = some (.lst xs)) : ∀ {ys : List V} {ks : List (List Int)}, Tups K H ys ks → Tups K (upd H l (.lst zs)) ys ks
  | _, _, .nil => .nil
  | _, _, .cons r t => by
    obtain ⟨a, h1, h2⟩ := r
    exact .cons ⟨a, h1, h2.updL hl⟩ (Tups.updL hl t)
theorem Tups.one {K : PySem.W.Frag} {H : Hp} {a : Addr} {k : List Int} (h : SqT K H a (k.map V.int)) : Tups K H [.ref a] [k] := .cons ⟨a, rfl, h⟩ .nil
theorem Same.seqT {K : PySem.W.Frag} {H H' : Hp} {a : Addr} {xs : List V} (e : Same H H') (h : SqT K H a xs) : SqT K H' a xs := by
  rcases h with (h | ⟨o, h⟩) | h
  · exact .inl (.inl (e _ _ h))
  · exact .inl (.inr ⟨o, e _ _ h⟩)
  · exact .inr h
theorem Same.tups {K : PySem.W.Frag} {H H' : Hp} {ys : List V} {ks : List (List Int)} (e : Same H H') (h : Tups K H ys ks) : Tups K H' ys ks := Tups.same e h
/-- a thing that was not there is rewritten -/
theorem Same.upd {H H' : Hp} {l : Addr} {o : HO} (e : Same H H') (h : H l = none) : Same H (upd H' l o) := fun b u q => by
  rw [upd_ne (ne_of_none q h)]
  exact e b u q
end L2
namespace L2
open PySem
theorem gName_eq {i : Nat} {v v' : V} {σ : St} {H : Hp} {Q : St → Hp → Prop} (e : v = v') (h : gName i v' σ H Q) : gName i v σ H Q := by
  rw [e]
  exact h
theorem cutV_to (xs : List V) (k : Nat) : cutV xs none (some (k : Int)) = xs.take k := by
  unfold cutV
  rw [HT.sIx_nat, HT.sIx_none, List.drop_zero, Nat.sub_zero]
  rcases Nat.le_total k xs.length with h | h
  · rw [Nat.min_eq_left h]
  · rw [Nat.min_eq_right h, List.take_of_length_le h, List.take_of_length_le (Nat.le_refl _)]
end L2
namespace L2
open PySem
set_option autoImplicit false
theorem un_lt {u d : Nat} (h : u + 64 < cLine) (hd : d ≤ 64) : u + d < cLine := by omega
theorem Dt.mkL {K : PySem.W.Frag} {H : Hp} {a : Addr} {xs : List V} {ds : List PyData} (h : SqL K H a xs) (d : DtAll K H ds xs) : Dt K H (.list ds) (.ref a) := by unfold Dt; exact ⟨a, xs, rfl, h, d⟩
theorem Dt.mkT {K : PySem.W.Frag} {H : Hp} {a : Addr} {xs : List V} {ds : List PyData} (h : SqT K H a xs) (d : DtAll K H ds xs) : Dt K H (.tuple ds) (.ref a) := by unfold Dt; exact ⟨a, xs, rfl, h, d⟩
theorem DtAll.mkN {K : PySem.W.Frag} {H : Hp} : DtAll K H [] [] := by unfold DtAll; rfl
theorem DtAll.mkC {K : PySem.W.Frag} {H : Hp} {d : PyData} {x : V} {ds : List PyData} {xs : List V} (h : Dt K H d x) (t : DtAll K H ds xs) : DtAll K H (d :: ds) (x :: xs) := by unfold DtAll; exact ⟨x, xs, rfl, h, t⟩
end L2
namespace L2
open PySem
set_option autoImplicit false
theorem gName_int {i : Nat} {z : Int} {σ : St} {H : Hp} {Q : St → Hp → Prop} (h : ∀ c : Int, c = z → gName i (.int c) σ H Q) : gName i (.int z) σ H Q := h z rfl
end L2
namespace L2
open PySem
set_option autoImplicit false
theorem ixN_nat {n j : Nat} (h : j < n) : ixN n (j : Int) = some j := by
  unfold ixN
  rw [if_pos (by omega), if_pos (by omega)]
  simp
theorem Tups.dtAll {K : PySem.W.Frag} {H : Hp} {ys : List V} {ks : List (List Int)} (t : Tups K H ys ks) : DtAll K H (ks.map dP) ys := DtAll.tups t
end L2

namespace L2
open PySem
set_option autoImplicit false
set_option linter.all false
end L2

namespace L2
open PySem PySem.Spec PyProof.Rows
set_option autoImplicit false
set_option linter.all false
section
variable {X : Cx} {o e : Expr} {es : List Expr} {to : TE} {t : TA} {name : Str} {apos cpos : Pos} {T id : String} {r : V → List V → Hp → VK → Prop}
end
end L2

namespace L2
open PySem PySem.Spec PyProof.Rows
set_option autoImplicit false
set_option linter.all false
section
variable {X : Cx}
/-- the block runs; what is wanted at its end, ahead of its frame's going -/
theorem comp_core {elt iter tg : Expr} {ifs : List Expr} {scope : Scope} {pos ipos : Pos} {cl : List (Str × Addr)} {N' : List Str} {lk : List (Option Nat)} {wi : TI} {g : TG} {tt : TT} {te : TE} {use : Option (Value → Sem Unit)} {R : Value → Shared → Prop} {Q : VK} {pins : List (Addr × Obj)} {s : Shared} {σ : St} {H : Hp}
    (hc : X.calm = true) (hi : PI X tg iter wi) (hclos : closureFor scope X.env = pure cl) (hkind : scope.kind = .function)
    (hnames : ∀ y ∈ scope.names, y.2 = .local → scope.names.lookup y.1 = some .local) (hcl : ClOk X.env cl) (hfr : FrOk scope.names cl = true) (hlk : LkOk X N' lk scope cl)
    (hg : ∀ s3 H3 fp, PG (compCx X scope cl N' s3 H3 fp fun _ _ => False) tg g) (ht : ∀ s3 H3 fp, PTs (compCx X scope cl N' s3 H3 fp fun _ _ => False) ifs tt) (he : ∀ s3 H3 fp, PE (compCx X scope cl N' s3 H3 fp fun _ _ => False) elt te)
    (hs : ∀ x, foldedSetIterable iter X.env x = pure x) (I : Inv X pins σ H s) (h : tComp wi lk g tt te σ H Q)
    (hend : ∀ (C D : Addr) (s' : Shared) (H' : Hp), Inv X pins σ H' s' → Q (.ref D) H' → H' C = none → C ≠ X.env.locals → X.s₀.heap.objs.size ≤ C → (∀ x c, X.env.cells.lookup x = some c → c ≠ C) → (∀ p ∈ X.pn ++ pins, p.1 ≠ C) → (∃ m, s'.heap.Ns C m) →
      compPost (model X.prog X.w) X.A X.xe use R (.ref D) C (.ok .next) s') :
    wpAny (model X.prog X.w) X.A (comprehension (.ListComp elt [⟨tg, iter, ifs, 0⟩] scope pos) scope X.env ipos (newList []) false (eval iter X.env) use) R X.xe s := by
  have hcellN : ∀ y ∈ scope.names, y.2 ≠ .cell := fun y hy => by
    unfold FrOk at hfr
    rw [List.all_eq_true] at hfr
    have := hfr y hy
    rw [Bool.and_eq_true] at this
    simpa using this.1
  refine wpAny_comprehension_free (use := use) rfl hs hclos hkind hnames (thn (hi pins s σ H _ I h) fun v s1 h1 => thn h1 fun itv s2 h2 => ?_)
  obtain ⟨it, fp, tn, J, H2, e, I2, T, st2, f2, q⟩ := h2
  subst e
  refine wpAny_newList ?_ (Nat.zero_le _)
  have hD : H2 s2.heap.objs.size = none := I2.hok.fresh (Nat.le_refl _)
  have I3 := I2.lnew (ys := []) (its := []) (t' := s2.toks) .nil (Nat.zero_le _)
  obtain ⟨W, ⟨m0, w0⟩, turn⟩ := q s2.heap.objs.size hD
  have fpl : ∀ b ∈ fp, b < s2.heap.objs.size := fun b hb => by
    obtain ⟨o, ho, _⟩ := T.obj 0 s2.heap st2 b hb
    exact Heap.lt_size ho
  refine wpAny_newFunctionEnv hcellN (by intro y hy; cases hy) (fun h1 hns1 hsb1 => ?_) hkind
  dsimp only at hns1 hsb1 ⊢
  -- the state ahead of the frame, the block's context
  have e3 : s2.heap.push { cls := .type "list", dict := none, data := .seq ([] : List Value).toArray } = s2.heap.push { cls := .type "list", data := .seq ([] : List Value).toArray } := rfl
  generalize hh3 : s2.heap.push { cls := .type "list", dict := none, data := .seq ([] : List Value).toArray } = h3 at *
  have I3' : Inv X pins σ (upd H2 s2.heap.objs.size (.lst [])) { s2 with heap := h3, toks := s2.toks } := I3
  have size3 : h3.objs.size = s2.heap.objs.size + 1 := by rw [← hh3, Heap.size_push]
  have f3 : ∀ b ∈ fp, FpOk X pins (upd H2 s2.heap.objs.size (.lst [])) b := fun b hb => by
    obtain ⟨f0, fr⟩ := f2 b hb
    exact ⟨by rw [upd_ne (Nat.ne_of_lt (fpl b hb))]; exact f0, fr⟩
  have up : ∀ b u, h3.get? b = some u → h1.get? b = some u := fun b u eb => by
    rw [hsb1.2 b (Nat.ne_of_lt (Heap.lt_size eb))]
    exact Heap.get?_push_of_some _ eb
  have I4 : Inv (compCx X scope cl N' { s2 with heap := h3, toks := s2.toks } (upd H2 s2.heap.objs.size (.lst [])) fp fun _ _ => False) [] (capt lk σ) (upd H2 s2.heap.objs.size (.lst [])) { s2 with heap := h1, toks := s2.toks + ([] : List (Str × Value)).length } :=
    comp_start (s3 := { s2 with heap := h3, toks := s2.toks }) I3' f3 hkind hcl hfr hlk hns1 up fun b hb => by show b < h3.objs.size; rw [size3]; exact Nat.lt_succ_of_lt (fpl b hb)
  have st4 : tn 0 h1 := T.keep 0 s2.heap h1 st2 fun b hb o eb => up b o (by rw [← hh3]; exact Heap.get?_push_of_some _ eb)
  have hCs : h3.objs.size = (compEnvC scope cl h3.objs.size X.env).locals := rfl
  -- what stays true of the iterator's objects
  have stat : ∀ {H' : Hp}, (∀ b ∈ fp, H' b = none) → ∀ b ∈ fp, FpOk (compCx X scope cl N' { s2 with heap := h3, toks := s2.toks } (upd H2 s2.heap.objs.size (.lst [])) fp fun _ _ => False) [] H' b := fun {H'} hn b hb => by
    obtain ⟨f0, f1, f2', f3', f4, f5⟩ := f3 b hb
    refine ⟨hn b hb, ?_, fun z => ?_, .inl hb, fun x c ex => f4 x c (hcl.get ex), fun p hp => nomatch hp⟩
    · show b ≠ h3.objs.size
      rw [size3]
      exact Nat.ne_of_lt (Nat.lt_succ_of_lt (fpl b hb))
    · rcases List.mem_cons.mp (I3'.stkSub b z) with q | q
      · exact f1 q
      · exact f2' q
  -- the block's end
  have fin : ∀ (s' : Shared) (σ' : St) (H' : Hp), Inv (compCx X scope cl N' { s2 with heap := h3, toks := s2.toks } (upd H2 s2.heap.objs.size (.lst [])) fp fun _ _ => False) [] σ' H' s' → Q (.ref s2.heap.objs.size) H' →
      compPost (model X.prog X.w) X.A X.xe use R (.ref s2.heap.objs.size) h3.objs.size (.ok .next) s' := fun s' σ' H' I' q' => by
    obtain ⟨m, hm, _⟩ := id I'.loc
    have I5 : Inv X pins σ H' s' := I3'.call' (ch := fp) I'.os I'.base I'.hok I'.bare fun b hb => by
      obtain ⟨f0, f1, f2', f3', f4, f5⟩ := f3 b hb
      exact ⟨f3', f1, f4, f5⟩
    exact hend h3.objs.size s2.heap.objs.size s' H' I5 q' I'.free (Nat.ne_of_gt I3'.lt) I3'.sz (fun x c ex z => by
      obtain ⟨v', q2⟩ := I3'.cell x c ex
      exact absurd q2.lt (by rw [z]; exact Nat.lt_irrefl _)) (fun p hp z => absurd (Heap.lt_size (I3'.pin p hp).1) (by rw [z]; exact Nat.lt_irrefl _)) ⟨m, hm⟩
  have loop : ∀ s5 : Shared, s5 = { s2 with heap := h1, toks := s2.toks + ([] : List (Str × Value)).length } →
      codeAny (model X.prog X.w) X.A (.compLoop (.ListComp elt [⟨tg, iter, ifs, 0⟩] scope pos) 0 (.ref it) (.ref s2.heap.objs.size) (compEnvC scope cl h3.objs.size X.env)) (compPost (model X.prog X.w) X.A X.xe use R (.ref s2.heap.objs.size) h3.objs.size) s5 := by
    rintro s5 rfl
    refine codeAny_loop rfl (fun n s' => ∃ i xs σ' H', Inv (compCx X scope cl N' { s2 with heap := h3, toks := s2.toks } (upd H2 s2.heap.objs.size (.lst [])) fp fun _ _ => False) [] σ' H' s' ∧ tn i s'.heap ∧ (∀ b ∈ fp, H' b = none) ∧ W i n xs σ' H')
      (fun n s6 hI => ?_) m0 ⟨0, [], capt lk σ, _, I4, st4, fun b hb => (f3 b hb).1, w0⟩
    obtain ⟨i, xs, σ6, H6, I6, st6, fr6, w6⟩ := hI
    show wpAny _ X.A ((compTurn (.ListComp elt [⟨tg, iter, ifs, 0⟩] scope pos) 0 (.ref it) (.ref s2.heap.objs.size) (compEnvC scope cl h3.objs.size X.env)).onRaise (fun x => do noteFrame x (compEnvC scope cl h3.objs.size X.env); theTreesLotGoes x)) _ _ s6
    refine wpAny_noted ?_
    rw [compTurn_list]
    refine wpAny_bind (wpAny_standAt (wpAny_bind ?_))
    obtain ⟨hD6, hw⟩ := turn i n xs σ6 H6 w6
    rcases hw with ⟨stop, qn⟩ | ⟨go, hlen, step⟩
    · refine thn (T.done (compCx X scope cl N' { s2 with heap := h3, toks := s2.toks } (upd H2 s2.heap.objs.size (.lst [])) fp fun _ _ => False) rfl rfl rfl hc i [] s6 σ6 H6 _ I6 (stat fr6) st6 stop) fun r s7 ⟨hr, I7⟩ => ?_
      subst hr
      exact wpAny_pure (fin s7 σ6 H6 I7 qn)
    · refine thn (T.item (compCx X scope cl N' { s2 with heap := h3, toks := s2.toks } (upd H2 s2.heap.objs.size (.lst [])) fp fun _ _ => False) rfl rfl rfl hc i [] s6 σ6 H6 _ I6 (stat fr6) st6 go) fun r s7 ⟨u, hr, h7⟩ => ?_
      subst hr
      refine wpAny_bind (thn h7 fun _ s8 ⟨x, H8, I8, r8, y8, st8, fr8⟩ => ?_)
      have I8' := I8.pinned (stat fr8) (T.obj _ _ st8)
      refine wpAny_bind (wpAny_mono (hg _ _ _ _ s8 σ6 H8 x u _ I8' r8 (step x H8 y8)) (fun _ s9 ⟨σ9, H9, I9, q9⟩ => ?_) (fun _ _ z => False.elim z))
      refine wpAny_bind (wpAny_mono (ht _ _ _ _ s9 σ9 H9 _ I9 q9) (fun ok s10 ⟨H10, I10, q10⟩ => ?_) (fun _ _ z => False.elim z))
      have again : ∀ {σ' : St} {H' : Hp} {ys : List V} {s' : Shared}, Inv (compCx X scope cl N' { s2 with heap := h3, toks := s2.toks } (upd H2 s2.heap.objs.size (.lst [])) fp fun _ _ => False) ([] ++ pinsAt fp s8.heap) σ' H' s' → (∃ m', m' < n ∧ W (i + 1) m' ys σ' H') →
          ∃ m', m' < n ∧ ∃ i xs σ' H', Inv (compCx X scope cl N' { s2 with heap := h3, toks := s2.toks } (upd H2 s2.heap.objs.size (.lst [])) fp fun _ _ => False) [] σ' H' s' ∧ tn i s'.heap ∧ (∀ b ∈ fp, H' b = none) ∧ W i m' xs σ' H' := fun {σ' H' ys s'} I' ⟨m', hm, w'⟩ => by
        refine ⟨m', hm, i + 1, ys, σ', H', I'.unpinned, T.keep _ _ _ st8 fun b hb o eb => (I'.pin (b, o) (List.mem_append_right _ (List.mem_append_right _ (mem_pinsAt hb eb)))).1, fun b hb => ?_, w'⟩
        obtain ⟨o, eb, _⟩ := T.obj _ _ st8 b hb
        exact (I'.pin (b, o) (List.mem_append_right _ (List.mem_append_right _ (mem_pinsAt hb eb)))).2.1
      cases ok with
      | false =>
        have q10' : ∃ m', m' < n ∧ W (i + 1) m' xs σ9 H10 := by simpa using q10
        exact wpAny_pure ⟨rfl, again I10 q10'⟩
      | true =>
        rw [if_pos rfl] at q10
        refine wpAny_bind (wpAny_bind (wpAny_mono (he _ _ _ _ s10 σ9 H10 _ I10 q10) (fun y s11 ⟨v11, H11, I11, r11, hD11, q11⟩ => ?_) (fun _ _ z => False.elim z)))
        refine wpAny_bind (wpAny_mono (mt_append (X := compCx X scope cl N' { s2 with heap := h3, toks := s2.toks } (upd H2 s2.heap.objs.size (.lst [])) fp fun _ _ => False) _ s11 σ9 H11 (.ref s2.heap.objs.size) [v11] (.ref s2.heap.objs.size) [y] (fun _ H' => ∃ m', m' < n ∧ W (i + 1) m' (xs ++ [v11]) σ9 H') I11 rfl (.cons r11 .nil) ⟨s2.heap.objs.size, xs, v11, rfl, rfl, hD11, hlen, q11⟩) (fun _ s12 ⟨_, H12, I12, _, q12⟩ => ?_) (fun _ _ z => False.elim z))
        exact wpAny_pure (wpAny_pure ⟨rfl, again I12 q12⟩)
  exact codeAny_compStart_list (loop _ rfl) (T.self X.A 0 _ _ _ st4 (loop _ rfl))
/-- x = [.. for ..], on one row -/
def tSetC (i : Nat) (t : TE) : TS := fun D σ H => t σ H fun v H1 => D.nx (σ.set i (some v)) H1
theorem ps_setC {i : Nat} {y : Str} {py : Pos} {elt iter tg : Expr} {ifs : List Expr} {scope : Scope} {pos spos : Pos} {cl : List (Str × Addr)} {N' : List Str} {lk : List (Option Nat)} {wi : TI} {g : TG} {tt : TT} {te : TE}
    (hN : X.N.Nodup) (hy : X.N[i]? = some y) (hyl : X.env.scope.names.lookup y = some .local)
    (hsw : swapsWith (.ListComp elt [⟨tg, iter, ifs, 0⟩] scope pos) (some (.Name y py)) spos.line X.env = pure true)
    (hc : X.calm = true) (hi : PI X tg iter wi) (hclos : closureFor scope X.env = pure cl) (hkind : scope.kind = .function)
    (hnames : ∀ y ∈ scope.names, y.2 = .local → scope.names.lookup y.1 = some .local) (hcl : ClOk X.env cl) (hfr : FrOk scope.names cl = true) (hlk : LkOk X N' lk scope cl)
    (hg : ∀ s3 H3 fp, PG (compCx X scope cl N' s3 H3 fp fun _ _ => False) tg g) (ht : ∀ s3 H3 fp, PTs (compCx X scope cl N' s3 H3 fp fun _ _ => False) ifs tt) (he : ∀ s3 H3 fp, PE (compCx X scope cl N' s3 H3 fp fun _ _ => False) elt te)
    (hs : ∀ x, foldedSetIterable iter X.env x = pure x := by intro _; rfl) : PS X (.Assign [.Name y py] (.ListComp elt [⟨tg, iter, ifs, 0⟩] scope pos) spos) (tSetC i (tComp wi lk g tt te)) := by
  intro pins s σ H D I h
  rw [exec_Assign_Name_used _ _ _ _ hsw]
  refine wpAny_bind (wpAny_standAt (wpAny_bind ?_))
  show wpAny _ X.A (do let _ ← comprehension (.ListComp elt [⟨tg, iter, ifs, 0⟩] scope pos) scope X.env _ (newList []) false (eval iter X.env) (some (assign (.Name y py) X.env))) _ _ s
  refine wpAny_bind (thn (comp_core (use := some (assign (.Name y py) X.env)) (R := fun _ s' => SP X pins D .next s') hc hi hclos hkind hnames hcl hfr hlk hg ht he hs I h
    fun C Dd s' H' I' q' hC hCL hCs hCc hCp ⟨m, hm⟩ => ?_) fun _ s' hq => wpAny_pure (wpAny_pure hq))
  show wpAny _ X.A (assign (.Name y py) X.env (.ref Dd)) _ _ s'
  refine wpAny_assign_Name (store_ok2 (v := .ref Dd) I' hN hy (.inl hyl) rfl (fun s2 I2 ⟨a, hsb, ha⟩ => ?_) (.inr hyl))
  have hCa : C ≠ a := by
    rcases ha with z | z
    · rw [z]; exact hCL
    · exact (hCc y a z).symm
  refine ⟨m, hm.sameBut hsb hCa, fun h' hs' => ?_⟩
  obtain ⟨h0, g0, d0, t0, o0⟩ := s2
  exact ⟨_, H', I2.turned (t' := t0) (it := C) (fun b o hb eb => (hs'.2 b hb).trans eb) hC hCL (.inr hCs) hCc hCp, q'⟩
end
end L2

namespace L2
open PySem PySem.Spec PyProof.Rows
set_option autoImplicit false
set_option linter.all false

/-! ### exceptions of own classes -/
theorem ObjOk.there {P : Program} {w : World} {H : Hp} {h : Heap} {a : Addr} {o : HO} (x : ObjOk P w H h a o) : ∃ ob, h.get? a = some ob := by
  cases o with
  | lst xs => obtain ⟨_, _, _, _, e⟩ := x; exact ⟨_, e⟩
  | tup xs => obtain ⟨_, _, _, ob, e, _⟩ := x; exact ⟨_, e⟩
  | dK kvs => obtain ⟨_, _, _, _, o, _, _, e, _⟩ := x; exact ⟨_, e⟩
  | dT kvs => obtain ⟨_, _, _, _, o, _, _, e, _⟩ := x; exact ⟨_, e⟩
  | set S n => obtain ⟨o, _, _, _, e, _⟩ := x; exact ⟨_, e⟩
  | ins C dx fs => obtain ⟨_, _, _, e, _⟩ := x; exact ⟨_, e⟩
  | own y => obtain ⟨ob, e⟩ := x; exact ⟨ob, e⟩
  | xd fs => obtain ⟨_, ⟨_, _, _, e, _⟩, _⟩ := x; exact ⟨_, e⟩
  | rng lo hi => obtain ⟨_, _, _, e⟩ := x; exact ⟨_, e⟩
  | frz ob u => obtain ⟨e, _⟩ := x; exact ⟨_, e⟩
  | tbl ps => exact ⟨_, (show h.get? a = some _ from x)⟩
  | met f y => exact ⟨_, (show h.get? a = some _ from x)⟩
  | ext φ => obtain ⟨_, ⟨ob, e⟩, _⟩ := x; exact ⟨ob, e⟩
/-- the tracked things stay: the abstract heap is held -/
theorem HOk.stays {P : Program} {w : World} {H : Hp} {h h' : Heap} (ok : HOk P w H h) (k : ∀ b o, h.get? b = some o → H b ≠ none → h'.get? b = some o) : HOk P w H h' := fun a o e =>
  (ok a o e).stay (fun b u hb q => k b u q (by
    rcases hb with z | z
    · rw [z, e]; simp
    · rw [z]; simp)) (fun _ q => q) fun _ _ q => q

/-- the exception x of the class cls flies through the frames of outer; B: what stays, all of h0 and all that is tracked but the frames -/
def Flies (outer : List Env) (x : Addr) (cls : Value) (h0 : Heap) (H' : Hp) (h' : Heap) : Prop :=
  ∃ (B : Heap) (a0 : Value), Heap.FlyingW B outer x cls a0 h' ∧ ∀ b o, h'.get? b = some o → (H' b ≠ none ∨ h0.get? b ≠ none) → b ∉ frs outer → B.get? b = some o
/-- how an exception lies behind a call -/
def CXE (P : Program) (w : World) : CXT := fun outer H s E e s' =>
  ∃ (x : Addr) (cls : Value) (H' : Hp), e = .ref x ∧ s'.os = s.os ∧ AllBare s'.gens ∧ Un (frs outer) [] H H' s.heap s'.heap ∧ HOk P w H' s'.heap ∧ s.heap.get? x = none ∧ H' x = none ∧ Flies outer x cls s.heap H' s'.heap ∧ E cls none H'

/-- the heap goes on: what was there or is tracked stays, frames change in their slots -/
theorem Un.onto {fs : List Addr} {H H' : Hp} {h h' h'' : Heap} (u : Un fs [] H H' h h') (stay : ∀ b o, h'.get? b = some o → h.get? b ≠ none → b ∉ fs → h''.get? b = some o)
    (slots : ∀ b o, h'.get? b = some o → h.get? b ≠ none → b ∈ fs → ∃ sl, h''.get? b = some { o with slots := sl }) : Un fs [] H H' h h'' where
  keep := fun b o e n hb hx => stay b o (u.keep b o e n hb hx) (by rw [e]; simp) hb
  slot := fun b o e n hb hx => by
    obtain ⟨sl, e1⟩ := u.slot b o e n hb hx
    obtain ⟨sl2, e2⟩ := slots b _ e1 (by rw [e]; simp) hb
    exact ⟨sl2, e2⟩
  free := u.free
  there := fun b o e hx => by
    obtain ⟨o', e1⟩ := u.there b o e hx
    by_cases hb : b ∈ fs
    · obtain ⟨sl, e2⟩ := slots b o' e1 (by rw [e]; simp) hb
      exact ⟨_, e2⟩
    · exact ⟨o', stay b o' e1 (by rw [e]; simp) hb⟩
  tups := u.tups
  frzs := u.frzs
  tbls := u.tbls
theorem some_of_ne {α : Type} {o : Option α} (h : o ≠ none) : ∃ x, o = some x := by
  cases o with
  | none => exact absurd rfl h
  | some x => exact ⟨x, rfl⟩
theorem frs_cons {env : Env} {outer : List Env} {L : Addr} (h : env.frame = some L) : frs (env :: outer) = L :: frs outer := by
  unfold frs
  rw [List.filterMap_cons, h]

section
variable {P : Program} {w : World} {K : PySem.W.Frag} {mg : Str → Option Value} {base : Heap} {N : List Str} {qual : Str} {scope : Scope} {f : Addr} {cd : Value} {A : Around} {outer : List Env} {s : Shared} {H : Hp} {E : XK}
  {pins : List (Addr × Obj)} {σ : St} {H1 : Hp} {s1 : Shared}
/-- an exception that was made in a def's body leaves it -/
theorem xe_made {e : Addr} {cls : Value} {vs : List Value} {h2 : Heap} (I : Inv (cxOf (CXE P w) P w K mg base N qual scope f cd A outer s H E) pins σ H1 s1) (hx : Heap.MadeExcOf s1.heap h2 e cls vs) (hE : E cls none H1) :
    (cxOf (CXE P w) P w K mg base N qual scope f cd A outer s H E).xe (.ref e) { s1 with heap := h2 } := by
  have hst := I.stack
  have hfr := I.ok.frames
  have hlt := I.lt
  have hL := I.free
  have hab := I.ok.above
  have hbs : Un (frs outer) [] H H1 s.heap s1.heap := I.base
  change s1.heap.FunFrames base (envOfC qual scope s.heap.objs.size f cd :: outer) at hst
  change (A.deeper (envOfC qual scope s.heap.objs.size f cd)).frames = some (envOfC qual scope s.heap.objs.size f cd :: outer) at hfr
  change H1 s.heap.objs.size = none at hL
  have hff : frs (envOfC qual scope s.heap.objs.size f cd :: outer) = s.heap.objs.size :: frs outer := frs_cons rfl
  have hin : ∀ env ∈ (envOfC qual scope s.heap.objs.size f cd :: outer), ∀ b, env.frame = some b → b ∈ frs (envOfC qual scope s.heap.objs.size f cd :: outer) := fun env he b hb => List.mem_filterMap.mpr ⟨env, he, hb⟩
  have old : ∀ b, (H1 b ≠ none ∨ s.heap.get? b ≠ none) → b ∉ frs outer → ∃ o, s1.heap.get? b = some o ∧ b ∉ frs (envOfC qual scope s.heap.objs.size f cd :: outer) := fun b hb hno => by
    have hne : b ≠ s.heap.objs.size := by
      rcases hb with z | z
      · intro q; rw [q] at z; exact z hL
      · obtain ⟨o, z⟩ := some_of_ne z
        exact Nat.ne_of_lt (Heap.lt_size z)
    have hex : ∃ o, s1.heap.get? b = some o := by
      rcases hb with z | z
      · obtain ⟨o, z⟩ := some_of_ne z
        exact (I.hok b o z).there
      · obtain ⟨o, z⟩ := some_of_ne z
        exact hbs.there b o z (by simp)
    obtain ⟨o, ho⟩ := hex
    refine ⟨o, ho, ?_⟩
    rw [hff]
    intro hm
    rcases List.mem_cons.mp hm with q | q
    · exact hne q
    · exact hno q
  have eNew : s.heap.get? e = none := by
    cases q : s.heap.get? e with
    | none => rfl
    | some o =>
      obtain ⟨o', z⟩ := hbs.there e o q (by simp)
      rw [hx.new] at z
      cases z
  have eFree : H1 e = none := by
    cases q : H1 e with
    | none => rfl
    | some o =>
      obtain ⟨o', z⟩ := (I.hok e o q).there
      rw [hx.new] at z
      cases z
  refine wpAny_leaves_madeW (base := PySem.W.hideAll s1.heap (frs (envOfC qual scope s.heap.objs.size f cd :: outer))) hfr rfl (fun b o q => PySem.W.of_hideAll _ q) (PySem.W.funFrames_hide hst hin) hx fun h' t x1 x2 x3 x4 => ?_
  have stay : ∀ b o, s1.heap.get? b = some o → (H1 b ≠ none ∨ s.heap.get? b ≠ none) → b ∉ frs outer → h'.get? b = some o := fun b o ho hb hno => by
    obtain ⟨o', ho', hm⟩ := old b hb hno
    rw [ho] at ho'
    cases ho'
    exact x1.1 b o (PySem.W.hideAll_get _ ho hm)
  have frNone : ∀ b ∈ frs outer, H1 b = none := fun b hb => I.stkFree b (by
    show b ∈ frs (envOfC qual scope s.heap.objs.size f cd :: outer)
    rw [hff]
    exact List.mem_cons_of_mem _ hb)
  refine ⟨e, cls, H1, rfl, I.os, I.bare, hbs.onto (fun b o ho hh hno => stay b o ho (.inr hh) hno) (fun b o ho hh hm => ?_), I.hok.stays fun b o ho hh => stay b o ho (.inl hh) fun hm => hh (frNone b hm), eNew, eFree, ⟨_, _, x1, fun b o ho hb hno => ?_⟩, hE⟩
  · obtain ⟨_, o', ho', hd⟩ := hst.mem (b := b) (by
      show b ∈ frs (envOfC qual scope s.heap.objs.size f cd :: outer)
      rw [hff]
      exact List.mem_cons_of_mem _ hm)
    rw [ho] at ho'
    cases ho'
    exact x4 b o (hx.keeps b o ho) hd
  · obtain ⟨o', ho', hm⟩ := old b hb hno
    have := stay b o' ho' hb hno
    rw [ho] at this
    cases this
    exact PySem.W.hideAll_get _ ho' hm
/-- an exception of a callee leaves the def too -/
theorem passE : Passes (CXE P w) (cxOf (CXE P w) P w K mg base N qual scope f cd A outer s H E) E := by
  intro pins σ H1 s1 e s2 I hc
  obtain ⟨x, cls, H2, rfl, hos, hb2, u, hok, new, hxn, ⟨B, a0, fl, st⟩, hE⟩ := hc
  have hst := I.stack
  have hfr := I.ok.frames
  have hL := I.free
  have hbs : Un (frs outer) [] H H1 s.heap s1.heap := I.base
  change s1.heap.FunFrames base (envOfC qual scope s.heap.objs.size f cd :: outer) at hst
  change (A.deeper (envOfC qual scope s.heap.objs.size f cd)).frames = some (envOfC qual scope s.heap.objs.size f cd :: outer) at hfr
  change H1 s.heap.objs.size = none at hL
  change Un (frs (envOfC qual scope s.heap.objs.size f cd :: outer)) [] H1 H2 s1.heap s2.heap at u
  change Heap.FlyingW B (envOfC qual scope s.heap.objs.size f cd :: outer) x cls a0 s2.heap at fl
  have hff : frs (envOfC qual scope s.heap.objs.size f cd :: outer) = s.heap.objs.size :: frs outer := frs_cons rfl
  have st' : ∀ b o, s2.heap.get? b = some o → (H2 b ≠ none ∨ s1.heap.get? b ≠ none) → b ∉ frs (envOfC qual scope s.heap.objs.size f cd :: outer) → B.get? b = some o := st
  rw [hff] at u st'
  have hLo : ∃ o, s1.heap.get? s.heap.objs.size = some o := by
    obtain ⟨m, ⟨o, _, _, ho, _⟩, _⟩ := I.loc
    exact ⟨o, ho⟩
  have hL2 : H2 s.heap.objs.size = none := by
    obtain ⟨o, ho⟩ := hLo
    exact u.free _ o ho hL (by simp)
  -- what was there or is tracked
  have old : ∀ b, (H2 b ≠ none ∨ s.heap.get? b ≠ none) → b ∉ frs outer → ∃ o, s2.heap.get? b = some o ∧ B.get? b = some o := fun b hb hno => by
    have hne : b ≠ s.heap.objs.size := by
      rcases hb with z | z
      · intro q; rw [q] at z; exact z hL2
      · obtain ⟨o, z⟩ := some_of_ne z
        exact Nat.ne_of_lt (Heap.lt_size z)
    have hm : b ∉ s.heap.objs.size :: frs outer := fun hm => by
      rcases List.mem_cons.mp hm with q | q
      · exact hne q
      · exact hno q
    rcases hb with z | z
    · obtain ⟨o, z'⟩ := some_of_ne z
      obtain ⟨o', ho⟩ := (hok b o z').there
      exact ⟨o', ho, st' b o' ho (.inl z) hm⟩
    · obtain ⟨o, z⟩ := some_of_ne z
      obtain ⟨o1, h1⟩ := hbs.there b o z (by simp)
      obtain ⟨o2, h2⟩ := u.there b o1 h1 (by simp)
      exact ⟨o2, h2, st' b o2 h2 (.inr (by rw [h1]; simp)) hm⟩
  have u2 : Un (frs outer) [] H H2 s.heap s2.heap := by
    refine ⟨fun b o e n hb hx => ?_, fun b o e n hb hx => ?_, fun b o e n hx => ?_, fun b o e hx => ?_, fun b xs e => u.tups b xs (hbs.tups b xs e), fun b o v e => u.frzs b o v (hbs.frzs b o v e), fun b ps e => ?_⟩
    · refine u.keep b o (hbs.keep b o e n hb hx) (hbs.free b o e n hx) (fun hm => ?_) hx
      rcases List.mem_cons.mp hm with q | q
      · exact Nat.ne_of_lt (Heap.lt_size e) q
      · exact hb q
    · obtain ⟨sl, e1⟩ := hbs.slot b o e n hb hx
      obtain ⟨sl2, e2⟩ := u.slot b _ e1 (hbs.free b o e n hx) (List.mem_cons_of_mem _ hb) hx
      exact ⟨sl2, e2⟩
    · obtain ⟨o', e1⟩ := hbs.there b o e hx
      exact u.free b o' e1 (hbs.free b o e n hx) hx
    · obtain ⟨o', e1⟩ := hbs.there b o e hx
      exact u.there b o' e1 hx
    · obtain ⟨m1, e1⟩ := hbs.tbls b ps e
      obtain ⟨m2, e2⟩ := u.tbls b _ e1
      exact ⟨m1 ++ m2, by rw [e2, Array.append_assoc]⟩
  have frNone : ∀ b ∈ frs outer, H2 b = none := fun b hb => by
    have h1 := I.stkFree b (by
      show b ∈ frs (envOfC qual scope s.heap.objs.size f cd :: outer)
      rw [hff]
      exact List.mem_cons_of_mem _ hb)
    obtain ⟨_, o, ho, _⟩ := hst.mem (b := b) (by
      show b ∈ frs (envOfC qual scope s.heap.objs.size f cd :: outer)
      rw [hff]
      exact List.mem_cons_of_mem _ hb)
    exact u.free b o ho h1 (by simp)
  refine wpAny_leaves_onW hfr rfl fl fun h' x1 x2 => ?_
  have stay : ∀ b o, s2.heap.get? b = some o → (H2 b ≠ none ∨ s.heap.get? b ≠ none) → b ∉ frs outer → h'.get? b = some o := fun b o ho hb hno => by
    obtain ⟨o', ho', hB⟩ := old b hb hno
    rw [ho] at ho'
    cases ho'
    exact x1.1 b o hB
  refine ⟨x, cls, H2, rfl, hos.trans I.os, hb2, u2.onto (fun b o ho hh hno => stay b o ho (.inr hh) hno) (fun b o ho hh hm => ?_), hok.stays fun b o ho hh => stay b o ho (.inl hh) fun hm => hh (frNone b hm), ?_, hxn, ⟨B, a0, x1, fun b o ho hb hno => ?_⟩, hE⟩
  · obtain ⟨_, o', ho', hd⟩ := fl.2.2.1.mem (b := b) (by
      show b ∈ frs (envOfC qual scope s.heap.objs.size f cd :: outer)
      rw [hff]
      exact List.mem_cons_of_mem _ hm)
    rw [ho] at ho'
    cases ho'
    exact x2 b o ho hd
  · cases q : s.heap.get? x with
    | none => rfl
    | some o =>
      obtain ⟨o', z⟩ := hbs.there x o q (by simp)
      rw [new] at z
      cases z
  · obtain ⟨o', ho', hB⟩ := old b hb hno
    have := stay b o' ho' hb hno
    rw [ho] at this
    cases this
    exact hB
end
/-- THE RULE for a def that may raise -/
theorem Fun.okX {P : Program} {w : World} {K : PySem.W.Frag} {mg : Str → Option Value} {base : Heap} {x qual : Str} {st : Stmt} {f : Addr} {fd : FuncData} {N ps : List Str} {k : Nat} {sp : Sp} (F : Fun K x qual st f fd) (S : FnScope N ps (defScope st)) (len : ∀ vs H Q E, sp vs H Q E → vs.length = ps.length)
    (hbody : ∀ (cdv : Value) (A : Around) (outer : List Env) (s : Shared) (H : Hp) (vs : List V) (Q : VK) (E : XK), Room k (A.deeper (envOfC qual (defScope st) s.heap.objs.size f cdv)) → sp vs H Q E →
      ∃ t, PSs (cxOf (CXE P w) P w K mg base N qual (defScope st) f cdv A outer s H E) (defBody st) t ∧ t { nx := fun _ H' => Q .non H', rt := Q } (start N vs) H) : FnOk P w K mg base (CXE P w) (k + 1) f fd ps sp := by
  obtain ⟨oc, od, kV, doc, pm, an, cdv, ct, osl, rfl, lk, hcd⟩ := F.ex
  exact fn_of lk hcd S len fun A outer s H vs Q E hr hsp => hbody cdv A outer s H vs Q E hr hsp
theorem po_leave {P : Program} {w : World} {K : PySem.W.Frag} {mg : Str → Option Value} {base : Heap} {N : List Str} {qual : Str} {scope : Scope} {f : Addr} {cd : Value} {A : Around} {outer : List Env} {s : Shared} {H : Hp} {E : XK} :
    PassesOwn (model P w) (cxOf (CXE P w) P w K mg base N qual scope f cd A outer s H E).A (cxOf (CXE P w) P w K mg base N qual scope f cd A outer s H E).env (cxOf (CXE P w) P w K mg base N qual scope f cd A outer s H E).xe := PassesOwn.leaving

/-! ### raise C("..") -/
/-- an own error class of ValueError's kind -/
structure ExcC (K : PySem.W.Frag) (C : Addr) : Prop where
  q : PySem.W.excIn K C [.type "ValueError", .type "Exception", .type "BaseException", .type "object"] "ValueError.__new__" = true
end L2

namespace L2
open PySem PySem.Spec PyProof.Rows
set_option autoImplicit false
set_option linter.all false
abbrev bmV : List Value := [.type "ValueError", .type "Exception", .type "BaseException", .type "object"]
theorem exc_at {K : PySem.W.Frag} {h : Heap} {C : Addr} (KI : K.In h) (c : ExcC K C) : ∃ bm N nm q bs hd sn sub ab col dd k0 k1 k2 k3 k5 mN, h.get? C = some (excClassObj nm q C N bs bm hd sn sub ab col dd k0 k1 k2 k3 k5 "ValueError.__new__") ∧
    h.Ns N mN ∧ mN "__init__" = none ∧ OwnTail h bmV bm := by
  have z := c.q
  revert z
  unfold PySem.W.excIn
  split
  · rename_i d1 c1 s1 hl
    split
    · rename_i D bm y0 y1 y2 y3 nn y5 e1 e2
      intro z
      rw [Bool.and_eq_true, Bool.and_eq_true, Bool.and_eq_true, Bool.and_eq_true, Bool.and_eq_true] at z
      obtain ⟨⟨⟨⟨⟨z1, z2⟩, z3⟩, z4⟩, z5⟩, z6⟩ := z
      have z1' : D = C := beq_iff_eq.mp z1
      have z2' : nn = "ValueError.__new__" := beq_iff_eq.mp z2
      have z6' := beq_iff_eq.mp z6
      subst z1' z2'
      obtain ⟨w1, w2, w3, w4, w5, w6, w7, w8, w9, w10, w11⟩ := c1
      dsimp only at e1 z3 z5 z6'
      subst e1
      have z3' : w11 = false := by simpa using z3
      subst z3'
      have e3 : s1 = #[y0, y1, y2, y3, some (.builtin "ValueError.__new__"), y5] := by
        obtain ⟨l1⟩ := s1
        exact congrArg Array.mk e2
      subst e3
      exact ⟨bm, w4, w1, w5, w2, w6, w7, w8, w9, w10, d1, y0, y1, y2, y3, y5, _, KI _ _ hl, .of_isNs (PySem.W.isNs_of_in KI z5), PySem.W.nsMap_none_of_in KI z5 z6', PySem.W.tail_of_in KI z4⟩
    · intro z; cases z
  · intro z; cases z

section
variable {P : Program} {w : World} {K : PySem.W.Frag} {mg : Str → Option Value} {base : Heap} {N : List Str} {qual : Str} {scope : Scope} {f : Addr} {cd : Value} {A : Around} {outer : List Env} {s : Shared} {H : Hp} {E : XK}
/-- raise C("..") -/
def tRaise (E : XK) (C : Addr) : TS := fun _ _ H => E (.ref C) none H
theorem ps_raise {x txt : Str} {C : Addr} {j : Nat} {np cp ep pos : Pos} (hg : Gl (cxOf (CXE P w) P w K mg base N qual scope f cd A outer s H E) x) (hm : mg x = some (.ref C)) (c : ExcC K C) (hd : (x == ("__debug__" : Str)) = false := by decide) :
    PS (cxOf (CXE P w) P w K mg base N qual scope f cd A outer s H E) (.Raise (some (.Call (.Name x np) [.Constant (.str txt) j cp] [] ep)) none pos) (tRaise E C) := by
  intro pins s1 σ H1 D I hE
  have hh : (cxOf (CXE P w) P w K mg base N qual scope f cd A outer s H E).A.handled = none := I.ok.hd rfl
  obtain ⟨bm, N', nm, q, bs, hdc, sn, sub, ab, col, dd, k0, k1, k2, k3, k5, mN, hC, hN, hni, T⟩ := exc_at I.kIn c
  refine wpAny_Raise_call_subT (C := C) (nm := nm) (q := q) (N := N') (bs := bs) (bm := bm) (hdct := hdc) (sn := sn) (sub := sub) (ab := ab) (col := col) (dd := dd) (k0 := k0) (k1 := k1) (k2 := k2) (k3 := k3) (k5 := k5)
    PySem.F.excBase_ValueError (mN := mN) (T.hasType (by decide +kernel)) hh rfl hni (ld_glob I hg hm ⟨rfl, ?_⟩ hd)
  refine Calls.evalArgs_plain ?_
  refine PyProof.Rows.spliced_more (Calls.Constant_str ?_)
  refine PyProof.Rows.spliced_none ⟨rfl, by show 1 ≤ sizeLine; decide, hC, hN, T, fun h' e hx => ?_⟩
  exact xe_made (I.tok _) hx hE
end
end L2

namespace L2
open PySem PySem.Spec PyProof.Rows
set_option autoImplicit false
set_option linter.all false
/-! ### try .. except C as e -/
/-- the body of a try: an exception of a callee is caught here -/
def tryCx (X : Cx) (pins : List (Addr × Obj)) (E : St → XK) : Cx := { X with pn := X.pn ++ pins, xe := fun e s' => ∃ σ H s, Inv X pins σ H s ∧ CXE X.prog X.w X.stack H s (E σ) e s' }
/-- the suite of a handler, while v is handled -/
def hdCx (X : Cx) (v : Value) : Cx := { X with A := X.A.mark (some v), calm := false, xe := fun _ _ => False }
section
variable {X : Cx} {pins pins' : List (Addr × Obj)} {σ : St} {H : Hp} {s : Shared} {E : St → XK}
theorem Inv.toTry (I : Inv X pins σ H s) : Inv (tryCx X pins E) [] σ H s :=
  ⟨⟨I.ok.mod, I.ok.kind, I.ok.glob, I.ok.blt, I.ok.above, I.ok.inj, I.ok.has, I.ok.cab, I.ok.hd, I.ok.frames, I.ok.stk, I.ok.exf, I.ok.bs, I.ok.bsz, I.ok.noex, I.ok.exfs, I.ok.funs, I.ok.frf⟩,
    I.os, I.bare, I.base, I.loc, I.cell, I.free, I.freeC, fun p hp => I.pin p (by
      rcases List.mem_append.mp hp with z | z
      · exact z
      · cases z), I.hok, I.len⟩
theorem Inv.ofTry (I : Inv (tryCx X pins E) pins' σ H s) : Inv X pins σ H s :=
  ⟨⟨I.ok.mod, I.ok.kind, I.ok.glob, I.ok.blt, I.ok.above, I.ok.inj, I.ok.has, I.ok.cab, I.ok.hd, I.ok.frames, I.ok.stk, I.ok.exf, I.ok.bs, I.ok.bsz, I.ok.noex, I.ok.exfs, I.ok.funs, I.ok.frf⟩,
    I.os, I.bare, I.base, I.loc, I.cell, I.free, I.freeC, fun p hp => I.pin p (List.mem_append_left _ hp), I.hok, I.len⟩
theorem Inv.toHd (I : Inv X pins σ H s) (v : Value) : Inv (hdCx X v) pins σ H s :=
  ⟨⟨I.ok.mod, I.ok.kind, I.ok.glob, I.ok.blt, I.ok.above, I.ok.inj, I.ok.has, I.ok.cab, (fun z => by cases z), I.ok.frames, I.ok.stk, I.ok.exf, I.ok.bs, I.ok.bsz, I.ok.noex, I.ok.exfs, I.ok.funs, I.ok.frf⟩,
    I.os, I.bare, I.base, I.loc, I.cell, I.free, I.freeC, I.pin, I.hok, I.len⟩
theorem Inv.ofHd {v : Value} (I : Inv (hdCx X v) pins σ H s) (hd : X.calm = true → X.A.handled = none) : Inv X pins σ H s :=
  ⟨⟨I.ok.mod, I.ok.kind, I.ok.glob, I.ok.blt, I.ok.above, I.ok.inj, I.ok.has, I.ok.cab, hd, I.ok.frames, I.ok.stk, I.ok.exf, I.ok.bs, I.ok.bsz, I.ok.noex, I.ok.exfs, I.ok.funs, I.ok.frf⟩,
    I.os, I.bare, I.base, I.loc, I.cell, I.free, I.freeC, I.pin, I.hok, I.len⟩
end
/-- f(..) whose exception's wish may hang on the names' values -/
def PassesX (CX : CXT) (X : Cx) (E : St → XK) : Prop := ∀ (pins : List (Addr × Obj)) (σ : St) (H : Hp) (s : Shared) (e : Value) (s' : Shared), Inv X pins σ H s → CX X.stack H s (E σ) e s' → X.xe e s'
theorem passTry {X : Cx} {pins : List (Addr × Obj)} {E : St → XK} : PassesX (CXE X.prog X.w) (tryCx X pins E) E := fun _ σ H s _ _ I h => ⟨σ, H, s, I.ofTry, h⟩
def tCallX (sp : Sp) (E : St → XK) (t : TA) : TE := fun σ H Q => t σ H fun vs H1 => sp (vs ++ []) H1 Q (E σ)
section
variable {X : Cx} {CX : CXT} {k : Nat} {f : Addr} {fd : FuncData} {ps : List Str} {sp : Sp} {E : St → XK} {x : Str} {p pos : Pos} {e : Expr} {es : List Expr} {t : TA}
theorem pe_callX (F : FnOk X.prog X.w X.K X.mg X.base CX k f fd ps sp) (hr : Room k X.A) (hg : Gl X x) (hm : X.mg x = some (.ref f)) (hk : PySem.W.keepIn X.K (.ref f) = true) (hb : Binds X.K fd ps []) (hx : PassesX CX X E)
    (ha : PA X (e :: es) t) (hdb : (x == ("__debug__" : Str)) = false := by decide) (he : starEach (e :: es) X.env = (false, eval e X.env) :: starEach es X.env := by rfl) (hpl : (backTo pos (starEach es X.env)).any (·.1) = false := by rfl) :
    PE X (.Call (.Name x p) (e :: es) [] pos) (tCallX sp E t) := by
  intro pins s σ H Q I h
  refine wpAny_Call_Name_kw (ld_glob I hg hm ?_ hdb)
  refine PySem.W.callWith_K (h₀ := X.base) I.ok.mod.kin hk (thn (ha pos pins s σ H _ I h) fun us s1 ⟨vs, H1, I1, r, q⟩ => ⟨I1.kIn, ?_⟩) he hpl
  have r2 : Vals (vs ++ []) (us ++ []) := r.append .nil
  have hl : (us ++ []).length = ps.length := by rw [← r2.length]; exact F.len _ _ _ _ q
  refine wpAny_call (codeAny_mono (F.run X.A X.stack s1 H1 ⟨us, []⟩ (us ++ []) (vs ++ []) Q (E σ) hr I1.env0 (hb s1 us I1.kIn hl) r2 q) fun r s' hq => ?_)
  cases r with
  | error e => exact hx pins σ H1 s1 e s' I1 hq
  | ok fl =>
    cases fl with
    | ret u => exact I1.after hq
    | next => exact False.elim hq
    | brk => exact False.elim hq
    | cont => exact False.elim hq
end
/-- a caught exception, as it is known -/
def XO (x : Addr) (cls : Value) : HO := .ext fun h => ∃ o vs, h.get? x = some o ∧ o.cls = cls ∧ o.data = .fields vs
theorem XO.ok {P : Program} {w : World} {H : Hp} {h : Heap} {x : Addr} {cls : Value} (e : ∃ o vs, h.get? x = some o ∧ o.cls = cls ∧ o.data = .fields vs) : ObjOk P w H h x (XO x cls) :=
  ⟨e, let ⟨o, _, h1, _⟩ := e; ⟨o, h1⟩, fun _ _ ⟨o, vs, h1, h2, h3⟩ k => ⟨o, vs, k o h1, h2, h3⟩⟩
section
variable {X : Cx} {pins : List (Addr × Obj)} {σ : St} {H : Hp} {s : Shared}
/-- the name goes -/
theorem unbind_ok {M : Model} {A : Around} {E : Value → Shared → Prop} {i : Nat} {n : Str} {pos : Pos} {Q : Unit → Shared → Prop} (I : Inv X pins σ H s) (hN : X.N.Nodup) (hi : X.N[i]? = some n) (hk : X.env.scope.names.lookup n = some .local)
    (h : ∀ s', Inv X pins (σ.set i none) H s' → Q () s') : wpAny M A (do bindName X.env n .none; unbindBehindTheSuite X.env n pos) Q E s := by
  obtain ⟨m, hn, hl⟩ := id I.loc
  have hcls : (X.env.scope.kind == .class || (X.env.scope.kind == .module && X.env.locals != X.env.globals)) = false := by rw [I.ok.kind]; rfl
  refine wpAny_nameGoes_keeps hk hn hcls fun h' v hn' hs => h _ ?_
  obtain ⟨oL, _, _, hoL, _⟩ := id hn
  have ne : ∀ b o, X.s₀.heap.get? b = some o → b ≠ X.env.locals := fun b o e => Nat.ne_of_lt (Nat.lt_of_lt_of_le (Heap.lt_size e) I.ok.above)
  refine ⟨I.ok, I.os, I.bare, ⟨fun b o e n hb hx => (hs.2 b (ne b o e)).trans (I.base.keep b o e n hb hx), fun b o e n hb hx => ?_, I.base.free, fun b o e hx => ?_, I.base.tups, I.base.frzs, I.base.tbls⟩, ⟨_, hn', fun j y v' e1 e2 e3 => ?_⟩, fun y c e => ?_, I.free, I.freeC, fun p hp => ?_, I.hok.stays fun b o e hb => (hs.2 b fun z => hb (by rw [z]; exact I.free)).trans e, by simpa using I.len⟩
  · obtain ⟨sl, e1⟩ := I.base.slot b o e n hb hx
    exact ⟨sl, (hs.2 b (ne b o e)).trans e1⟩
  · obtain ⟨o', e1⟩ := I.base.there b o e hx
    exact ⟨o', (hs.2 b (ne b o e)).trans e1⟩
  · by_cases hj : j = i
    · subst hj
      have hlt : j < σ.length := by rw [I.len]; exact (List.getElem?_eq_some_iff.mp hi).1
      rw [List.getElem?_set_self hlt] at e2
      cases e2
    · rw [List.getElem?_set_ne (Ne.symm hj)] at e2
      obtain ⟨u', r', q⟩ := hl j y v' e1 e2 e3
      refine ⟨u', r', ?_⟩
      rcases q with ⟨k, e⟩ | ⟨k, c, e, z⟩
      · refine .inl ⟨k, ?_⟩
        have hyn : y ≠ n := fun e => hj (nodup_ix hN e1 (e ▸ hi))
        simp [hyn, e]
      · exact .inr ⟨k, c, e, z.sameBut hs (I.cne y c e)⟩
  · obtain ⟨w', z⟩ := I.cell y c e
    exact ⟨w', z.sameBut hs (I.cne y c e)⟩
  · obtain ⟨e, nn, ne', nf, d⟩ := I.pin p hp
    exact ⟨(hs.2 p.1 ne').trans e, nn, ne', nf, d⟩
end
/-- try: body, except C as n: suite -/
def tTry (K : PySem.W.Frag) (CT : Addr) (i : Nat) (tb : (St → XK) → TS) (th : TS) : TS := fun D σ H => ∃ E : St → XK, tb E D σ H ∧ ∀ σ' cls H', E σ' cls none H' → PySem.W.exmOne K cls (.ref CT) = some true ∧ ∀ x, H' x = none →
  th { nx := fun σ2 H2 => D.nx (σ2.set i none) H2, rt := D.rt, bk := fun σ2 H2 => D.bk (σ2.set i none) H2, ct := fun σ2 H2 => D.ct (σ2.set i none) H2 } (σ'.set i (some (.ref x))) (upd H' x (XO x cls))
theorem ps_try {X : Cx} {body suite : List Stmt} {b0 : Stmt} {tn n : Str} {np pos hpos : Pos} {CT : Addr} {i : Nat} {tb : (St → XK) → TS} {th : TS} (hN : X.N.Nodup) (hi : X.N[i]? = some n) (hk : X.env.scope.names.lookup n = some .local)
    (hg : Gl X tn) (hm : X.mg tn = some (.ref CT)) (hst : X.stack = X.env :: X.outer) (hfr : X.env.frame = some X.env.locals) (hbody : ∀ pins E, PSs (tryCx X pins E) body (tb E)) (hh : ∀ v, PSs (hdCx X v) (b0 :: suite) th)
    (hd : (tn == ("__debug__" : Str)) = false := by decide) :
    PS X (.Try body [.ExceptHandler (some (.Name tn np)) (some n) (b0 :: suite) hpos] [] [] pos) (tTry X.K CT i tb th) := by
  intro pins s σ H D I hw
  obtain ⟨E, hb, hcatch⟩ := hw
  refine wpAny_Try_except (wpAny_mono (hbody pins E [] s σ H D I.toTry hb) (fun fl s1 q => ?_) fun e s1 hx => ?_)
  · cases fl with
    | next =>
      obtain ⟨σ', H', I', q⟩ := q
      exact wpAny_execs_nil ⟨σ', H', I'.ofTry, q⟩
    | brk => obtain ⟨σ', H', I', q⟩ := q; exact ⟨σ', H', I'.ofTry, q⟩
    | cont => obtain ⟨σ', H', I', q⟩ := q; exact ⟨σ', H', I'.ofTry, q⟩
    | ret u => obtain ⟨v, σ', H', I', r, q⟩ := q; exact ⟨v, σ', H', I'.ofTry, r, q⟩
  · obtain ⟨σ1, H1, s0, I1, x, cls, H2, rfl, hos, hbare, u, hok, new, hxn, ⟨B, a0, fl, st⟩, hE⟩ := hx
    obtain ⟨hmat, hth⟩ := hcatch σ1 cls H2 hE
    have hfl : Heap.FlyingW B (X.env :: X.outer) x cls a0 s1.heap := by rw [hst] at fl; exact fl
    have frNone : ∀ b ∈ frs X.stack, H2 b = none := fun b hb => by
      obtain ⟨_, o, ho, _⟩ := I1.stack.mem hb
      exact u.free b o ho (I1.stkFree b hb) (by simp)
    -- what the heap is behind each step
    have step : ∀ h', B.StaysIn h' → s1.heap.UpToSlots h' → Un (frs X.stack) [] H1 H2 s0.heap h' ∧ HOk X.prog X.w H2 h' := fun h' hB hu => by
      refine ⟨u.onto (fun b o ho hh hno => hB b o (st b o ho (.inr hh) hno)) fun b o ho hh hm' => ?_, hok.stays fun b o ho hh => hB b o (st b o ho (.inl hh) fun hm' => hh (frNone b hm'))⟩
      obtain ⟨_, o', ho', hdd⟩ := hfl.2.2.1.mem (b := b) (by rw [hst] at hm'; exact hm')
      rw [ho] at ho'
      cases ho'
      exact hu b o ho hdd
    have inv : ∀ h', B.StaysIn h' → s1.heap.UpToSlots h' → Inv X pins σ1 H2 { s1 with heap := h' } := fun h' hB hu => by
      obtain ⟨un, ok⟩ := step h' hB hu
      exact I1.call' (s' := { s1 with heap := h' }) (ch := []) hos un ok hbare fun b hb => by cases hb
    have hfrm : X.A.frames = some (X.env :: X.outer) := by rw [← hst]; exact I1.ok.frames
    refine wpAny_looks_onW hfrm hfr hfl fun h4 held4 up4 => ?_
    refine wpAny_landsW held4 fun h5 fl5 up5 => ?_
    have up15 := up4.trans up5
    have I5 := inv h5 fl5.1 up15
    refine wpAny_handleBy_cons (codeAny_handlers_test ?_) (by intro q; cases q)
    refine ld_glob (I5.toHd (.ref x)) hg hm ?_ hd
    have LT : PySem.W.Looks (model X.prog X.w) h5 (typeOf (.ref x)) cls := by
      obtain ⟨ob, hob, hc⟩ := fl5.there
      subst hc
      exact (PySem.W.Looks.ld hob).andThen .now
    refine (PySem.W.exm_one (M := model X.prog X.w) I5.kIn LT hmat).here ?_
    refine codeAny_handlers_suite_as ?_
    refine lands_againW fl5 fun h6 fl6 up6 => ?_
    have up16 := up15.trans up6
    obtain ⟨un6, ok6⟩ := step h6 fl6.1 up16
    obtain ⟨oe, vs, hoe, hcl, hdt, _⟩ := fl6.first
    -- the exception is tracked now
    have xin : s0.heap.get? x = none := new
    have un7 : Un (frs X.stack) [] H1 (upd H2 x (XO x cls)) s0.heap h6 := by
      refine ⟨un6.keep, un6.slot, fun b o e nn hx => ?_, un6.there, fun b xs e => ?_, fun b o v e => ?_, fun b ps e => ?_⟩
      · rw [upd_ne (fun z => by rw [z, xin] at e; cases e)]
        exact un6.free b o e nn hx
      · have := un6.tups b xs e
        rw [upd_ne (ne_of_none this hxn)]
        exact this
      · have := un6.frzs b o v e
        rw [upd_ne (ne_of_none this hxn)]
        exact this
      · obtain ⟨more, this⟩ := un6.tbls b ps e
        exact ⟨more, by rw [upd_ne (ne_of_none this hxn)]; exact this⟩
    have ok7 : HOk X.prog X.w (upd H2 x (XO x cls)) h6 := fun a o e => by
      by_cases ha : a = x
      · subst ha
        rw [upd_same] at e
        cases e
        exact XO.ok ⟨oe, vs, hoe, hcl, hdt⟩
      · rw [upd_ne ha] at e
        exact (ok6 a o e).stay (fun _ _ _ q => q) (fun b q => by rw [upd_ne (ne_of_none q hxn)]; exact q) fun b xs q => by rw [upd_ne (ne_of_none q hxn)]; exact q
    have I7 : Inv X pins σ1 (upd H2 x (XO x cls)) { s1 with heap := h6 } := I1.call' (s' := { s1 with heap := h6 }) (ch := []) hos un7 ok7 hbare fun b hb => by cases hb
    refine store_ok (v := .ref x) I7 hN hi (.inl hk) rfl (fun s8 I8 => ?_) (.inr hk)
    refine wpAny_mono (hh (.ref x) pins s8 _ _ _ (I8.toHd _) (hth x hxn)) (fun fl' s9 q => ?_) (fun _ _ z => False.elim z)
    have hdX := I.ok.hd
    cases fl' with
    | next =>
      obtain ⟨σ', H', I', q⟩ := q
      exact unbind_ok (I'.ofHd hdX) hN hi hk fun s10 I10 => ⟨_, H', I10, q⟩
    | brk =>
      obtain ⟨σ', H', I', q⟩ := q
      exact unbind_ok (I'.ofHd hdX) hN hi hk fun s10 I10 => ⟨_, H', I10, q⟩
    | cont =>
      obtain ⟨σ', H', I', q⟩ := q
      exact unbind_ok (I'.ofHd hdX) hN hi hk fun s10 I10 => ⟨_, H', I10, q⟩
    | ret u' =>
      obtain ⟨v, σ', H', I', r, q⟩ := q
      exact unbind_ok (I'.ofHd hdX) hN hi hk fun s10 I10 => ⟨v, _, H', I10, r, q⟩
end L2

set_option maxRecDepth 100000
namespace L2
open PySem PySem.Spec PyProof.Rows PySem.W
set_option autoImplicit false
set_option linter.all false
/-- what isinstance asks of an exception's class -/
structure ExcK (K : PySem.W.Frag) (C : Addr) : Prop where
  ga : findIn K (.ref C) "__getattribute__" = some (some (.builtin "BaseException.__getattribute__"))
  na : findIn K (.ref C) "__getattr__" = some none
  cl : findIn K (.ref C) "__class__" = some (some (.builtin "object.__class__"))
  sb : subIn K (.ref C) (.type "BaseException") = some true
  so : subIn K (.ref C) (.type "object") = some true
  cs : (clsIn K C).isSome = true
def ExcAt (x C : Addr) (h : Heap) : Prop := ∃ o vs, h.get? x = some o ∧ o.cls = .ref C ∧ o.data = .fields vs
section
variable {prog : Program} {w : World} {A : Around} {E : Value → Shared → Prop} {h : Heap} {g : Array GenState} {d : Drawn} {t : Nat} {os : OsState} {a C : Addr} {o : Obj} {K : PySem.W.Frag}
theorem exc_get {R : Result → Shared → Prop} (KI : K.In h) (c : ExcK K C) (hx : h.get? a = some o) (hc : o.cls = .ref C) (hq : R (.ok (.ret (.ref C))) ⟨h, g, d, t, os⟩) :
    codeAny (model prog w) A (.call (.builtin "getset_descriptor.__get__") ⟨[.builtin "object.__class__", .ref a, .ref C], []⟩) R ⟨h, g, d, t, os⟩ := by
  have hT5 : (⟨h, g, d, t, os⟩ : Shared).TypeIs (.builtin "object.__class__") "getset_descriptor" := F.typeOf_object_class
  have LS : Looks (model prog w) h (isSubtype (.ref C) (.type (".".intercalate ("object.__class__".cutAt '.').dropLast))) true := by rw [F.owner_object_class]; exact looks_subIn KI c.so
  refine codeAny_call_builtin F.slot_gs_get.plain F.entry_gs_get (F.slot_gs_get.check _ _ _ _ _ _ _ _ hT5 (F.args_gs_get _ _ _) ?_)
  repeat (any_goals (first | assumption | (with_reducible refine wpAny_loadPart_at hx ?_; rw [hc]) | (with_reducible refine LS.at ?_) | wp_step))
  refine ⟨Code.quiet_builtin _ (by decide +kernel), codeAny_builtin F.entry_object_class ?_⟩
  repeat (any_goals (first | assumption | (with_reducible refine wpAny_loadPart_at hx ?_; rw [hc]) | wp_step))
theorem exc_check {M : Model} {nameV : Value} {Q : Unit → Shared → Prop} (KI : K.In h) (c : ExcK K C) (hx : h.get? a = some o) (hc : o.cls = .ref C) (hq : Q () ⟨h, g, d, t, os⟩) :
    wpAny M A (checkBuiltinCall "BaseException.__getattribute__" ⟨[.ref a, nameV], []⟩) Q E ⟨h, g, d, t, os⟩ := by
  have k1 : builtinKind "BaseException.__getattribute__" = some .slot := by decide +kernel
  have k2 : splitId "BaseException.__getattribute__" = some ("BaseException", "__getattribute__") := by decide +kernel
  have LS : Looks M h (isSubtype (.ref C) (.type "BaseException")) true := looks_subIn KI c.sb
  have ha := F.args_bexc_ga (.ref a) nameV
  simp only [checkBuiltinCall, k1, k2]
  refine wpAny_bind ?_
  · unfold isInstance
    repeat (first | (with_reducible refine wpAny_loadPart_at hx ?_; rw [hc]) | (with_reducible refine LS.at ?_) | wp_step)
    exact hq
theorem exc_entry {tk : Tok} {Q : Fin → Shared → Prop} (KI : K.In h) (c : ExcK K C) (hx : h.get? a = some o) (hc : o.cls = .ref C) (hq : Q (.done (.ret (.ref C))) ⟨h, g, d, t, os⟩) :
    wpAny (model prog w) A (Builtin.«object.__getattribute__» ⟨[.ref a, .str "__class__" tk], []⟩) Q E ⟨h, g, d, t, os⟩ := by
  have hT5 : (⟨h, g, d, t, os⟩ : Shared).TypeIs (.builtin "object.__class__") "getset_descriptor" := F.typeOf_object_class
  have L1 : Looks (model prog w) h (typeLookup (.ref C) "__class__") (some (.builtin "object.__class__")) := looks_findIn KI c.cl
  have f5 := F.typeOf_object_class
  have f6 := F.slot_gs_get.lookup
  have f7 := F.slot_gs_set.lookup
  repeat (any_goals (first | assumption | (with_reducible refine wpAny_loadPart_at hx ?_; rw [hc]) | (with_reducible refine L1.at ?_) | wp_step))
  refine exc_get KI c hx hc ?_
  repeat (any_goals (first | assumption | wp_step))
theorem exc_by {tk : Tok} {Q : Value → Shared → Prop} (KI : K.In h) (c : ExcK K C) (hx : h.get? a = some o) (hc : o.cls = .ref C) (hq : Q (.ref C) ⟨h, g, d, t, os⟩) :
    wpAny (model prog w) A (getAttrBy (.ref a) (.str "__class__" tk) false) Q E ⟨h, g, d, t, os⟩ := by
  have f3 := F.excAttr_ValueError.ga.bind (.ref a)
  have y2 : (Value.builtin "BaseException.__getattribute__" == Value.builtin "object.__getattribute__") = false := by decide +kernel
  have y1 : (onTheHeap (Value.ref C) && Value.builtin "BaseException.__getattribute__" == Value.builtin "object.__getattribute__") = false := by rw [y2]; rfl
  have y0 : (false && onTheHeap (Value.builtin "BaseException.__getattribute__")) = false := rfl
  have L1 : Looks (model prog w) h (typeLookup (.ref C) "__getattribute__") (some (.builtin "BaseException.__getattribute__")) := looks_findIn KI c.ga
  have L2 : Looks (model prog w) h (typeLookup (.ref C) "__getattr__") none := looks_findIn KI c.na
  repeat (any_goals (first | assumption | (with_reducible refine wpAny_loadPart_at hx ?_; rw [hc]) | (with_reducible refine L1.at ?_) | (with_reducible refine L2.at ?_) | wp_step))
  refine codeAny_call_builtin F.excAttr_ValueError.ga.plain F.entry_bexc_ga (exc_check KI c hx hc (exc_entry KI c hx hc ?_))
  repeat (any_goals (first | assumption | wp_step))
theorem exc_cls {Q : Option Value → Shared → Prop} (KI : K.In h) (c : ExcK K C) (hx : h.get? a = some o) (hc : o.cls = .ref C) (hq : Q (some (.ref C)) ⟨h, g, d, t + 1, os⟩) : wpAny (model prog w) A (getAttr? (.ref a) "__class__") Q E ⟨h, g, d, t, os⟩ := by
  unfold getAttr? getAttrBy?
  repeat (any_goals (first | assumption | with_reducible apply exc_by KI c hx hc | wp_step))
end
theorem kitx_exc {K : PySem.W.Frag} {x C : Addr} (c : ExcK K C) : KitX K (.ref x) (.ref C) (ExcAt x C) where
  ty := fun _ _ _ p => by
    obtain ⟨o, _, h1, h2, _⟩ := p
    rw [← h2]
    exact (Looks.ld h1).andThen .now
  it := fun _ _ KI _ => by
    obtain ⟨cd, hcd⟩ := Option.isSome_iff_exists.mp c.cs
    unfold clsIn at hcd
    split at hcd
    · rename_i ho
      intro A' Q' E' s' k q
      unfold isType loadHead
      exact wpAny_bind (wpAny_loadPart (k _ _ (KI _ _ ho)) (wpAny_pure q))
    · cases hcd
  ne := fun h tp dd its n sl KI htp => by
    obtain ⟨cd, hcd⟩ := Option.isSome_iff_exists.mp c.cs
    refine Bool.eq_false_iff.mpr fun q => ?_
    have e : C = tp := Value.ref.inj (beq_iff_eq.mp q)
    subst e
    unfold clsIn at hcd
    split at hcd
    · rename_i ho
      have z := (KI _ _ ho).symm.trans htp
      cases z
    · cases hcd
  ca := fun {_ _ _ _ _ s} KI p k => by
    obtain ⟨o, _, h1, h2, _⟩ := p
    obtain ⟨hh, g, d, t, os⟩ := s
    exact exc_cls KI c h1 h2 k
/-- a class, as a value -/
def clsV : V → Value → Prop
  | .ty T, u => u = .type T
  | .ref D, u => u = .ref D
  | _, _ => False
section
variable {X : Cx}
/-- isinstance(a caught exception, a class) -/
theorem call_isinstE (K : PySem.W.Frag) (hK : X.K = K) : CallR X (.builtin "isinstance") (fun xs H Q => ∃ x C v u b, xs = [.ref x, v] ∧ H x = some (XO x (.ref C)) ∧ ExcK K C ∧ clsV v u ∧ kitOne K (.ref C) u = some b ∧ Q (.bl b) H) := by
  subst hK
  intro pins s σ H xs us Q I r h
  obtain ⟨x, C, v, u, b, rfl, hx, c, hv, e, q⟩ := h
  obtain ⟨u1, u2, rfl, r1, r2⟩ := r.two
  cases r1
  have e2 : u2 = u := by
    cases v <;> first | exact hv.elim | exact (show u2 = _ from r2).trans hv.symm
  subst e2
  obtain ⟨hp, _⟩ := I.hok x _ hx
  exact kia_one (kitx_exc c) I.kIn hp e (fun z => nomatch z) fun tk => ⟨.bl b, H, I.tok _, rfl, q⟩
end
end L2

namespace L2
open PySem PySem.Spec PyProof.Rows
set_option autoImplicit false
set_option linter.all false
end L2

namespace L2
open PySem PySem.Spec PyProof.Rows
set_option autoImplicit false
set_option linter.all false

/-! ### a range made a list; sorted(.., key = f), the keys tuples of ints -/
section
variable {prog : Program} {w : World} {A : Around} {E : Value → Shared → Prop} {s : Shared}
end

section
variable {X : Cx} {pins : List (Addr × Obj)} {σ : St} {H : Hp} {s : Shared} {A : Around} {E : Value → Shared → Prop}
theorem FpOk.to {H' : Hp} {b : Addr} (f : FpOk X pins H b) (h : H' b = none) : FpOk X pins H' b := ⟨h, f.2⟩
theorem Inv.turn {h' : Heap} {t' : Nat} {it : Addr} (I : Inv X pins σ H s) (f : FpOk X pins H it) (k : ∀ b o, b ≠ it → s.heap.get? b = some o → h'.get? b = some o) : Inv X pins σ H { s with heap := h', toks := t' } :=
  I.turned k f.1 f.2.1 f.2.2.2.1 f.2.2.2.2.1 f.2.2.2.2.2
/-- a record of ours comes to be tracked -/
theorem Inv.take {h' : Heap} {t' : Nat} {a : Addr} {o : HO} (I : Inv X pins σ H s) (f : FpOk X pins H a) (k : ∀ b u, b ≠ a → s.heap.get? b = some u → h'.get? b = some u) (new : ObjOk X.prog X.w (upd H a o) h' a o) : Inv X pins σ (upd H a o) { s with heap := h', toks := t' } := by
  have hn := f.1
  have ne : ∀ b u, H b = some u → b ≠ a := fun b u e => ne_of_none e hn
  have kp : ∀ b u, H b = some u → upd H a o b = some u := fun b u e => by rw [upd_ne (ne b u e)]; exact e
  refine I.step (g' := s.gens) (d' := s.drawn) (ch := [a]) (fun b hb => ?_) (fun b u _ _ hc e _ => k b u (fun z => hc (by simp [z])) e) (fun b u _ _ hc e _ => ⟨u.slots, k b u (fun z => hc (by simp [z])) e⟩) (fun b u hc _ n => by rw [upd_ne (fun z => hc (by simp [z]))]; exact n)
    (fun b u hc e => ⟨u, k b u (fun z => hc (by simp [z])) e⟩) (fun b xs e => kp b _ e) (fun b u xs e => kp b _ e) (fun b ps e => ⟨#[], by rw [kp b _ e]; simp⟩) (fun m hm => ?_) (fun b u e => ?_) I.bare
  · have e : b = a := by simpa using hb
    subst e
    exact ⟨f.2.2.2.1, f.2.1, f.2.2.2.2.1, f.2.2.2.2.2⟩
  · obtain ⟨o', es, ep, ho, r⟩ := hm
    exact ⟨o', es, ep, k _ o' (Ne.symm f.2.1) ho, r⟩
  · by_cases hb : b = a
    · subst hb
      rw [upd_same] at e
      cases e
      exact new
    · rw [upd_ne hb] at e
      refine (I.hok b u e).stay (fun c v hc q => k c v ?_ q) (fun c q => ?_) fun c xs q => ?_
      · rcases hc with z | z
        · rw [z]; exact hb
        · exact ne c _ z
      · exact kp _ _ q
      · exact kp _ _ q
end
end L2

namespace L2
open PySem PySem.Spec PyProof.Rows
set_option autoImplicit false
set_option linter.all false

section
variable {X : Cx} {pins : List (Addr × Obj)} {σ : St} {H : Hp} {s : Shared} {A : Around} {E : Value → Shared → Prop}
end
end L2

namespace L2
open PySem PySem.Spec PyProof.Rows
set_option autoImplicit false
set_option linter.all false

section
variable {X : Cx} {pins : List (Addr × Obj)} {σ : St} {H : Hp} {s : Shared} {A : Around} {E : Value → Shared → Prop}
end
end L2

namespace L2
open PySem PySem.Spec PyProof.Rows
set_option autoImplicit false
set_option linter.all false

section
variable {X : Cx} {pins : List (Addr × Obj)} {σ : St} {H : Hp} {s : Shared} {A : Around}
end
end L2

namespace L2
open PySem PySem.Spec PyProof.Rows
set_option autoImplicit false
set_option linter.all false

/-! ### a lambda made -/
def CodeO (c : Addr) (qual : Str) : HO := .ext fun h => h.CodeRec (.ref c) qual
/-- the table of the def's code: the lambda's code is in it or not -/
def TabOk (P : Addr) (pos : Pos) (qual : Str) (H : Hp) : Prop := ∃ ps, H P = some (.tbl ps) ∧ TriplesOk ps.toList ∧ (codeAmong pos ps.toList = none ∨ ∃ c', codeAmong pos ps.toList = some (.ref c') ∧ H c' = some (CodeO c' qual))
/-- all but the table is as it was -/
def Grow (P : Addr) (H H' : Hp) : Prop := ∀ b o, b ≠ P → H b = some o → H' b = some o
theorem Grow.refl (P : Addr) (H : Hp) : Grow P H H := fun _ _ _ h => h
theorem Grow.trans {P : Addr} {H H1 H2 : Hp} (a : Grow P H H1) (b : Grow P H1 H2) : Grow P H H2 := fun c o n h => b c o n (a c o n h)
theorem TabOk.same {P : Addr} {pos : Pos} {qual : Str} {H H' : Hp} (t : TabOk P pos qual H) (h : Same H H') : TabOk P pos qual H' := by
  obtain ⟨ps, h1, h2, h3⟩ := t
  refine ⟨ps, h _ _ h1, h2, ?_⟩
  rcases h3 with h3 | ⟨c', h3, h4⟩
  · exact .inl h3
  · exact .inr ⟨c', h3, h _ _ h4⟩
/-- what the base says of the def's code c and its table P -/
structure LamB (base : Heap) (mg : Str → Option Value) (c P : Addr) : Prop where
  hd : PySem.W.CodeHd base c P
  blt : base.BuiltinsAt mg P
  ne : mainGlobals ≠ P
section
variable {X : Cx}
end
end L2

namespace L2
open PySem PySem.Spec PyProof.Rows
set_option autoImplicit false
set_option linter.all false

section
variable {X : Cx}
end
end L2

namespace L2
open PySem PySem.Spec PyProof.Rows
set_option autoImplicit false
set_option linter.all false

end L2

namespace L2
open PySem PySem.Spec PyProof.Rows
set_option autoImplicit false
set_option linter.all false

/-! ### an exception that leaves a def from a comprehension's block -/
section
variable {M : Model} {A : Around} {Er : Value → Shared → Prop} {s : Shared}
end
section
variable {P : Program} {w : World} {K : PySem.W.Frag} {mg : Str → Option Value} {base : Heap} {N : List Str} {qual : Str} {scope : Scope} {f : Addr} {cd : Value} {A : Around} {outer : List Env} {s : Shared} {H : Hp} {E : XK}
  {pins : List (Addr × Obj)} {σ : St} {H1 : Hp} {s1 : Shared}
end
end L2

namespace L2
open PySem PySem.Spec PyProof.Rows
set_option autoImplicit false
set_option linter.all false
section
variable {P : Program} {w : World} {K : PySem.W.Frag} {mg : Str → Option Value} {base : Heap} {N : List Str} {qual : Str} {scope : Scope} {f : Addr} {cd : Value} {A : Around} {outer : List Env} {s : Shared} {H : Hp} {E : XK}
  {pins : List (Addr × Obj)} {σ : St}
end
section
variable {P : Program} {w : World} {K : PySem.W.Frag} {mg : Str → Option Value} {base : Heap} {N : List Str} {qual : Str} {scope0 : Scope} {f : Addr} {cd : Value} {A : Around} {outer : List Env} {s0 : Shared} {H0 : Hp} {E : XK} {X : Cx}
end
end L2

namespace HT
open PySem PyProof.Rows
set_option autoImplicit false
set_option linter.all false
section
variable {prog : Program} {w : World} {A : Around} {E : Value → Shared → Prop} {s : Shared}
end
end HT
namespace L2
open PySem PySem.Spec PyProof.Rows
set_option autoImplicit false
set_option linter.all false
section
variable {X : Cx} {e st : Expr} {te ts : TE} {pos p2 : Pos}
/-- a row, then the others from a word of one's own -/
def tCut (t u : TS) : TS := fun D σ H => ∃ Mid : St → Hp → Prop, t { D with nx := Mid } σ H ∧ ∀ σ' H', Mid σ' H' → u D σ' H'
theorem pss_cut {stm : Stmt} {rest : List Stmt} {t u : TS} (h1 : PS X stm t) (h2 : PSs X rest u) : PSs X (stm :: rest) (tCut t u) := by
  intro pins s σ H D I ⟨Mid, h, k⟩
  refine wpAny_execs_cons (thn (h1 pins s σ H { D with nx := Mid } I h) fun f s1 q => ?_)
  cases f with
  | next =>
    obtain ⟨σ', H', I', q⟩ := q
    exact h2 pins s1 σ' H' D I' (k _ _ q)
  | ret v => exact q
  | brk => exact q
  | cont => exact q
end
end L2

namespace Web
open PySem L2
set_option autoImplicit false
set_option linter.all false
/-! ### pairs of places, as lists -/
def rowF (i m : Nat) : List (List Int) := (List.range m).map fun (d : Nat) => ([(i : Int), (i : Int) + 1 + (d : Int)] : List Int)
def pairsN (n : Nat) : List (List Int) := (List.range n).flatMap fun i => rowF i (n - (i + 1))
/-- a pair of places, the less first -/
def Up (n : Nat) (k : List Int) : Prop := ∃ i j : Nat, i < j ∧ j < n ∧ k = [(i : Int), (j : Int)]
def Asc (ks : List (List Int)) : Prop := ks.Pairwise fun a b => Tim.lexB a b = true
theorem len_pairs : ∀ n : Nat, n ≤ 24 → (pairsN n).length ≤ 276 := by decide +kernel
/-- a tie turned up -/
def up : List Int → List Int
  | [a, b] => [if b < a then b else a, if b > a then b else a]
  | k => k
theorem Up.key {n : Nat} {k : List Int} (h : Up n k) (hn : n ≤ 24) : Sett.KeyOk k := by
  obtain ⟨i, j, h1, h2, rfl⟩ := h
  exact ⟨i, j, by omega, by omega, rfl⟩
theorem Up.len {n : Nat} {k : List Int} (h : Up n k) : k.length = 2 := by
  obtain ⟨i, j, h1, h2, rfl⟩ := h
  rfl
/-- two ends, told in either order -/
def Ends2 (n : Nat) (k : List Int) : Prop := ∃ i j : Nat, i < n ∧ j < n ∧ i ≠ j ∧ k = [(i : Int), (j : Int)]
theorem Ends2.up {n : Nat} {k : List Int} (h : Ends2 n k) : Up n (up k) := by
  obtain ⟨i, j, h1, h2, h3, rfl⟩ := h
  show Up n [if (j : Int) < i then (j : Int) else i, if (j : Int) > i then (j : Int) else i]
  by_cases h : i < j
  · rw [if_neg (by omega), if_pos (by omega)]
    exact ⟨i, j, h, h2, rfl⟩
  · rw [if_pos (by omega), if_neg (by omega)]
    exact ⟨j, i, by omega, h1, rfl⟩
end Web

namespace Web
open PySem L2
set_option autoImplicit false
set_option linter.all false
end Web

namespace L2
open PySem PySem.Spec PyProof.Rows
set_option autoImplicit false
set_option linter.all false
section
variable {X : Cx}
end

/-! ### the order of a tally -/
def okey (ns : List Int) (z : Int) : List Int := [-(ns.getD z.toNat 0), z]
def ole (ns : List Int) (x y : Int) : Prop := Tim.lexB (okey ns y) (okey ns x) = false
theorem ole_iff {ns : List Int} {x y : Int} : ole ns x y ↔ (ns.getD y.toNat 0 < ns.getD x.toNat 0 ∨ (ns.getD x.toNat 0 = ns.getD y.toNat 0 ∧ x ≤ y)) := by
  unfold ole okey Tim.lexB
  by_cases h : -(ns.getD y.toNat 0) = -(ns.getD x.toNat 0)
  · rw [if_pos h]
    unfold Tim.lexB
    by_cases h2 : y = x
    · rw [if_pos h2]
      simp only [Tim.lexB, true_iff]
      exact .inr ⟨by omega, by omega⟩
    · rw [if_neg h2, decide_eq_false_iff_not]
      constructor
      · intro h3; exact .inr ⟨by omega, by omega⟩
      · intro h3 h4; omega
  · rw [if_neg h, decide_eq_false_iff_not]
    constructor
    · intro h3; exact .inl (by omega)
    · intro h3 h4; omega
end L2

namespace L2
open PySem PySem.Spec PyProof.Rows
set_option autoImplicit false
set_option linter.all false

/-! ### sorted(a list or tuple of ints), and with reverse -/
section
variable {X : Cx} {pins : List (Addr × Obj)} {σ : St} {H : Hp} {s : Shared} {A : Around} {E : Value → Shared → Prop}
theorem seq_obj (I : Inv X pins σ H s) {p : Addr} {ns : List Int} (hq : SqL X.K H p (ns.map V.int) ∨ SqT X.K H p (ns.map V.int)) : ∃ (vs : List Value) (T : String) (o : Obj) (c : Nat), (T = "list" ∨ T = "tuple") ∧ s.heap.get? p = some o ∧ o.cls = .type T ∧ o.data = .seq vs.toArray c ∧ IntsAre vs ns := by
  rcases hq with hq | hq
  · obtain ⟨its, r', pl, hz⟩ := I.list hq
    obtain ⟨o, ho, hc, n, hd⟩ := pl.isList
    exact ⟨its, "list", o, n, .inl rfl, ho, hc, hd, intsAre_of r'⟩
  · obtain ⟨its, r', pl, hz⟩ := I.tuple hq
    obtain ⟨o, ho, hc, n, hd⟩ := pl
    exact ⟨its, "tuple", o, n, .inr rfl, ho, hc, hd, intsAre_of r'⟩
theorem sorted_end (I : Inv X pins σ H s) {h1 : Heap} {vs : List Value} {out : Array Value} {zs : List Int} (kp : ∀ b o', s.heap.get? b = some o' → h1.get? b = some o') (hi : IntsAre out.toList zs) (hz : zs.length ≤ 1000) :
    H h1.objs.size = none ∧ Inv X pins σ (upd H h1.objs.size (.lst (zs.map V.int))) { s with heap := sortedHeap (h1.push (seqObj "list" vs.toArray 0)) h1.objs.size vs out } := by
  have I1 : Inv X pins σ H { s with heap := h1, toks := s.toks } := I.kept kp
  refine ⟨I1.hok.fresh (Nat.le_refl _), ?_⟩
  have hoL : (h1.push (seqObj "list" vs.toArray 0)).get? h1.objs.size = some (seqObj "list" vs.toArray 0) := Heap.get?_push_size _ rfl
  obtain ⟨e, he⟩ := sortedHeap_at (out := out) hoL
  refine I1.laid (t' := s.toks) (fun b o q => ?_) (Nat.le_refl _) ⟨by rw [List.length_map, sizeLine_eq]; omega, out.toList, e, vals_ints hi, by rw [Array.toArray_toList]; exact he⟩
  have hb : b < h1.objs.size := Heap.lt_size q
  rw [sortedHeap_old (Nat.ne_of_lt hb) (by rw [size_push']; exact Nat.lt_succ_of_lt hb)]
  exact Heap.get?_push_of_some _ q
theorem sorted_seq_rev {p : Addr} {ns : List Int} {b : Bool} {Q : Value → Shared → Prop} (I : Inv X pins σ H s) (hq : SqL X.K H p (ns.map V.int) ∨ SqT X.K H p (ns.map V.int)) (h64 : ns.length < 64)
    (h : ∀ (s' : Shared) (D : Addr) (zs : List Int), H D = none → zs.Perm ns → Ordered b zs → Inv X pins σ (upd H D (.lst (zs.map V.int))) s' → Q (.ref D) s') :
    wpAny (model X.prog X.w) A (call (.builtin "sorted") [.ref p] [(Str.ofString "reverse", .bool b)]) Q E s := by
  obtain ⟨vs, T, o, c, hT, ho, hc, hd, hI⟩ := seq_obj I hq
  have hlen := hI.length
  refine call_function_entry_kw kind_sorted plain_sorted entry_sorted (args_sorted_rev _ _) ?_
  unfold Builtin.«sorted»
  refine wpAny_bind (m := checkCount "sorted" 1 1 _) (wpAny_pure ?_)
  refine wpAny_bind (wpAny_collect_seq p hT ho hc hd (fun h1 kp => ?_) (by rw [List.size_toArray, sizeLine_eq]; omega))
  rw [List.toList_toArray]
  refine wpAny_bind (wpAny_newList ?_ (by rw [sizeLine_eq]; omega))
  have hoL : (h1.push (seqObj "list" vs.toArray 0)).get? h1.objs.size = some (seqObj "list" vs.toArray 0) := Heap.get?_push_size _ rfl
  refine wpAny_bind (wpAny_holding (wpAny_call_entry_kw slot_list_sort (s := { s with heap := h1.push (seqObj "list" vs.toArray 0) }) ⟨_, hoL, rfl⟩ entry_list_sort (list_sort_tree_rev (s := { s with heap := h1.push (seqObj "list" vs.toArray 0) }) hoL hI (by omega) fun out ns' a1 a2 a3 => ⟨_, rfl, ?_⟩) (args_list_sort_rev _ _)))
  obtain ⟨e1, e2⟩ := sorted_end (vs := vs) I kp a1 (by rw [a2.length_eq]; omega)
  exact wpAny_pure ⟨_, rfl, h _ _ ns' e1 a2 a3 e2⟩
end
section
variable {X : Cx}
/-- sorted(a list or tuple of ints, reverse=True) -/
def tSortR (K : PySem.W.Frag) (tr : TA) : TE := fun σ H Q => tr σ H fun vs H1 => ∃ (p : Addr) (ns : List Int), vs = [.ref p] ∧ (SqL K H1 p (ns.map V.int) ∨ SqT K H1 p (ns.map V.int)) ∧ ns.length < 64 ∧
  ∀ (l : Addr) (zs : List Int), H1 l = none → zs.Perm ns → zs.Pairwise (· ≥ ·) → Q (.ref l) (upd H1 l (.lst (zs.map V.int)))
theorem pe_sortR {e : Expr} {np pos bpos kpos : Pos} {j : Nat} {tr : TA} (K : PySem.W.Frag) (hK : X.K = K) (hg : Gl X "sorted") (hm : X.mg "sorted" = none) (ha : PA X [e] tr)
    (hs : backTo pos (starEach [e] X.env) = (false, eval e X.env) :: backTo pos (starEach [] X.env) := by rfl)
    (hpl : (backTo pos (starEach [e] X.env)).any (·.1) = false := by rfl) :
    PE X (.Call (.Name "sorted" np) [e] [⟨some "reverse", .Constant (.bool true) j bpos, kpos⟩] pos) (tSortR K tr) := by
  subst hK
  intro pins s σ H Q I h
  refine wpAny_Call_Name_kw (ld_blt I hg hm (show bootBuiltins "sorted" = some (.builtin "sorted") from rfl) ?_ (by decide) (by decide))
  refine callWith_kw (thn (ha pos pins s σ H _ I h) fun us s1 ⟨vs, H1, I1, r1, q1⟩ => ?_) hs hpl rfl rfl
  obtain ⟨p, ns, rfl, hq, h64, q⟩ := q1
  have hk : PK X [⟨some "reverse", .Constant (.bool true) j bpos, kpos⟩] (tCons (tC (.bl true)) tNil) := pk_cons pe_bl pk_nil
  refine thn (hk pos pins s1 σ H1 (fun zs H2 => zs = [.bl true] ∧ H2 = H1) I1 ⟨rfl, rfl⟩) fun ws s2 ⟨zs, H2, I2, r2, ez, eH⟩ => ?_
  subst ez eH
  obtain ⟨w, rfl, rw⟩ := vals1 r2
  obtain ⟨u, rfl, ru⟩ := vals1 r1
  cases rw
  cases ru
  exact sorted_seq_rev (b := true) I2 hq h64 fun s' D zs a1 a2 a3 I' => ⟨.ref D, _, I', rfl, q D zs a1 a2 a3⟩
end
end L2

namespace L2
open PySem PySem.Spec PyProof.Rows
set_option autoImplicit false
set_option linter.all false

/-! ### enumerate(a tuple), its pairs unpacked; sum(a list or tuple) -/
section
variable {prog : Program} {w : World} {A : Around} {E : Value → Shared → Prop} {s : Shared}
theorem nextOf_tup_item {ip tp : Addr} {i : Nat} {ys : Array Value} {x : Value} {Q : Value → Shared → Prop} (hi : s.heap.IsTupleIter ip tp i) (ht : s.heap.IsTuple tp ys) (hx : ys[i]? = some x)
    (q : ∀ h', h'.IsTupleIter ip tp (i + 1) → Heap.SameBut ip s.heap h' → Q x { s with heap := h' }) : wpAny (model prog w) A (Builtin.SmallTypes.nextOf (.ref ip)) Q E s := by
  obtain ⟨u, hu, cu, du⟩ := id hi
  obtain ⟨v, hv, _, nv, dv⟩ := ht
  unfold Builtin.SmallTypes.nextOf
  refine wpAny_bind (wpAny_callSpecial?_slot (name := Str.ofString "__next__") hi.typeIs F.slot_tuple_iterator_next (wpAny_call_entry F.slot_tuple_iterator_next hi.typeIs F.entry_tuple_iterator_next ?_ (F.args_tuple_iterator_next_1 _)))
  show wpAny _ _ (field (.ref ip) 0 >>= _) _ _ s; refine wpAny_bind (wpAny_field hu du (x := .ref tp) rfl ?_)
  show wpAny _ _ (if (Value.ref tp == Value.none) = true then _ else _) _ _ s; rw [if_neg (show ¬ ((Value.ref tp == Value.none) = true) from Bool.false_ne_true)]
  show wpAny _ _ (field (.ref ip) 1 >>= _) _ _ s; refine wpAny_bind (wpAny_field hu du (x := .int i 0) rfl ?_)
  show wpAny _ _ (seqItems? (.ref tp) >>= _) _ _ s; refine wpAny_bind (wpAny_seqItems hv dv ?_)
  simp only [Int.toNat_natCast, hx]
  refine wpAny_bind (wpAny_setField hu du (by simp) (wpAny_pure ⟨x, rfl, wpAny_pure (q _ ?_ (Heap.SameBut.update ..))⟩))
  exact ⟨_, Heap.get?_update_self _ hu (Obj.isFreed_of_fields (Obj.data_mapFields du _)), (Obj.cls_mapFields ..).trans cu, by rw [Obj.data_mapFields du]; simp [rawInt]⟩
theorem nextOf_tup_end {ip tp : Addr} {i : Nat} {ys : Array Value} {Q : Value → Shared → Prop} (hh : A.handled = none) (hi : s.heap.IsTupleIter ip tp i) (ht : s.heap.IsTuple tp ys) (hx : ys[i]? = none)
    (q : ∀ h' e, Heap.ExtBut ip s.heap h' → (∃ o, h'.get? e = some o ∧ o.cls = .type "StopIteration") → E (.ref e) { s with heap := h' }) : wpAny (model prog w) A (Builtin.SmallTypes.nextOf (.ref ip)) Q E s := by
  obtain ⟨u, hu, cu, du⟩ := id hi
  obtain ⟨v, hv, _, nv, dv⟩ := ht
  unfold Builtin.SmallTypes.nextOf
  refine wpAny_bind (wpAny_callSpecial?_slot (name := Str.ofString "__next__") hi.typeIs F.slot_tuple_iterator_next (wpAny_call_entry F.slot_tuple_iterator_next hi.typeIs F.entry_tuple_iterator_next ?_ (F.args_tuple_iterator_next_1 _)))
  show wpAny _ _ (field (.ref ip) 0 >>= _) _ _ s; refine wpAny_bind (wpAny_field hu du (x := .ref tp) rfl ?_)
  show wpAny _ _ (if (Value.ref tp == Value.none) = true then _ else _) _ _ s; rw [if_neg (show ¬ ((Value.ref tp == Value.none) = true) from Bool.false_ne_true)]
  show wpAny _ _ (field (.ref ip) 1 >>= _) _ _ s; refine wpAny_bind (wpAny_field hu du (x := .int i 0) rfl ?_)
  show wpAny _ _ (seqItems? (.ref tp) >>= _) _ _ s; refine wpAny_bind (wpAny_seqItems hv dv ?_)
  simp only [Int.toNat_natCast, hx]
  refine wpAny_bind (wpAny_rule (wpAny_bind (wpAny_setField hu du (by simp) ?_)))
  show wpAny _ _ (newExc (.type "StopIteration") [] >>= _) _ _ _; refine wpAny_bind ?_; simp only [newExc, newTuple]
  refine wpAny_bind (wpAny_newObj_type ?_ (by size_fits)); refine wpAny_bind (m := firstArgMember _ _) (wpAny_of_eq (a := Value.none) (by first | rfl | (simp only [firstArgMember]; rfl)) ?_)
  refine wpAny_newObj_type ?_ (by size_fits); simp only [raiseNew]
  refine wpAny_bind (wpAny_handled ?_); first | rw [show A.in1.handled = none from hh] | rw [hh]
  refine wpAny_bind (wpAny_pure (wpAny_throw ?_)); exact q _ _ (((Heap.SameBut.update ..).extBut.push _).push _) ⟨_, Heap.get?_push_size _ rfl, rfl⟩
end
theorem draws_tup {prog : Program} {w : World} {A : Around} (hh : A.handled = none) (ip tp : Addr) (hne : tp ≠ ip) (ys : Array Value) : Draws prog w A ip [ip, tp] ys.size (fun i v => ys[i]? = some v) (fun i h => h.IsTupleIter ip tp i ∧ h.IsTuple tp ys) where
  live := fun _ _ z => let ⟨o, ho, _⟩ := z.1; ⟨o, ho⟩
  frame := fun _ _ _ z k => ⟨z.1.at fun o e => k ip (by simp) o e, z.2.at fun o e => k tp (by simp) o e⟩
  item := fun i s Q E hi z q => nextOf_tup_item z.1 z.2 (x := ys[i]) (by simp [hi]) fun h' a b => q _ h' s.toks (by simp [hi]) ⟨a, z.2.extBut b.extBut hne⟩ b
  done := fun s Q E z q => nextOf_tup_end hh z.1 z.2 (by simp) q
open AutoSeq1 (wpAny_loadPart') in
set_option maxRecDepth 100000 in
theorem meets_enum_tup (tp : Addr) (ys : Array Value) (n : Nat) (dd : Option Addr) (ss : Array (Option Value)) :
    Meets (Builtin.«enumerate.__new__» ⟨[.type "enumerate", .ref tp], []⟩) (fun _ R s => s.heap.get? tp = some { cls := .type "tuple", dict := dd, data := .seq ys n, slots := ss } ∧
      R (.ok (.ret (.ref (s.heap.push { cls := .type "tuple_iterator", data := .fields #[.ref tp, .int 0 0] }).objs.size)))
        { s with heap := (s.heap.push { cls := .type "tuple_iterator", data := .fields #[.ref tp, .int 0 0] }).push { cls := .type "enumerate", data := .fields #[.none, .bool false, .ref s.heap.objs.size, rawInt 0, .none, .none] } }) :=
  .of_wp fun prog w A R s h => by
    obtain ⟨hp, g, d, tk, os⟩ := s; obtain ⟨hl, h⟩ := h
    have hsub := sub_enumerate
    have hT : Heap.IsTuple (Shared.heap ⟨hp, g, d, tk, os⟩) tp ys := ⟨_, hl, rfl, n, rfl⟩
    wp_walk using wpAny_loadPart' hl
    refine wpAny_stack_any fun st => wpAny_pure ?_
    split
    · rename_i c _ _ _ _ _
      cases (c == Value.type "enumerate")
      · wp_walk using wpAny_loadPart' hl, wpAny_pyIter_tuple hT; exact ⟨_, rfl, h⟩
      · wp_walk using wpAny_loadPart' hl, wpAny_pyIter_tuple hT; exact ⟨_, rfl, h⟩
    · wp_walk using wpAny_loadPart' hl, wpAny_pyIter_tuple hT; exact ⟨_, rfl, h⟩
section
variable {prog : Program} {w : World} {A : Around} {E : Value → Shared → Prop} {s : Shared}
theorem call_enum_tup {tp : Addr} {ys : Array Value} {Q : Value → Shared → Prop} (hT : s.heap.IsTuple tp ys)
    (q : ∀ h', IsEnum h' (s.heap.objs.size + 1) s.heap.objs.size 0 .none → h'.IsTupleIter s.heap.objs.size tp 0 → h'.objs.size = s.heap.objs.size + 2 → (∀ b o, s.heap.get? b = some o → h'.get? b = some o) → Q (.ref (s.heap.objs.size + 1)) { s with heap := h' }) :
    wpAny (model prog w) A (call (.type "enumerate") [.ref tp]) Q E s := by
  obtain ⟨⟨c, dd, dt, ss⟩, hl, hc, n, hd⟩ := hT
  replace hc : c = .type "tuple" := hc
  replace hd : dt = .seq ys n := hd
  subst hc hd
  refine callType_new F.called_enumerate (by decide) (F.typeCall_enumerate_1 _) (F.newCall_enumerate_1 _) (fun obj => F.args_object_init_2 obj _) F.entry_enumerate_new (meets_enum_tup tp ys n dd ss) ⟨hl, ?_⟩
  have hz : (s.heap.push { cls := .type "tuple_iterator", data := .fields #[.ref tp, .int 0 0] }).objs.size = s.heap.objs.size + 1 := Heap.size_push ..
  show _ ∧ _
  rw [hz]
  have he : IsEnum ((s.heap.push { cls := .type "tuple_iterator", data := .fields #[.ref tp, .int 0 0] }).push { cls := .type "enumerate", data := .fields #[.none, .bool false, .ref s.heap.objs.size, rawInt 0, .none, .none] }) (s.heap.objs.size + 1) s.heap.objs.size 0 .none := by
    have := Heap.get?_push_size (s.heap.push { cls := .type "tuple_iterator", data := .fields #[.ref tp, .int 0 0] }) (o := { cls := .type "enumerate", data := .fields #[.none, .bool false, .ref s.heap.objs.size, rawInt 0, .none, .none] }) rfl
    rw [hz] at this; exact this
  exact ⟨⟨_, he, rfl⟩, q _ he ⟨_, Heap.get?_push_of_some _ (Heap.get?_push_size _ rfl), rfl, rfl⟩ (by rw [Heap.size_push, hz]) fun b o x => Heap.get?_push_of_some _ (Heap.get?_push_of_some _ x)⟩
end
def Itm (K : PySem.W.Frag) (a : Addr) : It :=
  ⟨fun i H => ∃ xs x, SqT K H a xs ∧ xs[i]? = some x, fun i H x H' => ∃ t v, H t = none ∧ x = .ref t ∧ (∀ xs, SqT K H a xs → xs[i]? = some v) ∧ H' = upd H t (.tup [.int i, v]), fun i H => ∃ xs, SqT K H a xs ∧ xs.length = i⟩
def iEnumT (K : PySem.W.Frag) (ta : TA) : TI := fun σ H R => ta σ H fun vs H1 => ∃ a, vs = [.ref a] ∧ (∃ xs, SqT K H1 a xs) ∧ R (Itm K a) H1
theorem turn_enumT {P : Program} {w : World} {K : PySem.W.Frag} {elts : List Expr} {x1 : Nat} {pos : Pos} (a ip e : Addr) (hne : e ≠ ip) : Turn P w K (.Tuple elts x1 pos) (Itm K a) [e, ip] e (fun i h => (∃ old, IsEnum h e ip (i : Int) old) ∧ h.IsTupleIter ip a i) where
  mem := by simp
  obj := fun i h st b hb => by
    obtain ⟨⟨old, he⟩, o, ho, hc, hd⟩ := st
    rcases List.mem_cons.mp hb with rfl | hb
    · exact ⟨_, he, fun v z => by cases z⟩
    · obtain rfl : b = ip := by simpa using hb
      exact ⟨o, ho, fun v z => by rw [hd] at z; cases z⟩
  keep := fun i h h' st k => ⟨let ⟨old, he⟩ := st.1; ⟨old, k e (by simp) _ he⟩, st.2.at fun o q => k ip (by simp) o q⟩
  item := by
    intro X hP hw hK hc i pins s σ H E I hf st hg
    subst hP hw hK
    obtain ⟨xs, x, hq, hx⟩ := hg
    obtain ⟨⟨old, he⟩, hit⟩ := st
    obtain ⟨its, rv, p, hz⟩ := I.tuple hq
    obtain ⟨u, hu, ru⟩ := rv.get hx
    obtain ⟨f0, f1, f2, f3, f4, f5⟩ := hf e (by simp)
    obtain ⟨g0, g1, g2, g3, g4, g5⟩ := hf ip (by simp)
    have pT : s.heap.IsTuple a its.toArray := p
    have nai : a ≠ ip := fun z => by
      obtain ⟨o1, h1, c1, _⟩ := id pT
      obtain ⟨o2, h2, c2, _⟩ := id hit
      rw [z, h2] at h1; cases h1; rw [c2] at c1; injection c1 with c1; exact absurd c1 (by decide)
    have nae : a ≠ e := fun z => by
      obtain ⟨o1, h1, c1, _⟩ := id pT
      rw [z, show s.heap.get? e = _ from he] at h1; cases h1; injection c1 with c1; exact absurd c1 (by decide)
    have ui : its.toArray[i]? = some u := by simpa using hu
    have hlt' : i < its.toArray.size := by
      rcases Nat.lt_or_ge i its.toArray.size with h | h
      · exact h
      · rw [Array.getElem?_eq_none h] at ui; cases ui
    refine wpAny_pyNext_enum_itemD (draws_tup (A := X.A.in1) (I.ok.hd hc) ip a nai its.toArray) he ⟨hit, pT⟩ hlt' hne (by simp [hne, Ne.symm nae]) fun v h1 tk hv heo st1 ht1 hz1 hk1 => ?_
    have ev : v = u := by have := hv.symm.trans ui; cases this; rfl
    subst ev
    have hit1 := st1.1
    refine ⟨_, rfl, ?_⟩
    refine wpAny_letOwnedTupleGo_enum heo fun h2 he2 hs2 => ?_
    have hlt : e < s.heap.objs.size := Heap.lt_size he
    have hs2' : Heap.SameBut e h1 h2 := hs2
    have ht2 : h2.get? s.heap.objs.size = some { cls := .type "tuple", data := .seq #[.int i tk, v] } := (hs2'.2 _ (Nat.ne_of_gt hlt)).trans ht1
    have kp : ∀ b o, b ≠ e → b ≠ ip → s.heap.get? b = some o → h2.get? b = some o := fun b o h1' h2' q => (hs2'.2 b h1').trans (hk1 b o h1' h2' q)
    have hT : H s.heap.objs.size = none := I.hok.fresh (Nat.le_refl _)
    have nH : ∀ b, H b ≠ none → b ≠ e ∧ b ≠ ip := fun b hb => ⟨fun z => hb (z ▸ f0), fun z => hb (z ▸ g0)⟩
    have keepH : ∀ b o, H b = some o → upd H s.heap.objs.size (.tup [.int i, x]) b = some o := fun b o q => by rw [upd_ne (ne_of_none q hT)]; exact q
    have hok2 : HOk X.prog X.w (upd H s.heap.objs.size (.tup [.int i, x])) h2 := fun b o eb => by
      by_cases hb : b = s.heap.objs.size
      · subst hb
        rw [upd_same] at eb
        cases eb
        exact ⟨by show 2 ≤ sizeLine; decide, [.int i tk, v], .cons ⟨_, rfl⟩ (.cons ru .nil), ⟨_, ht2, rfl, _, rfl⟩⟩
      · rw [upd_ne hb] at eb
        refine (I.hok b o eb).stay (fun c v hcc q => kp c v ?_ ?_ q) (fun c q => keepH c _ q) fun c ys q => keepH c _ q
        · rcases hcc with z | z
          · exact (nH c (by rw [z, eb]; simp)).1
          · exact (nH c (by rw [z]; simp)).1
        · rcases hcc with z | z
          · exact (nH c (by rw [z, eb]; simp)).2
          · exact (nH c (by rw [z]; simp)).2
    have I2 : Inv X pins σ (upd H s.heap.objs.size (.tup [.int i, x])) { s with heap := h2, toks := tk + 1 } := by
      refine I.step (g' := s.gens) (d' := s.drawn) (t' := tk + 1) (ch := [e, ip]) (fun b hb => ?_) (fun b o _ _ hcc q _ => kp b o (fun z => hcc (by simp [z])) (fun z => hcc (by simp [z])) q) (fun b o _ _ hcc q _ => ⟨o.slots, kp b o (fun z => hcc (by simp [z])) (fun z => hcc (by simp [z])) q⟩) (fun b o _ q n => ?_)
        (fun b o hcc q => ⟨o, kp b o (fun z => hcc (by simp [z])) (fun z => hcc (by simp [z])) q⟩) (fun b ys q => keepH b _ q) (fun b o v q => keepH b _ q) (fun b ps q => ⟨#[], by rw [keepH b _ q]; simp⟩) (fun m hm => ?_) hok2 I.bare
      · rcases List.mem_cons.mp hb with rfl | hb
        · exact ⟨f3, f1, f4, f5⟩
        · obtain rfl : b = ip := by simpa using hb
          exact ⟨g3, g1, g4, g5⟩
      · rw [upd_ne (Nat.ne_of_lt (Heap.lt_size q))]
        exact n
      · obtain ⟨o, es, ep, ho, r⟩ := hm
        exact ⟨o, es, ep, kp _ o (Ne.symm f1) (Ne.symm g1) ho, r⟩
    have hilt : ip < s.heap.objs.size := by
      obtain ⟨o, ho, _⟩ := id hit
      exact Heap.lt_size ho
    refine ⟨.ref s.heap.objs.size, _, I2, rfl, ⟨s.heap.objs.size, x, hT, rfl, fun ys hy => by rw [I.tuple_inj hy hq]; exact hx, rfl⟩, ⟨⟨v, ?_⟩, ?_⟩, fun b hb => ?_⟩
    · have := he2
      rw [show ((i : Int) + 1) = (((i + 1 : Nat) : Int)) by simp] at this
      exact this
    · exact hit1.at fun o q => (hs2'.2 ip (Ne.symm hne)).trans q
    · rcases List.mem_cons.mp hb with rfl | hb
      · rw [upd_ne (Nat.ne_of_lt hlt)]; exact f0
      · obtain rfl : b = ip := by simpa using hb
        rw [upd_ne (Nat.ne_of_lt hilt)]
        exact g0
  done := by
    intro X hP hw hK hc i pins s σ H E I hf st hg
    subst hP hw hK
    obtain ⟨xs, hq, hx⟩ := hg
    obtain ⟨⟨old, he⟩, hit⟩ := st
    obtain ⟨its, rv, p, hz⟩ := I.tuple hq
    obtain ⟨g0, g1, g2, g3, g4, g5⟩ := hf ip (by simp)
    have hl := rv.length
    have pT : s.heap.IsTuple a its.toArray := p
    have nai : a ≠ ip := fun z => by
      obtain ⟨o1, h1, c1, _⟩ := id pT
      obtain ⟨o2, h2, c2, _⟩ := id hit
      rw [z, h2] at h1; cases h1; rw [c2] at c1; injection c1 with c1; exact absurd c1 (by decide)
    have ei : i = its.toArray.size := by rw [List.size_toArray]; omega
    refine wpAny_pyNext_enum_endD (draws_tup (A := X.A.in1) (I.ok.hd hc) ip a nai its.toArray) he ⟨by rw [← ei]; exact hit, pT⟩ fun h' eb => ⟨rfl, I.turned (t' := s.toks) (fun b o hb q => eb b o hb q) g0 g1 g3 g4 g5⟩
  self := fun _ _ _ _ _ st h => let ⟨⟨old, he⟩, _⟩ := st; wpAny_pyIter_enum he h
section
variable {X : Cx}
theorem pi_enumT {a : Expr} {ta : TA} {elts : List Expr} {x1 : Nat} {tpos p pos : Pos} (hg : Gl X "enumerate") (hm : X.mg "enumerate" = none) (ha : PA X [a] ta) (hv : bootBuiltins "enumerate" = some (.type "enumerate") := by rfl) (hs : starEach [a] X.env = [(false, eval a X.env)] := by rfl) :
    PI X (.Tuple elts x1 tpos) (.Call (.Name "enumerate" p) [a] [] pos) (iEnumT X.K ta) := by
  intro pins s σ H R I h
  refine Call_ (ld_blt I hg hm hv (PyProof.Rows.callWith_type1 (thn (ha pos pins s σ H _ I h) fun us s1 ⟨vs, H1, I1, r1, q1⟩ => ?_) hs rfl))
  obtain ⟨b, e, ⟨xs, hq⟩, q⟩ := q1
  subst e
  obtain ⟨u, rfl, rx⟩ := vals1 r1
  cases rx
  obtain ⟨its, rv, pl, hz⟩ := I1.tuple hq
  refine call_enum_tup (show s1.heap.IsTuple b its.toArray from pl) fun h' he hit hsz kp => ?_
  refine wpAny_pyIter_enum he ?_
  have hne : s1.heap.objs.size + 1 ≠ s1.heap.objs.size := Nat.succ_ne_self _
  refine ⟨s1.heap.objs.size + 1, [s1.heap.objs.size + 1, s1.heap.objs.size], _, _, H1, rfl, I1.kept (t' := s1.toks) kp, turn_enumT b s1.heap.objs.size (s1.heap.objs.size + 1) hne, ⟨⟨_, he⟩, hit⟩, fun c hc => ?_, q⟩
  rcases List.mem_cons.mp hc with rfl | hc
  · exact I1.fpOk (Nat.le_succ _) (I1.hok.fresh (Nat.le_succ _))
  · obtain rfl : c = s1.heap.objs.size := by simpa using hc
    exact I1.fpOk (Nat.le_refl _) (I1.hok.fresh (Nat.le_refl _))
/-- sum(a tuple of ints) -/
theorem call_sumT (hc : X.calm = true) : CallR X (.builtin "sum") (fun xs H Q => ∃ (p : Addr) (ns : List Int), xs = [.ref p] ∧ SqT X.K H p (ns.map V.int) ∧ Q (.int ns.sum) H) := by
  intro pins s σ H xs us Q I r h
  obtain ⟨p, ns, rfl, hq, q⟩ := h
  obtain ⟨u, rfl, rx⟩ := vals1 r
  cases rx
  obtain ⟨its, r', pl, hz⟩ := I.tuple hq
  have hi : IntsAre its ns := intsAre_of r'
  obtain ⟨ys, e⟩ := hi.allInts.items
  refine PySem.W.ktm_sumG (xs := ys) (I.ok.hd hc) (by rw [← e]; exact pl) fun h' tk t' hk => ⟨.int ns.sum, H, I.kept (t' := tk) hk, ⟨t', ?_⟩, q⟩
  have e2 : numsOf (intItems ys).toList = ns := by rw [← e]; exact hi.numsOf
  rw [nums_intItems] at e2
  rw [preSum_eq, List.take_of_length_le (by simp), e2]
end
/-- a for over enumerate of a tuple -/
theorem for_enumT {K : PySem.W.Frag} {a : Addr} {xs : List V} {g : TG} {tb : TS} {D : Ends} {σ : St} {H : Hp} (Pv : Nat → St → Hp → Prop) (h0 : Pv 0 σ H) (hl : ∀ i σ H, i ≤ xs.length → Pv i σ H → SqT K H a xs)
    (hs : ∀ i x t σ H, xs[i]? = some x → Pv i σ H → H t = none → g (.ref t) σ (upd H t (.tup [.int i, x])) fun σ2 H2 => tb { D with nx := Pv (i + 1), ct := Pv (i + 1), bk := D.nx } σ2 H2) (hd : ∀ σ H, Pv xs.length σ H → D.nx σ H) :
    ∃ W : Nat → Nat → St → Hp → Prop, (∃ m, W 0 m σ H) ∧ ∀ i m σ H, W i m σ H →
      ((Itm K a).stop i H ∧ D.nx σ H) ∨ ((Itm K a).go i H ∧ ∃ N : St → Hp → Prop, (∀ σ' H', N σ' H' → ∃ m', m' < m ∧ W (i + 1) m' σ' H') ∧ ∀ x H', (Itm K a).yld i H x H' → g x σ H' fun σ2 H2 => tb { D with nx := N, ct := N, bk := D.nx } σ2 H2) := by
  refine ⟨fun i m σ H => m = xs.length - i ∧ i ≤ xs.length ∧ Pv i σ H, ⟨xs.length, by simp, Nat.zero_le _, h0⟩, ?_⟩
  rintro i m σ H ⟨rfl, hi, p⟩
  have q := hl i σ H hi p
  by_cases hlt : i < xs.length
  · refine .inr ⟨⟨xs, xs[i], q, by simp [hlt]⟩, Pv (i + 1), fun σ' H' p' => ⟨xs.length - (i + 1), by omega, rfl, hlt, p'⟩, fun x H' y => ?_⟩
    obtain ⟨t, v, ht, e, hv, e'⟩ := y
    subst e e'
    exact hs i v t σ H (hv xs q) p ht
  · obtain rfl : i = xs.length := by omega
    exact .inl ⟨⟨xs, q, rfl⟩, hd σ H p⟩
end L2

namespace L2
open PySem PySem.Spec PyProof.Rows
set_option autoImplicit false
set_option linter.all false
section
variable {X : Cx}
theorem pi_or {tg it : Expr} {w1 w2 : TI} (h1 : PI X tg it w1) (h2 : PI X tg it w2) : PI X tg it (fun σ H R => w1 σ H R ∨ w2 σ H R) :=
  fun pins s σ H R I h => h.elim (h1 pins s σ H R I) (h2 pins s σ H R I)
/-- sum of a list or a tuple of ints -/
theorem call_sumS (hc : X.calm = true) : CallR X (.builtin "sum") (fun xs H Q => ∃ (p : Addr) (ns : List Int), xs = [.ref p] ∧ (SqL X.K H p (ns.map V.int) ∨ SqT X.K H p (ns.map V.int)) ∧ Q (.int ns.sum) H) :=
  fun pins s σ H xs us Q I r ⟨p, ns, e, hq, q⟩ => hq.elim (fun h => call_sum hc pins s σ H xs us Q I r ⟨p, ns, e, h, q⟩) fun h => call_sumT hc pins s σ H xs us Q I r ⟨p, ns, e, h, q⟩
end
/-- a comprehension over enumerate of a list or a tuple that stays -/
theorem comp_enumG {D : Addr} {J : It} {S : Hp → Prop} {ys : List V} {g : TG} {tt : TT} {te : TE} {Qd : Hp → Prop} {σ0 : St} {H0 : Hp}
    (hst : ∀ i H, S H → ys.length = i → J.stop i H) (hgo : ∀ i H, S H → i < ys.length → J.go i H) (hy : ∀ i H x H'', S H → J.yld i H x H'' → ∃ (t : Addr) (v : V), H t = none ∧ x = .ref t ∧ ys[i]? = some v ∧ H'' = upd H t (.tup [.int i, v]))
    (Pv : Nat → List V → St → Hp → Prop) (h0 : Pv 0 [] σ0 H0) (hz : ys.length ≤ sizeLine) (hl : ∀ i xs σ H, i ≤ ys.length → Pv i xs σ H → S H ∧ H D = some (.lst xs) ∧ xs.length ≤ i)
    (hs : ∀ i xs x t σ H (N : List V → St → Hp → Prop), (∀ xs' σ' H', Pv (i + 1) xs' σ' H' → N xs' σ' H') → ys[i]? = some x → Pv i xs σ H → H t = none → g (.ref t) σ (upd H t (.tup [.int i, x])) fun σ2 H2 => tt σ2 H2 fun b H3 => if b = true then te σ2 H3 fun v H4 => H4 D = some (.lst xs) ∧ N (xs ++ [v]) σ2 (upd H4 D (.lst (xs ++ [v]))) else N xs σ2 H3)
    (hd : ∀ xs σ H, Pv ys.length xs σ H → Qd H) :
    ∃ W : Nat → Nat → List V → St → Hp → Prop, (∃ m, W 0 m [] σ0 H0) ∧ ∀ i m xs σ' H', W i m xs σ' H' → H' D = some (.lst xs) ∧ ((J.stop i H' ∧ Qd H') ∨ (J.go i H' ∧ xs.length < sizeLine ∧ ∀ x H'', J.yld i H' x H'' → g x σ' H'' fun σ2 H2 => tt σ2 H2 fun b H3 =>
      if b = true then te σ2 H3 fun v H4 => H4 D = some (.lst xs) ∧ ∃ m', m' < m ∧ W (i + 1) m' (xs ++ [v]) σ2 (upd H4 D (.lst (xs ++ [v]))) else ∃ m', m' < m ∧ W (i + 1) m' xs σ2 H3)) := by
  refine ⟨fun i m xs σ H => m = ys.length - i ∧ i ≤ ys.length ∧ Pv i xs σ H, ⟨ys.length, by simp, Nat.zero_le _, h0⟩, ?_⟩
  rintro i m xs σ H ⟨rfl, hi, p⟩
  obtain ⟨q, hD, hx⟩ := hl i xs σ H hi p
  refine ⟨hD, ?_⟩
  by_cases hlt : i < ys.length
  · refine .inr ⟨hgo i H q hlt, by omega, fun x H'' y => ?_⟩
    obtain ⟨t, v, ht, e, hv, e'⟩ := hy i H x H'' q y
    subst e e'
    exact hs i xs v t σ _ (fun zs σ' H' => ∃ m', m' < ys.length - i ∧ m' = ys.length - (i + 1) ∧ i + 1 ≤ ys.length ∧ Pv (i + 1) zs σ' H') (fun zs σ' H' r => ⟨_, by omega, rfl, hlt, r⟩) hv p ht
  · have e : i = ys.length := by omega
    subst e
    exact .inl ⟨hst _ H q rfl, hd xs σ H p⟩
theorem itn_st {K : PySem.W.Frag} {a : Addr} {ys : List V} (i : Nat) (H : Hp) (q : SqL K H a ys) (h : ys.length = i) : (Itn K a).stop i H := ⟨ys, q, Nat.le_of_eq h⟩
theorem itn_go {K : PySem.W.Frag} {a : Addr} {ys : List V} (i : Nat) (H : Hp) (q : SqL K H a ys) (h : i < ys.length) : (Itn K a).go i H := ⟨ys, ys[i], q, by simp [h]⟩
theorem itn_y {K : PySem.W.Frag} {a : Addr} {ys : List V} (i : Nat) (H : Hp) (x : V) (H'' : Hp) (q : SqL K H a ys) (y : (Itn K a).yld i H x H'') : ∃ (t : Addr) (v : V), H t = none ∧ x = .ref t ∧ ys[i]? = some v ∧ H'' = upd H t (.tup [.int i, v]) := by
  obtain ⟨t, v, ht, e, hv, e'⟩ := y
  exact ⟨t, v, ht, e, hv ys q, e'⟩
theorem itm_st {K : PySem.W.Frag} {a : Addr} {ys : List V} (i : Nat) (H : Hp) (q : SqT K H a ys) (h : ys.length = i) : (Itm K a).stop i H := ⟨ys, q, h⟩
theorem itm_go {K : PySem.W.Frag} {a : Addr} {ys : List V} (i : Nat) (H : Hp) (q : SqT K H a ys) (h : i < ys.length) : (Itm K a).go i H := ⟨ys, ys[i], q, by simp [h]⟩
theorem itm_y {K : PySem.W.Frag} {a : Addr} {ys : List V} (i : Nat) (H : Hp) (x : V) (H'' : Hp) (q : SqT K H a ys) (y : (Itm K a).yld i H x H'') : ∃ (t : Addr) (v : V), H t = none ∧ x = .ref t ∧ ys[i]? = some v ∧ H'' = upd H t (.tup [.int i, v]) := by
  obtain ⟨t, v, ht, e, hv, e'⟩ := y
  exact ⟨t, v, ht, e, hv ys q, e'⟩
theorem comp_enumS {K : PySem.W.Frag} {a : Addr} {ys : List V} {g : TG} {tt : TT} {te : TE} {Qd : Addr → Hp → Prop} {σ0 : St} {H : Hp} (hS : SqL K H a ys ∨ SqT K H a ys) (hz : ys.length ≤ sizeLine)
    (Pv : Addr → Nat → List V → St → Hp → Prop) (h0 : ∀ D, H D = none → Pv D 0 [] σ0 (upd H D (.lst []))) (hl : ∀ D i xs σ H', H D = none → i ≤ ys.length → Pv D i xs σ H' → Same H H' ∧ H' D = some (.lst xs) ∧ xs.length ≤ i)
    (hs : ∀ D i xs x t σ H' (N : List V → St → Hp → Prop), H D = none → (∀ xs' σ' H'', Pv D (i + 1) xs' σ' H'' → N xs' σ' H'') → ys[i]? = some x → Pv D i xs σ H' → H' t = none → g (.ref t) σ (upd H' t (.tup [.int i, x])) fun σ2 H2 => tt σ2 H2 fun b H3 => if b = true then te σ2 H3 fun v H4 => H4 D = some (.lst xs) ∧ N (xs ++ [v]) σ2 (upd H4 D (.lst (xs ++ [v]))) else N xs σ2 H3)
    (hd : ∀ D xs σ H', H D = none → Pv D ys.length xs σ H' → Qd D H') :
    (∃ b, [V.ref a] = [V.ref b] ∧ (∃ xs, SqL K H b xs) ∧ ∀ D, H D = none → ∃ W : Nat → Nat → List V → St → Hp → Prop, (∃ m, W 0 m [] σ0 (upd H D (.lst []))) ∧ ∀ i m xs σ' H', W i m xs σ' H' → H' D = some (.lst xs) ∧ (((Itn K b).stop i H' ∧ Qd D H') ∨ ((Itn K b).go i H' ∧ xs.length < sizeLine ∧ ∀ x H'', (Itn K b).yld i H' x H'' → g x σ' H'' fun σ2 H2 => tt σ2 H2 fun b H3 =>
      if b = true then te σ2 H3 fun v H4 => H4 D = some (.lst xs) ∧ ∃ m', m' < m ∧ W (i + 1) m' (xs ++ [v]) σ2 (upd H4 D (.lst (xs ++ [v]))) else ∃ m', m' < m ∧ W (i + 1) m' xs σ2 H3))) ∨
    (∃ b, [V.ref a] = [V.ref b] ∧ (∃ xs, SqT K H b xs) ∧ ∀ D, H D = none → ∃ W : Nat → Nat → List V → St → Hp → Prop, (∃ m, W 0 m [] σ0 (upd H D (.lst []))) ∧ ∀ i m xs σ' H', W i m xs σ' H' → H' D = some (.lst xs) ∧ (((Itm K b).stop i H' ∧ Qd D H') ∨ ((Itm K b).go i H' ∧ xs.length < sizeLine ∧ ∀ x H'', (Itm K b).yld i H' x H'' → g x σ' H'' fun σ2 H2 => tt σ2 H2 fun b H3 =>
      if b = true then te σ2 H3 fun v H4 => H4 D = some (.lst xs) ∧ ∃ m', m' < m ∧ W (i + 1) m' (xs ++ [v]) σ2 (upd H4 D (.lst (xs ++ [v]))) else ∃ m', m' < m ∧ W (i + 1) m' xs σ2 H3))) := by
  rcases hS with hS | hS
  · exact .inl ⟨a, rfl, ⟨_, hS⟩, fun D hD => comp_enumG (S := fun H' => SqL K H' a ys) itn_st itn_go itn_y (Pv D) (h0 D hD) hz (fun i xs σ H' hi p => let ⟨s, g, l⟩ := hl D i xs σ H' hD hi p; ⟨s.seq hS, g, l⟩) (fun i xs x t σ H' N kN hx p ht => hs D i xs x t σ H' N hD kN hx p ht) (fun xs σ H' p => hd D xs σ H' hD p)⟩
  · exact .inr ⟨a, rfl, ⟨_, hS⟩, fun D hD => comp_enumG (S := fun H' => SqT K H' a ys) itm_st itm_go itm_y (Pv D) (h0 D hD) hz (fun i xs σ H' hi p => let ⟨s, g, l⟩ := hl D i xs σ H' hD hi p; ⟨s.seqT hS, g, l⟩) (fun i xs x t σ H' N kN hx p ht => hs D i xs x t σ H' N hD kN hx p ht) (fun xs σ H' p => hd D xs σ H' hD p)⟩
theorem pg_tupK {X : Cx} (K : PySem.W.Frag) (hK : X.K = K) {es : List Expr} {k : Nat} {pos : Pos} {t : TGs} {n : Nat} (hc : X.calm = true) (h : PGs X es t)
    (hn : (assignEach es X.env).length = n := by rfl) (hst : (assignEach es X.env).findIdx? (·.1) = none := by rfl) : PG X (.Tuple es k pos) (gTup K n t) := by
  subst hK
  exact pg_tup hc h hn hst
end L2

namespace L2
open PySem PySem.Spec PyProof.Rows
set_option autoImplicit false
set_option linter.all false
/-- a comprehension over a list or a tuple that stays -/
theorem comp_seqS {K : PySem.W.Frag} {a : Addr} {ys : List V} {g : TG} {tt : TT} {te : TE} {Qd : Addr → Hp → Prop} {σ0 : St} {H : Hp} (hS : SqL K H a ys ∨ SqT K H a ys) (hz : ys.length ≤ sizeLine)
    (Pv : Addr → Nat → List V → St → Hp → Prop) (h0 : ∀ D, H D = none → Pv D 0 [] σ0 (upd H D (.lst []))) (hl : ∀ D i xs σ H', H D = none → i ≤ ys.length → Pv D i xs σ H' → Same H H' ∧ H' D = some (.lst xs) ∧ xs.length ≤ i)
    (hs : ∀ D i xs x σ H' (N : List V → St → Hp → Prop), H D = none → (∀ xs' σ' H'', Pv D (i + 1) xs' σ' H'' → N xs' σ' H'') → ys[i]? = some x → Pv D i xs σ H' → g x σ H' fun σ2 H2 => tt σ2 H2 fun b H3 => if b = true then te σ2 H3 fun v H4 => H4 D = some (.lst xs) ∧ N (xs ++ [v]) σ2 (upd H4 D (.lst (xs ++ [v]))) else N xs σ2 H3)
    (hd : ∀ D xs σ H', H D = none → Pv D ys.length xs σ H' → Qd D H') :
    (∃ b, V.ref a = V.ref b ∧ (∃ xs, SqL K H b xs) ∧ ∀ D, H D = none → ∃ W : Nat → Nat → List V → St → Hp → Prop, (∃ m, W 0 m [] σ0 (upd H D (.lst []))) ∧ ∀ i m xs σ' H', W i m xs σ' H' → H' D = some (.lst xs) ∧ (((Itl K b).stop i H' ∧ Qd D H') ∨ ((Itl K b).go i H' ∧ xs.length < sizeLine ∧ ∀ x H'', (Itl K b).yld i H' x H'' → g x σ' H'' fun σ2 H2 => tt σ2 H2 fun b H3 =>
      if b = true then te σ2 H3 fun v H4 => H4 D = some (.lst xs) ∧ ∃ m', m' < m ∧ W (i + 1) m' (xs ++ [v]) σ2 (upd H4 D (.lst (xs ++ [v]))) else ∃ m', m' < m ∧ W (i + 1) m' xs σ2 H3))) ∨
    (∃ b, V.ref a = V.ref b ∧ (∃ xs, SqT K H b xs) ∧ ∀ D, H D = none → ∃ W : Nat → Nat → List V → St → Hp → Prop, (∃ m, W 0 m [] σ0 (upd H D (.lst []))) ∧ ∀ i m xs σ' H', W i m xs σ' H' → H' D = some (.lst xs) ∧ (((Itt K b).stop i H' ∧ Qd D H') ∨ ((Itt K b).go i H' ∧ xs.length < sizeLine ∧ ∀ x H'', (Itt K b).yld i H' x H'' → g x σ' H'' fun σ2 H2 => tt σ2 H2 fun b H3 =>
      if b = true then te σ2 H3 fun v H4 => H4 D = some (.lst xs) ∧ ∃ m', m' < m ∧ W (i + 1) m' (xs ++ [v]) σ2 (upd H4 D (.lst (xs ++ [v]))) else ∃ m', m' < m ∧ W (i + 1) m' xs σ2 H3))) := by
  rcases hS with hS | hS
  · exact .inl ⟨a, rfl, ⟨_, hS⟩, fun D hD => comp_list (K := K) (a := a) (ys := ys) (Pv D) (h0 D hD) hz (fun i xs σ H' hi p => let ⟨s, g, l⟩ := hl D i xs σ H' hD hi p; ⟨s.seq hS, g, l⟩) (fun i xs x σ H' N kN hx p => hs D i xs x σ H' N hD kN hx p) (fun xs σ H' p => hd D xs σ H' hD p)⟩
  · exact .inr ⟨a, rfl, ⟨_, hS⟩, fun D hD => comp_tup (K := K) (a := a) (ys := ys) (Pv D) (h0 D hD) hz (fun i xs σ H' hi p => let ⟨s, g, l⟩ := hl D i xs σ H' hD hi p; ⟨s.seqT hS, g, l⟩) (fun i xs x σ H' N kN hx p => hs D i xs x σ H' N hD kN hx p) (fun xs σ H' p => hd D xs σ H' hD p)⟩
section
variable {X : Cx}
end
end L2

namespace L2
open PySem PySem.Spec PyProof.Rows
set_option autoImplicit false
set_option linter.all false

section
variable {X : Cx}
end
/-! ### a comprehension over a range -/
theorem comp_range {lo : Int} {n : Nat} {D : Addr} {g : TG} {tt : TT} {te : TE} {Qd : Hp → Prop} {σ0 : St} {H0 : Hp} (Pv : Nat → List V → St → Hp → Prop) (h0 : Pv 0 [] σ0 H0) (hz : n ≤ sizeLine) (hl : ∀ i xs σ H, i ≤ n → Pv i xs σ H → H D = some (.lst xs) ∧ xs.length ≤ i)
    (hs : ∀ i xs σ H (N : List V → St → Hp → Prop), (∀ xs' σ' H', Pv (i + 1) xs' σ' H' → N xs' σ' H') → i < n → Pv i xs σ H → g (.int (lo + i)) σ H fun σ2 H2 => tt σ2 H2 fun b H3 => if b = true then te σ2 H3 fun v H4 => H4 D = some (.lst xs) ∧ N (xs ++ [v]) σ2 (upd H4 D (.lst (xs ++ [v]))) else N xs σ2 H3)
    (hd : ∀ xs σ H, Pv n xs σ H → Qd H) :
    ∃ W : Nat → Nat → List V → St → Hp → Prop, (∃ m, W 0 m [] σ0 H0) ∧ ∀ i m xs σ' H', W i m xs σ' H' → H' D = some (.lst xs) ∧ (((Itr lo n).stop i H' ∧ Qd H') ∨ ((Itr lo n).go i H' ∧ xs.length < sizeLine ∧ ∀ x H'', (Itr lo n).yld i H' x H'' → g x σ' H'' fun σ2 H2 => tt σ2 H2 fun b H3 =>
      if b = true then te σ2 H3 fun v H4 => H4 D = some (.lst xs) ∧ ∃ m', m' < m ∧ W (i + 1) m' (xs ++ [v]) σ2 (upd H4 D (.lst (xs ++ [v]))) else ∃ m', m' < m ∧ W (i + 1) m' xs σ2 H3)) := by
  refine ⟨fun i m xs σ H => m = n - i ∧ i ≤ n ∧ Pv i xs σ H, ⟨n, by simp, Nat.zero_le _, h0⟩, ?_⟩
  rintro i m xs σ H ⟨rfl, hi, p⟩
  obtain ⟨hD, hx⟩ := hl i xs σ H hi p
  refine ⟨hD, ?_⟩
  by_cases hlt : i < n
  · refine .inr ⟨hlt, by omega, fun x H'' y => ?_⟩
    obtain ⟨e, y⟩ := y
    subst e y
    exact hs i xs σ _ (fun zs σ' H' => ∃ m', m' < n - i ∧ m' = n - (i + 1) ∧ i + 1 ≤ n ∧ Pv (i + 1) zs σ' H') (fun zs σ' H' r => ⟨_, by omega, rfl, hlt, r⟩) hlt p
  · obtain rfl : i = n := by omega
    exact .inl ⟨Nat.le_refl _, hd xs σ H p⟩
end L2

namespace L2
open PySem PySem.Spec PyProof.Rows
set_option autoImplicit false
set_option linter.all false
section
variable {X : Cx}
end
end L2

namespace Web
set_option autoImplicit false
set_option linter.all false
/-! ### rooms, by the rising numbers -/
def mn (r x : Int) : Int := if r < x then r else x
theorem sum_app : ∀ a b : List Int, (a ++ b).sum = a.sum + b.sum
  | [], b => by simp
  | x :: a, b => by rw [List.cons_append, List.sum_cons, List.sum_cons, sum_app a b, Int.add_assoc]
theorem sum_perm {a b : List Int} (h : a.Perm b) : a.sum = b.sum := by
  induction h with
  | nil => rfl
  | cons x _ ih => rw [List.sum_cons, List.sum_cons, ih]
  | swap x y l => rw [List.sum_cons, List.sum_cons, List.sum_cons, List.sum_cons]; omega
  | trans _ _ h1 h2 => rw [h1, h2]
def up2 (ns : List Int) : List Int := PySem.W.sortI ns
theorem fall_eq {zs ns : List Int} (hp : zs.Perm ns) (hs : zs.Pairwise (· ≥ ·)) : zs = (up2 ns).reverse := by
  have h : zs.reverse = up2 ns := PySem.W.eq_sortI ((List.reverse_perm zs).trans hp) (by rw [List.pairwise_reverse]; exact hs)
  rw [← h, List.reverse_reverse]
end Web

namespace Web
set_option autoImplicit false
set_option linter.all false
end Web

namespace Web
set_option autoImplicit false
set_option linter.all false
/-! ### the told wall -/
inductive Wl where
  | below (p : Nat) | odd | wall (r : Nat) | free
  deriving DecidableEq
def AllP (ns : List Int) : Prop := ∀ (j : Nat) (x : Int), ns[j]? = some x → 0 ≤ x
end Web

namespace Web
set_option autoImplicit false
set_option linter.all false
/-! ### the places below nought; walls with a most -/
def belN (ns : List Int) (i : Nat) : List Nat := (List.range i).filter fun j => decide (ns.getD j 0 < 0)
def belL (ns : List Int) : List Int := (belN ns ns.length).map Int.ofNat
theorem belN_succ (ns : List Int) (i : Nat) : belN ns (i + 1) = belN ns i ++ (if ns.getD i 0 < 0 then [i] else []) := by
  unfold belN
  rw [List.range_succ, List.filter_append]
  congr 1
  by_cases h : ns.getD i 0 < 0
  · rw [if_pos h, List.filter_cons_of_pos (by simpa using h), List.filter_nil]
  · rw [if_neg h, List.filter_cons_of_neg (by simpa using h), List.filter_nil]
theorem belN_len (ns : List Int) (i : Nat) : (belN ns i).length ≤ i := by
  unfold belN
  exact Nat.le_trans (List.length_filter_le ..) (by rw [List.length_range]; exact Nat.le_refl _)
theorem bel_getD {ns : List Int} {j : Nat} {x : Int} (h : ns[j]? = some x) : ns.getD j 0 = x := by rw [List.getD_eq_getElem?_getD, h]; rfl
theorem bel_nil {ns : List Int} (h : belN ns ns.length = []) : ∀ (j : Nat) (x : Int), ns[j]? = some x → 0 ≤ x := fun j x e => by
  have hj : j < ns.length := by
    rcases Nat.lt_or_ge j ns.length with l | l
    · exact l
    · rw [List.getElem?_eq_none l] at e; cases e
  have := List.filter_eq_nil_iff.mp h j (List.mem_range.mpr hj)
  rw [bel_getD e] at this
  have h2 : ¬ x < 0 := fun q => this (decide_eq_true q)
  omega
theorem bel_cons {ns : List Int} {p : Nat} {t : List Nat} (h : belN ns ns.length = p :: t) : (∃ x, ns[p]? = some x ∧ x < 0) ∧ ∀ (j : Nat) (x : Int), j < p → ns[j]? = some x → 0 ≤ x := by
  have hm : p ∈ belN ns ns.length := by rw [h]; exact List.mem_cons_self
  have hp := List.mem_filter.mp hm
  have hl := List.mem_range.mp hp.1
  have h0 := of_decide_eq_true hp.2
  refine ⟨⟨_, List.getElem?_eq_getElem hl, by rw [bel_getD (List.getElem?_eq_getElem hl)] at h0; exact h0⟩, fun j x hj e => ?_⟩
  rcases Int.lt_or_le x 0 with q | q
  · have hjm : j ∈ belN ns ns.length := List.mem_filter.mpr ⟨List.mem_range.mpr (by omega), by rw [bel_getD e]; exact decide_eq_true q⟩
    have hs : (belN ns ns.length).Pairwise (· < ·) := List.Pairwise.filter _ List.pairwise_lt_range
    rw [h] at hs hjm
    rcases List.mem_cons.mp hjm with r | r
    · omega
    · have := (List.pairwise_cons.mp hs).1 j r
      omega
  · exact q
end Web

namespace Web
open PySem L2
set_option autoImplicit false
set_option linter.all false
/-- a wall of one of the three forms, with any number -/
inductive Wz where
  | odd | below (z : Int) | wall (z : Int)
end Web

namespace L2
open PySem PySem.Spec PyProof.Rows PySem.SeqAt
set_option autoImplicit false
set_option linter.all false
section
variable {X : Cx}
end
theorem pe_ixSK {X : Cx} {a b : Expr} {pos : Pos} {ta tb : TE} (K : PySem.W.Frag) (hK : X.K = K) (ha : PE X a ta) (hb : PE X b tb) (hs : PlainIx b) : PE X (.Subscript a b pos) (tOp (rIx K) ta tb) := by
  cases hK
  exact pe_ix ix_seq ha hb hs
end L2

namespace L2
open PySem PySem.Spec PyProof.Rows
set_option autoImplicit false
set_option linter.all false
/-! ### a comprehension whose own name is a cell (a block inside reads it) -/
def FrOkK (x0 : Str) (names : List (Str × NameKind)) (cl : List (Str × Addr)) : Bool := names.all fun y => (y.2 != .cell || y.1 == x0) && (y.2 != .free || (cl.lookup y.1).isSome)
def compCxK (X : Cx) (x0 : Str) (scope : Scope) (cl : List (Str × Addr)) (N' : List Str) (s₃ : Shared) (H₃ : Hp) (fp : List Addr) (xe' : Value → Shared → Prop) : Cx :=
  { X with N := N', s₀ := s₃, H₀ := H₃, env := compEnvC scope ((x0, s₃.heap.objs.size + 1) :: cl) s₃.heap.objs.size X.env, outer := X.stack, ex := fp, fn := fun x => x == x0, pn := [], xe := xe' }
theorem newEnvK {M : Model} {A : Around} {E : Value → Shared → Prop} {s : Shared} {x0 : Str} {scope : Scope} {globals : Addr} {cl : List (Str × Addr)} {qual : Str} {outer : Env} {Q : Env → Shared → Prop}
    (hcs : ∀ n, cellsFrom n scope.names cl = (x0, n) :: cl) (hpc : ∀ h, pushCells h scope.names = h.push { cls := .type "cell", data := .cell none })
    (hQ : Q (newEnv scope s.heap.objs.size globals ((x0, s.heap.objs.size + 1) :: cl) qual none .none (some outer) builtinsNs) { s with heap := (s.heap.push { cls := .type "dict", data := .dict #[] }).push { cls := .type "cell", data := .cell none } }) :
    wpAny M A (newFunctionEnv scope globals cl [] qual none .none (some outer)) Q E s := by
  simp only [newFunctionEnv, Option.isSome_some, if_true]
  refine wpAny_bind (wpAny_alloc ?_)
  refine wpAny_bind (wpAny_layCells _ (fun name kind cells => by cases hkc : kind == NameKind.cell <;> simp [hkc]) _ _ _ _ ?_)
  rw [hcs, hpc]
  have e : ({ s with heap := s.heap.push { cls := .type "dict", data := .dict #[] } } : Shared).heap.objs.size = s.heap.objs.size + 1 := Heap.size_push ..
  rw [e]
  rw [List.forIn_nil]
  exact wpAny_bind (wpAny_pure (wpAny_pure hQ))
section
variable {X : Cx}
theorem comp_startK {x0 : Str} {pins : List (Addr × Obj)} {σ : St} {H3 : Hp} {s3 : Shared} {h1 : Heap} {tk : Nat} {scope : Scope} {cl : List (Str × Addr)} {N' : List Str} {lk : List (Option Nat)} {fp : List Addr} {xe' : Value → Shared → Prop} {m0 : Str → Option Value}
    (I : Inv X pins σ H3 s3) (hf : ∀ b ∈ fp, FpOk X pins H3 b) (hkind : scope.kind = .function) (hcl : ClOk X.env cl) (hfr : FrOkK x0 scope.names cl = true) (hx0 : cl.lookup x0 = none) (hc0 : h1.IsCell (s3.heap.objs.size + 1) none) (hlk : LkOk X N' lk scope cl)
    (hn : h1.Ns s3.heap.objs.size m0) (hk : ∀ b u, s3.heap.get? b = some u → h1.get? b = some u) (hfs : ∀ b ∈ fp, b < s3.heap.objs.size) : Inv (compCxK X x0 scope cl N' s3 H3 fp xe') [] (capt lk σ) H3 { s3 with heap := h1, toks := tk } := by
  have hC : H3 s3.heap.objs.size = none := I.hok.fresh (Nat.le_refl _)
  have hC0 : H3 (s3.heap.objs.size + 1) = none := I.hok.fresh (Nat.le_succ _)
  have hmem : ∀ y ∈ scope.names, (y.2 = .cell → y.1 = x0) ∧ (y.2 = .free → (cl.lookup y.1).isSome = true) := fun y hy => by
    unfold FrOkK at hfr
    rw [List.all_eq_true] at hfr
    have := hfr y hy
    rw [Bool.and_eq_true] at this
    refine ⟨fun e => ?_, fun e => ?_⟩
    · have h1 := this.1
      rw [e] at h1
      simpa using h1
    have h2 := this.2
    rw [e] at h2
    simpa using h2
  have hcell : ∀ x c, cl.lookup x = some c → X.env.cells.lookup x = some c := fun x c e => hcl.get e
  have hlook : ∀ x c, ((x0, s3.heap.objs.size + 1) :: cl : List (Str × Addr)).lookup x = some c → (x = x0 ∧ c = s3.heap.objs.size + 1) ∨ cl.lookup x = some c := fun x c e => by
    rw [List.lookup_cons] at e
    cases hb : x == x0 with
    | true => rw [hb] at e; cases e; exact .inl ⟨eq_of_beq hb, rfl⟩
    | false => rw [hb] at e; exact .inr e
  have hsome : ∀ x, x = x0 ∨ (cl.lookup x).isSome = true → (((x0, s3.heap.objs.size + 1) :: cl : List (Str × Addr)).lookup x).isSome = true := fun x h => by
    rw [List.lookup_cons]
    cases hb : x == x0 with
    | true => rfl
    | false =>
      rcases h with h | h
      · rw [h] at hb; simp at hb
      · exact h
  have clt : ∀ x c, cl.lookup x = some c → c < s3.heap.objs.size := fun x c e => by
    obtain ⟨v, q⟩ := I.cell x c (hcell x c e)
    exact q.lt
  refine ⟨⟨I.ok.mod, hkind, I.ok.glob, I.ok.blt, Nat.le_refl _, fun x y c e1 e2 => ?_, fun x hx => ?_, fun x c hf e => ?_, I.ok.hd, I.ok.frames, .inl rfl, fun b hb => ?_, fun b o e => I.bs b o e, Nat.le_trans I.ok.bsz I.sz, fun b o e hb => ?_, fun b hb z => ?_, I.stack, I.stkFree⟩,
    rfl, I.bare, Un.kept hk, ⟨m0, hn, fun i x v e1 e2 e3 => ?_⟩, fun x c e => ?_, hC, fun x c e => ?_, (fun p hp => nomatch hp), I.hok.kept hk, ?_⟩
  · rcases hlook x c e1 with ⟨z1, z2⟩ | d1
    · rcases hlook y c e2 with ⟨z3, _⟩ | d2
      · rw [z1, z3]
      · rw [z2] at d2; exact absurd (clt _ _ d2) (Nat.not_lt.mpr (Nat.le_succ _))
    · rcases hlook y c e2 with ⟨_, z4⟩ | d2
      · rw [z4] at d1; exact absurd (clt _ _ d1) (Nat.not_lt.mpr (Nat.le_succ _))
      · exact I.ok.inj x y c (hcell x c d1) (hcell y c d2)
  · have hx' : (relabel scope X.env).names.lookup x = some .cell ∨ (relabel scope X.env).names.lookup x = some .free := hx
    have : ∃ k', (x, k') ∈ scope.names ∧ (k' = .free ∨ k' = .cell) := by
      rcases hx' with h | h
      · obtain ⟨k', h1, h2⟩ := lookup_relabel h
        rcases h2 with h2 | h2
        · exact ⟨k', h1, .inr h2⟩
        · exact ⟨k', h1, .inl h2.1⟩
      · obtain ⟨k', h1, h2⟩ := lookup_relabel h
        rcases h2 with h2 | h2
        · exact ⟨k', h1, .inl h2⟩
        · exact ⟨k', h1, .inl h2.1⟩
    obtain ⟨k', h1, h2⟩ := this
    refine Option.isSome_iff_exists.mp (hsome x ?_)
    rcases h2 with h2 | h2
    · exact .inr ((hmem _ h1).2 h2)
    · exact .inl ((hmem _ h1).1 h2)
  · have hf' : (x == x0) = true := hf
    rcases hlook x c e with ⟨_, rfl⟩ | e
    · show s3.heap.objs.size ≤ _
      omega
    · rw [eq_of_beq hf', hx0] at e
      cases e
  · obtain ⟨f0, f1, f2, f3, f4, f5⟩ := hf b hb
    refine ⟨Nat.ne_of_lt (hfs b hb), fun x c e => ?_⟩
    rcases hlook x c e with ⟨_, rfl⟩ | e
    · exact Nat.ne_of_gt (Nat.lt_succ_of_lt (hfs b hb))
    · exact f4 x c (hcell x c e)
  · obtain ⟨f0, f1, f2, f3, f4, f5⟩ := hf b hb
    rcases f3 with f3 | f3
    · exact I.ok.noex b o e f3
    · exact absurd (Nat.lt_of_lt_of_le (Heap.lt_size e) (Nat.le_trans I.ok.bsz f3)) (Nat.lt_irrefl _)
  · obtain ⟨f0, f1, f2, f3, f4, f5⟩ := hf b hb
    rcases List.mem_cons.mp (I.stkSub b z) with e | e
    · exact f1 e
    · exact f2 e
  · -- a captured name
    have e2' : (capt lk σ)[i]? = some (some v) := e2
    unfold capt at e2'
    rw [List.getElem?_map] at e2'
    cases hq : lk[i]? with
    | none => rw [hq] at e2'; cases e2'
    | some o =>
      rw [hq] at e2'
      have e2'' : (o.bind fun j => (σ[j]?).join) = some v := Option.some.inj e2'
      cases o with
      | none => cases e2''
      | some j =>
        obtain ⟨q1, q2, q3, q4⟩ := hlk.2 i j x e1 hq
        have hσ : σ[j]? = some (some v) := by
          have z : (σ[j]?).join = some v := e2''
          cases hh : σ[j]? with
          | none => rw [hh] at z; cases z
          | some o => rw [hh] at z; rw [show o = some v from z]
        obtain ⟨m, hnX, hl⟩ := I.loc
        obtain ⟨u, r, lo⟩ := hl j x v q1 hσ (q2.elim (fun a => .inr (.inl a)) (fun a => .inr (.inr a)))
        refine ⟨u, r, .inr ?_⟩
        obtain ⟨c, hc⟩ := Option.isSome_iff_exists.mp q3
        have hne : (x == x0) = false := by
          cases hb : x == x0 with
          | false => rfl
          | true => rw [eq_of_beq hb, hx0] at hc; cases hc
        refine ⟨q4, c, by show ((x0, s3.heap.objs.size + 1) :: cl : List (Str × Addr)).lookup x = some c; rw [List.lookup_cons, hne]; exact hc, ?_⟩
        have hcX := hcell x c hc
        rcases lo with ⟨k, _⟩ | ⟨_, c', hc', z⟩
        · have k' : X.env.scope.names.lookup x = some .local := k
          rw [k'] at q2
          rcases q2 with q2 | q2 <;> cases q2
        · rw [hcX] at hc'
          cases hc'
          obtain ⟨o, ho, hd⟩ := z
          exact ⟨o, hk c o ho, hd⟩
  · rcases hlook x c e with ⟨_, rfl⟩ | e
    · exact ⟨none, hc0⟩
    · obtain ⟨v, o, ho, hd⟩ := I.cell x c (hcell x c e)
      exact ⟨v, o, hk c o ho, hd⟩
  · rcases hlook x c e with ⟨_, rfl⟩ | e
    · exact hC0
    · exact I.freeC x c (hcell x c e)
  · show (capt lk σ).length = N'.length
    unfold capt
    rw [List.length_map]
    exact hlk.1

theorem pe_compK {x0 : Str} {elt iter tg : Expr} {ifs : List Expr} {scope : Scope} {pos : Pos} {cl : List (Str × Addr)} {N' : List Str} {lk : List (Option Nat)} {wi : TI} {g : TG} {tt : TT} {te : TE} (hc : X.calm = true) (hi : PI X tg iter wi) (hclos : closureFor scope X.env = pure cl) (hkind : scope.kind = .function)
    (hnames : ∀ y ∈ scope.names, y.2 = .local → scope.names.lookup y.1 = some .local) (hcl : ClOk X.env cl) (hfr : FrOkK x0 scope.names cl = true) (hx0 : cl.lookup x0 = none) (hcs : ∀ n, cellsFrom n scope.names cl = (x0, n) :: cl) (hpc : ∀ h, pushCells h scope.names = h.push { cls := .type "cell", data := .cell none }) (hlk : LkOk X N' lk scope cl)
    (hg : ∀ s3 H3 fp, PG (compCxK X x0 scope cl N' s3 H3 fp fun _ _ => False) tg g) (ht : ∀ s3 H3 fp, PTs (compCxK X x0 scope cl N' s3 H3 fp fun _ _ => False) ifs tt) (he : ∀ s3 H3 fp, PE (compCxK X x0 scope cl N' s3 H3 fp fun _ _ => False) elt te)
    (hs : ∀ x, foldedSetIterable iter X.env x = pure x := by intro _; rfl) : PE X (.ListComp elt [⟨tg, iter, ifs, 0⟩] scope pos) (tComp wi lk g tt te) := by
  intro pins s σ H Q I h
  rw [eval_ListComp]
  refine wpAny_comprehension_free (use := none) rfl hs hclos hkind hnames (thn (hi pins s σ H _ I h) fun v s1 h1 => thn h1 fun itv s2 h2 => ?_)
  obtain ⟨it, fp, tn, J, H2, e, I2, T, st2, f2, q⟩ := h2
  subst e
  refine wpAny_newList ?_ (Nat.zero_le _)
  have hD : H2 s2.heap.objs.size = none := I2.hok.fresh (Nat.le_refl _)
  have I3 := I2.lnew (ys := []) (its := []) (t' := s2.toks) .nil (Nat.zero_le _)
  obtain ⟨W, ⟨m0, w0⟩, turn⟩ := q s2.heap.objs.size hD
  have fpl : ∀ b ∈ fp, b < s2.heap.objs.size := fun b hb => by
    obtain ⟨o, ho, _⟩ := T.obj 0 s2.heap st2 b hb
    exact Heap.lt_size ho
  refine newEnvK hcs hpc ?_
  dsimp only
  -- the state ahead of the frame, the block's context
  have e3 : s2.heap.push { cls := .type "list", dict := none, data := .seq ([] : List Value).toArray } = s2.heap.push { cls := .type "list", data := .seq ([] : List Value).toArray } := rfl
  generalize hh3 : s2.heap.push { cls := .type "list", dict := none, data := .seq ([] : List Value).toArray } = h3 at *
  have I3' : Inv X pins σ (upd H2 s2.heap.objs.size (.lst [])) { s2 with heap := h3, toks := s2.toks } := I3
  have size3 : h3.objs.size = s2.heap.objs.size + 1 := by rw [← hh3, Heap.size_push]
  have f3 : ∀ b ∈ fp, FpOk X pins (upd H2 s2.heap.objs.size (.lst [])) b := fun b hb => by
    obtain ⟨f0, fr⟩ := f2 b hb
    exact ⟨by rw [upd_ne (Nat.ne_of_lt (fpl b hb))]; exact f0, fr⟩
  have hns1 : ((h3.push { cls := .type "dict", data := .dict #[] }).push { cls := .type "cell", data := .cell none }).Ns h3.objs.size (fun _ => none) := (Heap.Ns.new h3 (.type "dict")).keeps fun b o e => Heap.get?_push_of_some _ e
  have hc0 : ((h3.push { cls := .type "dict", data := .dict #[] }).push { cls := .type "cell", data := .cell none }).IsCell (h3.objs.size + 1) none := ⟨_, by rw [← Heap.size_push h3 { cls := .type "dict", data := .dict #[] }]; exact Heap.get?_push_size _ rfl, rfl⟩
  have up : ∀ b u, h3.get? b = some u → ((h3.push { cls := .type "dict", data := .dict #[] }).push { cls := .type "cell", data := .cell none }).get? b = some u := fun b u eb => Heap.get?_push_of_some _ (Heap.get?_push_of_some _ eb)
  generalize (h3.push { cls := .type "dict", data := .dict #[] }).push { cls := .type "cell", data := .cell none } = h1 at hns1 hc0 up ⊢
  have I4 : Inv (compCxK X x0 scope cl N' { s2 with heap := h3, toks := s2.toks } (upd H2 s2.heap.objs.size (.lst [])) fp fun _ _ => False) [] (capt lk σ) (upd H2 s2.heap.objs.size (.lst [])) { s2 with heap := h1, toks := s2.toks } :=
    comp_startK (s3 := { s2 with heap := h3, toks := s2.toks }) I3' f3 hkind hcl hfr hx0 hc0 hlk hns1 up fun b hb => by show b < h3.objs.size; rw [size3]; exact Nat.lt_succ_of_lt (fpl b hb)
  have st4 : tn 0 h1 := T.keep 0 s2.heap h1 st2 fun b hb o eb => up b o (by rw [← hh3]; exact Heap.get?_push_of_some _ eb)
  have hCs : h3.objs.size = (compEnvC scope ((x0, h3.objs.size + 1) :: cl) h3.objs.size X.env).locals := rfl
  -- what stays true of the iterator's objects
  have stat : ∀ {H' : Hp}, (∀ b ∈ fp, H' b = none) → ∀ b ∈ fp, FpOk (compCxK X x0 scope cl N' { s2 with heap := h3, toks := s2.toks } (upd H2 s2.heap.objs.size (.lst [])) fp fun _ _ => False) [] H' b := fun {H'} hn b hb => by
    obtain ⟨f0, f1, f2', f3', f4, f5⟩ := f3 b hb
    refine ⟨hn b hb, ?_, fun z => ?_, .inl hb, fun x c ex => ?_, fun p hp => nomatch hp⟩
    · show b ≠ h3.objs.size
      rw [size3]
      exact Nat.ne_of_lt (Nat.lt_succ_of_lt (fpl b hb))
    · rcases List.mem_cons.mp (I3'.stkSub b z) with q | q
      · exact f1 q
      · exact f2' q
    · have ex' : ((x0, h3.objs.size + 1) :: cl : List (Str × Addr)).lookup x = some c := ex
      rw [List.lookup_cons] at ex'
      cases hb0 : x == x0 with
      | true =>
        rw [hb0] at ex'
        cases ex'
        exact Nat.ne_of_gt (Nat.lt_succ_of_lt (by rw [size3]; exact Nat.lt_succ_of_lt (fpl b hb)))
      | false =>
        rw [hb0] at ex'
        exact f4 x c (hcl.get ex')
  -- the block's end
  have fin : ∀ (s' : Shared) (σ' : St) (H' : Hp), Inv (compCxK X x0 scope cl N' { s2 with heap := h3, toks := s2.toks } (upd H2 s2.heap.objs.size (.lst [])) fp fun _ _ => False) [] σ' H' s' → Q (.ref s2.heap.objs.size) H' →
      compPost (model X.prog X.w) X.A X.xe none (EP X pins σ Q) (.ref s2.heap.objs.size) h3.objs.size (.ok .next) s' := fun s' σ' H' I' q' => by
    obtain ⟨m, hm, _⟩ := id I'.loc
    have I5 : Inv X pins σ H' s' := I3'.call' (ch := fp) I'.os I'.base I'.hok I'.bare fun b hb => by
      obtain ⟨f0, f1, f2', f3', f4, f5⟩ := f3 b hb
      exact ⟨f3', f1, f4, f5⟩
    refine ⟨m, hm, fun h' hsb => ?_⟩
    refine ⟨.ref s2.heap.objs.size, H', ?_, rfl, q'⟩
    have hfc : H' h3.objs.size = none := I'.free
    have hcl1 : ∀ b o, h3.get? b = some o → b ≠ h3.objs.size := fun b o eb => Nat.ne_of_lt (Heap.lt_size eb)
    obtain ⟨h0', g0, d0, t0, o0⟩ := s'
    refine I5.turned (t' := t0) (it := h3.objs.size) (fun b o hb eb => (hsb.2 b hb).trans eb) hfc ?_ (.inr I3'.sz) (fun x c ex z => ?_) (fun p hp z => ?_)
    · exact Nat.ne_of_gt I3'.lt
    · obtain ⟨v', q2⟩ := I3'.cell x c ex
      exact absurd q2.lt (by rw [z]; exact Nat.lt_irrefl _)
    · exact absurd (Heap.lt_size (I3'.pin p hp).1) (by rw [z]; exact Nat.lt_irrefl _)
  have loop : ∀ s5 : Shared, s5 = { s2 with heap := h1, toks := s2.toks } →
      codeAny (model X.prog X.w) X.A (.compLoop (.ListComp elt [⟨tg, iter, ifs, 0⟩] scope pos) 0 (.ref it) (.ref s2.heap.objs.size) (compEnvC scope ((x0, h3.objs.size + 1) :: cl) h3.objs.size X.env)) (compPost (model X.prog X.w) X.A X.xe none (EP X pins σ Q) (.ref s2.heap.objs.size) h3.objs.size) s5 := by
    rintro s5 rfl
    refine codeAny_loop rfl (fun n s' => ∃ i xs σ' H', Inv (compCxK X x0 scope cl N' { s2 with heap := h3, toks := s2.toks } (upd H2 s2.heap.objs.size (.lst [])) fp fun _ _ => False) [] σ' H' s' ∧ tn i s'.heap ∧ (∀ b ∈ fp, H' b = none) ∧ W i n xs σ' H')
      (fun n s6 hI => ?_) m0 ⟨0, [], capt lk σ, _, I4, st4, fun b hb => (f3 b hb).1, w0⟩
    obtain ⟨i, xs, σ6, H6, I6, st6, fr6, w6⟩ := hI
    show wpAny _ X.A ((compTurn (.ListComp elt [⟨tg, iter, ifs, 0⟩] scope pos) 0 (.ref it) (.ref s2.heap.objs.size) (compEnvC scope ((x0, h3.objs.size + 1) :: cl) h3.objs.size X.env)).onRaise (fun x => do noteFrame x (compEnvC scope ((x0, h3.objs.size + 1) :: cl) h3.objs.size X.env); theTreesLotGoes x)) _ _ s6
    refine wpAny_noted ?_
    rw [compTurn_list]
    refine wpAny_bind (wpAny_standAt (wpAny_bind ?_))
    obtain ⟨hD6, hw⟩ := turn i n xs σ6 H6 w6
    rcases hw with ⟨stop, qn⟩ | ⟨go, hlen, step⟩
    · refine thn (T.done (compCxK X x0 scope cl N' { s2 with heap := h3, toks := s2.toks } (upd H2 s2.heap.objs.size (.lst [])) fp fun _ _ => False) rfl rfl rfl hc i [] s6 σ6 H6 _ I6 (stat fr6) st6 stop) fun r s7 ⟨hr, I7⟩ => ?_
      subst hr
      exact wpAny_pure (fin s7 σ6 H6 I7 qn)
    · refine thn (T.item (compCxK X x0 scope cl N' { s2 with heap := h3, toks := s2.toks } (upd H2 s2.heap.objs.size (.lst [])) fp fun _ _ => False) rfl rfl rfl hc i [] s6 σ6 H6 _ I6 (stat fr6) st6 go) fun r s7 ⟨u, hr, h7⟩ => ?_
      subst hr
      refine wpAny_bind (thn h7 fun _ s8 ⟨x, H8, I8, r8, y8, st8, fr8⟩ => ?_)
      have I8' := I8.pinned (stat fr8) (T.obj _ _ st8)
      refine wpAny_bind (wpAny_mono (hg _ _ _ _ s8 σ6 H8 x u _ I8' r8 (step x H8 y8)) (fun _ s9 ⟨σ9, H9, I9, q9⟩ => ?_) (fun _ _ z => False.elim z))
      refine wpAny_bind (wpAny_mono (ht _ _ _ _ s9 σ9 H9 _ I9 q9) (fun ok s10 ⟨H10, I10, q10⟩ => ?_) (fun _ _ z => False.elim z))
      have again : ∀ {σ' : St} {H' : Hp} {ys : List V} {s' : Shared}, Inv (compCxK X x0 scope cl N' { s2 with heap := h3, toks := s2.toks } (upd H2 s2.heap.objs.size (.lst [])) fp fun _ _ => False) ([] ++ pinsAt fp s8.heap) σ' H' s' → (∃ m', m' < n ∧ W (i + 1) m' ys σ' H') →
          ∃ m', m' < n ∧ ∃ i xs σ' H', Inv (compCxK X x0 scope cl N' { s2 with heap := h3, toks := s2.toks } (upd H2 s2.heap.objs.size (.lst [])) fp fun _ _ => False) [] σ' H' s' ∧ tn i s'.heap ∧ (∀ b ∈ fp, H' b = none) ∧ W i m' xs σ' H' := fun {σ' H' ys s'} I' ⟨m', hm, w'⟩ => by
        refine ⟨m', hm, i + 1, ys, σ', H', I'.unpinned, T.keep _ _ _ st8 fun b hb o eb => (I'.pin (b, o) (List.mem_append_right _ (List.mem_append_right _ (mem_pinsAt hb eb)))).1, fun b hb => ?_, w'⟩
        obtain ⟨o, eb, _⟩ := T.obj _ _ st8 b hb
        exact (I'.pin (b, o) (List.mem_append_right _ (List.mem_append_right _ (mem_pinsAt hb eb)))).2.1
      cases ok with
      | false =>
        have q10' : ∃ m', m' < n ∧ W (i + 1) m' xs σ9 H10 := by simpa using q10
        exact wpAny_pure ⟨rfl, again I10 q10'⟩
      | true =>
        rw [if_pos rfl] at q10
        refine wpAny_bind (wpAny_bind (wpAny_mono (he _ _ _ _ s10 σ9 H10 _ I10 q10) (fun y s11 ⟨v11, H11, I11, r11, hD11, q11⟩ => ?_) (fun _ _ z => False.elim z)))
        refine wpAny_bind (wpAny_mono (mt_append (X := compCxK X x0 scope cl N' { s2 with heap := h3, toks := s2.toks } (upd H2 s2.heap.objs.size (.lst [])) fp fun _ _ => False) _ s11 σ9 H11 (.ref s2.heap.objs.size) [v11] (.ref s2.heap.objs.size) [y] (fun _ H' => ∃ m', m' < n ∧ W (i + 1) m' (xs ++ [v11]) σ9 H') I11 rfl (.cons r11 .nil) ⟨s2.heap.objs.size, xs, v11, rfl, rfl, hD11, hlen, q11⟩) (fun _ s12 ⟨_, H12, I12, _, q12⟩ => ?_) (fun _ _ z => False.elim z))
        exact wpAny_pure (wpAny_pure ⟨rfl, again I12 q12⟩)
  exact codeAny_compStart_list (loop _ rfl) (T.self X.A 0 _ _ _ st4 (loop _ rfl))
end
end L2

namespace L2
open PySem PySem.Spec PyProof.Rows
set_option autoImplicit false
set_option linter.all false
section
variable {X : Cx}
theorem call_sumK (K : PySem.W.Frag) (hK : X.K = K) (hc : X.calm = true) : CallR X (.builtin "sum") (fun xs H Q => ∃ (p : Addr) (ns : List Int), xs = [.ref p] ∧ SqL K H p (ns.map V.int) ∧ Q (.int ns.sum) H) := by subst hK; exact call_sum hc
theorem pi_listK (K : PySem.W.Frag) (hK : X.K = K) {tg l : Expr} {tl : TE} (hl : PE X l tl) : PI X tg l (iList K tl) := by subst hK; exact pi_list hl
end
end L2
namespace L2
open PySem PySem.Spec PyProof.Rows
theorem sl_listK {X : Cx} (K : PySem.W.Frag) (hK : X.K = K) : SlR X (rSlL K) := by subst hK; exact sl_list
theorem cutV_mid (xs : List V) (a b : Nat) (hab : a ≤ b) (hb : b ≤ xs.length) : cutV xs (some (a : Int)) (some (b : Int)) = (xs.drop a).take (b - a) := by
  unfold cutV
  have e1 : HT.sIx xs.length 0 (some (a : Int)) = a := by
    unfold HT.sIx
    simp only []
    first | omega | (split <;> omega)
  have e2 : HT.sIx xs.length xs.length (some (b : Int)) = b := by
    unfold HT.sIx
    simp only []
    first | omega | (split <;> omega)
  rw [e1, e2]
end L2

namespace Web
set_option autoImplicit false
set_option linter.all false
/-! ### sums of tables: rooms and walls -/
def roomT (rs cs : List Int) (r : Nat) : Int := (cs.map (mn r)).sum - ((up2 rs).reverse.take r).sum
inductive Tw where
  | below (s p : Nat) | unlike | wall (r : Nat) | free
def Bel (ns : List Int) (p : Nat) : Prop := (∃ x, ns[p]? = some x ∧ x < 0) ∧ ∀ (j : Nat) (x : Int), j < p → ns[j]? = some x → 0 ≤ x
def IsTw (rs cs : List Int) : Tw → Prop
  | .below s p => (s = 0 ∧ Bel rs p) ∨ (s = 1 ∧ AllP rs ∧ Bel cs p)
  | .unlike => AllP rs ∧ AllP cs ∧ ¬ rs.sum = cs.sum
  | .wall r => AllP rs ∧ AllP cs ∧ rs.sum = cs.sum ∧ 1 ≤ r ∧ r ≤ rs.length ∧ roomT rs cs r < 0 ∧ ∀ k, 1 ≤ k → k < r → 0 ≤ roomT rs cs k
  | .free => AllP rs ∧ AllP cs ∧ rs.sum = cs.sum ∧ ∀ k, 1 ≤ k → k ≤ rs.length → 0 ≤ roomT rs cs k
theorem bel_no {ns : List Int} {p : Nat} (h : Bel ns p) : ¬ AllP ns := fun a => by
  obtain ⟨⟨x, hx, h0⟩, _⟩ := h
  have := a p x hx
  omega
theorem bel_uniq {ns : List Int} {p q : Nat} (h : Bel ns p) (g : Bel ns q) : p = q := by
  obtain ⟨⟨x, hx, h0⟩, hp⟩ := h
  obtain ⟨⟨y, hy, g0⟩, hq⟩ := g
  rcases Nat.lt_trichotomy p q with l | l | l
  · have := hq p x l hx; omega
  · exact l
  · have := hp q y l hy; omega
theorem tw_uniq {rs cs : List Int} {w u : Tw} (h : IsTw rs cs w) (g : IsTw rs cs u) : w = u := by
  have nb : ∀ {s p}, IsTw rs cs (.below s p) → ¬ (AllP rs ∧ AllP cs) := fun {s p} z a => z.elim (fun z => bel_no z.2 a.1) fun z => bel_no z.2.2 a.2
  cases w with
  | below s p =>
    cases u with
    | below s' p' =>
      rcases h with ⟨rfl, h⟩ | ⟨rfl, a, h⟩
      · rcases g with ⟨rfl, g⟩ | ⟨rfl, b, g⟩
        · rw [bel_uniq h g]
        · exact absurd b (bel_no h)
      · rcases g with ⟨rfl, g⟩ | ⟨rfl, b, g⟩
        · exact absurd a (bel_no g)
        · rw [bel_uniq h g]
    | unlike => exact absurd ⟨g.1, g.2.1⟩ (nb h)
    | wall r => exact absurd ⟨g.1, g.2.1⟩ (nb h)
    | free => exact absurd ⟨g.1, g.2.1⟩ (nb h)
  | unlike =>
    cases u with
    | below s' p' => exact absurd ⟨h.1, h.2.1⟩ (nb g)
    | unlike => rfl
    | wall r => exact absurd g.2.2.1 h.2.2
    | free => exact absurd g.2.2.1 h.2.2
  | wall r =>
    cases u with
    | below s' p' => exact absurd ⟨h.1, h.2.1⟩ (nb g)
    | unlike => exact absurd h.2.2.1 g.2.2
    | wall s =>
      obtain ⟨_, _, _, r1, r2, r3, r4⟩ := h
      obtain ⟨_, _, _, s1, s2, s3, s4⟩ := g
      rcases Nat.lt_trichotomy r s with l | l | l
      · have := s4 r r1 l; omega
      · rw [l]
      · have := r4 s s1 l; omega
    | free =>
      obtain ⟨_, _, _, r1, r2, r3, r4⟩ := h
      have := g.2.2.2 r r1 r2
      omega
  | free =>
    cases u with
    | below s' p' => exact absurd ⟨h.1, h.2.1⟩ (nb g)
    | unlike => exact absurd h.2.2.1 g.2.2
    | wall s =>
      obtain ⟨_, _, _, s1, s2, s3, s4⟩ := g
      have := h.2.2.2 s s1 s2
      omega
    | free => rfl
/-- a wall of one of the three forms, with any numbers -/
inductive Tz where
  | unlike | below (s z : Int) | wall (z : Int)
end Web

namespace Web
set_option autoImplicit false
set_option linter.all false
/-! ### tables: cells, cells turned about -/
def ent (T : List (List Int)) (r c : Nat) : Int := (T.getD r []).getD c 0
def Rect (T : List (List Int)) (hi wi : Nat) : Prop := T.length = hi ∧ ∀ r ∈ T, r.length = wi
def flp (T : List (List Int)) (r c : Nat) : List (List Int) := T.set r ((T.getD r []).set c (1 - ent T r c))
theorem rect_row {T : List (List Int)} {hi wi r : Nat} (h : Rect T hi wi) (hr : r < hi) : (T.getD r []).length = wi := by
  have hl : r < T.length := by rw [h.1]; exact hr
  rw [List.getD_eq_getElem?_getD, List.getElem?_eq_getElem hl]
  exact h.2 _ (List.getElem_mem hl)
theorem rect_flp {T : List (List Int)} {hi wi r c : Nat} (h : Rect T hi wi) (hr : r < hi) : Rect (flp T r c) hi wi := by
  refine ⟨by unfold flp; rw [List.length_set]; exact h.1, fun x hx => ?_⟩
  unfold flp at hx
  rcases List.mem_or_eq_of_mem_set hx with hx | rfl
  · exact h.2 x hx
  · rw [List.length_set]; exact rect_row h hr
theorem ent_flp {T : List (List Int)} {hi wi r c : Nat} (h : Rect T hi wi) (hr : r < hi) (hc : c < wi) (r' c' : Nat) : ent (flp T r c) r' c' = if r' = r ∧ c' = c then 1 - ent T r c else ent T r' c' := by
  have hl : r < T.length := by rw [h.1]; exact hr
  have hw := rect_row h hr
  unfold flp
  by_cases e1 : r' = r
  · subst e1
    have e : (T.set r' ((T.getD r' []).set c (1 - ent T r' c))).getD r' [] = (T.getD r' []).set c (1 - ent T r' c) := by
      rw [List.getD_eq_getElem?_getD, List.getElem?_set_self hl]; rfl
    show ((T.set r' _).getD r' []).getD c' 0 = _
    rw [e]
    by_cases e2 : c' = c
    · subst e2
      rw [if_pos ⟨rfl, rfl⟩, List.getD_eq_getElem?_getD, List.getElem?_set_self (by rw [hw]; exact hc)]
      rfl
    · rw [if_neg (fun z => e2 z.2), List.getD_eq_getElem?_getD, List.getElem?_set_ne (Ne.symm e2), ← List.getD_eq_getElem?_getD]
      rfl
  · rw [if_neg (fun z => e1 z.1)]
    show ((T.set r _).getD r' []).getD c' 0 = (T.getD r' []).getD c' 0
    have e : (T.set r ((T.getD r []).set c (1 - ent T r c))).getD r' [] = T.getD r' [] := by
      rw [List.getD_eq_getElem?_getD, List.getElem?_set_ne (Ne.symm e1), ← List.getD_eq_getElem?_getD]
    rw [e]
def isSw (T : List (List Int)) (hi wi : Nat) (i j k l : Int) : Prop :=
  (0 ≤ i ∧ i < hi) ∧ (0 ≤ k ∧ k < hi) ∧ (0 ≤ j ∧ j < wi) ∧ (0 ≤ l ∧ l < wi) ∧ ent T i.toNat j.toNat = 1 ∧ ent T i.toNat l.toNat = 0 ∧ ent T k.toNat j.toNat = 0 ∧ ent T k.toNat l.toNat = 1
instance (T : List (List Int)) (hi wi : Nat) (i j k l : Int) : Decidable (isSw T hi wi i j k l) := by unfold isSw; infer_instance
section
variable {T : List (List Int)} {hi wi i j k l : Nat}
end
def rsum (T : List (List Int)) : List Int := T.map List.sum
def csum (T : List (List Int)) (wi : Nat) : List Int := (List.range wi).map fun c => (T.map fun r => r.getD c 0).sum
end Web

namespace Web
open L2
set_option autoImplicit false
set_option linter.all false
/-! ### the first of an order, found one by one -/
def rng (n : Nat) : List Int := (List.range' 0 n).map fun k : Nat => (k : Int)
theorem rng_mem {n : Nat} {x : Int} : x ∈ rng n ↔ 0 ≤ x ∧ x < n := by
  unfold rng
  constructor
  · intro h
    obtain ⟨k, hk, rfl⟩ := List.mem_map.mp h
    have := List.mem_range'_1.mp hk
    omega
  · intro h
    exact List.mem_map.mpr ⟨x.toNat, List.mem_range'_1.mpr ⟨by omega, by omega⟩, by omega⟩
theorem rng_len (n : Nat) : (rng n).length = n := by unfold rng; rw [List.length_map, List.length_range']
theorem rng_nodup (n : Nat) : (rng n).Nodup := by
  unfold rng
  refine List.Pairwise.map _ (fun a b h => ?_) (List.nodup_range' (step := 1) (by decide))
  intro e
  exact h (by omega)
/-- the order without a place -/
def rest (zs : List Int) (p : Int) : List Int := zs.filter fun x => decide (x ≠ p)
end Web

namespace Grf
set_option autoImplicit false
set_option linter.all false
/-! ### sums over 0 .. n-1 -/
def S : Nat → (Nat → Int) → Int
  | 0, _ => 0
  | n + 1, f => S n f + f n
theorem S_congr {f g : Nat → Int} : ∀ {n : Nat}, (∀ i, i < n → f i = g i) → S n f = S n g
  | 0, _ => rfl
  | n + 1, h => by
    show S n f + f n = S n g + g n
    rw [S_congr fun i hi => h i (by omega), h n (by omega)]
theorem S_le {f g : Nat → Int} : ∀ {n : Nat}, (∀ i, i < n → f i ≤ g i) → S n f ≤ S n g
  | 0, _ => Int.le_refl _
  | n + 1, h => by
    have h1 := S_le (n := n) fun i hi => h i (by omega)
    have h2 := h n (by omega)
    show S n f + f n ≤ S n g + g n
    omega
theorem S_add (f g : Nat → Int) : ∀ n : Nat, S n (fun i => f i + g i) = S n f + S n g
  | 0 => rfl
  | n + 1 => by
    show S n (fun i => f i + g i) + (f n + g n) = S n f + f n + (S n g + g n)
    rw [S_add f g n]
    omega
theorem S_sub (f g : Nat → Int) : ∀ n : Nat, S n (fun i => f i - g i) = S n f - S n g
  | 0 => rfl
  | n + 1 => by
    show S n (fun i => f i - g i) + (f n - g n) = S n f + f n - (S n g + g n)
    rw [S_sub f g n]
    omega
theorem S_zero : ∀ n : Nat, S n (fun _ => 0) = 0
  | 0 => rfl
  | n + 1 => by
    show S n (fun _ => 0) + 0 = 0
    rw [S_zero n]; rfl
theorem S_const (c : Int) : ∀ n : Nat, S n (fun _ => c) = (n : Int) * c
  | 0 => by simp [S]
  | n + 1 => by
    show S n (fun _ => c) + c = ((n + 1 : Nat) : Int) * c
    rw [S_const c n, show ((n + 1 : Nat) : Int) = (n : Int) + 1 by omega, Int.add_mul, Int.one_mul]
theorem S_nonneg {f : Nat → Int} {n : Nat} (h : ∀ i, i < n → 0 ≤ f i) : 0 ≤ S n f := by
  have := S_le (f := fun _ => 0) (g := f) (n := n) h
  rw [S_zero] at this
  exact this
/-- one place counts -/
theorem S_one {n j : Nat} (c : Int) (h : j < n) : S n (fun i => if i = j then c else 0) = c := by
  induction n with
  | zero => omega
  | succ n ih =>
    show S n (fun i => if i = j then c else 0) + (if n = j then c else 0) = c
    by_cases e : n = j
    · rw [if_pos e, S_congr (g := fun _ => 0) fun i hi => if_neg (by omega), S_zero]; omega
    · rw [if_neg e, ih (by omega)]; omega
theorem S_pick {n j : Nat} {f g : Nat → Int} (h : j < n) (hf : ∀ i, i < n → i ≠ j → f i = g i) : S n f = S n g + (f j - g j) := by
  have : S n f = S n (fun i => g i + (if i = j then f j - g j else 0)) := S_congr fun i hi => by
    by_cases e : i = j
    · rw [if_pos e, e]; omega
    · rw [if_neg e, hf i hi e]; omega
  rw [this, S_add, S_one _ h]
theorem S_ge {n j : Nat} {f : Nat → Int} (h : j < n) (hf : ∀ i, i < n → 0 ≤ f i) : f j ≤ S n f := by
  have h1 := S_pick (f := f) (g := fun i => if i = j then 0 else f i) h (fun i _ e => by rw [if_neg e])
  have h2 : 0 ≤ S n (fun i => if i = j then 0 else f i) := S_nonneg fun i hi => by
    by_cases e : i = j
    · rw [if_pos e]; exact Int.le_refl _
    · rw [if_neg e]; exact hf i hi
  rw [if_pos rfl] at h1
  omega
def b2 (b : Bool) : Int := if b then 1 else 0
theorem b2_nonneg (b : Bool) : 0 ≤ b2 b := by cases b <;> decide
/-! ### graphs -/
structure Gph (g : Nat → Nat → Bool) : Prop where
  sym : ∀ i j, g i j = g j i
  irr : ∀ i, g i i = false
def deg (n : Nat) (g : Nat → Nat → Bool) (i : Nat) : Int := S n fun j => b2 (g i j)
def setE (g : Nat → Nat → Bool) (a b : Nat) (v : Bool) : Nat → Nat → Bool := fun i j => if (i = a ∧ j = b) ∨ (i = b ∧ j = a) then v else g i j
end Grf

namespace Grf
set_option autoImplicit false
set_option linter.all false
structure Ex (g : Nat → Nat → Bool) (a b c d : Nat) : Prop where
  ab : a ≠ b
  ac : a ≠ c
  ad : a ≠ d
  bc : b ≠ c
  bd : b ≠ d
  cd : c ≠ d
  t1 : g a b = true
  t2 : g c d = true
  n1 : g a d = false
  n2 : g c b = false
end Grf

namespace Grf
set_option autoImplicit false
set_option linter.all false
/-! ### groups of places -/
def cnt (n : Nat) (a : Nat → Bool) : Int := S n fun i => b2 (a i)
def sm (n : Nat) (a : Nat → Bool) (d : Nat → Int) : Int := S n fun i => if a i = true then d i else 0
end Grf

namespace Grf
set_option autoImplicit false
set_option linter.all false
end Grf

namespace Grf
set_option autoImplicit false
set_option linter.all false
/-! ### rooms -/
def mnf (r x : Int) : Int := if r < x then r else x
def roomF (n : Nat) (d : Nat → Int) (A : Nat → Bool) : Int := cnt n A * (cnt n A - 1) + S n (fun i => if A i = true then 0 else mnf (cnt n A) (d i)) - sm n A d
def Top (n : Nat) (d : Nat → Int) (A : Nat → Bool) : Prop := ∀ i j, i < n → j < n → A i = true → A j = false → d j ≤ d i
end Grf

namespace Web
open L2
set_option autoImplicit false
set_option linter.all false
open Grf (S b2 Gph deg cnt sm Top roomF)
/-! ### tallies without a wall, and graphs -/
theorem S_range (f : Nat → Int) : ∀ n : Nat, S n f = ((List.range n).map f).sum
  | 0 => rfl
  | n + 1 => by
    rw [List.range_succ, List.map_append, sum_app, ← S_range f n]
    show S n f + f n = _ + (f n + 0)
    omega
theorem map_getD (φ : Int → Int) (xs : List Int) : (List.range xs.length).map (fun i => φ (xs.getD i 0)) = xs.map φ := by
  refine List.ext_getElem? fun i => ?_
  rw [List.getElem?_map, List.getElem?_map]
  rcases Nat.lt_or_ge i xs.length with h | h
  · rw [List.getElem?_range h, List.getElem?_eq_getElem h]
    show some (φ (xs.getD i 0)) = some (φ xs[i])
    rw [List.getD_eq_getElem?_getD, List.getElem?_eq_getElem h]
    rfl
  · rw [List.getElem?_eq_none h, List.getElem?_eq_none (by rw [List.length_range]; exact h)]
    rfl
theorem S_list (φ : Int → Int) (xs : List Int) : S xs.length (fun i => φ (xs.getD i 0)) = (xs.map φ).sum := by rw [S_range, map_getD]
theorem S_sum (xs : List Int) : S xs.length (fun i => xs.getD i 0) = xs.sum := by
  have := S_list (fun x => x) xs
  rw [List.map_id'] at this
  exact this
theorem ord_is (ns : List Int) : ∃ zs : List Int, zs.Perm (rng ns.length) ∧ zs.Pairwise (ole ns) := by
  let le : Int → Int → Bool := fun x y => decide (ns.getD y.toNat 0 < ns.getD x.toNat 0 ∨ (ns.getD x.toNat 0 = ns.getD y.toNat 0 ∧ x ≤ y))
  refine ⟨(rng ns.length).mergeSort le, List.mergeSort_perm _ _, ?_⟩
  have := List.pairwise_mergeSort (le := le) (fun a b c h1 h2 => ?_) (fun a b => ?_) (rng ns.length)
  · exact this.imp fun h => ole_iff.mpr (of_decide_eq_true h)
  · have g1 := of_decide_eq_true h1
    have g2 := of_decide_eq_true h2
    exact decide_eq_true (by omega)
  · rw [Bool.or_eq_true]
    by_cases h : ns.getD b.toNat 0 < ns.getD a.toNat 0 ∨ (ns.getD a.toNat 0 = ns.getD b.toNat 0 ∧ a ≤ b)
    · exact .inl (decide_eq_true h)
    · exact .inr (decide_eq_true (by omega))
end Web

namespace Web
open Grf (S b2)
open L2 (ole ole_iff)
set_option autoImplicit false
set_option linter.all false
/-! ### tables laid row by row, the greatest columns first -/
/-- no rows together are more than the columns can give -/
def GR (R c : List Int) : Prop := ∀ T : List Int, T.Sublist R → T.sum ≤ (c.map (mn (T.length : Int))).sum
theorem sub_sum {g : Int → Int} (hg : ∀ x, 0 ≤ g x) : ∀ {T R : List Int}, T.Sublist R → (T.map g).sum ≤ (R.map g).sum
  | _, _, .slnil => Int.le_refl _
  | _, _, .cons a h => by
    rw [List.map_cons, List.sum_cons]
    have := sub_sum hg h
    have := hg a
    omega
  | _, _, .cons₂ a h => by
    rw [List.map_cons, List.map_cons, List.sum_cons, List.sum_cons]
    have := sub_sum hg h
    omega
theorem psum {xs ys : List Int} (h : xs.Perm ys) : xs.sum = ys.sum := sum_perm h
theorem sum_shift (t : Int) : ∀ xs : List Int, (xs.map fun x => x - t).sum = xs.sum - (xs.length : Int) * t
  | [] => by simp
  | x :: xs => by
    rw [List.map_cons, List.sum_cons, List.sum_cons, sum_shift t xs, List.length_cons]
    push_cast
    rw [Int.add_mul]
    omega
theorem sum_zero' : ∀ {xs : List Int}, (∀ x ∈ xs, x = 0) → xs.sum = 0
  | [], _ => rfl
  | x :: xs, h => by rw [List.sum_cons, h x List.mem_cons_self, sum_zero' fun y hy => h y (List.mem_cons_of_mem _ hy)]; rfl
/-- so many rows come to no more than the greatest do -/
theorem top_le {R T : List Int} (h : T.Sublist R) : T.sum ≤ ((up2 R).reverse.take T.length).sum := by
  have hl := h.length_le
  rcases Nat.eq_zero_or_pos T.length with z | z
  · rw [List.length_eq_zero_iff.mp z]
    simp
  obtain ⟨ds, hds⟩ : ∃ ds, ds = (up2 R).reverse := ⟨_, rfl⟩
  have hp : ds.Perm R := by rw [hds]; exact (List.reverse_perm _).trans (PySem.W.sortI_perm _)
  have hs : ds.Pairwise (fun x y => y ≤ x) := by
    rw [hds, List.pairwise_reverse]
    exact PySem.W.sortI_rises R
  rw [← hds]
  have hdl : ds.length = R.length := hp.length_eq
  obtain ⟨k, hk⟩ : ∃ k, k = T.length := ⟨_, rfl⟩
  rw [← hk]
  have hkd : k - 1 < ds.length := by omega
  let t := ds[k - 1]
  let g : Int → Int := fun x => if t ≤ x then x - t else 0
  have g0 : ∀ x, 0 ≤ g x := fun x => by show 0 ≤ (if t ≤ x then x - t else 0); split <;> omega
  have e1 : (T.map g).sum ≤ (ds.map g).sum := by
    rw [psum (hp.map g)]
    exact sub_sum g0 h
  have e2 : T.sum - (k : Int) * t ≤ (T.map g).sum := by
    rw [hk, ← sum_shift]
    have le : ∀ xs : List Int, (xs.map fun x => x - t).sum ≤ (xs.map g).sum := fun xs => by
      induction xs with
      | nil => exact Int.le_refl _
      | cons x xs ih =>
        rw [List.map_cons, List.map_cons, List.sum_cons, List.sum_cons]
        have : x - t ≤ g x := by show x - t ≤ (if t ≤ x then x - t else 0); split <;> omega
        omega
    exact le T
  have hle : ∀ (i j : Nat) (hi : i < ds.length) (hj : j < ds.length), i ≤ j → ds[j] ≤ ds[i] := fun i j hi hj hij => by
    rcases Nat.lt_or_eq_of_le hij with c | c
    · exact List.pairwise_iff_getElem.mp hs i j hi hj c
    · subst c; exact Int.le_refl _
  have e3 : (ds.map g).sum = (ds.take k).sum - (k : Int) * t := by
    have sp : (ds.map g).sum = ((ds.take k).map g).sum + ((ds.drop k).map g).sum := by
      rw [← sum_app, ← List.map_append, List.take_append_drop]
    have z2 : ((ds.drop k).map g).sum = 0 := sum_zero' fun x hx => by
      obtain ⟨y, hy, rfl⟩ := List.mem_map.mp hx
      obtain ⟨i, hi, rfl⟩ := List.mem_iff_getElem.mp hy
      rw [List.length_drop] at hi
      rw [List.getElem_drop]
      have := hle (k - 1) (k + i) hkd (by omega) (by omega)
      show (if t ≤ ds[k + i] then ds[k + i] - t else 0) = 0
      split
      · have : ds[k + i] ≤ t := this
        omega
      · rfl
    have z1 : ((ds.take k).map g).sum = ((ds.take k).map fun x => x - t).sum := by
      congr 1
      refine List.map_congr_left fun x hx => ?_
      obtain ⟨i, hi, rfl⟩ := List.mem_iff_getElem.mp hx
      rw [List.length_take] at hi
      rw [List.getElem_take]
      have := hle i (k - 1) (by omega) hkd (by omega)
      show (if t ≤ ds[i] then ds[i] - t else 0) = ds[i] - t
      rw [if_pos this]
    rw [sp, z1, z2, sum_shift, List.length_take, Nat.min_eq_left (by omega)]
    omega
  omega
theorem grT_free {rs cs : List Int} (h : IsTw rs cs .free) : GR rs cs := fun T hT => by
  obtain ⟨h1, h2, _, h4⟩ := h
  rcases Nat.eq_zero_or_pos T.length with z | z
  · rw [List.length_eq_zero_iff.mp z]
    have : ∀ xs : List Int, (∀ x ∈ xs, 0 ≤ x) → 0 ≤ (xs.map (mn ((0 : Nat) : Int))).sum := fun xs => by
      induction xs with
      | nil => intro _; exact Int.le_refl _
      | cons x xs ih =>
        intro hx
        rw [List.map_cons, List.sum_cons]
        have a := ih fun y hy => hx y (List.mem_cons_of_mem _ hy)
        have b := hx x List.mem_cons_self
        have c : 0 ≤ mn ((0 : Nat) : Int) x := by unfold mn; split <;> omega
        omega
    exact this cs fun x hx => by
      obtain ⟨j, hj, e⟩ := List.mem_iff_getElem.mp hx
      exact h2 j x (by rw [List.getElem?_eq_getElem hj, e])
  · have := h4 T.length z hT.length_le
    unfold roomT at this
    have := top_le hT
    omega
/-- the step: X what some rows come to -/
theorem step_le {n s : Nat} {a X : Int} {c : Nat → Int} {B : Nat → Bool} (ha : S n (fun j => b2 (B j)) = a) (top : ∀ i j, i < n → j < n → B i = true → B j = false → c j ≤ c i)
    (h1 : X ≤ S n (fun j => mn (s : Int) (c j))) (h2 : a + X ≤ S n (fun j => mn ((s + 1 : Nat) : Int) (c j))) : X ≤ S n (fun j => mn (s : Int) (c j - b2 (B j))) := by
  by_cases h : ∃ i, i < n ∧ B i = true ∧ c i ≤ s
  · obtain ⟨i, hi, hb, hc⟩ := h
    have : S n (fun j => mn (s : Int) (c j - b2 (B j))) = S n (fun j => mn ((s + 1 : Nat) : Int) (c j) - b2 (B j)) := Grf.S_congr fun j hj => by
      cases hB : B j with
      | true => show mn (s : Int) (c j - 1) = mn ((s + 1 : Nat) : Int) (c j) - 1; unfold mn; push_cast; split <;> split <;> omega
      | false =>
        have := top i j hi hj hb hB
        show mn (s : Int) (c j - 0) = mn ((s + 1 : Nat) : Int) (c j) - 0
        unfold mn; push_cast; split <;> split <;> omega
    rw [this, Grf.S_sub, ha]
    omega
  · have : S n (fun j => mn (s : Int) (c j - b2 (B j))) = S n (fun j => mn (s : Int) (c j)) := Grf.S_congr fun j hj => by
      cases hB : B j with
      | true =>
        have : ¬ c j ≤ s := fun z => h ⟨j, hj, hB, z⟩
        show mn (s : Int) (c j - 1) = mn (s : Int) (c j)
        unfold mn; split <;> split <;> omega
      | false => show mn (s : Int) (c j - 0) = mn (s : Int) (c j); rw [Int.sub_zero]
    rw [this]
    exact h1
/-- those that are chosen have something left -/
theorem step_pos {n : Nat} {a : Int} {c : Nat → Int} {B : Nat → Bool} (ha : S n (fun j => b2 (B j)) = a) (top : ∀ i j, i < n → j < n → B i = true → B j = false → c j ≤ c i) (h : a ≤ S n (fun j => mn (1 : Int) (c j))) {i : Nat} (hi : i < n) (hb : B i = true) : 1 ≤ c i := by
  rcases Int.lt_or_le (c i) 1 with z | z
  · exfalso
    have : S n (fun j => mn (1 : Int) (c j)) ≤ S n (fun j => b2 (B j) - (if j = i then 1 else 0)) := Grf.S_le fun j hj => by
      by_cases e : j = i
      · rw [e, hb]
        show mn 1 (c i) ≤ 1 - (if i = i then 1 else 0)
        rw [if_pos rfl]
        unfold mn; split <;> omega
      · rw [if_neg e]
        cases hB : B j with
        | true => show mn 1 (c j) ≤ 1 - 0; unfold mn; split <;> omega
        | false =>
          have := top i j hi hj hb hB
          show mn 1 (c j) ≤ 0 - 0
          unfold mn; split <;> omega
    rw [Grf.S_sub, ha, Grf.S_one 1 hi] at this
    omega
  · exact z
/-- what is left of the columns when the first a of their order have given one -/
def lefT (c zs : List Int) (a : Nat) : List Int := (List.range c.length).map fun j => c.getD j 0 - (if (j : Int) ∈ zs.take a then 1 else 0)
def rowT (n : Nat) (zs : List Int) (a : Nat) : List Int := (List.range n).map fun j : Nat => if (j : Int) ∈ zs.take a then 1 else 0
theorem lefT_len (c zs : List Int) (a : Nat) : (lefT c zs a).length = c.length := by unfold lefT; rw [List.length_map, List.length_range]
theorem rowT_len (n : Nat) (zs : List Int) (a : Nat) : (rowT n zs a).length = n := by unfold rowT; rw [List.length_map, List.length_range]
theorem rng_getD {n j : Nat} (f : Nat → Int) (h : j < n) : ((List.range n).map f).getD j 0 = f j := by
  rw [List.getD_eq_getElem?_getD, List.getElem?_map, List.getElem?_range h]; rfl
theorem cnt_take {n a : Nat} {zs : List Int} (hp : zs.Perm (rng n)) (ha : a ≤ n) : S n (fun j => b2 (decide ((j : Int) ∈ zs.take a))) = (a : Int) := by
  have nd : zs.Nodup := hp.symm.nodup (rng_nodup n)
  have key : ∀ (m : Nat), m ≤ n → S n (fun j => b2 (decide ((j : Int) ∈ zs.take m))) = (m : Int) := fun m => by
    induction m with
    | zero =>
      intro _
      rw [Grf.S_congr (g := fun _ => 0) fun j _ => by simp [b2]]
      rw [Grf.S_zero]; rfl
    | succ m ih =>
      intro hm
      have hzl : zs.length = n := by rw [hp.length_eq, rng_len]
      have hml : m < zs.length := by omega
      have hz := rng_mem.mp (hp.mem_iff.mp (List.getElem_mem hml))
      have e : S n (fun j => b2 (decide ((j : Int) ∈ zs.take (m + 1)))) = S n (fun j => b2 (decide ((j : Int) ∈ zs.take m)) + (if j = zs[m].toNat then 1 else 0)) := Grf.S_congr fun j hj => by
        have mem : (j : Int) ∈ zs.take (m + 1) ↔ (j : Int) ∈ zs.take m ∨ (j : Int) = zs[m] := by
          rw [List.take_add_one, List.getElem?_eq_getElem hml, Option.toList_some, List.mem_append, List.mem_singleton]
        have ni : ¬ zs[m] ∈ zs.take m := fun z => by
          obtain ⟨i, hi, e⟩ := List.mem_iff_getElem.mp z
          rw [List.length_take] at hi
          rw [List.getElem_take] at e
          have := (List.getElem?_inj (i := i) (j := m) (by omega) nd).mp (by rw [List.getElem?_eq_getElem (by omega), List.getElem?_eq_getElem hml, e])
          omega
        by_cases c2 : (j : Int) = zs[m]
        · rw [if_pos (by omega), decide_eq_true (mem.mpr (.inr c2)), decide_eq_false (by rw [c2]; exact ni)]; rfl
        · rw [if_neg (by omega)]
          by_cases c1 : (j : Int) ∈ zs.take m
          · rw [decide_eq_true (mem.mpr (.inl c1)), decide_eq_true c1]; rfl
          · rw [decide_eq_false (fun z => (mem.mp z).elim c1 c2), decide_eq_false c1]; rfl
      rw [e, Grf.S_add, ih (by omega), Grf.S_one 1 (by omega)]
      push_cast; rfl
  exact key a ha
theorem S_left {c zs : List Int} {a : Nat} (φ : Int → Int) : ((lefT c zs a).map φ).sum = S c.length (fun j => φ (c.getD j 0 - b2 (decide ((j : Int) ∈ zs.take a)))) := by
  rw [← S_list, lefT_len]
  refine Grf.S_congr fun j hj => ?_
  unfold lefT
  rw [rng_getD _ hj]
  congr 2
  by_cases h : (j : Int) ∈ zs.take a
  · rw [if_pos h, decide_eq_true h]; rfl
  · rw [if_neg h, decide_eq_false h]; rfl
theorem lay_step {a : Int} {R c zs : List Int} (hR : GR (a :: R) c) (hc : ∀ j, j < c.length → 0 ≤ c.getD j 0) (ha : 0 ≤ a) (hs : (a :: R).sum = c.sum) (hp : zs.Perm (rng c.length)) (ho : zs.Pairwise (ole c)) :
    a.toNat ≤ c.length ∧ GR R (lefT c zs a.toNat) ∧ (∀ j, j < (lefT c zs a.toNat).length → 0 ≤ (lefT c zs a.toNat).getD j 0) ∧ R.sum = (lefT c zs a.toNat).sum ∧ (rowT c.length zs a.toNat).sum = a := by
  have h1 : a ≤ S c.length (fun j => mn (1 : Int) (c.getD j 0)) := by
    have := hR [a] (List.Sublist.cons₂ a (List.nil_sublist _))
    rw [← S_list] at this
    simpa using this
  have hn : a ≤ c.length := by
    have : S c.length (fun j => mn (1 : Int) (c.getD j 0)) ≤ S c.length (fun _ => 1) := Grf.S_le fun j hj => by unfold mn; split <;> omega
    rw [Grf.S_const] at this
    omega
  have hal : a.toNat ≤ c.length := by omega
  have cnt : S c.length (fun j => b2 (decide ((j : Int) ∈ zs.take a.toNat))) = a := by rw [cnt_take hp hal]; omega
  have top : ∀ i j, i < c.length → j < c.length → decide ((i : Int) ∈ zs.take a.toNat) = true → decide ((j : Int) ∈ zs.take a.toNat) = false → c.getD j 0 ≤ c.getD i 0 := fun i j hi hj bi bj => by
    have mi := of_decide_eq_true bi
    have mj := of_decide_eq_false bj
    have hz : (j : Int) ∈ zs.take a.toNat ++ zs.drop a.toNat := by rw [List.take_append_drop]; exact hp.mem_iff.mpr (rng_mem.mpr ⟨by omega, by omega⟩)
    have hd := (List.mem_append.mp hz).resolve_left mj
    rw [← List.take_append_drop a.toNat zs] at ho
    have := ole_iff.mp ((List.pairwise_append.mp ho).2.2 _ mi _ hd)
    simp only [Int.toNat_natCast] at this
    omega
  refine ⟨hal, fun T hT => ?_, fun j hj => ?_, ?_, ?_⟩
  · rw [S_left]
    have g1 := hR T (hT.cons a)
    have g2 := hR (a :: T) (hT.cons₂ a)
    rw [← S_list] at g1 g2
    rw [List.sum_cons, List.length_cons] at g2
    exact step_le cnt top g1 g2
  · rw [lefT_len] at hj
    unfold lefT
    rw [rng_getD _ hj]
    by_cases h : (j : Int) ∈ zs.take a.toNat
    · rw [if_pos h]
      have := step_pos cnt top h1 hj (decide_eq_true h)
      omega
    · rw [if_neg h]
      have := hc j hj
      omega
  · have e := S_left (c := c) (zs := zs) (a := a.toNat) id
    rw [List.map_id] at e
    rw [e]
    show _ = S c.length (fun j => c.getD j 0 - b2 (decide ((j : Int) ∈ zs.take a.toNat)))
    rw [Grf.S_sub, cnt, S_sum]
    rw [List.sum_cons] at hs
    omega
  · rw [← S_sum, rowT_len]
    refine Eq.trans ?_ cnt
    refine Grf.S_congr fun j hj => ?_
    unfold rowT
    rw [rng_getD _ hj]
    by_cases h : (j : Int) ∈ zs.take a.toNat
    · rw [if_pos h, decide_eq_true h]; rfl
    · rw [if_neg h, decide_eq_false h]; rfl
end Web

namespace Web
open Grf (S b2)
open L2 (ole ole_iff)
set_option autoImplicit false
set_option linter.all false
/-! ### tables that are there, tables with a cell nought -/
/-- a table of these sums -/
structure IsTab (rs cs : List Int) (T : List (List Int)) : Prop where
  rect : Rect T rs.length cs.length
  bit : ∀ r ∈ T, ∀ x ∈ r, x = 0 ∨ x = 1
  row : rsum T = rs
  col : csum T cs.length = cs
/-- what the columns of some rows come to -/
def colS (T : List (List Int)) (j : Nat) : Int := (T.map fun r => r.getD j 0).sum
theorem csum_getD {T : List (List Int)} {n j : Nat} (h : j < n) : (csum T n).getD j 0 = colS T j := by unfold csum colS; rw [rng_getD _ h]
theorem colS_app (A B : List (List Int)) (j : Nat) : colS (A ++ B) j = colS A j + colS B j := by unfold colS; rw [List.map_append, sum_app]
theorem row_col {n : Nat} : ∀ {T : List (List Int)}, (∀ r ∈ T, r.length = n) → (rsum T).sum = S n (fun j => colS T j)
  | [], _ => by
    rw [Grf.S_congr (g := fun _ => 0) fun j _ => by unfold colS; rfl, Grf.S_zero]; rfl
  | r :: T, h => by
    have ih := row_col (n := n) (T := T) fun r hr => h r (List.mem_cons_of_mem _ hr)
    have : (rsum (r :: T)).sum = r.sum + (rsum T).sum := by unfold rsum; rw [List.map_cons, List.sum_cons]
    rw [this, ih, ← S_sum r, h r List.mem_cons_self, ← Grf.S_add]
    exact Grf.S_congr fun j _ => by unfold colS; rw [List.map_cons, List.sum_cons]
theorem perm_map {α : Type} (f : α → Int) {ds es : List Int} (h : ds.Perm es) : ∀ {T : List α}, T.map f = es → ∃ T' : List α, T'.Perm T ∧ T'.map f = ds := by
  induction h with
  | nil => intro T e; exact ⟨T, .refl _, e⟩
  | cons x h ih =>
    intro T e
    cases T with
    | nil => cases e
    | cons t T =>
      rw [List.map_cons] at e
      injection e with e1 e2
      obtain ⟨T', p, q⟩ := ih e2
      exact ⟨t :: T', p.cons t, by rw [List.map_cons, e1, q]⟩
  | swap x y l =>
    intro T e
    match T, e with
    | t :: u :: T, e =>
      rw [List.map_cons, List.map_cons] at e
      injection e with e1 e2
      injection e2 with e2 e3
      exact ⟨u :: t :: T, List.Perm.swap t u T, by rw [List.map_cons, List.map_cons, e1, e2, e3]⟩
  | trans _ _ ih1 ih2 =>
    intro T e
    obtain ⟨T1, p1, q1⟩ := ih2 e
    obtain ⟨T2, p2, q2⟩ := ih1 q1
    exact ⟨T2, p2.trans p1, q2⟩
theorem colS_perm {A B : List (List Int)} (h : A.Perm B) (j : Nat) : colS A j = colS B j := sum_perm (h.map _)
theorem colS_bit {T : List (List Int)} (hb : ∀ r ∈ T, ∀ x ∈ r, x = 0 ∨ x = 1) (j : Nat) : 0 ≤ colS T j ∧ colS T j ≤ T.length := by
  induction T with
  | nil => exact ⟨Int.le_refl _, Int.le_refl _⟩
  | cons r T ih =>
    obtain ⟨a, b⟩ := ih fun r hr => hb r (List.mem_cons_of_mem _ hr)
    have e : colS (r :: T) j = r.getD j 0 + colS T j := by unfold colS; rw [List.map_cons, List.sum_cons]
    have hx : r.getD j 0 = 0 ∨ r.getD j 0 = 1 := by
      rw [List.getD_eq_getElem?_getD]
      cases hj : r[j]? with
      | none => exact .inl rfl
      | some x => exact hb r List.mem_cons_self x (List.mem_of_getElem? hj)
    rw [e, List.length_cons]
    push_cast
    omega
theorem bit_sum {r : List Int} (hb : ∀ x ∈ r, x = 0 ∨ x = 1) : 0 ≤ r.sum := by
  induction r with
  | nil => exact Int.le_refl _
  | cons x r ih =>
    rw [List.sum_cons]
    have := ih fun y hy => hb y (List.mem_cons_of_mem _ hy)
    have := hb x List.mem_cons_self
    omega
/-- where there is a table no wall is -/
theorem IsTab.free {rs cs : List Int} {T : List (List Int)} (h : IsTab rs cs T) : IsTw rs cs .free := by
  have hc : ∀ j, j < cs.length → cs.getD j 0 = colS T j := fun j hj => by
    have := csum_getD (T := T) hj
    rw [h.col] at this
    exact this
  refine ⟨fun j x hx => ?_, fun j x hx => ?_, ?_, fun k k1 k2 => ?_⟩
  · have e := h.row
    have : (rsum T)[j]? = some x := by rw [e]; exact hx
    unfold rsum at this
    rw [List.getElem?_map] at this
    cases hr : T[j]? with
    | none => rw [hr] at this; cases this
    | some r =>
      rw [hr] at this
      have : r.sum = x := Option.some.inj this
      rw [← this]
      exact bit_sum (h.bit r (List.mem_of_getElem? hr))
  · have hj : j < cs.length := (List.getElem?_eq_some_iff.mp hx).1
    have := hc j hj
    rw [List.getD_eq_getElem?_getD, hx] at this
    have e : x = colS T j := this
    rw [e]
    exact (colS_bit h.bit j).1
  · have := row_col h.rect.2
    rw [h.row] at this
    rw [this, ← S_sum cs]
    exact Grf.S_congr fun j hj => (hc j hj).symm
  · unfold roomT
    have hp : ((up2 rs).reverse).Perm (T.map List.sum) := by
      have e := h.row
      unfold rsum at e
      rw [e]
      exact (List.reverse_perm _).trans (PySem.W.sortI_perm _)
    obtain ⟨T', p, q⟩ := perm_map List.sum hp rfl
    rw [← q, ← List.map_take]
    have hl : ∀ r ∈ T'.take k, r.length = cs.length := fun r hr => h.rect.2 r (p.mem_iff.mp (List.mem_of_mem_take hr))
    have e := row_col hl
    unfold rsum at e
    rw [e, ← S_list]
    have : S cs.length (fun j => colS (T'.take k) j) ≤ S cs.length (fun j => mn (k : Int) (cs.getD j 0)) := Grf.S_le fun j hj => by
      have hb : ∀ r ∈ T', ∀ x ∈ r, x = 0 ∨ x = 1 := fun r hr => h.bit r (p.mem_iff.mp hr)
      have c1 := colS_bit (T := T'.take k) (fun r hr => hb r (List.mem_of_mem_take hr)) j
      have c2 := colS_bit (T := T'.drop k) (fun r hr => hb r (List.mem_of_mem_drop hr)) j
      have c3 := colS_app (T'.take k) (T'.drop k) j
      rw [List.take_append_drop, colS_perm p] at c3
      rw [hc j hj]
      have : ((T'.take k).length : Int) ≤ k := by rw [List.length_take]; omega
      unfold mn
      split <;> omega
    omega
/-- an order of the columns there is -/
theorem ord_ex (c : List Int) : ∃ zs : List Int, zs.Perm (rng c.length) ∧ zs.Pairwise (ole c) := ord_is c
theorem lefT_getD {c zs : List Int} {a j : Nat} (h : j < c.length) : (lefT c zs a).getD j 0 = c.getD j 0 - (if (j : Int) ∈ zs.take a then 1 else 0) := by unfold lefT; rw [rng_getD _ h]
theorem rowT_getD {n : Nat} {zs : List Int} {a j : Nat} (h : j < n) : (rowT n zs a).getD j 0 = if (j : Int) ∈ zs.take a then 1 else 0 := by unfold rowT; rw [rng_getD _ h]
theorem rowT_bit {n : Nat} {zs : List Int} {a : Nat} : ∀ x ∈ rowT n zs a, x = 0 ∨ x = 1 := fun x hx => by
  unfold rowT at hx
  obtain ⟨j, _, rfl⟩ := List.mem_map.mp hx
  split
  · exact .inr rfl
  · exact .inl rfl
theorem tab_cons {R c c' r : List Int} {a : Int} {T : List (List Int)} (ht : IsTab R c' T) (hc : c' = c') (hl : ∀ j, j < c.length → c'.getD j 0 = c.getD j 0 - r.getD j 0) (hr : r.length = c.length) (hb : ∀ x ∈ r, x = 0 ∨ x = 1) (hs : r.sum = a) (hcl : c'.length = c.length := by first | exact lefT_len .. | assumption) : IsTab (a :: R) c (r :: T) := by
  refine ⟨⟨by rw [List.length_cons, ht.rect.1, List.length_cons], fun u hu => ?_⟩, fun u hu => ?_, ?_, ?_⟩
  · rcases List.mem_cons.mp hu with rfl | hu
    · exact hr
    · rw [ht.rect.2 u hu, hcl]
  · rcases List.mem_cons.mp hu with rfl | hu
    · exact hb
    · exact ht.bit u hu
  · unfold rsum
    rw [List.map_cons, hs]
    have := ht.row
    unfold rsum at this
    rw [this]
  · unfold csum
    refine List.ext_getElem? fun j => ?_
    by_cases hj : j < c.length
    · rw [List.getElem?_map, List.getElem?_range hj, List.getElem?_eq_getElem hj]
      have e1 := csum_getD (T := T) (n := c'.length) (j := j) (by omega)
      rw [ht.col, hl j hj] at e1
      have e2 : c.getD j 0 = c[j] := by rw [List.getD_eq_getElem?_getD, List.getElem?_eq_getElem hj]; rfl
      show some ((r :: T).map fun u => u.getD j 0).sum = some c[j]
      congr 1
      rw [List.map_cons, List.sum_cons]
      have e3 : (T.map fun u => u.getD j 0).sum = colS T j := rfl
      rw [e3]
      omega
    · rw [List.getElem?_eq_none (by rw [List.length_map, List.length_range]; omega), List.getElem?_eq_none (by omega)]
/-- where no rows together are too many there is a table -/
theorem gr_tab : ∀ {R c : List Int}, GR R c → (∀ j, j < c.length → 0 ≤ c.getD j 0) → (∀ a ∈ R, 0 ≤ a) → R.sum = c.sum → ∃ T, IsTab R c T
  | [], c, _, h2, _, h4 => by
    refine ⟨[], ⟨⟨rfl, fun r h => absurd h List.not_mem_nil⟩, fun r h => absurd h List.not_mem_nil, rfl, ?_⟩⟩
    have z : ∀ j, j < c.length → c.getD j 0 = 0 := fun j hj => by
      have a := Grf.S_ge (f := fun j => c.getD j 0) hj h2
      rw [S_sum, ← h4] at a
      have a' : c.getD j 0 ≤ 0 := a
      have b := h2 j hj
      omega
    unfold csum
    refine List.ext_getElem? fun j => ?_
    by_cases hj : j < c.length
    · rw [List.getElem?_map, List.getElem?_range hj, List.getElem?_eq_getElem hj]
      have := z j hj
      rw [List.getD_eq_getElem?_getD, List.getElem?_eq_getElem hj] at this
      have e : c[j] = 0 := this
      rw [e]; rfl
    · rw [List.getElem?_eq_none (by rw [List.length_map, List.length_range]; omega), List.getElem?_eq_none (by omega)]
  | a :: R, c, h1, h2, h3, h4 => by
    obtain ⟨zs, hp, ho⟩ := ord_ex c
    obtain ⟨l1, l2, l3, l4, l5⟩ := lay_step h1 h2 (h3 a List.mem_cons_self) h4 hp ho
    obtain ⟨T, ht⟩ := gr_tab l2 l3 (fun b hb => h3 b (List.mem_cons_of_mem _ hb)) l4
    exact ⟨rowT c.length zs a.toNat :: T, tab_cons ht rfl (fun j hj => by rw [lefT_getD hj, rowT_getD hj]) (rowT_len ..) rowT_bit l5⟩
theorem cnt_takeN {n a : Nat} {zs : List Int} (nd : zs.Nodup) (hb : ∀ x ∈ zs, 0 ≤ x ∧ x < (n : Int)) (ha : a ≤ zs.length) : S n (fun j => b2 (decide ((j : Int) ∈ zs.take a))) = (a : Int) := by
  have key : ∀ (m : Nat), m ≤ zs.length → S n (fun j => b2 (decide ((j : Int) ∈ zs.take m))) = (m : Int) := fun m => by
    induction m with
    | zero =>
      intro _
      rw [Grf.S_congr (g := fun _ => 0) fun j _ => by simp [b2]]
      rw [Grf.S_zero]; rfl
    | succ m ih =>
      intro hm
      have hml : m < zs.length := by omega
      have hz := hb _ (List.getElem_mem hml)
      have e : S n (fun j => b2 (decide ((j : Int) ∈ zs.take (m + 1)))) = S n (fun j => b2 (decide ((j : Int) ∈ zs.take m)) + (if j = zs[m].toNat then 1 else 0)) := Grf.S_congr fun j hj => by
        have mem : (j : Int) ∈ zs.take (m + 1) ↔ (j : Int) ∈ zs.take m ∨ (j : Int) = zs[m] := by
          rw [List.take_add_one, List.getElem?_eq_getElem hml, Option.toList_some, List.mem_append, List.mem_singleton]
        have ni : ¬ zs[m] ∈ zs.take m := fun z => by
          obtain ⟨i, hi, e⟩ := List.mem_iff_getElem.mp z
          rw [List.length_take] at hi
          rw [List.getElem_take] at e
          have := (List.getElem?_inj (i := i) (j := m) (by omega) nd).mp (by rw [List.getElem?_eq_getElem (by omega), List.getElem?_eq_getElem hml, e])
          omega
        by_cases c2 : (j : Int) = zs[m]
        · rw [if_pos (by omega), decide_eq_true (mem.mpr (.inr c2)), decide_eq_false (by rw [c2]; exact ni)]; rfl
        · rw [if_neg (by omega)]
          by_cases c1 : (j : Int) ∈ zs.take m
          · rw [decide_eq_true (mem.mpr (.inl c1)), decide_eq_true c1]; rfl
          · rw [decide_eq_false (fun z => (mem.mp z).elim c1 c2), decide_eq_false c1]; rfl
      rw [e, Grf.S_add, ih (by omega), Grf.S_one 1 (by omega)]
      push_cast; rfl
  exact key a ha
/-- one at j -/
def at1 (j k : Nat) : Int := if k = j then 1 else 0
theorem step_leJ {n s j : Nat} {a X : Int} {c : Nat → Int} {B : Nat → Bool} (hj : j < n) (ha : S n (fun k => b2 (B k)) = a) (bj : B j = false) (top : ∀ i k, i < n → k < n → k ≠ j → B i = true → B k = false → c k ≤ c i)
    (h1 : X ≤ S n (fun k => mn (s : Int) (c k))) (h2 : (a + 1) + X ≤ S n (fun k => mn ((s + 1 : Nat) : Int) (c k + at1 j k))) : X ≤ S n (fun k => mn (s : Int) (c k - b2 (B k))) := by
  by_cases h : ∃ i, i < n ∧ B i = true ∧ c i ≤ s
  · obtain ⟨i, hi, hb, hc⟩ := h
    have : S n (fun k => mn (s : Int) (c k - b2 (B k))) = S n (fun k => (mn ((s + 1 : Nat) : Int) (c k + at1 j k) - b2 (B k)) - at1 j k) := Grf.S_congr fun k hk => by
      unfold at1
      by_cases e : k = j
      · rw [if_pos e, e, bj]
        show mn (s : Int) (c j - 0) = mn ((s + 1 : Nat) : Int) (c j + 1) - 0 - 1
        unfold mn; push_cast; split <;> split <;> omega
      · rw [if_neg e]
        cases hB : B k with
        | true => show mn (s : Int) (c k - 1) = mn ((s + 1 : Nat) : Int) (c k + 0) - 1 - 0; unfold mn; push_cast; split <;> split <;> omega
        | false =>
          have := top i k hi hk e hb hB
          show mn (s : Int) (c k - 0) = mn ((s + 1 : Nat) : Int) (c k + 0) - 0 - 0
          unfold mn; push_cast; split <;> split <;> omega
    rw [this, Grf.S_sub, Grf.S_sub, ha]
    unfold at1 at h2 ⊢
    rw [Grf.S_one 1 hj]
    omega
  · have : S n (fun k => mn (s : Int) (c k - b2 (B k))) = S n (fun k => mn (s : Int) (c k)) := Grf.S_congr fun k hk => by
      cases hB : B k with
      | true =>
        have : ¬ c k ≤ s := fun z => h ⟨k, hk, hB, z⟩
        show mn (s : Int) (c k - 1) = mn (s : Int) (c k)
        unfold mn; split <;> split <;> omega
      | false => show mn (s : Int) (c k - 0) = mn (s : Int) (c k); rw [Int.sub_zero]
    rw [this]
    exact h1
theorem step_posJ {n j : Nat} {a : Int} {c : Nat → Int} {B : Nat → Bool} (hj : j < n) (ha : S n (fun k => b2 (B k)) = a) (bj : B j = false) (top : ∀ i k, i < n → k < n → k ≠ j → B i = true → B k = false → c k ≤ c i) (h : a + 1 ≤ S n (fun k => mn (1 : Int) (c k + at1 j k))) {i : Nat} (hi : i < n) (hb : B i = true) : 1 ≤ c i := by
  rcases Int.lt_or_le (c i) 1 with z | z
  · exfalso
    have : S n (fun k => mn (1 : Int) (c k + at1 j k)) ≤ S n (fun k => (b2 (B k) + at1 j k) - (if k = i then 1 else 0)) := Grf.S_le fun k hk => by
      unfold at1
      by_cases e : k = i
      · have ej : ¬ k = j := fun q => by rw [← e, q, bj] at hb; cases hb
        rw [if_pos e, if_neg ej, e, hb]
        show mn 1 (c i + 0) ≤ 1 + 0 - 1
        unfold mn; split <;> omega
      · rw [if_neg e]
        by_cases ej : k = j
        · rw [if_pos ej]
          have := Grf.b2_nonneg (B k)
          have : mn 1 (c k + 1) ≤ 1 := by unfold mn; split <;> omega
          omega
        · rw [if_neg ej]
          cases hB : B k with
          | true => show mn 1 (c k + 0) ≤ 1 + 0 - 0; unfold mn; split <;> omega
          | false =>
            have := top i k hi hk ej hb hB
            show mn 1 (c k + 0) ≤ 0 + 0 - 0
            unfold mn; split <;> omega
    rw [Grf.S_sub, Grf.S_add, ha, Grf.S_one 1 hi] at this
    unfold at1 at this h
    rw [Grf.S_one 1 hj] at this
    omega
  · exact z
theorem set_S {C : List Int} {j : Nat} (hj : j < C.length) (φ : Int → Int) : ((C.set j (C.getD j 0 + 1)).map φ).sum = S C.length (fun k => φ (C.getD k 0 + at1 j k)) := by
  rw [← S_list, List.length_set]
  refine Grf.S_congr fun k hk => ?_
  congr 1
  unfold at1
  rw [List.getD_eq_getElem?_getD, List.getElem?_set]
  by_cases e : k = j
  · rw [if_pos e.symm, if_pos e, e, if_pos hj]; rfl
  · rw [if_neg (Ne.symm e), if_neg e, List.getD_eq_getElem?_getD]; omega
theorem sub_mid {A B T : List Int} (x : Int) (h : T.Sublist (A ++ B)) : ∃ U : List Int, U.Sublist (A ++ x :: B) ∧ U.sum = x + T.sum ∧ U.length = T.length + 1 := by
  obtain ⟨T1, T2, rfl, h1, h2⟩ := List.sublist_append_iff.mp h
  refine ⟨T1 ++ x :: T2, h1.append (h2.cons₂ x), ?_, ?_⟩
  · rw [sum_app, sum_app, List.sum_cons]; omega
  · rw [List.length_append, List.length_append, List.length_cons]; omega
theorem sub_out {A B T : List Int} (x : Int) (h : T.Sublist (A ++ B)) : T.Sublist (A ++ x :: B) := h.trans (List.Sublist.append (.refl A) (List.sublist_cons_self x B))
/-- a row put in its place -/
theorem tab_ins {A B C r : List Int} {a : Int} {T : List (List Int)} (h : IsTab (a :: (A ++ B)) C (r :: T)) : IsTab (A ++ a :: B) C (T.take A.length ++ r :: T.drop A.length) := by
  have p : (T.take A.length ++ r :: T.drop A.length).Perm (r :: T) := by
    have := List.perm_middle (a := r) (l₁ := T.take A.length) (l₂ := T.drop A.length)
    rwa [List.take_append_drop] at this
  have hr := h.row
  unfold rsum at hr
  rw [List.map_cons] at hr
  injection hr with hr1 hr2
  have hl := h.rect.1
  rw [List.length_cons, List.length_cons, List.length_append] at hl
  refine ⟨⟨by rw [p.length_eq, List.length_cons, List.length_append, List.length_cons]; omega, fun u hu => h.rect.2 u (p.mem_iff.mp hu)⟩, fun u hu => h.bit u (p.mem_iff.mp hu), ?_, ?_⟩
  · unfold rsum
    rw [List.map_append, List.map_cons, List.map_take, List.map_drop, hr2, hr1, List.take_left', List.drop_left'] <;> rfl
  · refine Eq.trans ?_ h.col
    unfold csum
    refine List.map_congr_left fun j _ => ?_
    exact colS_perm p j
/-- a table with that cell nought -/
theorem cell_tab {A B C : List Int} {a : Int} {j : Nat} (hj : j < C.length) (h1 : IsTw (A ++ a :: B) C .free) (h2 : IsTw (A ++ (a + 1) :: B) (C.set j (C.getD j 0 + 1)) .free) : ∃ T, IsTab (A ++ a :: B) C T ∧ (T.getD A.length []).getD j 0 = 0 := by
  have g1 := grT_free h1
  have g2 := grT_free h2
  have all : ∀ x ∈ A ++ a :: B, 0 ≤ x := fun x hx => by
    obtain ⟨i, hi, e⟩ := List.mem_iff_getElem.mp hx
    exact h1.1 i x (by rw [List.getElem?_eq_getElem hi, e])
  have ha : 0 ≤ a := all a (List.mem_append.mpr (.inr List.mem_cons_self))
  have hc : ∀ k, k < C.length → 0 ≤ C.getD k 0 := fun k hk => h1.2.1 k _ (by rw [List.getD_eq_getElem?_getD, List.getElem?_eq_getElem hk]; rfl)
  obtain ⟨zs, hp, ho⟩ := ord_ex C
  obtain ⟨ws, hws⟩ : ∃ ws, ws = zs.filter fun x => !decide (x = (j : Int)) := ⟨_, rfl⟩
  have wm : ∀ x, x ∈ ws ↔ x ∈ zs ∧ x ≠ (j : Int) := fun x => by rw [hws, List.mem_filter]; simp
  have nd : zs.Nodup := hp.symm.nodup (rng_nodup _)
  have wnd : ws.Nodup := by rw [hws]; exact nd.filter _
  have who : ws.Pairwise (ole C) := by rw [hws]; exact ho.filter _
  have wb : ∀ x ∈ ws, 0 ≤ x ∧ x < (C.length : Int) := fun x hx => rng_mem.mp (hp.mem_iff.mp ((wm x).mp hx).1)
  have e1 : ∀ s : Nat, ∀ T : List Int, T.Sublist (A ++ B) → T.length = s → T.sum ≤ S C.length (fun k => mn (s : Int) (C.getD k 0)) ∧ (a + 1) + T.sum ≤ S C.length (fun k => mn ((s + 1 : Nat) : Int) (C.getD k 0 + at1 j k)) := fun s T hT hs => by
    refine ⟨?_, ?_⟩
    · have := g1 T (sub_out a hT)
      rw [← S_list, hs] at this
      exact this
    · obtain ⟨U, hU, hu1, hu2⟩ := sub_mid (a + 1) hT
      have := g2 U hU
      rw [set_S hj, hu1, hu2, hs] at this
      exact this
  have h0 : a + 1 ≤ S C.length (fun k => mn (1 : Int) (C.getD k 0 + at1 j k)) := by
    have := (e1 0 [] (List.nil_sublist _) rfl).2
    simpa using this
  have hn : a + 1 ≤ C.length := by
    have : S C.length (fun k => mn (1 : Int) (C.getD k 0 + at1 j k)) ≤ S C.length (fun _ => 1) := Grf.S_le fun k hk => by unfold mn; split <;> omega
    rw [Grf.S_const] at this
    omega
  have wl : C.length ≤ ws.length + 1 := by
    have z : zs.length = C.length := by rw [hp.length_eq, rng_len]
    have sub : zs.Subset ((j : Int) :: ws) := fun x hx => by
      by_cases e : x = (j : Int)
      · rw [e]; exact List.mem_cons_self
      · exact List.mem_cons_of_mem _ ((wm x).mpr ⟨hx, e⟩)
    have := List.Nodup.length_le_of_subset nd sub
    rw [List.length_cons] at this
    omega
  have hal : a.toNat ≤ ws.length := by omega
  have cnt : S C.length (fun k => b2 (decide ((k : Int) ∈ ws.take a.toNat))) = a := by rw [cnt_takeN wnd wb hal]; omega
  have nj : ¬ (j : Int) ∈ ws.take a.toNat := fun z => ((wm _).mp (List.mem_of_mem_take z)).2 rfl
  have bj : decide ((j : Int) ∈ ws.take a.toNat) = false := decide_eq_false nj
  have top : ∀ i k, i < C.length → k < C.length → k ≠ j → decide ((i : Int) ∈ ws.take a.toNat) = true → decide ((k : Int) ∈ ws.take a.toNat) = false → C.getD k 0 ≤ C.getD i 0 := fun i k hi hk hkj bi bk => by
    have mi := of_decide_eq_true bi
    have mk := of_decide_eq_false bk
    have hz : (k : Int) ∈ ws.take a.toNat ++ ws.drop a.toNat := by
      rw [List.take_append_drop]
      exact (wm _).mpr ⟨hp.mem_iff.mpr (rng_mem.mpr ⟨by omega, by omega⟩), by omega⟩
    have hd := (List.mem_append.mp hz).resolve_left mk
    rw [← List.take_append_drop a.toNat ws] at who
    have := ole_iff.mp ((List.pairwise_append.mp who).2.2 _ mi _ hd)
    simp only [Int.toNat_natCast] at this
    omega
  have l2 : GR (A ++ B) (lefT C ws a.toNat) := fun T hT => by
    rw [S_left]
    obtain ⟨q1, q2⟩ := e1 T.length T hT rfl
    exact step_leJ hj cnt bj top q1 q2
  have l3 : ∀ k, k < (lefT C ws a.toNat).length → 0 ≤ (lefT C ws a.toNat).getD k 0 := fun k hk => by
    rw [lefT_len] at hk
    rw [lefT_getD hk]
    by_cases h : (k : Int) ∈ ws.take a.toNat
    · rw [if_pos h]
      have := step_posJ hj cnt bj top h0 hk (decide_eq_true h)
      omega
    · rw [if_neg h]
      have := hc k hk
      omega
  have l4 : (A ++ B).sum = (lefT C ws a.toNat).sum := by
    have e := S_left (c := C) (zs := ws) (a := a.toNat) id
    rw [List.map_id] at e
    rw [e]
    show _ = S C.length (fun k => C.getD k 0 - b2 (decide ((k : Int) ∈ ws.take a.toNat)))
    rw [Grf.S_sub, cnt, S_sum]
    have := h1.2.2.1
    rw [sum_app, List.sum_cons] at this
    rw [sum_app]
    omega
  have l5 : (rowT C.length ws a.toNat).sum = a := by
    rw [← S_sum, rowT_len]
    refine Eq.trans ?_ cnt
    refine Grf.S_congr fun k hk => ?_
    rw [rowT_getD hk]
    by_cases h : (k : Int) ∈ ws.take a.toNat
    · rw [if_pos h, decide_eq_true h]; rfl
    · rw [if_neg h, decide_eq_false h]; rfl
  obtain ⟨T, ht⟩ := gr_tab l2 l3 (fun b hb => all b (by
    rcases List.mem_append.mp hb with h | h
    · exact List.mem_append.mpr (.inl h)
    · exact List.mem_append.mpr (.inr (List.mem_cons_of_mem _ h)))) l4
  have t0 : IsTab (a :: (A ++ B)) C (rowT C.length ws a.toNat :: T) := tab_cons ht rfl (fun k hk => by rw [lefT_getD hk, rowT_getD hk]) (rowT_len ..) rowT_bit l5
  refine ⟨_, tab_ins t0, ?_⟩
  have tl : (T.take A.length).length = A.length := by
    rw [List.length_take, ht.rect.1, List.length_append]
    omega
  have er : (T.take A.length ++ rowT C.length ws a.toNat :: T.drop A.length).getD A.length [] = rowT C.length ws a.toNat := by
    rw [List.getD_eq_getElem?_getD, List.getElem?_append_right (by omega), tl, Nat.sub_self]; rfl
  rw [er, rowT_getD hj, if_neg nj]
end Web

namespace Web
open Grf (S b2)
set_option autoImplicit false
set_option linter.all false
theorem set_sum : ∀ {l : List Int} {i : Nat} (v : Int), i < l.length → (l.set i v).sum = l.sum + (v - l.getD i 0)
  | [], _, _, h => absurd h (Nat.not_lt_zero _)
  | x :: l, 0, v, _ => by
    show (v :: l).sum = (x :: l).sum + (v - x)
    rw [List.sum_cons, List.sum_cons]; omega
  | x :: l, i + 1, v, h => by
    have hi : i < l.length := by simpa using h
    show (x :: l.set i v).sum = (x :: l).sum + (v - l.getD i 0)
    rw [List.sum_cons, List.sum_cons, set_sum v hi]; omega
theorem getD_map {T : List (List Int)} {i : Nat} (f : List Int → Int) (h : i < T.length) : (T.map f).getD i 0 = f (T.getD i []) := by
  rw [List.getD_eq_getElem?_getD, List.getElem?_map, List.getD_eq_getElem?_getD, List.getElem?_eq_getElem h]; rfl
theorem colS_set {T : List (List Int)} {i j : Nat} {r : List Int} (h : i < T.length) : colS (T.set i r) j = colS T j + (r.getD j 0 - ent T i j) := by
  unfold colS ent
  rw [List.map_set, set_sum _ (by rw [List.length_map]; exact h), getD_map _ h]
/-- a cell turned about -/
theorem flp_tab {rs cs : List Int} {T : List (List Int)} {i j : Nat} (h : IsTab rs cs T) (hi : i < rs.length) (hj : j < cs.length) :
    IsTab (rs.set i (rs.getD i 0 + (1 - 2 * ent T i j))) (cs.set j (cs.getD j 0 + (1 - 2 * ent T i j))) (flp T i j) := by
  have hl : i < T.length := by rw [h.rect.1]; exact hi
  have hw := rect_row h.rect hi
  have hrow := h.row
  have hcol := h.col
  have hv : ent T i j = 0 ∨ ent T i j = 1 := by
    unfold ent
    rw [List.getD_eq_getElem?_getD, List.getElem?_eq_getElem (by rw [hw]; exact hj)]
    refine h.bit (T.getD i []) ?_ _ (List.getElem_mem _)
    rw [List.getD_eq_getElem?_getD, List.getElem?_eq_getElem hl]
    exact List.getElem_mem hl
  refine ⟨by rw [List.length_set, List.length_set]; exact rect_flp h.rect hi, fun r hr x hx => ?_, ?_, ?_⟩
  · unfold flp at hr
    rcases List.mem_or_eq_of_mem_set hr with hr | rfl
    · exact h.bit r hr x hx
    · rcases List.mem_or_eq_of_mem_set hx with hx | rfl
      · refine h.bit (T.getD i []) ?_ x hx
        rw [List.getD_eq_getElem?_getD, List.getElem?_eq_getElem hl]
        exact List.getElem_mem hl
      · omega
  · unfold rsum flp
    rw [List.map_set, set_sum _ (by rw [hw]; exact hj)]
    unfold rsum at hrow
    rw [hrow]
    congr 1
    have e : (T.getD i []).sum = rs.getD i 0 := by rw [← hrow, getD_map _ hl]
    have e2 : (T.getD i []).getD j 0 = ent T i j := rfl
    rw [e, e2]
    omega
  · rw [List.length_set]
    unfold csum
    refine List.ext_getElem? fun k => ?_
    by_cases hk : k < cs.length
    · rw [List.getElem?_map, List.getElem?_range hk, List.getElem?_set]
      have e0 : colS T k = cs.getD k 0 := by have := csum_getD (T := T) hk; rw [hcol] at this; exact this.symm
      have e1 : ((flp T i j).map fun r => r.getD k 0).sum = colS T k + (((T.getD i []).set j (1 - ent T i j)).getD k 0 - ent T i k) := colS_set hl
      show some ((flp T i j).map fun r => r.getD k 0).sum = _
      rw [e1, e0]
      by_cases e : j = k
      · rw [if_pos e, if_pos hj]
        subst e
        have : ((T.getD i []).set j (1 - ent T i j)).getD j 0 = 1 - ent T i j := by rw [List.getD_eq_getElem?_getD, List.getElem?_set_self (by rw [hw]; exact hj)]; rfl
        rw [this]
        congr 1
        omega
      · rw [if_neg e, List.getElem?_eq_getElem hk]
        have : ((T.getD i []).set j (1 - ent T i j)).getD k 0 = ent T i k := by rw [List.getD_eq_getElem?_getD, List.getElem?_set_ne e, ← List.getD_eq_getElem?_getD]; rfl
        rw [this]
        congr 1
        rw [List.getD_eq_getElem?_getD, List.getElem?_eq_getElem hk]
        show cs[k] + _ = cs[k]
        omega
    · rw [List.getElem?_eq_none (by rw [List.length_map, List.length_range]; omega), List.getElem?_eq_none (by rw [List.length_set]; omega)]
theorem set_split {rs : List Int} {i : Nat} (h : i < rs.length) (v : Int) : rs.set i v = rs.take i ++ v :: rs.drop (i + 1) := List.set_eq_take_append_cons_drop ▸ by rw [if_pos h]
theorem split_at {rs : List Int} {i : Nat} (h : i < rs.length) : rs = rs.take i ++ rs.getD i 0 :: rs.drop (i + 1) := by
  have e : rs.getD i 0 = rs[i] := by rw [List.getD_eq_getElem?_getD, List.getElem?_eq_getElem h]; rfl
  rw [e, ← List.drop_eq_getElem_cons h, List.take_append_drop]
/-- some table has nought there -/
theorem nought_iff {rs cs : List Int} {i j : Nat} (hf : IsTw rs cs .free) (hi : i < rs.length) (hj : j < cs.length) : (∃ T, IsTab rs cs T ∧ ent T i j = 0) ↔ IsTw (rs.set i (rs.getD i 0 + 1)) (cs.set j (cs.getD j 0 + 1)) .free := by
  constructor
  · rintro ⟨T, ht, h0⟩
    have := (flp_tab ht hi hj).free
    rw [h0] at this
    simpa using this
  · intro h
    rw [set_split hi] at h
    have hf' := hf
    rw [split_at hi] at hf'
    obtain ⟨T, ht, h0⟩ := cell_tab hj hf' h
    rw [← split_at hi] at ht
    refine ⟨T, ht, ?_⟩
    have : (rs.take i).length = i := by rw [List.length_take]; omega
    rw [this] at h0
    exact h0
/-- some table has one there -/
theorem one_iff {rs cs : List Int} {i j : Nat} (hf : IsTw rs cs .free) (hi : i < rs.length) (hj : j < cs.length) : (∃ T, IsTab rs cs T ∧ ent T i j = 1) ↔ IsTw (rs.set i (rs.getD i 0 - 1)) (cs.set j (cs.getD j 0 - 1)) .free := by
  constructor
  · rintro ⟨T, ht, h1⟩
    have := (flp_tab ht hi hj).free
    have e : ∀ x : Int, x + (1 - 2 * 1) = x - 1 := fun x => by omega
    rw [h1, e, e] at this
    exact this
  · intro h
    have back : ∀ (l : List Int) (k : Nat), k < l.length → (l.set k (l.getD k 0 - 1)).set k ((l.set k (l.getD k 0 - 1)).getD k 0 + 1) = l := fun l k hk => by
      have e : (l.set k (l.getD k 0 - 1)).getD k 0 = l.getD k 0 - 1 := by rw [List.getD_eq_getElem?_getD, List.getElem?_set_self hk]; rfl
      rw [e, List.set_set, show l.getD k 0 - 1 + 1 = l.getD k 0 by omega]
      have : l.getD k 0 = l[k] := by rw [List.getD_eq_getElem?_getD, List.getElem?_eq_getElem hk]; rfl
      rw [this, List.set_getElem_self]
    obtain ⟨T, ht, h0⟩ := (nought_iff h (by rw [List.length_set]; exact hi) (by rw [List.length_set]; exact hj)).mpr (by rw [back rs i hi, back cs j hj]; exact hf)
    have := flp_tab ht (by rw [List.length_set]; exact hi) (by rw [List.length_set]; exact hj)
    rw [h0] at this
    simp only [Int.mul_zero, Int.sub_zero] at this
    rw [back rs i hi, back cs j hj] at this
    refine ⟨_, this, ?_⟩
    rw [ent_flp ht.rect (by rw [List.length_set]; exact hi) (by rw [List.length_set]; exact hj), if_pos ⟨rfl, rfl⟩, h0]
    rfl
end Web

namespace Web
set_option autoImplicit false
set_option linter.all false
/-! ### all tables, row by row -/
def Bits (r : List Int) : Prop := ∀ x ∈ r, x = 0 ∨ x = 1
theorem snoc_ex {α : Type} {l : List α} {n : Nat} (h : l.length = n + 1) : ∃ (l' : List α) (x : α), l = l' ++ [x] := by
  refine ⟨l.take n, l[n], ?_⟩
  have e := List.take_add_one (l := l) (i := n)
  rw [List.take_of_length_le (by omega), List.getElem?_eq_getElem (by omega)] at e
  exact e
def rowsI (many : Int) (left : List Int) : Nat → List (List Int)
  | 0 => [[]]
  | i + 1 => (rowsI many left i).flatMap fun r => (r ++ [0]) :: (if 0 < left.getD i 0 ∧ r.sum < many then [r ++ [1]] else [])
def rowsR (many : Int) (left : List Int) : List (List Int) := (rowsI many left left.length).filter fun r => decide (r.sum = many)
theorem bits_app {r : List Int} {x : Int} : Bits (r ++ [x]) ↔ Bits r ∧ (x = 0 ∨ x = 1) := by
  unfold Bits
  constructor
  · intro h
    exact ⟨fun y hy => h y (List.mem_append.mpr (.inl hy)), h x (List.mem_append.mpr (.inr List.mem_cons_self))⟩
  · rintro ⟨h1, h2⟩ y hy
    rcases List.mem_append.mp hy with hy | hy
    · exact h1 y hy
    · rw [List.mem_singleton.mp hy]; exact h2
theorem getD_app_lt {r s : List Int} {j : Nat} (h : j < r.length) : (r ++ s).getD j 0 = r.getD j 0 := by
  rw [List.getD_eq_getElem?_getD, List.getElem?_append_left h, List.getD_eq_getElem?_getD]
theorem getD_app_eq {r : List Int} {x : Int} : (r ++ [x]).getD r.length 0 = x := by
  rw [List.getD_eq_getElem?_getD, List.getElem?_append_right (Nat.le_refl _), Nat.sub_self]; rfl
theorem rowsI_mem (many : Int) (left : List Int) : ∀ (i : Nat) (r : List Int), r ∈ rowsI many left i ↔ r.length = i ∧ Bits r ∧ (∀ j, j < i → r.getD j 0 = 1 → 0 < left.getD j 0) ∧ (r.sum = 0 ∨ r.sum ≤ many)
  | 0, r => by
    unfold rowsI
    rw [List.mem_singleton]
    constructor
    · rintro rfl
      exact ⟨rfl, fun x h => absurd h List.not_mem_nil, fun j h => absurd h (Nat.not_lt_zero _), .inl rfl⟩
    · rintro ⟨h, _⟩
      exact List.length_eq_zero_iff.mp h
  | i + 1, r => by
    unfold rowsI
    rw [List.mem_flatMap]
    constructor
    · rintro ⟨r', h1, h2⟩
      obtain ⟨a1, a2, a3, a4⟩ := (rowsI_mem many left i r').mp h1
      have key : ∀ x : Int, (x = 0 ∨ x = 1) → (x = 1 → 0 < left.getD i 0) → ((r' ++ [x]).sum = 0 ∨ (r' ++ [x]).sum ≤ many) → (r' ++ [x]).length = i + 1 ∧ Bits (r' ++ [x]) ∧ (∀ j, j < i + 1 → (r' ++ [x]).getD j 0 = 1 → 0 < left.getD j 0) ∧ ((r' ++ [x]).sum = 0 ∨ (r' ++ [x]).sum ≤ many) := fun x hx hp hs => by
        refine ⟨by rw [List.length_append, a1]; rfl, bits_app.mpr ⟨a2, hx⟩, fun j hj e => ?_, hs⟩
        by_cases hji : j = i
        · rw [hji, ← a1, getD_app_eq] at e
          rw [hji]
          exact hp e
        · rw [getD_app_lt (by omega)] at e
          exact a3 j (by omega) e
      rcases List.mem_cons.mp h2 with rfl | h2
      · exact key 0 (.inl rfl) (fun z => absurd z (by decide)) (by rw [sum_app]; simpa using a4)
      · split at h2
        · rename_i hc
          rw [List.mem_singleton.mp h2]
          refine key 1 (.inr rfl) (fun _ => hc.1) (.inr ?_)
          rw [sum_app]
          have := hc.2
          show r'.sum + 1 ≤ many
          omega
        · exact absurd h2 List.not_mem_nil
    · rintro ⟨b1, b2, b3, b4⟩
      obtain ⟨r', x, rfl⟩ : ∃ (r' : List Int) (x : Int), r = r' ++ [x] := snoc_ex b1
      have l1 : r'.length = i := by rw [List.length_append] at b1; simpa using b1
      obtain ⟨c1, c2⟩ := bits_app.mp b2
      have s0 := bit_sum c1
      rw [sum_app] at b4
      have b4' : r'.sum + x = 0 ∨ r'.sum + x ≤ many := by simpa using b4
      refine ⟨r', (rowsI_mem many left i r').mpr ⟨l1, c1, fun j hj e => b3 j (by omega) (by rw [getD_app_lt (by omega)]; exact e), by omega⟩, ?_⟩
      rcases c2 with rfl | rfl
      · exact List.mem_cons_self
      · refine List.mem_cons_of_mem _ ?_
        rw [if_pos ⟨b3 i (by omega) (by rw [← l1, getD_app_eq]), by omega⟩]
        exact List.mem_cons_self
theorem rowsI_len (many : Int) (left : List Int) : ∀ i, (rowsI many left i).length ≤ 2 ^ i
  | 0 => Nat.le_refl _
  | i + 1 => by
    unfold rowsI
    have ih := rowsI_len many left i
    have : ∀ L : List (List Int), (L.flatMap fun r => (r ++ [0]) :: (if 0 < left.getD i 0 ∧ r.sum < many then [r ++ [1]] else [])).length ≤ 2 * L.length := fun L => by
      induction L with
      | nil => exact Nat.le_refl _
      | cons r L ihL =>
        have b : ((r ++ [0]) :: (if 0 < left.getD i 0 ∧ r.sum < many then [r ++ [1]] else [])).length ≤ 2 := by split <;> simp
        rw [List.flatMap_cons, List.length_append, List.length_cons (as := L)]
        omega
    have := this (rowsI many left i)
    rw [Nat.pow_succ]
    omega
theorem rowsR_mem {many : Int} {left r : List Int} : r ∈ rowsR many left ↔ r.length = left.length ∧ Bits r ∧ (∀ j, j < left.length → r.getD j 0 = 1 → 0 < left.getD j 0) ∧ r.sum = many := by
  unfold rowsR
  rw [List.mem_filter, rowsI_mem]
  constructor
  · rintro ⟨⟨h1, h2, h3, _⟩, h5⟩
    exact ⟨h1, h2, h3, of_decide_eq_true h5⟩
  · rintro ⟨h1, h2, h3, h4⟩
    exact ⟨⟨h1, h2, h3, .inr (by omega)⟩, decide_eq_true h4⟩
def subL (l r : List Int) : List Int := (List.range l.length).map fun k => l.getD k 0 - r.getD k 0
theorem subL_len (l r : List Int) : (subL l r).length = l.length := by unfold subL; rw [List.length_map, List.length_range]
def allI (rows cols : List Int) : Nat → List (List (List Int) × List Int)
  | 0 => [([], cols)]
  | i + 1 => (allI rows cols i).flatMap fun p => (rowsR (rows.getD i 0) p.2).map fun r => (p.1 ++ [r], subL p.2 r)
/-- what is left of the columns behind the rows of T -/
def lftC (cols : List Int) (T : List (List Int)) : List Int := (List.range cols.length).map fun j => cols.getD j 0 - colS T j
theorem lftC_getD {cols : List Int} {T : List (List Int)} {j : Nat} (h : j < cols.length) : (lftC cols T).getD j 0 = cols.getD j 0 - colS T j := by unfold lftC; rw [rng_getD _ h]
theorem lftC_len (cols : List Int) (T : List (List Int)) : (lftC cols T).length = cols.length := by unfold lftC; rw [List.length_map, List.length_range]
theorem lftC_sub (cols : List Int) (T : List (List Int)) (r : List Int) : subL (lftC cols T) r = lftC cols (T ++ [r]) := by
  unfold subL
  rw [lftC_len]
  unfold lftC
  refine List.map_congr_left fun j hj => ?_
  rw [rng_getD _ (List.mem_range.mp hj), colS_app]
  have : colS [r] j = r.getD j 0 := by unfold colS; simp
  rw [this]
  omega
theorem allI_mem {rows cols : List Int} : ∀ {i : Nat}, i ≤ rows.length → ∀ (T : List (List Int)) (l : List Int), (T, l) ∈ allI rows cols i ↔ T.length = i ∧ (∀ r ∈ T, r.length = cols.length) ∧ (∀ r ∈ T, Bits r) ∧ rsum T = rows.take i ∧ l = lftC cols T ∧ ∀ k, k < i → ∀ j, j < cols.length → (T.getD k []).getD j 0 = 1 → 0 < (lftC cols (T.take k)).getD j 0
  | 0, _, T, l => by
    unfold allI
    rw [List.mem_singleton]
    have e : lftC cols [] = cols := by
      refine List.ext_getElem? fun j => ?_
      unfold lftC
      by_cases hj : j < cols.length
      · rw [List.getElem?_map, List.getElem?_range hj, List.getElem?_eq_getElem hj]
        show some (cols.getD j 0 - colS [] j) = some cols[j]
        rw [List.getD_eq_getElem?_getD, List.getElem?_eq_getElem hj]
        unfold colS
        simp
      · rw [List.getElem?_eq_none (by rw [List.length_map, List.length_range]; omega), List.getElem?_eq_none (by omega)]
    constructor
    · intro h
      injection h with h1 h2
      subst h1 h2
      exact ⟨rfl, fun r h => absurd h List.not_mem_nil, fun r h => absurd h List.not_mem_nil, rfl, e.symm, fun k h => absurd h (Nat.not_lt_zero _)⟩
    · rintro ⟨h1, _, _, _, h5, _⟩
      obtain rfl := List.length_eq_zero_iff.mp h1
      rw [h5, e]
  | i + 1, hi, T, l => by
    unfold allI
    rw [List.mem_flatMap]
    have hr : rows.take (i + 1) = rows.take i ++ [rows.getD i 0] := by
      rw [List.take_add_one, List.getD_eq_getElem?_getD, List.getElem?_eq_getElem (by omega)]; rfl
    constructor
    · rintro ⟨⟨T', l'⟩, h1, h2⟩
      obtain ⟨r, hr1, e⟩ := List.mem_map.mp h2
      injection e with e1 e2
      subst e1 e2
      obtain ⟨a1, a2, a3, a4, a5, a6⟩ := (allI_mem (i := i) (by omega) T' l').mp h1
      subst a5
      obtain ⟨c1, c2, c3, c4⟩ := rowsR_mem.mp hr1
      rw [lftC_len] at c1 c3
      refine ⟨by rw [List.length_append, a1]; rfl, fun u hu => ?_, fun u hu => ?_, ?_, lftC_sub .., fun k hk j hj e => ?_⟩
      · rcases List.mem_append.mp hu with hu | hu
        · exact a2 u hu
        · rw [List.mem_singleton.mp hu]; exact c1
      · rcases List.mem_append.mp hu with hu | hu
        · exact a3 u hu
        · rw [List.mem_singleton.mp hu]; exact c2
      · unfold rsum at a4 ⊢
        rw [List.map_append, a4, hr]
        show _ ++ [r.sum] = _
        rw [c4]
      · by_cases hki : k = i
        · have t1 : (T' ++ [r]).getD k [] = r := by rw [List.getD_eq_getElem?_getD, hki, ← a1, List.getElem?_append_right (Nat.le_refl _), Nat.sub_self]; rfl
          have t2 : (T' ++ [r]).take k = T' := by rw [hki, ← a1, List.take_left']; rfl
          rw [t1] at e
          rw [t2]
          exact c3 j hj e
        · have t1 : (T' ++ [r]).getD k [] = T'.getD k [] := by rw [List.getD_eq_getElem?_getD, List.getElem?_append_left (by omega), List.getD_eq_getElem?_getD]
          have t2 : (T' ++ [r]).take k = T'.take k := List.take_append_of_le_length (by omega)
          rw [t1] at e
          rw [t2]
          exact a6 k (by omega) j hj e
    · rintro ⟨b1, b2, b3, b4, b5, b6⟩
      obtain ⟨T', r, rfl⟩ : ∃ (T' : List (List Int)) (r : List Int), T = T' ++ [r] := snoc_ex b1
      have l1 : T'.length = i := by rw [List.length_append] at b1; simpa using b1
      unfold rsum at b4
      rw [List.map_append, hr] at b4
      have l2 : (T'.map List.sum).length = (rows.take i).length := by rw [List.length_map, List.length_take]; omega
      obtain ⟨q1, q2⟩ := List.append_inj b4 l2
      have q2' : r.sum = rows.getD i 0 := by injection q2
      refine ⟨(T', lftC cols T'), (allI_mem (i := i) (by omega) T' _).mpr ⟨l1, fun u hu => b2 u (List.mem_append.mpr (.inl hu)), fun u hu => b3 u (List.mem_append.mpr (.inl hu)), q1, rfl, fun k hk j hj e => ?_⟩, List.mem_map.mpr ⟨r, rowsR_mem.mpr ⟨?_, b3 r (List.mem_append.mpr (.inr List.mem_cons_self)), fun j hj e => ?_, q2'⟩, ?_⟩⟩
      · have t1 : (T' ++ [r]).getD k [] = T'.getD k [] := by rw [List.getD_eq_getElem?_getD, List.getElem?_append_left (by omega), List.getD_eq_getElem?_getD]
        have := b6 k (by omega) j hj (by rw [t1]; exact e)
        rw [List.take_append_of_le_length (by omega)] at this
        exact this
      · rw [lftC_len]; exact b2 r (List.mem_append.mpr (.inr List.mem_cons_self))
      · rw [lftC_len] at hj
        have t1 : (T' ++ [r]).getD i [] = r := by rw [List.getD_eq_getElem?_getD, ← l1, List.getElem?_append_right (Nat.le_refl _), Nat.sub_self]; rfl
        have := b6 i (by omega) j hj (by rw [t1]; exact e)
        rw [← l1, List.take_left' rfl] at this
        exact this
      · rw [b5, lftC_sub]
theorem allI_len {rows cols : List Int} {wi : Nat} (hw : cols.length = wi) : ∀ {i : Nat}, i ≤ rows.length → (allI rows cols i).length ≤ (2 ^ wi) ^ i
  | 0, _ => Nat.le_refl _
  | i + 1, hi => by
    have ih := allI_len (rows := rows) (cols := cols) hw (i := i) (by omega)
    unfold allI
    have : ∀ L : List (List (List Int) × List Int), (∀ p ∈ L, p.2.length = wi) → (L.flatMap fun p => (rowsR (rows.getD i 0) p.2).map fun r => (p.1 ++ [r], subL p.2 r)).length ≤ 2 ^ wi * L.length := fun L => by
      induction L with
      | nil => intro _; exact Nat.le_refl _
      | cons p L ihL =>
        intro hL
        rw [List.flatMap_cons, List.length_append, List.length_cons, List.length_map]
        have a := ihL fun q hq => hL q (List.mem_cons_of_mem _ hq)
        have b : (rowsR (rows.getD i 0) p.2).length ≤ 2 ^ wi := by
          unfold rowsR
          have c := rowsI_len (rows.getD i 0) p.2 p.2.length
          rw [hL p List.mem_cons_self] at c
          refine Nat.le_trans (List.length_filter_le ..) ?_
          rw [hL p List.mem_cons_self]
          exact c
        rw [Nat.mul_add, Nat.mul_one]
        omega
    have h := this (allI rows cols i) fun p hp => by
      obtain ⟨_, _, _, _, e, _⟩ := (allI_mem (i := i) (by omega) p.1 p.2).mp hp
      rw [e, lftC_len, hw]
    rw [Nat.pow_succ, Nat.mul_comm]
    exact Nat.le_trans h (Nat.mul_le_mul_left _ ih)
def allT (rows cols : List Int) : List (List (List Int)) := ((allI rows cols rows.length).filter fun p => p.2.all fun x => decide (x = 0)).map (·.1)
theorem allT_mem {rows cols : List Int} {T : List (List Int)} : T ∈ allT rows cols ↔ IsTab rows cols T := by
  unfold allT
  rw [List.mem_map]
  constructor
  · rintro ⟨⟨T', l⟩, h, rfl⟩
    obtain ⟨h1, h2⟩ := List.mem_filter.mp h
    obtain ⟨a1, a2, a3, a4, a5, _⟩ := (allI_mem (Nat.le_refl _) T' l).mp h1
    rw [List.take_length] at a4
    refine ⟨⟨a1, a2⟩, a3, a4, ?_⟩
    unfold csum
    refine List.ext_getElem? fun j => ?_
    by_cases hj : j < cols.length
    · rw [List.getElem?_map, List.getElem?_range hj, List.getElem?_eq_getElem hj]
      have z : l.getD j 0 = 0 := by
        rw [List.all_eq_true] at h2
        have hjl : j < l.length := by rw [a5, lftC_len]; exact hj
        rw [List.getD_eq_getElem?_getD, List.getElem?_eq_getElem hjl]
        exact of_decide_eq_true (h2 _ (List.getElem_mem hjl))
      rw [a5, lftC_getD hj, List.getD_eq_getElem?_getD, List.getElem?_eq_getElem hj] at z
      have z' : cols[j] - colS T' j = 0 := z
      show some (colS T' j) = some cols[j]
      congr 1
      omega
    · rw [List.getElem?_eq_none (by rw [List.length_map, List.length_range]; omega), List.getElem?_eq_none (by omega)]
  · intro h
    have hc : ∀ j, j < cols.length → cols.getD j 0 = colS T j := fun j hj => by
      have := csum_getD (T := T) hj
      rw [h.col] at this
      exact this
    refine ⟨(T, lftC cols T), List.mem_filter.mpr ⟨(allI_mem (Nat.le_refl _) T _).mpr ⟨h.rect.1, h.rect.2, h.bit, by rw [List.take_length]; exact h.row, rfl, fun k hk j hj e => ?_⟩, ?_⟩, rfl⟩
    · rw [lftC_getD hj, hc j hj]
      have c := colS_app (T.take k) (T.drop k) j
      rw [List.take_append_drop] at c
      have hkT : k < T.length := by rw [h.rect.1]; exact hk
      rw [List.drop_eq_getElem_cons hkT] at c
      have c2 := colS_app [T[k]] (T.drop (k + 1)) j
      have e2 : colS [T[k]] j = 1 := by
        have t1 : T.getD k [] = T[k] := by rw [List.getD_eq_getElem?_getD, List.getElem?_eq_getElem hkT]; rfl
        rw [t1] at e
        unfold colS
        simpa using e
      have c3 := (colS_bit (T := T.drop (k + 1)) (fun r hr => h.bit r (List.mem_of_mem_drop hr)) j).1
      have c4 : colS (T[k] :: T.drop (k + 1)) j = colS [T[k]] j + colS (T.drop (k + 1)) j := c2
      omega
    · show (lftC cols T).all _ = true
      rw [List.all_eq_true]
      intro x hx
      unfold lftC at hx
      obtain ⟨j, hj, rfl⟩ := List.mem_map.mp hx
      have := hc j (List.mem_range.mp hj)
      exact decide_eq_true (by omega)
end Web

namespace Web
open L2
set_option autoImplicit false
set_option linter.all false
open Grf (S b2 Gph deg setE)
theorem pair_in {n i j : Nat} (h1 : i < j) (h2 : j < n) : [(i : Int), (j : Int)] ∈ pairsN n := by
  unfold pairsN
  refine List.mem_flatMap.mpr ⟨i, List.mem_range.mpr (by omega), ?_⟩
  unfold rowF
  exact List.mem_map.mpr ⟨j - (i + 1), List.mem_range.mpr (by omega), by
    rw [show ((j - (i + 1) : Nat) : Int) = (j : Int) - ((i : Int) + 1) by omega]
    rw [show (i : Int) + 1 + ((j : Int) - ((i : Int) + 1)) = (j : Int) by omega]⟩
end Web

namespace L2
open PySem PySem.Spec PyProof.Rows
set_option autoImplicit false
set_option linter.all false
section
variable {X : Cx}
/-- () + u is u; else as op_catT -/
def rCatT0 (K : PySem.W.Frag) : R2 := fun x y H Q => ∃ a b xs ys, x = .ref a ∧ y = .ref b ∧ SqT K H a xs ∧ SqT K H b ys ∧ ys ≠ [] ∧ xs.length + ys.length ≤ sizeLine ∧
  (xs = [] → Q (.ref b) H) ∧ (xs ≠ [] → ∀ p, H p = none → Q (.ref p) (upd H p (.tup (xs ++ ys))))
theorem op_catT0 : OpR X (binaryOp .Add) (rCatT0 X.K) := by
  intro pins s σ H x y v u Q I rx ry h
  obtain ⟨a, b, xs, ys, e1, e2, ha, hb, hy, hz, q1, q2⟩ := h
  by_cases hx : xs = []
  · subst e1 e2
    cases rx
    cases ry
    obtain ⟨its, r1, p1, _⟩ := I.tuple ha
    obtain ⟨its2, r2, p2, _⟩ := I.tuple hb
    have hv : its = [] := r1.nil_iff.mpr hx
    obtain ⟨⟨cls, dd, data, sl⟩, ho, hc, n, hd⟩ := id p1
    obtain ⟨⟨cls2, dd2, data2, sl2⟩, ho2, hc2, n2, hd2⟩ := id p2
    simp only at hc hd hc2 hd2
    subst hc hd hc2 hd2
    exact concat_meets ⟨_, ho, rfl⟩ ⟨_, ho2, rfl⟩ noFill_tuple_add seq_tuple_add PySem.F.slot_tuple_add PySem.F.entry_tuple_add (PySem.F.args_tuple_add_2 _ _)
      (tuple_addW0 a b its.toArray its2.toArray n n2 dd dd2 sl sl2 (by simp [hv])) ⟨ho, ho2, ⟨.ref b, H, I, rfl, q1 hx⟩⟩
  · exact op_catT pins s σ H x y v u Q I rx ry ⟨a, b, xs, ys, e1, e2, ha, hb, hx, hz, fun z => absurd z hy, fun _ => q2 hx⟩
theorem call_sumTK (K : PySem.W.Frag) (hK : X.K = K) (hc : X.calm = true) : CallR X (.builtin "sum") (fun xs H Q => ∃ (p : Addr) (ns : List Int), xs = [.ref p] ∧ SqT K H p (ns.map V.int) ∧ Q (.int ns.sum) H) := by subst hK; exact call_sumT hc
end
end L2

namespace L2
open PySem PySem.Spec PyProof.Rows
set_option autoImplicit false
set_option linter.all false
theorem bstL_le (f : Nat → Int) : ∀ (n j : Nat), j ≤ n → f (argBest (fun i j => decide (f i < f j)) n) ≤ f j
  | 0, j, h => by rw [Nat.le_zero.mp h]; exact Int.le_refl _
  | n + 1, j, h => by
    unfold argBest
    have ih := bstL_le f n
    by_cases hb : f (n + 1) < f (argBest (fun i j => decide (f i < f j)) n)
    · rw [if_pos (decide_eq_true hb)]
      rcases Nat.lt_or_ge j (n + 1) with l | l
      · have := ih j (by omega); omega
      · rw [show j = n + 1 by omega]; exact Int.le_refl _
    · rw [if_neg (fun z => hb (of_decide_eq_true z))]
      rcases Nat.lt_or_ge j (n + 1) with l | l
      · exact ih j (by omega)
      · rw [show j = n + 1 by omega]; omega
theorem bstL_lt (bt : Nat → Nat → Bool) : ∀ n : Nat, argBest bt n ≤ n
  | 0 => Nat.le_refl _
  | n + 1 => by
    unfold argBest
    have := bstL_lt bt n
    split <;> omega
section
variable {X : Cx}
/-- min(a list of ints) -/
theorem call_minL (hc : X.calm = true) : CallR X (.builtin "min") (fun xs H Q => ∃ (p : Addr) (ns : List Int), xs = [.ref p] ∧ SqL X.K H p (ns.map V.int) ∧ 0 < ns.length ∧ ∀ m : Int, m ∈ ns → (∀ x ∈ ns, m ≤ x) → Q (.int m) H) := by
  intro pins s σ H xs us Q I r h
  obtain ⟨p, ns, rfl, hq, hn, q⟩ := h
  obtain ⟨u, rfl, rx⟩ := vals1 r
  cases rx
  obtain ⟨its, r', pl, hz⟩ := I.list hq
  have hlen : its.length = ns.length := by rw [← r'.length, List.length_map]
  have hi : IntsAre its ns := intsAre_of r'
  obtain ⟨ys, e⟩ := hi.allInts.items
  have hT : s.heap.IsList p (intItems ys) := by rw [← e]; exact pl.isList
  have hsz : (intItems ys).size = ns.length := by rw [← e, List.size_toArray, hlen]
  have hnum : ∀ j, j < ns.length → numAt ys j = ns.getD j 0 := fun j hj => by
    have hx : (ns.map V.int)[j]? = some (.int (ns.getD j 0)) := by simp [hj]
    obtain ⟨v, hv, t, rfl⟩ := r'.get hx
    have hv' : (intItems ys)[j]? = some (.int (ns.getD j 0) t) := by rw [← e]; simpa using hv
    obtain ⟨t', ht'⟩ := intItems_at hv'
    injection ht' with h1 _
    exact h1.symm
  have hpl : p < s.heap.objs.size := by
    obtain ⟨o, ho, _⟩ := hT
    exact Heap.lt_size ho
  refine call_min_walk (wpAny_pyIter_list hT ?_)
  refine ⟨_, [_, p], [_], _, _, _, _, rfl, Walks.list (A := X.A.in1) (I.ok.hd hc) _ p (Nat.ne_of_lt hpl) (intItems ys),
    ⟨⟨_, Heap.get?_push_size _ rfl, rfl, rfl⟩, hT.push _⟩, fun c hc' => ?_, by rw [hsz]; exact hn, CmpOf.ints_lt (numAt ys) (fun _ _ => intItems_at), fun v h' tk hP hk => ?_⟩
  · show c < (s.heap.push _).objs.size
    rw [Heap.size_push]
    rcases List.mem_cons.mp hc' with rfl | hc'
    · exact Nat.lt_succ_self _
    · rcases List.mem_cons.mp hc' with rfl | hc'
      · exact Nat.lt_succ_of_lt hpl
      · cases hc'
  · have hold : ∀ c o, s.heap.get? c = some o → h'.get? c = some o := fun c o e => by
      refine hk c o (fun hm => ?_) (Heap.get?_push_of_some _ e)
      rcases List.mem_cons.mp hm with e1 | hm
      · exact absurd (Heap.lt_size e) (by rw [e1]; exact Nat.lt_irrefl _)
      · cases hm
    obtain ⟨t, rfl⟩ := intItems_at hP
    have hb := bstL_lt (fun i j => decide (numAt ys i < numAt ys j)) ((intItems ys).size - 1)
    have hbl : argBest (fun i j => decide (numAt ys i < numAt ys j)) ((intItems ys).size - 1) < ns.length := by rw [hsz] at hb ⊢; omega
    refine ⟨.int _, H, I.kept (t' := tk) hold, ⟨t, rfl⟩, q _ ?_ fun x hx => ?_⟩
    · rw [hnum _ hbl, List.getD_eq_getElem?_getD, List.getElem?_eq_getElem hbl]
      exact List.getElem_mem hbl
    · obtain ⟨j, hj, rfl⟩ := List.mem_iff_getElem.mp hx
      have := bstL_le (numAt ys) ((intItems ys).size - 1) j (by rw [hsz]; omega)
      rw [hnum j hj, List.getD_eq_getElem?_getD, List.getElem?_eq_getElem hj] at this
      exact this
end
end L2

namespace Web
open PySem L2
set_option autoImplicit false
set_option linter.all false
/-! ### tuples on the heap; pairs gone through -/
def TupH (H : Hp) (ys : List V) (ks : List (List Int)) : Prop := Paired (fun y k => ∃ a, y = V.ref a ∧ H a = some (.tup (k.map V.int))) ys ks
theorem TupH.len {H : Hp} {ys : List V} {ks : List (List Int)} (t : TupH H ys ks) : ys.length = ks.length := Paired.length t
theorem TupH.tups {K : PySem.W.Frag} {H : Hp} {ys : List V} {ks : List (List Int)} (t : TupH H ys ks) : Tups K H ys ks := Paired.mapP t fun _ _ ⟨a, e, h⟩ => ⟨a, e, SqT.of h⟩
theorem TupH.same {H H' : Hp} {ys : List V} {ks : List (List Int)} (t : TupH H ys ks) (s : Same H H') : TupH H' ys ks := Paired.mapP t fun _ _ ⟨a, e, h⟩ => ⟨a, e, s _ _ h⟩
theorem TupH.updL {H : Hp} {l : Addr} {xs zs ys : List V} {ks : List (List Int)} (t : TupH H ys ks) (hl : H l = some (.lst xs)) : TupH (upd H l (.lst zs)) ys ks := Paired.mapP t fun _ _ ⟨a, e, h⟩ => ⟨a, e, by rw [upd_ne (fun z => by rw [z, hl] at h; cases h)]; exact h⟩
theorem TupH.one {H : Hp} {a : Addr} {k : List Int} (h : H a = some (.tup (k.map V.int))) : TupH H [.ref a] [k] := .cons ⟨a, rfl, h⟩ .nil
theorem TupH.append {H : Hp} : ∀ {ys zs : List V} {ks ls : List (List Int)}, TupH H ys ks → TupH H zs ls → TupH H (ys ++ zs) (ks ++ ls)
  | _, _, _, _, .nil, u => u
  | _, _, _, _, .cons r t, u => .cons r (TupH.append t u)
theorem TupH.get {H : Hp} : ∀ {ys : List V} {ks : List (List Int)} {i : Nat} {y : V}, TupH H ys ks → ys[i]? = some y → ∃ a k, y = V.ref a ∧ ks[i]? = some k ∧ H a = some (.tup (k.map V.int))
  | _, _, _, _, .nil, h => by cases h
  | _, _, 0, _, .cons ⟨a, e, r⟩ t, h => by cases h; exact ⟨a, _, e, rfl, r⟩
  | _, _, i + 1, _, .cons r t, h => TupH.get t (i := i) h
theorem TupH.get' {H : Hp} {ys : List V} {ks : List (List Int)} {i : Nat} {k : List Int} (t : TupH H ys ks) (h : ks[i]? = some k) : ∃ a, ys[i]? = some (V.ref a) ∧ H a = some (.tup (k.map V.int)) := by
  have hi : i < ys.length := by
    rw [t.len]
    exact (List.getElem?_eq_some_iff.mp h).1
  obtain ⟨a, k', e, h2, h3⟩ := t.get (List.getElem?_eq_getElem hi)
  rw [h] at h2
  cases h2
  exact ⟨a, by rw [List.getElem?_eq_getElem hi, e], h3⟩
/-- the pair a, b was met before the pair i, j -/
def Pr (i j a b : Nat) : Prop := a < i ∨ (a = i ∧ b < j)
/-- what the pairs met so far left: gs the group -/
structure WebI (n : Nat) (G : Nat → Int) (i j : Nat) (ks : List (List Int)) : Prop where
  nd : ks.Nodup
  up : ∀ k ∈ ks, ∃ a b : Nat, k = [(a : Int), (b : Int)] ∧ a < b ∧ b < n ∧ Pr i j a b ∧ G a + G b ≠ 0
  all : ∀ a b : Nat, a < b → b < n → Pr i j a b → G a + G b = 2 → [(a : Int), (b : Int)] ∈ ks
theorem WebI.zero (n : Nat) (G : Nat → Int) : WebI n G 0 0 [] := ⟨.nil, fun k hk => absurd hk List.not_mem_nil, fun a b _ _ h _ => by unfold Pr at h; omega⟩
theorem WebI.skip {n i j : Nat} {G : Nat → Int} {ks : List (List Int)} (h : WebI n G i j ks) (g : G i + G j ≠ 2) : WebI n G i (j + 1) ks :=
  ⟨h.nd, fun k hk => by
    obtain ⟨a, b, e, h1, h2, h3, h4⟩ := h.up k hk
    exact ⟨a, b, e, h1, h2, by unfold Pr at h3 ⊢; omega, h4⟩, fun a b h1 h2 h3 h4 => h.all a b h1 h2 (by
      unfold Pr at h3 ⊢
      by_cases z : a = i ∧ b = j
      · rw [z.1, z.2] at h4
        exact absurd h4 g
      · omega) h4⟩
theorem WebI.len {n i j : Nat} {G : Nat → Int} {ks : List (List Int)} (h : WebI n G i j ks) (hn : n ≤ 24) : ks.length ≤ 300 := by
  have : ks.length ≤ (pairsN n).length := by
    refine List.Nodup.length_le_of_subset h.nd fun k hk => ?_
    obtain ⟨a, b, e, h1, h2, _⟩ := h.up k hk
    rw [e]
    exact pair_in h1 h2
  have := len_pairs n hn
  omega
end Web

namespace Web
open PySem L2
set_option autoImplicit false
set_option linter.all false
def top (i : Nat) : Stmt := PySem.Challenge.pw_tallyweb_k46_whole_cells_of_all_tables.main.body.getD i (.Pass ⟨0, 0, 0, 0⟩)
abbrev sCellS : Stmt := top 29
abbrev sMixS : Stmt := top 30
abbrev sBit : Stmt := top 32
abbrev sTab : Stmt := top 33
abbrev sSumsT : Stmt := top 34
abbrev sLaw : Stmt := top 40
abbrev sFall : Stmt := top 14
abbrev sBelow : Stmt := top 15
abbrev sChS : Stmt := top 20
abbrev sRoomF : Stmt := top 21
abbrev sWoS : Stmt := top 22
abbrev sTof : Stmt := top 25
abbrev sChT : Stmt := top 10
abbrev sIsP : Stmt := top 7
abbrev sChk : Stmt := top 8
abbrev sMov : Stmt := top 12
abbrev sWoM : Stmt := top 26
abbrev sCTd : Stmt := top 27
abbrev sRowsOf : Stmt := top 36
abbrev sAllOf : Stmt := top 37
abbrev sAsk : Stmt := top 38
abbrev sCellsR : Stmt := top 39
/-- what stands at the top -/
structure Bn (mg : Str → Option Value) : Prop where
  len : mg "len" = none
  range : mg "range" = none
  enum : mg "enumerate" = none
  list : mg "list" = none
  tuple : mg "tuple" = none
  sorted : mg "sorted" = none
  set : mg "set" = none
  isin : mg "isinstance" = none
  int : mg "int" = none
  bool : mg "bool" = none
  min : mg "min" = none
  max : mg "max" = none
  sum : mg "sum" = none
  str : mg "str" = none
  ve : mg "ValueError" = none
theorem sl1000 : 1000 ≤ sizeLine := by decide
theorem same_upd {H : Hp} {l : Addr} {o : HO} (h : H l = none) : Same H (upd H l o) := fun b u e => by
  rw [upd_ne (ne_of_none e h)]
  exact e
theorem cut_ints_to (ns : List Int) (k : Nat) : cutV (ns.map V.int) none (some (k : Int)) = (ns.take k).map V.int := by rw [cutV_to, List.map_take]
theorem int_get {ns : List Int} {i : Nat} {x : V} (h : (ns.map V.int)[i]? = some x) : ∃ z : Int, ns[i]? = some z ∧ x = V.int z := by
  rw [List.getElem?_map] at h
  cases e : ns[i]? with
  | none => rw [e] at h; cases h
  | some z => rw [e] at h; cases h; exact ⟨z, rfl, rfl⟩
section
variable {P : Program} {w : World} {K : PySem.W.Frag} {mg : Str → Option Value} {base : Heap}
/-! ### _law_cell -/
def spCell (K : PySem.W.Frag) : Sp := fun vs H Q _ => ∃ (a : Addr) (ns : List Int) (k : Nat), vs = [.ref a, .int k] ∧ SqL K H a (ns.map V.int) ∧ ∀ r : Int, Q (.int r) H
theorem scCell : FnScope ["script", "k"] ["script", "k"] (defScope sCellS) := ⟨rfl, rfl, rfl, by decide +kernel, rfl, by decide +kernel, by decide +kernel⟩
theorem ok_cell {f : Addr} {fd : FuncData} (F : Fun K "_law_cell" "_law_cell" sCellS f fd) (B : Bn mg) : FnOk P w K mg base CX0 1 f fd ["script", "k"] (spCell K) := by
  refine F.ok scCell (fun vs H Q E h => ?_) (fun cdv A outer s H vs Q E hr h => ?_)
  · obtain ⟨a, ns, k, rfl, _⟩ := h
    rfl
  · obtain ⟨a, ns, k, rfl, hS, q⟩ := h
    refine ⟨_, pss_cons (ps_if (pt_cmpR op_lt (pv 1) (pe_callB call_len_seq (by rfl) B.len PySem.boot_len (pa_cons (pv 0) pa_nil)) (nomark _)) (pss_one (ps_ret (pe_ix ix_list (pv 0) (pv 1) (fun _ _ => rfl)))) pss_nil)
      (pss_one (ps_ret pe_int)), ?_⟩
    refine ⟨_, rfl, _, rfl, a, _, rfl, .inl hS, _, _, rfl, rfl, _, rfl, ?_⟩
    refine ite2 (fun h => ?_) (fun h => ?_)
    · have hl : k < ns.length := by
        have := of_decide_eq_true h
        rw [List.length_map] at this
        omega
      refine ⟨_, rfl, _, rfl, a, _, _, _, rfl, rfl, hS, atI_nat (j := k) (v := .int ns[k]) (by simp [hl]), ?_⟩
      exact q _
    · exact q _
def Sq (K : PySem.W.Frag) (H : Hp) (a : Addr) (ns : List Int) : Prop := SqL K H a (ns.map V.int) ∨ SqT K H a (ns.map V.int)
theorem Sq.same {H H' : Hp} {a : Addr} {ns : List Int} (h : Sq K H a ns) (s : Same H H') : Sq K H' a ns := h.elim (fun h => .inl (s.seq h)) fun h => .inr (s.seqT h)
/-! ### falling -/
def spFall (K : PySem.W.Frag) : Sp := fun vs H Q _ => ∃ (a : Addr) (ns : List Int), vs = [.ref a] ∧ Sq K H a ns ∧ ns.length < 64 ∧ ∀ (l : Addr) (H' : Hp), Same H H' → H l = none → H' l = some (.lst ((up2 ns).reverse.map V.int)) → Q (.ref l) H'
theorem scFall : FnScope ["tally"] ["tally"] (defScope sFall) := ⟨rfl, rfl, rfl, by decide +kernel, rfl, by decide +kernel, by decide +kernel⟩
theorem ok_fall {f : Addr} {fd : FuncData} (F : Fun K "falling" "falling" sFall f fd) (B : Bn mg) : FnOk P w K mg base CX0 1 f fd ["tally"] (spFall K) := by
  refine F.ok scFall (fun vs H Q E h => ?_) (fun cdv A outer s H vs Q E hr h => ?_)
  · obtain ⟨a, ns, rfl, _⟩ := h
    rfl
  · obtain ⟨a, ns, rfl, hS, h64, q⟩ := h
    refine ⟨_, pss_one (ps_ret (pe_sortR K rfl (by rfl) B.sorted (pa_cons (pv 0) pa_nil))), ?_⟩
    refine ⟨_, rfl, a, ns, rfl, hS, h64, fun l zs hl hp hs => ?_⟩
    rw [fall_eq hp hs]
    exact q l _ (same_upd hl) hl upd_same
/-! ### places_below -/
def spBelow (K : PySem.W.Frag) : Sp := fun vs H Q _ => ∃ (a : Addr) (ns : List Int), vs = [.ref a] ∧ Sq K H a ns ∧ ns.length ≤ 100 ∧ ∀ (l : Addr) (H' : Hp), Same H H' → H l = none → H' l = some (.lst ((belL ns).map V.int)) → Q (.ref l) H'
theorem scBelow : FnScope ["numbers"] ["numbers"] (defScope sBelow) := ⟨rfl, rfl, rfl, by decide +kernel, rfl, by decide +kernel, by decide +kernel⟩
theorem ok_below {f : Addr} {fd : FuncData} (F : Fun K "places_below" "places_below" sBelow f fd) (B : Bn mg) : FnOk P w K mg base CX0 1 f fd ["numbers"] (spBelow K) := by
  refine F.ok scBelow (fun vs H Q E h => ?_) (fun cdv A outer s H vs Q E hr h => ?_)
  · obtain ⟨a, ns, rfl, _⟩ := h
    rfl
  · obtain ⟨a, ns, rfl, hS, hn, q⟩ := h
    have hsl := sl1000
    have nd2 : (["place", "number"] : List Str).Nodup := by decide +kernel
    refine ⟨_, pss_one (ps_ret (pe_comp (N' := ["place", "number"]) (lk := [none, none]) rfl (pi_or (pi_enum (by rfl) B.enum (pa_cons (pv 0) pa_nil)) (pi_enumT (by rfl) B.enum (pa_cons (pv 0) pa_nil))) (by rfl) rfl (by decide +kernel) (by exact trivial) (by rfl) (by exact LkL.ok trivial)
          (fun _ _ _ => pg_tupK (n := 2) K rfl rfl (pgs_cons (pg_name (i := 0) nd2 rfl (Or.inl rfl)) (pgs_cons (pg_name (i := 1) nd2 rfl (Or.inl rfl)) pgs_nil))) (fun _ _ _ => pts_one (pt_cmpR op_lt (pv 1) pe_int (nomark _))) (fun _ _ _ => pv 0))), ?_⟩
    refine Or.imp (fun h => ⟨_, rfl, h⟩) (fun h => ⟨_, rfl, h⟩) (comp_enumS (K := K) (a := a) (ys := ns.map V.int) hS (by rw [List.length_map]; omega)
      (fun D i xs σ' H' => (∃ v u, σ' = [v, u]) ∧ Same H H' ∧ H' D = some (.lst xs) ∧ xs = ((belN ns i).map Int.ofNat).map V.int) (fun D hD => ⟨⟨none, none, rfl⟩, same_upd hD, upd_same, rfl⟩)
      (fun D i xs σ' H' hD hi ⟨_, s1, h1, e1⟩ => ⟨s1, h1, by rw [e1, List.length_map, List.length_map]; exact belN_len ns i⟩) ?_ ?_)
    · rintro D i xs x t σ' H' N hD kN hx ⟨⟨v, u, rfl⟩, s1, h1, rfl⟩ ht
      obtain ⟨z, hz, rfl⟩ := int_get hx
      have s2 := same_upd (o := .tup [.int i, .int z]) ht
      refine ⟨t, _, rfl, SqT.of upd_same, rfl, _, _, rfl, _, _, rfl, rfl, ?_⟩
      refine ⟨_, rfl, _, _, rfl, rfl, _, rfl, ?_⟩
      have e3 := belN_succ ns i
      rw [bel_getD hz] at e3
      by_cases hb : z < 0
      · rw [decide_eq_true hb]
        refine iteT ⟨_, rfl, s2 _ _ h1, kN _ _ _ ⟨⟨_, _, rfl⟩, (s1.trans s2).upd hD, upd_same, ?_⟩⟩
        rw [e3, if_pos hb, List.map_append, List.map_append]
        rfl
      · rw [decide_eq_false hb]
        refine iteF (kN _ _ _ ⟨⟨_, _, rfl⟩, s1.trans s2, s2 _ _ h1, ?_⟩)
        rw [e3, if_neg hb, List.append_nil]
    · rintro D xs σ' H' hD ⟨⟨v, u, rfl⟩, s1, h1, rfl⟩
      rw [List.length_map] at h1
      exact q D H' s1 hD h1
end
end Web

namespace Web
open PySem L2
set_option autoImplicit false
set_option linter.all false
def isS (ns : List Int) : Prop := 1 ≤ ns.length ∧ ns.length ≤ 16
def twT : Tw → List V
  | .below s p => [.str "below", .int s, .int p]
  | .unlike => [.str "unlike"]
  | .wall r => [.str "wall", .int r]
  | .free => []
/-- a told wall, or None -/
def TwAt (H : Hp) (v : V) (x : Tw) : Prop := (x = .free ∧ v = .non) ∨ (x ≠ .free ∧ ∃ a, v = .ref a ∧ H a = some (.tup (twT x)))
theorem TwAt.same {H H' : Hp} {v : V} {x : Tw} (h : TwAt H v x) (s : Same H H') : TwAt H' v x := h.elim .inl fun ⟨h1, a, h2, h3⟩ => .inr ⟨h1, a, h2, s _ _ h3⟩
theorem pair_at {a b : Addr} {i : Nat} {x : V} (h : ([.ref a, .ref b] : List V)[i]? = some x) : (i = 0 ∧ x = .ref a) ∨ (i = 1 ∧ x = .ref b) := by
  match i, h with
  | 0, h => exact .inl ⟨rfl, by injection h with h; exact h.symm⟩
  | 1, h => exact .inr ⟨rfl, by injection h with h; exact h.symm⟩
  | n + 2, h => cases h
section
variable {P : Program} {w : World} {K : PySem.W.Frag} {mg : Str → Option Value} {base : Heap}
/-! ### check_sums -/
def spChS (K : PySem.W.Frag) (CB : Addr) : Sp := fun vs H Q E => ∃ (a b : Addr) (rs cs : List Int), vs = [.ref a, .ref b] ∧ Sq K H a rs ∧ Sq K H b cs ∧ (isS rs → isS cs → Q .non H) ∧ (¬ (isS rs ∧ isS cs) → E (.ref CB) none H)
theorem scChS : FnScope ["rows", "columns"] ["rows", "columns"] (defScope sChS) := ⟨rfl, rfl, rfl, by decide +kernel, rfl, by decide +kernel, by decide +kernel⟩
theorem ok_chS {f CB : Addr} {fd : FuncData} {tk : Tok} (F : Fun K "check_sums" "check_sums" sChS f fd) (B : Bn mg) (mM : mg "MOST_SUMS" = some (.int 16 tk)) (mB : mg "BadTally" = some (.ref CB)) (cB : ExcC K CB) : FnOk P w K mg base (CXE P w) 1 f fd ["rows", "columns"] (spChS K CB) := by
  refine F.okX scChS (fun vs H Q E h => ?_) (fun cdv A outer s H vs Q E hr h => ?_)
  · obtain ⟨a, b, rs, cs, rfl, _⟩ := h
    rfl
  · obtain ⟨a, b, rs, cs, rfl, hS, hT, h1, h2⟩ := h
    refine ⟨_, pss_one (ps_if (PW.pt (pw_or (pt_not (pt_chain op_le op_le pe_int (pe_callB call_len_seq (by rfl) B.len PySem.boot_len (pa_cons (pv 0) pa_nil)) (pe_glob (v := .int 16) (by rfl) mM ⟨tk, rfl⟩)))
      (pw_or1 (pt_not (pt_chain op_le op_le pe_int (pe_callB call_len_seq (by rfl) B.len PySem.boot_len (pa_cons (pv 1) pa_nil)) (pe_glob (v := .int 16) (by rfl) mM ⟨tk, rfl⟩)))))) (pss_one (ps_raise (by rfl) mB cB)) pss_nil), ?_⟩
    refine ⟨_, rfl, a, _, rfl, hS, _, _, rfl, rfl, _, rfl, ?_⟩
    rw [List.length_map]
    by_cases hp : (1 : Int) ≤ (rs.length : Int)
    · rw [decide_eq_true hp]
      refine iteT ⟨_, _, rfl, rfl, _, rfl, ?_⟩
      by_cases hp' : (rs.length : Int) ≤ 16
      · rw [decide_eq_true hp']
        refine iteF ?_
        refine ⟨_, rfl, b, _, rfl, hT, _, _, rfl, rfl, _, rfl, ?_⟩
        rw [List.length_map]
        by_cases hc : (1 : Int) ≤ (cs.length : Int)
        · rw [decide_eq_true hc]
          refine iteT ⟨_, _, rfl, rfl, _, rfl, ?_⟩
          by_cases hc' : (cs.length : Int) ≤ 16
          · rw [decide_eq_true hc']
            exact iteF (h1 ⟨by omega, by omega⟩ ⟨by omega, by omega⟩)
          · rw [decide_eq_false hc']
            exact iteT (h2 fun z => hc' (by have := z.2.2; omega))
        · rw [decide_eq_false hc]
          exact iteF ⟨_, rfl, iteT (h2 fun z => hc (by have := z.2.1; omega))⟩
      · rw [decide_eq_false hp']
        exact iteT (h2 fun z => hp' (by have := z.1.2; omega))
    · rw [decide_eq_false hp]
      exact iteF ⟨_, rfl, iteT (h2 fun z => hp (by have := z.1.1; omega))⟩
/-! ### room_for -/
def spRoomF (K : PySem.W.Frag) : Sp := fun vs H Q _ => ∃ (a b : Addr) (rs cs : List Int) (r : Nat), vs = [.ref a, .ref b, .int r] ∧ Sq K H a rs ∧ Sq K H b cs ∧ rs.length < 64 ∧ cs.length < 64 ∧ ∀ (H' : Hp), Same H H' → Q (.int (roomT rs cs r)) H'
theorem scRoomF : FnScope ["rows", "columns", "r"] ["rows", "columns", "r"] (defScope sRoomF) := ⟨rfl, rfl, rfl, by decide +kernel, rfl, by decide +kernel, by decide +kernel⟩
theorem ok_roomF {f fF : Addr} {fd fdF : FuncData} (F : Fun K "room_for" "room_for" sRoomF f fd) (B : Bn mg) (FF : Fun K "falling" "falling" sFall fF fdF) (bF : Binds K fdF ["tally"] []) (mF : mg "falling" = some (.ref fF)) : FnOk P w K mg base CX0 2 f fd ["rows", "columns", "r"] (spRoomF K) := by
  have GF : FnOk P w K mg base CX0 1 fF fdF ["tally"] (spFall K) := ok_fall FF B
  refine F.ok scRoomF (fun vs H Q E h => ?_) (fun cdv A outer s H vs Q E hr h => ?_)
  · obtain ⟨a, b, rs, cs, r, rfl, _⟩ := h
    rfl
  · obtain ⟨a, b, rs, cs, r, rfl, hS, hT, hn, hm, q⟩ := h
    have hsl := sl1000
    have nd2 : (["number", "r"] : List Str).Nodup := by decide +kernel
    refine ⟨_, pss_one (ps_ret (pe_op op_sub (pe_callB (call_sum rfl) (by rfl) B.sum (by rfl) (pa_cons
        (pe_comp (N' := ["number", "r"]) (lk := [none, some 2]) rfl (pi_or (pi_list (pv 1)) (pi_tup (pv 1))) (by rfl) rfl (by decide +kernel) (by exact ⟨rfl, trivial⟩) (by rfl) (by exact LkL.ok ⟨⟨rfl, Or.inl rfl, rfl, Or.inl rfl⟩, trivial⟩)
          (fun _ _ _ => pg_name (i := 0) nd2 rfl (Or.inl rfl)) (fun _ _ _ => pts_nil) (fun _ _ _ => pe_callB (call_min2 rfl) (by rfl) B.min (by rfl) (pa_cons (pv 0) (pa_cons (pv 1) pa_nil)))) pa_nil))
      (pe_callB (call_sum rfl) (by rfl) B.sum (by rfl) (pa_cons (pe_slice sl_list (pe_call GF hr (by rfl) mF FF.kp bF .nil pass0 (pa_cons (pv 0) pa_nil)) po_none (po_some (pv 2))) pa_nil)))), ?_⟩
    refine Or.imp (fun h => ⟨_, rfl, h⟩) (fun h => ⟨_, rfl, h⟩) (comp_seqS (K := K) (a := b) (ys := cs.map V.int) hT (by rw [List.length_map]; omega)
      (fun D i xs σ' H' => (∃ v, σ' = [v, some (.int r)]) ∧ Same H H' ∧ H' D = some (.lst xs) ∧ xs = ((cs.take i).map (mn r)).map V.int) (fun D hD => ⟨⟨none, rfl⟩, same_upd hD, upd_same, by simp⟩)
      (fun D i xs σ' H' hD hi ⟨_, s1, h1, e1⟩ => ⟨s1, h1, by rw [e1, List.length_map, List.length_map, List.length_take]; omega⟩) ?_ ?_)
    · rintro D i xs x σ' H' N hD kN hx ⟨⟨v, rfl⟩, s1, h1, rfl⟩
      obtain ⟨z, hz, rfl⟩ := int_get hx
      refine gName_to (tTrue_if ?_)
      refine ⟨_, rfl, _, rfl, _, _, rfl, ?_⟩
      refine ⟨h1, kN _ _ _ ⟨⟨_, rfl⟩, s1.upd hD, upd_same, ?_⟩⟩
      rw [List.take_add_one, hz, List.map_append, List.map_append]
      rfl
    · rintro D xs σ' H' hD ⟨⟨v, rfl⟩, s1, h1, rfl⟩
      rw [List.take_of_length_le (by rw [List.length_map]; exact Nat.le_refl _)] at h1
      refine ⟨D, _, rfl, SqL.of h1, ?_⟩
      refine ⟨_, rfl, a, rs, rfl, hS.same s1, hn, fun l H2 s2 hl g2 => ?_⟩
      refine ⟨_, rfl, _, rfl, l, _, rfl, SqL.of g2, fun c2 hc2 => ?_⟩
      rw [cut_ints_to]
      refine ⟨c2, _, rfl, SqL.of upd_same, _, _, rfl, rfl, ?_⟩
      exact q _ ((s1.trans s2).trans (same_upd hc2))
/-! ### wall_of_sums -/
def spWoS (K : PySem.W.Frag) (CB : Addr) : Sp := fun vs H Q E => ∃ (a b : Addr) (rs cs : List Int), vs = [.ref a, .ref b] ∧ Sq K H a rs ∧ Sq K H b cs ∧ (isS rs → isS cs → ∀ (v : V) (x : Tw) (H' : Hp), Same H H' → IsTw rs cs x → TwAt H' v x → Q v H') ∧ (¬ (isS rs ∧ isS cs) → E (.ref CB) none H)
theorem scWoS : FnScope ["rows", "columns", "side", "numbers", "below", "r"] ["rows", "columns"] (defScope sWoS) := ⟨rfl, rfl, rfl, by decide +kernel, rfl, by decide +kernel, by decide +kernel⟩
set_option maxHeartbeats 2000000 in
theorem ok_woS {f fS fF fβ fR CB : Addr} {fd fdS fdF fdβ fdR : FuncData} {tk : Tok} (F : Fun K "wall_of_sums" "wall_of_sums" sWoS f fd) (B : Bn mg) (FF : Fun K "falling" "falling" sFall fF fdF) (bF : Binds K fdF ["tally"] []) (mF : mg "falling" = some (.ref fF)) (Fβ : Fun K "places_below" "places_below" sBelow fβ fdβ) (bβ : Binds K fdβ ["numbers"] []) (mβ : mg "places_below" = some (.ref fβ))
    (FS : Fun K "check_sums" "check_sums" sChS fS fdS) (bS : Binds K fdS ["rows", "columns"] []) (mS : mg "check_sums" = some (.ref fS)) (FR : Fun K "room_for" "room_for" sRoomF fR fdR) (bR : Binds K fdR ["rows", "columns", "r"] []) (mR : mg "room_for" = some (.ref fR))
    (mM : mg "MOST_SUMS" = some (.int 16 tk)) (mB : mg "BadTally" = some (.ref CB)) (cB : ExcC K CB) : FnOk P w K mg base (CXE P w) 3 f fd ["rows", "columns"] (spWoS K CB) := by
  have GS : FnOk P w K mg base (CXE P w) 2 fS fdS ["rows", "columns"] (spChS K CB) := (ok_chS FS B mM mB cB).mono (by decide)
  have GL : FnOk P w K mg base CX0 2 fβ fdβ ["numbers"] (spBelow K) := (ok_below Fβ B).mono (by decide)
  have GR : FnOk P w K mg base CX0 2 fR fdR ["rows", "columns", "r"] (spRoomF K) := ok_roomF FR B FF bF mF
  refine F.okX scWoS (fun vs H Q E h => ?_) (fun cdv A outer s H vs Q E hr h => ?_)
  · obtain ⟨a, b, rs, cs, rfl, _⟩ := h
    rfl
  · obtain ⟨a, b, rs, cs, rfl, hS, hT, h1, h2⟩ := h
    have hsl := sl1000
    refine ⟨_, pss_cons (ps_expr (pe_call GS hr (by rfl) mS FS.kp bS .nil passE (pa_cons (pv 0) (pa_cons (pv 1) pa_nil))))
      (pss_cons (ps_for po_leave rfl (pi_enumT (by rfl) B.enum (pa_cons (pe_tup (pa_cons (pv 0) (pa_cons (pv 1) pa_nil))) pa_nil)) (pg_tup rfl (pgs_cons (pg_name (i := 2) scWoS.nd rfl (Or.inl rfl)) (pgs_cons (pg_name (i := 3) scWoS.nd rfl (Or.inl rfl)) pgs_nil)))
        (pss_cons (ps_set (i := 4) scWoS.nd rfl (Or.inl rfl) (pe_call GL hr (by rfl) mβ Fβ.kp bβ .nil pass0 (pa_cons (pv 3) pa_nil)))
        (pss_one (ps_if (pt_truth (pv 4) (fun _ => rfl)) (pss_one (ps_ret (pe_tup (pa_cons pe_str (pa_cons (pv 2) (pa_cons (pe_ix ix_list (pv 4) pe_int (fun _ _ => rfl)) pa_nil)))))) pss_nil))))
      (pss_cons (ps_if (pt_cmpR op_ne (pe_callB (call_sumS rfl) (by rfl) B.sum (by rfl) (pa_cons (pv 0) pa_nil)) (pe_callB (call_sumS rfl) (by rfl) B.sum (by rfl) (pa_cons (pv 1) pa_nil)) (nomark _)) (pss_one (ps_ret (pe_tup (pa_cons pe_str pa_nil)))) pss_nil)
      (pss_cons (ps_for po_leave rfl (pi_range2 rfl B.range (pa_cons pe_int (pa_cons (pe_op op_add (pe_callB call_len_seq (by rfl) B.len PySem.boot_len (pa_cons (pv 0) pa_nil)) pe_int) pa_nil))) (pg_name (i := 5) scWoS.nd rfl (Or.inl rfl))
        (pss_one (ps_if (pt_cmpR op_lt (pe_call GR hr (by rfl) mR FR.kp bR .nil pass0 (pa_cons (pv 0) (pa_cons (pv 1) (pa_cons (pv 5) pa_nil)))) pe_int (nomark _)) (pss_one (ps_ret (pe_tup (pa_cons pe_str (pa_cons (pv 5) pa_nil))))) pss_nil)))
      (pss_one (ps_ret pe_non))))), ?_⟩
    refine ⟨_, rfl, _, rfl, a, b, rs, cs, rfl, hS, hT, fun hs1 hs2 => ?_, h2⟩
    have t1 := hs1.2
    have t2 := hs2.2
    refine ⟨_, rfl, _, rfl, (by show 2 ≤ sizeLine; decide), fun tp ftp => ⟨tp, rfl, ⟨_, SqT.of upd_same⟩, ?_⟩⟩
    have s0 := same_upd (o := .tup [.ref a, .ref b]) ftp
    have gtp : (upd H tp (.tup [.ref a, .ref b])) tp = some (.tup [.ref a, .ref b]) := upd_same
    generalize upd H tp (.tup [.ref a, .ref b]) = H0 at s0 gtp
    refine for_enumT (K := K) (a := tp) (xs := [.ref a, .ref b]) (fun i σ H1 => ∃ e2 e3 e4, σ = [some (.ref a), some (.ref b), e2, e3, e4, none] ∧ Same H0 H1 ∧ (1 ≤ i → AllP rs) ∧ (2 ≤ i → AllP cs)) ⟨none, none, none, rfl, Same.refl H0, fun h => absurd h (by decide), fun h => absurd h (by decide)⟩ (fun i σ H1 _ ⟨_, _, _, _, s, _⟩ => SqT.of (s _ _ gtp)) ?_ ?_
    · rintro i x t σ H1 hx ⟨e2, e3, e4, rfl, s1, hp1, hp2⟩ ht'
      have s2 := same_upd (o := .tup [.int i, x]) ht'
      obtain ⟨u, ns, rfl, hU, hnl, hB, hA⟩ : ∃ (u : Addr) (ns : List Int), x = .ref u ∧ Sq K H u ns ∧ ns.length ≤ 16 ∧ (∀ p, Bel ns p → IsTw rs cs (.below i p)) ∧ (AllP ns → (1 ≤ i + 1 → AllP rs) ∧ (2 ≤ i + 1 → AllP cs)) := by
        rcases pair_at hx with ⟨rfl, rfl⟩ | ⟨rfl, rfl⟩
        · exact ⟨a, rs, rfl, hS, t1, fun p hp => .inl ⟨rfl, hp⟩, fun h => ⟨fun _ => h, fun z => absurd z (by decide)⟩⟩
        · exact ⟨b, cs, rfl, hT, t2, fun p hp => .inr ⟨rfl, hp1 (by decide), hp⟩, fun h => ⟨fun _ => hp1 (by decide), fun _ => h⟩⟩
      have hU2 := hU.same (s0.trans (s1.trans s2))
      refine ⟨t, _, rfl, SqT.of upd_same, rfl, _, _, rfl, _, _, rfl, rfl, ?_⟩
      refine ⟨_, rfl, u, ns, rfl, hU2, by omega, fun bl H2 s3 hbl g2 => ?_⟩
      refine ⟨_, rfl, _, .inl ⟨_, SqL.of g2, rfl⟩, ?_⟩
      unfold belL at g2 ⊢
      cases hb : belN ns ns.length with
      | cons p ps =>
        rw [hb] at g2
        refine iteT ⟨_, rfl, _, rfl, bl, _, _, _, rfl, rfl, SqL.of g2, atI_nat (j := 0) rfl, (by show 3 ≤ sizeLine; decide), fun q hq => ?_⟩
        exact h1 hs1 hs2 _ (.below i p) _ ((s0.trans (s1.trans (s2.trans s3))).trans (same_upd hq)) (hB p (bel_cons hb)) (.inr ⟨by simp, q, rfl, upd_same⟩)
      | nil =>
        obtain ⟨q1, q2⟩ := hA (bel_nil hb)
        refine iteF ⟨_, _, _, rfl, s1.trans (s2.trans s3), q1, q2⟩
    · rintro σ H1 ⟨e2, e3, e4, rfl, s1, hp1, hp2⟩
      have pr : AllP rs := hp1 (by show 1 ≤ 2; decide)
      have pc : AllP cs := hp2 (by show 2 ≤ 2; decide)
      have s01 := s0.trans s1
      refine ⟨_, rfl, a, rs, rfl, hS.same s01, _, rfl, b, cs, rfl, hT.same s01, rfl, _, rfl, ?_⟩
      by_cases he : rs.sum = cs.sum
      · refine iteNS (by rw [he]) ?_
        refine ⟨_, rfl, a, _, rfl, hS.same s01, _, _, rfl, rfl, 1, ((rs.length : Int) + 1), by rw [List.length_map], ⟨by omega, by omega, by omega, by omega⟩, ?_⟩
        rw [show ((rs.length : Int) + 1 - 1).toNat = rs.length by omega]
        refine for_range (lo := 1) (n := rs.length) (fun i σ H3 => ∃ e5, σ = [some (.ref a), some (.ref b), e2, e3, e4, e5] ∧ Same H H3 ∧ ∀ k, 1 ≤ k → k < i + 1 → 0 ≤ roomT rs cs k) ⟨none, rfl, s01, fun k k1 k2 => by omega⟩ ?_ ?_
        · rintro i σ H3 hi ⟨e5, rfl, s3, hrm⟩
          have e0 : ((1 : Int) + (i : Int)) = ((i + 1 : Nat) : Int) := by omega
          rw [e0]
          refine gName_to ?_
          refine ⟨_, rfl, _, rfl, _, rfl, a, b, rs, cs, i + 1, rfl, hS.same s3, hT.same s3, by omega, by omega, fun H4 s4 => ⟨_, _, rfl, rfl, _, rfl, ?_⟩⟩
          refine ite2 (fun h => ?_) (fun h => ?_)
          · refine ⟨_, rfl, (by show 2 ≤ sizeLine; decide), fun p hp => ?_⟩
            exact h1 hs1 hs2 _ (.wall (i + 1)) _ ((s3.trans s4).trans (same_upd hp)) ⟨pr, pc, he, by omega, by omega, of_decide_eq_true h, hrm⟩ (.inr ⟨by simp, p, rfl, upd_same⟩)
          · have h' : ¬ roomT rs cs (i + 1) < 0 := fun q => h (decide_eq_true q)
            refine ⟨_, rfl, s3.trans s4, fun k k1 k2 => ?_⟩
            rcases Nat.lt_or_ge k (i + 1) with l1 | l1
            · exact hrm k k1 l1
            · rw [show k = i + 1 by omega]; omega
        · rintro σ H3 ⟨e5, rfl, s3, hrm⟩
          exact h1 hs1 hs2 _ .free _ s3 ⟨pr, pc, he, fun k k1 k2 => hrm k k1 (by omega)⟩ (.inl ⟨rfl, rfl⟩)
      · rw [decide_eq_false (fun z => he (by injection z))]
        refine iteT ⟨(by show 1 ≤ sizeLine; decide), fun p hp => ?_⟩
        exact h1 hs1 hs2 _ .unlike _ (s01.trans (same_upd hp)) ⟨pr, pc, he⟩ (.inr ⟨by simp, p, rfl, upd_same⟩)
end
end Web

namespace Web
open PySem L2
set_option autoImplicit false
set_option linter.all false
theorem set_map_int (ns : List Int) (j : Nat) (v : Int) : (ns.map V.int).set j (.int v) = (ns.set j v).map V.int := by rw [List.map_set]
theorem at_int {ns : List Int} {j : Nat} (h : j < ns.length) : atI (ns.map V.int) (j : Int) = some (.int (ns.getD j 0)) := atI_nat (j := j) (by simp [h])
theorem mod_nat (c : Int) {n : Nat} (h : 0 < n) : ∃ j : Nat, c % (n : Int) = (j : Int) ∧ j < n := by
  have h1 := Int.emod_nonneg c (show (n : Int) ≠ 0 by omega)
  have h2 := Int.emod_lt_of_pos c (show (0 : Int) < (n : Int) by omega)
  exact ⟨(c % (n : Int)).toNat, by omega, by omega⟩
/-- lists of m numbers -/
def Lsts (H : Hp) (ys : List V) (m : Nat) : Prop := ∀ y ∈ ys, ∃ (p : Addr) (ns : List Int), y = .ref p ∧ H p = some (.lst (ns.map V.int)) ∧ ns.length = m
theorem Lsts.same {H H' : Hp} {ys : List V} {m : Nat} (h : Lsts H ys m) (s : Same H H') : Lsts H' ys m := fun y hy => by
  obtain ⟨p, ns, e, g, l⟩ := h y hy
  exact ⟨p, ns, e, s _ _ g, l⟩
section
variable {P : Program} {w : World} {K : PySem.W.Frag} {mg : Str → Option Value} {base : Heap}
/-! ### _law_mixed -/
def spMixS : Sp := fun vs H Q _ => ∃ (c k : Int), vs = [.int c, .int k] ∧ ∀ r : Int, Q (.int r) H
theorem scMixS : FnScope ["cell", "k", "turn"] ["cell", "k"] (defScope sMixS) := ⟨rfl, rfl, rfl, by decide +kernel, rfl, by decide +kernel, by decide +kernel⟩
theorem ok_mixS {f : Addr} {fd : FuncData} (F : Fun K "_law_mixed" "_law_mixed" sMixS f fd) : FnOk P w K mg base CX0 1 f fd ["cell", "k"] spMixS := by
  refine F.ok scMixS (fun vs H Q E h => ?_) (fun cdv A outer s H vs Q E hr h => ?_)
  · obtain ⟨c, k, rfl, _⟩ := h
    rfl
  · obtain ⟨c, k, rfl, q⟩ := h
    refine ⟨_, pss_cons (ps_set (i := 2) scMixS.nd rfl (Or.inl rfl) (pe_op op_mod (pe_op op_add (pe_op op_add (pe_op op_mod (pv 0) pe_int) (pe_op op_mul pe_int (pv 1))) pe_int) pe_int))
      (pss_cons (ps_set (i := 2) scMixS.nd rfl (Or.inl rfl) (pe_op op_mod (pe_op op_mul (pv 2) (pv 2)) pe_int))
      (pss_one (ps_ret (pe_op op_mod (pe_op op_mul (pv 2) pe_int) pe_int)))), ?_⟩
    refine ⟨_, rfl, _, _, rfl, rfl, (by show (0 : Int) < 2147483647; decide), _, rfl, _, _, rfl, rfl, .inl ⟨by decide, by decide⟩, _, _, rfl, rfl, _, _, rfl, rfl, _, _, rfl, rfl, (by show (0 : Int) < 2147483647; decide), ?_⟩
    refine gName_int fun k1 hk1 => ?_
    have k10 : 0 ≤ k1 := by rw [hk1]; exact Int.emod_nonneg _ (by decide)
    have k11 : k1 < 2147483647 := by rw [hk1]; exact Int.emod_lt_of_pos _ (by decide)
    clear hk1
    refine ⟨_, rfl, _, rfl, _, _, rfl, rfl, .inl ⟨by omega, by omega⟩, _, _, rfl, rfl, (by show (0 : Int) < 1000000007; decide), ?_⟩
    refine gName_int fun k2 _ => ?_
    refine ⟨_, rfl, _, _, rfl, rfl, .inr ⟨by decide, by decide⟩, _, _, rfl, rfl, (by show (0 : Int) < 998244353; decide), ?_⟩
    exact q _
/-! ### _law_bit -/
def spBit (K : PySem.W.Frag) : Sp := fun vs H Q _ => ∃ (a : Addr) (ns : List Int) (st k : Nat), vs = [.ref a, .int st, .int k] ∧ SqL K H a (ns.map V.int) ∧ ∀ r : Int, Q (.int r) H
theorem scBit : FnScope ["script", "start", "k"] ["script", "start", "k"] (defScope sBit) := ⟨rfl, rfl, rfl, by decide +kernel, rfl, by decide +kernel, by decide +kernel⟩
theorem ok_bit {f fC fM : Addr} {fd fdC fdM : FuncData} (F : Fun K "_law_bit" "_law_bit" sBit f fd) (B : Bn mg) (FC : Fun K "_law_cell" "_law_cell" sCellS fC fdC) (bC : Binds K fdC ["script", "k"] []) (mC : mg "_law_cell" = some (.ref fC))
    (FM : Fun K "_law_mixed" "_law_mixed" sMixS fM fdM) (bM : Binds K fdM ["cell", "k"] []) (mM : mg "_law_mixed" = some (.ref fM)) : FnOk P w K mg base CX0 2 f fd ["script", "start", "k"] (spBit K) := by
  have GC : FnOk P w K mg base CX0 1 fC fdC ["script", "k"] (spCell K) := ok_cell FC B
  have GM : FnOk P w K mg base CX0 1 fM fdM ["cell", "k"] spMixS := ok_mixS FM
  refine F.ok scBit (fun vs H Q E h => ?_) (fun cdv A outer s H vs Q E hr h => ?_)
  · obtain ⟨a, ns, st, k, rfl, _⟩ := h
    rfl
  · obtain ⟨a, ns, st, k, rfl, hS, q⟩ := h
    refine ⟨_, pss_cons (ps_if (pt_cmpR op_eq (pe_op op_mod (pe_call GC hr (by rfl) mC FC.kp bC .nil pass0 (pa_cons (pv 0) (pa_cons pe_int pa_nil))) pe_int) pe_int (nomark _))
        (pss_one (ps_ret (pe_op op_and (pe_op op_shr (pe_call GC hr (by rfl) mC FC.kp bC .nil pass0 (pa_cons (pv 0) (pa_cons (pe_op op_add (pv 1) (pe_op op_fdiv (pv 2) pe_int)) pa_nil))) (pe_op op_mod (pv 2) pe_int)) pe_int))) pss_nil)
      (pss_one (ps_ret (pe_callTy call_int1 (by rfl) B.int (by rfl) (pa_cons (pe_cmpR op_lt (pe_op op_mod (pe_op op_fdiv (pe_call GM hr (by rfl) mM FM.kp bM .nil pass0 (pa_cons (pe_call GC hr (by rfl) mC FC.kp bC .nil pass0 (pa_cons (pv 0) (pa_cons (pv 1) pa_nil))) (pa_cons (pv 2) pa_nil))) pe_int) pe_int)
        (pe_op op_add pe_int (pe_op op_mod (pe_call GC hr (by rfl) mC FC.kp bC .nil pass0 (pa_cons (pv 0) (pa_cons pe_int pa_nil))) pe_int)) (nomark _)) pa_nil)))), ?_⟩
    refine ⟨_, rfl, a, ns, 0, rfl, hS, fun c0 => ⟨_, _, rfl, rfl, (by show (0 : Int) < 2; decide), rfl, _, rfl, ?_⟩⟩
    refine ite2 (fun h => ?_) (fun h => ?_)
    · refine ⟨_, rfl, _, rfl, _, rfl, _, _, rfl, rfl, ⟨by decide, by decide⟩, _, _, rfl, rfl, a, ns, st + k / 60, by rw [Int.natCast_add]; rfl, hS, fun c1 => ?_⟩
      refine ⟨_, rfl, _, _, rfl, rfl, (by show (0 : Int) < 60; decide), _, _, rfl, rfl, Int.emod_nonneg _ (by decide), _, _, rfl, rfl, ?_⟩
      exact q _
    · refine ⟨_, rfl, _, rfl, a, ns, st, rfl, hS, fun c1 => ⟨_, rfl, c1, (k : Int), rfl, fun r1 => ?_⟩⟩
      refine ⟨_, _, rfl, rfl, ⟨by decide, by decide⟩, _, _, rfl, rfl, (by show (0 : Int) < 4; decide), _, rfl, a, ns, 1, rfl, hS, fun c2 => ⟨_, _, rfl, rfl, (by show (0 : Int) < 3; decide), _, _, rfl, rfl, _, _, rfl, rfl, .inr ⟨_, rfl, ?_⟩⟩⟩
      exact q _
/-! ### _law_table -/
def spTab (K : PySem.W.Frag) : Sp := fun vs H Q _ => ∃ (a : Addr) (ns : List Int) (st hi wi : Nat), vs = [.ref a, .int st, .int hi, .int wi] ∧ SqL K H a (ns.map V.int) ∧ hi ≤ 16 ∧ wi ≤ 16 ∧ ∀ (l : Addr) (ys : List V) (H' : Hp), Same H H' → H' l = some (.lst ys) → ys.length = hi → Lsts H' ys wi → Q (.ref l) H'
theorem scTab : FnScope ["script", "start", "high", "wide", "cells"] ["script", "start", "high", "wide"] (defScope sTab) := ⟨rfl, rfl, rfl, by decide +kernel, rfl, by decide +kernel, by decide +kernel⟩
set_option maxHeartbeats 1000000 in
theorem ok_tab {f fC fM fB : Addr} {fd fdC fdM fdB : FuncData} (F : Fun K "_law_table" "_law_table" sTab f fd) (B : Bn mg) (FC : Fun K "_law_cell" "_law_cell" sCellS fC fdC) (bC : Binds K fdC ["script", "k"] []) (mC : mg "_law_cell" = some (.ref fC))
    (FM : Fun K "_law_mixed" "_law_mixed" sMixS fM fdM) (bM : Binds K fdM ["cell", "k"] []) (mM : mg "_law_mixed" = some (.ref fM)) (FB : Fun K "_law_bit" "_law_bit" sBit fB fdB) (bB : Binds K fdB ["script", "start", "k"] []) (mB : mg "_law_bit" = some (.ref fB)) : FnOk P w K mg base CX0 3 f fd ["script", "start", "high", "wide"] (spTab K) := by
  have GB : FnOk P w K mg base CX0 2 fB fdB ["script", "start", "k"] (spBit K) := ok_bit FB B FC bC mC FM bM mM
  refine F.ok scTab (fun vs H Q E h => ?_) (fun cdv A outer s H vs Q E hr h => ?_)
  · obtain ⟨a, ns, st, hi, wi, rfl, _⟩ := h
    rfl
  · obtain ⟨a, ns, st, hi, wi, rfl, hS, hh, hw, q⟩ := h
    have hsl := sl1000
    have nd3 : (["k", "script", "start"] : List Str).Nodup := by decide +kernel
    have nd4 : (["row", "cells", "wide"] : List Str).Nodup := by decide +kernel
    have hhw : hi * wi ≤ 256 := Nat.mul_le_mul hh hw
    refine ⟨_, pss_cons (ps_set (i := 4) scTab.nd rfl (Or.inr rfl) (pe_comp (N' := ["k", "script", "start"]) (lk := [none, some 0, some 1]) rfl (pi_range1 rfl B.range (pa_cons (pe_op op_mul (pv 2) (pv 3)) pa_nil)) (by rfl) rfl (by decide +kernel) (by exact ⟨rfl, rfl, trivial⟩) (by rfl) (by exact LkL.ok ⟨⟨rfl, Or.inl rfl, rfl, Or.inl rfl⟩, ⟨rfl, Or.inl rfl, rfl, Or.inl rfl⟩, trivial⟩)
          (fun _ _ _ => pg_name (i := 0) nd3 rfl (Or.inl rfl)) (fun _ _ _ => pts_nil) (fun _ _ _ => pe_call GB hr (by rfl) mB FB.kp bB .nil pass0 (pa_cons (pv 1) (pa_cons (pv 2) (pa_cons (pv 0) pa_nil))))))
      (pss_one (ps_ret (pe_comp (N' := ["row", "cells", "wide"]) (lk := [none, some 4, some 3]) rfl (pi_range1 rfl B.range (pa_cons (pv 2) pa_nil)) (by rfl) rfl (by decide +kernel) (by exact ⟨rfl, rfl, trivial⟩) (by rfl) (by exact LkL.ok ⟨⟨rfl, Or.inl rfl, rfl, Or.inl rfl⟩, ⟨rfl, Or.inl rfl, rfl, Or.inl rfl⟩, trivial⟩)
          (fun _ _ _ => pg_name (i := 0) nd4 rfl (Or.inl rfl)) (fun _ _ _ => pts_nil) (fun _ _ _ => pe_slice (sl_listK K rfl) (pv 1) (po_some (pe_op op_mul (pv 0) (pv 2))) (po_some (pe_op op_mul (pe_op op_add (pv 0) pe_int) (pv 2))))))), ?_⟩
    refine ⟨_, rfl, _, rfl, _, _, rfl, rfl, .inl ⟨by omega, by omega⟩, ((hi * wi : Nat) : Int), by rw [Int.natCast_mul], by omega, by omega, ?_⟩
    rw [Int.toNat_natCast]
    refine fun D hD => comp_range (lo := 0) (n := hi * wi) (D := D) (fun i xs σ' H' => (∃ v, σ' = [v, some (.ref a), some (.int st)]) ∧ Same H H' ∧ H' D = some (.lst xs) ∧ ∃ ts : List Int, xs = ts.map V.int ∧ ts.length = i)
      ⟨⟨none, rfl⟩, same_upd hD, upd_same, [], rfl, rfl⟩ (by omega) (fun i xs σ' H' hi' ⟨_, _, h1, ts, e1, l1⟩ => ⟨h1, by rw [e1, List.length_map]; omega⟩) ?_ ?_
    · rintro i xs σ' H' N kN hi' ⟨⟨v, rfl⟩, s1, h1, ts, rfl, l1⟩
      rw [show ((0 : Int) + (i : Int)) = (i : Int) by omega]
      refine gName_to (tTrue_if ?_)
      refine ⟨_, rfl, _, rfl, _, rfl, a, ns, st, i, rfl, s1.seq hS, fun r => ?_⟩
      refine ⟨h1, kN _ _ _ ⟨⟨_, rfl⟩, s1.upd hD, upd_same, ts ++ [r], by rw [List.map_append]; rfl, by rw [List.length_append, l1]; rfl⟩⟩
    · rintro xs σ' H1 ⟨⟨v, rfl⟩, s1, h1, ts, rfl, l1⟩
      refine ⟨_, rfl, hi, rfl, by omega, by omega, fun D2 hD2 => ?_⟩
      rw [Int.toNat_natCast]
      refine comp_range (lo := 0) (n := hi) (D := D2) (fun i xs σ' H' => (∃ v, σ' = [v, some (.ref D), some (.int wi)]) ∧ Same H1 H' ∧ H' D2 = some (.lst xs) ∧ xs.length = i ∧ Lsts H' xs wi)
        ⟨⟨none, rfl⟩, same_upd hD2, upd_same, rfl, fun y hy => absurd hy List.not_mem_nil⟩ (by omega) (fun i xs σ' H' hi' ⟨_, _, h1, l1, _⟩ => ⟨h1, by omega⟩) ?_ ?_
      · rintro i xs σ' H' N kN hi' ⟨⟨v, rfl⟩, s2, h2, l2, hL⟩
        rw [show ((0 : Int) + (i : Int)) = (i : Int) by omega]
        refine gName_to (tTrue_if ?_)
        have hiw : i * wi ≤ (i + 1) * wi := Nat.mul_le_mul_right _ (Nat.le_succ _)
        have hiw2 : (i + 1) * wi ≤ hi * wi := Nat.mul_le_mul_right _ hi'
        have hc1 : (i : Int) * (wi : Int) = ((i * wi : Nat) : Int) := by rw [Int.natCast_mul]
        have hc2 : ((i : Int) + 1) * (wi : Int) = (((i + 1) * wi : Nat) : Int) := by rw [Int.natCast_mul, Int.natCast_add]; rfl
        have g2 := s2 _ _ h1
        refine ⟨_, rfl, _, rfl, _, rfl, _, _, rfl, rfl, .inl ⟨by omega, by omega⟩, _, rfl, _, rfl, _, _, rfl, rfl, _, rfl, _, _, rfl, rfl, .inl ⟨by omega, by omega⟩, _, rfl, D, _, rfl, SqL.of g2, fun p hp => ?_⟩
        rw [hc1, hc2, cutV_mid _ _ _ hiw (by rw [List.length_map]; omega), ← List.map_drop, ← List.map_take]
        have s3 := same_upd (o := .lst (((ts.drop (i * wi)).take ((i + 1) * wi - i * wi)).map V.int)) hp
        have nD : D2 ≠ p := ne_of_none h2 hp
        refine ⟨s3 _ _ h2, kN _ _ _ ⟨⟨_, rfl⟩, (s2.trans s3).upd hD2, upd_same, by rw [List.length_append, l2]; rfl, fun y hy => ?_⟩⟩
        rcases List.mem_append.mp hy with hy | hy
        · obtain ⟨p', ns', e', g', l'⟩ := hL y hy
          have np : p' ≠ D2 := fun z => by
            rw [z, h2] at g'
            have e2 : xs = ns'.map V.int := by injection g' with g'; injection g'
            rw [e2] at hy
            obtain ⟨_, _, e3⟩ := List.mem_map.mp hy
            rw [e'] at e3
            cases e3
          exact ⟨p', ns', e', by rw [upd_ne np]; exact s3 _ _ g', l'⟩
        · refine ⟨p, _, List.mem_singleton.mp hy, by rw [upd_ne nD.symm]; exact upd_same, ?_⟩
          rw [List.length_take, List.length_drop, l1]
          have : (i + 1) * wi = i * wi + wi := Nat.succ_mul i wi
          omega
      · rintro xs σ' H2 ⟨⟨v, rfl⟩, s2, h2, l2, hL⟩
        exact q D2 xs H2 (s1.trans s2) h2 l2 hL
/-! ### _law_sums -/
def spSumsT (K : PySem.W.Frag) : Sp := fun vs H Q _ => ∃ (a : Addr) (ys : List V) (wi : Nat), vs = [.ref a] ∧ H a = some (.lst ys) ∧ 1 ≤ ys.length ∧ ys.length ≤ 16 ∧ wi ≤ 16 ∧ Lsts H ys wi ∧ ∀ (x l m : Addr) (rs cs : List Int) (H' : Hp), Same H H' → H l = none → H m = none → l ≠ m → H' x = some (.tup [.ref l, .ref m]) → H' l = some (.lst (rs.map V.int)) → H' m = some (.lst (cs.map V.int)) → rs.length = ys.length → cs.length = wi → Q (.ref x) H'
theorem scSumsT : FnScope ["cells"] ["cells"] (defScope sSumsT) := ⟨rfl, rfl, rfl, by decide +kernel, rfl, by decide +kernel, by decide +kernel⟩
set_option maxHeartbeats 1000000 in
theorem ok_sumsT {f : Addr} {fd : FuncData} (F : Fun K "_law_sums" "_law_sums" sSumsT f fd) (B : Bn mg) : FnOk P w K mg base CX0 1 f fd ["cells"] (spSumsT K) := by
  refine F.ok scSumsT (fun vs H Q E h => ?_) (fun cdv A outer s H vs Q E hr h => ?_)
  · obtain ⟨a, ys, wi, rfl, _⟩ := h
    rfl
  · obtain ⟨a, ys, wi, rfl, hA, hy1, hy2, hw, hL, q⟩ := h
    have hsl := sl1000
    have nd1 : (["row"] : List Str).Nodup := by decide +kernel
    have nd2 : (["k", "cells"] : List Str).Nodup := by decide +kernel
    have nd3 : (["row", "k"] : List Str).Nodup := by decide +kernel
    refine ⟨_, pss_one (ps_ret (pe_tup (pa_cons
        (pe_comp (N' := ["row"]) (lk := [none]) rfl (pi_list (pv 0)) (by rfl) rfl (by decide +kernel) (by exact trivial) (by rfl) (by exact LkL.ok trivial)
          (fun _ _ _ => pg_name (i := 0) nd1 rfl (Or.inl rfl)) (fun _ _ _ => pts_nil) (fun _ _ _ => pe_callB (call_sumK K rfl rfl) (by rfl) B.sum (by rfl) (pa_cons (pv 0) pa_nil)))
      (pa_cons
        (pe_compK (x0 := "k") (N' := ["k", "cells"]) (lk := [none, some 0]) rfl (pi_range1 rfl B.range (pa_cons (pe_callB call_len_seq (by rfl) B.len PySem.boot_len (pa_cons (pe_ix ix_list (pv 0) pe_int (fun _ _ => rfl)) pa_nil)) pa_nil)) (by rfl) rfl (by decide +kernel) (by exact ⟨rfl, trivial⟩) (by rfl) (by rfl) (fun _ => rfl) (fun _ => rfl) (by exact LkL.ok ⟨⟨rfl, Or.inl rfl, rfl, Or.inl rfl⟩, trivial⟩)
          (fun _ _ _ => pg_name (i := 0) nd2 rfl (Or.inr rfl)) (fun _ _ _ => pts_nil) (fun _ _ _ => pe_callB (call_sumK K rfl rfl) (by rfl) B.sum (by rfl) (pa_cons
            (pe_comp (N' := ["row", "k"]) (lk := [none, some 0]) rfl (pi_listK K rfl (pv 1)) (by rfl) rfl (by decide +kernel) (by exact ⟨rfl, trivial⟩) (by rfl) (by exact LkL.ok ⟨⟨rfl, Or.inl rfl, rfl, Or.inl rfl⟩, trivial⟩)
              (fun _ _ _ => pg_name (i := 0) nd3 rfl (Or.inl rfl)) (fun _ _ _ => pts_nil) (fun _ _ _ => pe_ixSK K rfl (pv 0) (pv 1) (fun _ _ => rfl))) pa_nil)))
      pa_nil)))), ?_⟩
    refine ⟨_, rfl, a, rfl, ⟨_, SqL.of hA⟩, fun D hD => comp_list (K := K) (a := a) (D := D) (ys := ys) (fun i xs σ' H' => (∃ v, σ' = [v]) ∧ Same H H' ∧ H' D = some (.lst xs) ∧ ∃ rs : List Int, xs = rs.map V.int ∧ rs.length = i)
      ⟨⟨none, rfl⟩, same_upd hD, upd_same, [], rfl, rfl⟩ (by omega) (fun i xs σ' H' hi' ⟨_, s1, h1, ts, e1, l1⟩ => ⟨SqL.of (s1 _ _ hA), h1, by rw [e1, List.length_map]; omega⟩) ?_ ?_⟩
    · rintro i xs x σ' H' N kN hx ⟨⟨v, rfl⟩, s1, h1, rs, rfl, l1⟩
      obtain ⟨p, ns, rfl, hp, hn⟩ := hL _ (List.mem_of_getElem? hx)
      refine gName_to (tTrue_if ?_)
      refine ⟨_, rfl, p, ns, rfl, SqL.of (s1 _ _ hp), h1, kN _ _ _ ⟨⟨_, rfl⟩, s1.upd hD, upd_same, rs ++ [ns.sum], by rw [List.map_append]; rfl, by rw [List.length_append, l1]; rfl⟩⟩
    · rintro xs σ' H1 ⟨⟨v, rfl⟩, s1, h1, rs, rfl, l1⟩
      have hA1 := s1 _ _ hA
      have hL1 := hL.same s1
      obtain ⟨y0, hy0⟩ : ∃ y, ys[0]? = some y := ⟨_, List.getElem?_eq_getElem (by omega)⟩
      obtain ⟨p0, ns0, rfl, hp0, hn0⟩ := hL1 _ (List.mem_of_getElem? hy0)
      refine ⟨_, rfl, a, _, _, _, rfl, rfl, SqL.of hA1, atI_nat (j := 0) hy0, p0, _, rfl, .inl (SqL.of hp0), (wi : Int), by rw [List.length_map, hn0], by omega, by omega, ?_⟩
      rw [Int.toNat_natCast]
      refine fun D2 hD2 => comp_range (lo := 0) (n := wi) (D := D2) (fun i xs σ' H' => (∃ v, σ' = [v, some (.ref a)]) ∧ Same H1 H' ∧ H' D2 = some (.lst xs) ∧ ∃ cs : List Int, xs = cs.map V.int ∧ cs.length = i)
        ⟨⟨none, rfl⟩, same_upd hD2, upd_same, [], rfl, rfl⟩ (by omega) (fun i xs σ' H' hi' ⟨_, _, h1, ts, e1, l1⟩ => ⟨h1, by rw [e1, List.length_map]; omega⟩) ?_ ?_
      · rintro i xs σ' H' N kN hi' ⟨⟨v, rfl⟩, s2, h2, cs, rfl, l2⟩
        rw [show ((0 : Int) + (i : Int)) = (i : Int) by omega]
        refine gName_to (tTrue_if ?_)
        have hA2 := s2 _ _ hA1
        have hL2 := hL1.same s2
        refine ⟨_, rfl, a, rfl, ⟨_, SqL.of hA2⟩, fun D3 hD3 => comp_list (K := K) (a := a) (D := D3) (ys := ys) (fun j xs σ'' H'' => (∃ v, σ'' = [v, some (.int i)]) ∧ Same H' H'' ∧ H'' D3 = some (.lst xs) ∧ ∃ es : List Int, xs = es.map V.int ∧ es.length = j)
          ⟨⟨none, rfl⟩, same_upd hD3, upd_same, [], rfl, rfl⟩ (by omega) (fun j xs σ'' H'' hj ⟨_, s3, h3, ts, e3, l3⟩ => ⟨SqL.of (s3 _ _ hA2), h3, by rw [e3, List.length_map]; omega⟩) ?_ ?_⟩
        · rintro j xs x σ'' H'' N' kN' hx ⟨⟨v, rfl⟩, s3, h3, es, rfl, l3⟩
          obtain ⟨p, ns, rfl, hp, hn⟩ := hL2 _ (List.mem_of_getElem? hx)
          refine gName_to (tTrue_if ?_)
          refine ⟨_, rfl, _, rfl, .inl ⟨p, _, _, _, rfl, rfl, SqL.of (s3 _ _ hp), at_int (by omega), h3, kN' _ _ _ ⟨⟨_, rfl⟩, s3.upd hD3, upd_same, es ++ [ns.getD i 0], by rw [List.map_append]; rfl, by rw [List.length_append, l3]; rfl⟩⟩⟩
        · rintro xs σ'' H3 ⟨⟨v, rfl⟩, s3, h3, es, rfl, l3⟩
          refine ⟨D3, es, rfl, SqL.of h3, s3 _ _ h2, kN _ _ _ ⟨⟨_, rfl⟩, (s2.trans s3).upd hD2, upd_same, cs ++ [es.sum], by rw [List.map_append]; rfl, by rw [List.length_append, l2]; rfl⟩⟩
      · rintro xs σ' H2 ⟨⟨v, rfl⟩, s2, h2, cs, rfl, l2⟩
        refine ⟨(by show 2 ≤ sizeLine; decide), fun x hx => ?_⟩
        have s3 := same_upd (o := .tup [.ref D, .ref D2]) hx
        exact q x D D2 rs cs _ (s1.trans (s2.trans s3)) hD (s1.free hD2) (ne_of_none h1 hD2) upd_same (s3 _ _ (s2 _ _ h1)) (s3 _ _ h2) l1 l2
end
end Web

namespace Web
open PySem L2
set_option autoImplicit false
set_option linter.all false
section
variable {P : Program} {w : World} {K : PySem.W.Frag} {mg : Str → Option Value} {base : Heap}
/-! ### check_tally -/
def isTl (ns : List Int) : Prop := 1 ≤ ns.length ∧ ns.length ≤ 24
def spChT (K : PySem.W.Frag) (CB : Addr) : Sp := fun vs H Q E => ∃ (a : Addr) (ns : List Int), vs = [.ref a] ∧ Sq K H a ns ∧ (isTl ns → Q .non H) ∧ (¬ isTl ns → E (.ref CB) none H)
theorem scChT : FnScope ["tally"] ["tally"] (defScope sChT) := ⟨rfl, rfl, rfl, by decide +kernel, rfl, by decide +kernel, by decide +kernel⟩
theorem ok_chT {f CB : Addr} {fd : FuncData} {tk : Tok} (F : Fun K "check_tally" "check_tally" sChT f fd) (B : Bn mg) (mM : mg "MOST_PLACES" = some (.int 24 tk)) (mB : mg "BadTally" = some (.ref CB)) (cB : ExcC K CB) : FnOk P w K mg base (CXE P w) 1 f fd ["tally"] (spChT K CB) := by
  refine F.okX scChT (fun vs H Q E h => ?_) (fun cdv A outer s H vs Q E hr h => ?_)
  · obtain ⟨a, ns, rfl, _⟩ := h
    rfl
  · obtain ⟨a, ns, rfl, hS, h1, h2⟩ := h
    refine ⟨_, pss_one (ps_if (pt_not (pt_chain op_le op_le pe_int (pe_callB call_len_seq (by rfl) B.len PySem.boot_len (pa_cons (pv 0) pa_nil)) (pe_glob (v := .int 24) (by rfl) mM ⟨tk, rfl⟩))) (pss_one (ps_raise (by rfl) mB cB)) pss_nil), ?_⟩
    refine ⟨_, rfl, a, _, rfl, hS, _, _, rfl, rfl, _, rfl, ?_⟩
    rw [List.length_map]
    by_cases hp : (1 : Int) ≤ (ns.length : Int)
    · rw [decide_eq_true hp]
      refine iteT ⟨_, _, rfl, rfl, _, rfl, ?_⟩
      by_cases hp' : (ns.length : Int) ≤ 24
      · rw [decide_eq_true hp']
        exact iteF (h1 ⟨by omega, by omega⟩)
      · rw [decide_eq_false hp']
        exact iteT (h2 fun z => hp' (by have := z.2; omega))
    · rw [decide_eq_false hp]
      exact iteF ⟨_, rfl, iteT (h2 fun z => hp (by have := z.1; omega))⟩
/-! ### is_place -/
def spIsP : Sp := fun vs H Q _ => ∃ a b : Int, vs = [.int a, .int b] ∧ Q (.bl (decide (0 ≤ b) && decide (b < a))) H
theorem scIsP : FnScope ["places", "number"] ["places", "number"] (defScope sIsP) := ⟨rfl, rfl, rfl, by decide +kernel, rfl, by decide +kernel, by decide +kernel⟩
theorem ok_isP {f : Addr} {fd : FuncData} (F : Fun K "is_place" "is_place" sIsP f fd) : FnOk P w K mg base CX0 1 f fd ["places", "number"] spIsP := by
  refine F.ok scIsP (fun vs H Q E h => ?_) (fun cdv A outer s H vs Q E hr h => ?_)
  · obtain ⟨a, b, rfl, _⟩ := h
    rfl
  · obtain ⟨a, b, rfl, k⟩ := h
    refine ⟨_, pss_one (ps_ret (pe_chain op_le op_lt pe_int (pv 1) (pv 0))), ?_⟩
    refine ⟨_, rfl, _, _, rfl, rfl, _, rfl, ?_⟩
    cases e : decide ((0 : Int) ≤ b) with
    | true =>
      refine iteT ⟨_, rfl, _, _, rfl, rfl, ?_⟩
      rw [e, Bool.true_and] at k
      exact k
    | false =>
      refine iteF ?_
      rw [e, Bool.false_and] at k
      exact k
theorem scChk : FnScope ["places", "number"] ["places", "number"] (defScope sChk) := ⟨rfl, rfl, rfl, by decide +kernel, rfl, by decide +kernel, by decide +kernel⟩
/-! ### check_place, of any number -/
def isPl (n : Nat) (a : Int) : Prop := 0 ≤ a ∧ a < n
def spChkX (CN : Addr) : Sp := fun vs H Q E => ∃ (n : Nat) (a : Int), vs = [.int n, .int a] ∧ (isPl n a → Q .non H) ∧ (¬ isPl n a → E (.ref CN) none H)
theorem ok_chkX {f fI CN : Addr} {fd fdI : FuncData} (F : Fun K "check_place" "check_place" sChk f fd) (FI : Fun K "is_place" "is_place" sIsP fI fdI) (bI : Binds K fdI ["places", "number"] []) (mI : mg "is_place" = some (.ref fI))
    (mN : mg "NoPlace" = some (.ref CN)) (cN : ExcC K CN) : FnOk P w K mg base (CXE P w) 2 f fd ["places", "number"] (spChkX CN) := by
  have GI : FnOk P w K mg base CX0 1 fI fdI ["places", "number"] spIsP := ok_isP FI
  refine F.okX scChk (fun vs H Q E h => ?_) (fun cdv A outer s H vs Q E hr h => ?_)
  · obtain ⟨n, a, rfl, _⟩ := h
    rfl
  · obtain ⟨n, a, rfl, h1, h2⟩ := h
    refine ⟨_, pss_one (ps_if (pt_not (pt_val (pe_call GI hr rfl mI FI.kp bI .nil pass0 (pa_cons (pv 0) (pa_cons (pv 1) pa_nil))))) (pss_one (ps_raise (by rfl) mN cN)) pss_nil), ?_⟩
    refine ⟨_, rfl, _, rfl, _, _, rfl, _, rfl, ?_⟩
    by_cases hp : isPl n a
    · rw [decide_eq_true hp.1, decide_eq_true hp.2]
      exact iteF (h1 hp)
    · have e : (decide ((0 : Int) ≤ a) && decide (a < (n : Int))) = false := by
        rw [Bool.and_eq_false_iff]
        by_cases z : (0 : Int) ≤ a
        · exact .inr (decide_eq_false fun z' => hp ⟨z, z'⟩)
        · exact .inl (decide_eq_false z)
      rw [e]
      exact iteT (h2 hp)
/-! ### moved -/
def mvd (ns : List Int) (p m : Int) : List Int := ns.set p.toNat (ns.getD p.toNat 0 + m)
def spMov (K : PySem.W.Frag) (CB CN : Addr) : Sp := fun vs H Q E => ∃ (a : Addr) (p m : Int) (ns : List Int), vs = [.ref a, .int p, .int m] ∧ Sq K H a ns ∧
  (isTl ns → isPl ns.length p → ∀ (l : Addr) (H' : Hp), Same H H' → H l = none → H' l = some (.lst ((mvd ns p m).map V.int)) → Q (.ref l) H') ∧ (¬ isTl ns → E (.ref CB) none H) ∧ (isTl ns → ¬ isPl ns.length p → E (.ref CN) none H)
theorem scMov : FnScope ["tally", "place", "more", "changed"] ["tally", "place", "more"] (defScope sMov) := ⟨rfl, rfl, rfl, by decide +kernel, rfl, by decide +kernel, by decide +kernel⟩
theorem ok_mov {f fT fC fI CB CN : Addr} {fd fdT fdC fdI : FuncData} {tk : Tok} (F : Fun K "moved" "moved" sMov f fd) (B : Bn mg) (FT : Fun K "check_tally" "check_tally" sChT fT fdT) (bT : Binds K fdT ["tally"] []) (mT : mg "check_tally" = some (.ref fT))
    (FC : Fun K "check_place" "check_place" sChk fC fdC) (bC : Binds K fdC ["places", "number"] []) (mC : mg "check_place" = some (.ref fC)) (FI : Fun K "is_place" "is_place" sIsP fI fdI) (bI : Binds K fdI ["places", "number"] []) (mI : mg "is_place" = some (.ref fI))
    (mM : mg "MOST_PLACES" = some (.int 24 tk)) (mB : mg "BadTally" = some (.ref CB)) (cB : ExcC K CB) (mN : mg "NoPlace" = some (.ref CN)) (cN : ExcC K CN) : FnOk P w K mg base (CXE P w) 3 f fd ["tally", "place", "more"] (spMov K CB CN) := by
  have GT : FnOk P w K mg base (CXE P w) 2 fT fdT ["tally"] (spChT K CB) := (ok_chT FT B mM mB cB).mono (by decide)
  have GC : FnOk P w K mg base (CXE P w) 2 fC fdC ["places", "number"] (spChkX CN) := ok_chkX FC FI bI mI mN cN
  refine F.okX scMov (fun vs H Q E h => ?_) (fun cdv A outer s H vs Q E hr h => ?_)
  · obtain ⟨a, p, m, ns, rfl, _⟩ := h
    rfl
  · obtain ⟨a, p, m, ns, rfl, hS, h1, h2, h3⟩ := h
    refine ⟨_, pss_cons (ps_expr (pe_call GT hr (by rfl) mT FT.kp bT .nil passE (pa_cons (pv 0) pa_nil)))
      (pss_cons (ps_expr (pe_call GC hr (by rfl) mC FC.kp bC .nil passE (pa_cons (pe_callB call_len_seq (by rfl) B.len PySem.boot_len (pa_cons (pv 0) pa_nil)) (pa_cons (pv 1) pa_nil))))
      (pss_cons (ps_set (i := 3) scMov.nd rfl (Or.inl rfl) (pe_callTy call_list_of (by rfl) B.list (by rfl) (pa_cons (pv 0) pa_nil)))
      (pss_cons (ps_augS (pv 3) (pv 1) get_list (pv 2) ip_add set_list)
      (pss_one (ps_ret (pv 3)))))), ?_⟩
    refine ⟨_, rfl, a, ns, rfl, hS, fun ht => ?_, h2⟩
    refine ⟨_, rfl, a, _, rfl, hS, _, rfl, (ns.map V.int).length, p, rfl, fun hp => ?_, fun hp => h3 ht (by rw [List.length_map] at hp; exact hp)⟩
    rw [List.length_map] at hp
    refine ⟨_, rfl, a, _, rfl, hS, fun l hl => ?_⟩
    obtain ⟨j, rfl⟩ : ∃ j : Nat, p = (j : Int) := ⟨p.toNat, by have := hp.1; omega⟩
    have hj : j < ns.length := by have := hp.2; omega
    have hat : atI (ns.map V.int) (j : Int) = some (.int (ns.getD j 0)) := atI_nat (j := j) (by simp [hj])
    refine ⟨_, rfl, _, rfl, l, _, _, _, rfl, rfl, SqL.of upd_same, hat, _, rfl, _, _, rfl, rfl, l, _, _, j, rfl, rfl, upd_same, ixN_nat (by rw [List.length_map]; exact hj), ?_⟩
    refine ⟨_, rfl, h1 ht hp l _ ?_ hl ?_⟩
    · rw [upd_upd]; exact same_upd hl
    · rw [upd_same, set_map_int]; rfl
end
end Web

namespace Web
open PySem L2
set_option autoImplicit false
set_option linter.all false
theorem isS_tl {ns : List Int} (h : isS ns) : isTl ns := ⟨h.1, Nat.le_trans h.2 (by decide)⟩
theorem mvd_len (ns : List Int) (p m : Int) : (mvd ns p m).length = ns.length := by unfold mvd; rw [List.length_set]
theorem isS_mvd {ns : List Int} {p m : Int} (h : isS ns) : isS (mvd ns p m) := by unfold isS; rw [mvd_len]; exact h
section
variable {P : Program} {w : World} {K : PySem.W.Frag} {mg : Str → Option Value} {base : Heap}
/-! ### wall_of_moved -/
def spWoM (K : PySem.W.Frag) (CN : Addr) : Sp := fun vs H Q E => ∃ (a b : Addr) (rs cs : List Int) (i j m : Int), vs = [.ref a, .ref b, .int i, .int j, .int m] ∧ Sq K H a rs ∧ Sq K H b cs ∧ isS rs ∧ isS cs ∧
  (isPl rs.length i → isPl cs.length j → ∀ (v : V) (x : Tw) (H' : Hp), Same H H' → IsTw (mvd rs i m) (mvd cs j m) x → TwAt H' v x → Q v H') ∧ (¬ (isPl rs.length i ∧ isPl cs.length j) → ∀ H', Same H H' → E (.ref CN) none H')
theorem scWoM : FnScope ["rows", "columns", "row", "column", "more"] ["rows", "columns", "row", "column", "more"] (defScope sWoM) := ⟨rfl, rfl, rfl, by decide +kernel, rfl, by decide +kernel, by decide +kernel⟩
theorem ok_woM {f fW fM CB CN : Addr} {fd fdW fdM : FuncData} (F : Fun K "wall_of_moved" "wall_of_moved" sWoM f fd) (FW : Fun K "wall_of_sums" "wall_of_sums" sWoS fW fdW) (bW : Binds K fdW ["rows", "columns"] []) (mW : mg "wall_of_sums" = some (.ref fW)) (GW : FnOk P w K mg base (CXE P w) 3 fW fdW ["rows", "columns"] (spWoS K CB))
    (FM : Fun K "moved" "moved" sMov fM fdM) (bM : Binds K fdM ["tally", "place", "more"] []) (mM : mg "moved" = some (.ref fM)) (GM : FnOk P w K mg base (CXE P w) 3 fM fdM ["tally", "place", "more"] (spMov K CB CN)) : FnOk P w K mg base (CXE P w) 4 f fd ["rows", "columns", "row", "column", "more"] (spWoM K CN) := by
  refine F.okX scWoM (fun vs H Q E h => ?_) (fun cdv A outer s H vs Q E hr h => ?_)
  · obtain ⟨a, b, rs, cs, i, j, m, rfl, _⟩ := h
    rfl
  · obtain ⟨a, b, rs, cs, i, j, m, rfl, hA, hB, h1, h2, q1, q2⟩ := h
    refine ⟨_, pss_one (ps_ret (pe_call GW hr (by rfl) mW FW.kp bW .nil passE (pa_cons (pe_call GM hr (by rfl) mM FM.kp bM .nil passE (pa_cons (pv 0) (pa_cons (pv 2) (pa_cons (pv 4) pa_nil)))) (pa_cons (pe_call GM hr (by rfl) mM FM.kp bM .nil passE (pa_cons (pv 1) (pa_cons (pv 3) (pa_cons (pv 4) pa_nil)))) pa_nil)))), ?_⟩
    refine ⟨_, rfl, _, rfl, _, rfl, a, i, m, rs, rfl, hA, fun _ hi l H1 s1 fl gl => ?_, fun h => absurd (isS_tl h1) h, fun _ hi => q2 (fun z => hi z.1) H (Same.refl H)⟩
    refine ⟨_, rfl, _, rfl, _, rfl, b, j, m, cs, rfl, hB.same s1, fun _ hj l2 H2 s2 fl2 gl2 => ?_, fun h => absurd (isS_tl h2) h, fun _ hj => q2 (fun z => hj z.2) _ s1⟩
    refine ⟨l, l2, _, _, rfl, .inl (SqL.of (s2 _ _ gl)), .inl (SqL.of gl2), fun _ _ v x H3 s3 hx hv => q1 hi hj v x H3 ((s1.trans s2).trans s3) hx hv, fun h => absurd ⟨isS_mvd h1, isS_mvd h2⟩ h⟩
/-! ### cell_told -/
/-- what cell_told tells -/
def CtAt (rs cs : List Int) (i j : Int) (x : Str) : Prop := (x = "one" ∧ ¬ IsTw (mvd rs i 1) (mvd cs j 1) .free) ∨ (x = "nought" ∧ IsTw (mvd rs i 1) (mvd cs j 1) .free ∧ ¬ IsTw (mvd rs i (-1)) (mvd cs j (-1)) .free) ∨
  (x = "either" ∧ IsTw (mvd rs i 1) (mvd cs j 1) .free ∧ IsTw (mvd rs i (-1)) (mvd cs j (-1)) .free)
def spCTd (K : PySem.W.Frag) (CN CW : Addr) : Sp := fun vs H Q E => ∃ (a b : Addr) (rs cs : List Int) (i j : Int), vs = [.ref a, .ref b, .int i, .int j] ∧ Sq K H a rs ∧ Sq K H b cs ∧ isS rs ∧ isS cs ∧
  (IsTw rs cs .free → isPl rs.length i → isPl cs.length j → ∀ (x : Str) (H' : Hp), Same H H' → CtAt rs cs i j x → Q (.str x) H') ∧ (IsTw rs cs .free → ¬ (isPl rs.length i ∧ isPl cs.length j) → ∀ H', Same H H' → E (.ref CN) none H') ∧ (¬ IsTw rs cs .free → ∀ H', Same H H' → E (.ref CW) none H')
theorem scCTd : FnScope ["rows", "columns", "row", "column"] ["rows", "columns", "row", "column"] (defScope sCTd) := ⟨rfl, rfl, rfl, by decide +kernel, rfl, by decide +kernel, by decide +kernel⟩
theorem ok_ctd {f fW fO CB CN CW : Addr} {fd fdW fdO : FuncData} (F : Fun K "cell_told" "cell_told" sCTd f fd) (FW : Fun K "wall_of_sums" "wall_of_sums" sWoS fW fdW) (bW : Binds K fdW ["rows", "columns"] []) (mW : mg "wall_of_sums" = some (.ref fW)) (GW : FnOk P w K mg base (CXE P w) 4 fW fdW ["rows", "columns"] (spWoS K CB))
    (FO : Fun K "wall_of_moved" "wall_of_moved" sWoM fO fdO) (bO : Binds K fdO ["rows", "columns", "row", "column", "more"] []) (mO : mg "wall_of_moved" = some (.ref fO)) (GO : FnOk P w K mg base (CXE P w) 4 fO fdO ["rows", "columns", "row", "column", "more"] (spWoM K CN)) (mX : mg "NoWeb" = some (.ref CW)) (cX : ExcC K CW) :
    FnOk P w K mg base (CXE P w) 5 f fd ["rows", "columns", "row", "column"] (spCTd K CN CW) := by
  refine F.okX scCTd (fun vs H Q E h => ?_) (fun cdv A outer s H vs Q E hr h => ?_)
  · obtain ⟨a, b, rs, cs, i, j, rfl, _⟩ := h
    rfl
  · obtain ⟨a, b, rs, cs, i, j, rfl, hA, hB, h1, h2, q1, q2, q3⟩ := h
    refine ⟨_, pss_cons (ps_if (pt_cmpR op_notN (pe_call GW hr (by rfl) mW FW.kp bW .nil passE (pa_cons (pv 0) (pa_cons (pv 1) pa_nil))) pe_non (by rfl)) (pss_one (ps_raise (by rfl) mX cX)) pss_nil)
      (pss_cons (ps_if (pt_cmpR op_notN (pe_call GO hr (by rfl) mO FO.kp bO .nil passE (pa_cons (pv 0) (pa_cons (pv 1) (pa_cons (pv 2) (pa_cons (pv 3) (pa_cons pe_int pa_nil)))))) pe_non (by rfl)) (pss_one (ps_ret pe_str)) pss_nil)
      (pss_cons (ps_if (pt_cmpR op_notN (pe_call GO hr (by rfl) mO FO.kp bO .nil passE (pa_cons (pv 0) (pa_cons (pv 1) (pa_cons (pv 2) (pa_cons (pv 3) (pa_cons (pe_un un_neg pe_int) pa_nil)))))) pe_non (by rfl)) (pss_one (ps_ret pe_str)) pss_nil)
      (pss_one (ps_ret pe_str)))), ?_⟩
    refine ⟨_, rfl, _, rfl, a, b, rs, cs, rfl, hA, hB, fun _ _ v x H1 s1 hx hv => ⟨rfl, _, rfl, ?_⟩, fun h => absurd ⟨h1, h2⟩ h⟩
    rcases hv with ⟨rfl, rfl⟩ | ⟨hne, u, rfl, _⟩
    · refine iteF ⟨_, rfl, _, rfl, _, rfl, _, rfl, a, b, rs, cs, i, j, 1, rfl, hA.same s1, hB.same s1, h1, h2, fun hi hj v x H2 s2 hx2 hv2 => ⟨rfl, _, rfl, ?_⟩, fun h H' s' => q2 hx h H' (s1.trans s')⟩
      rcases hv2 with ⟨rfl, rfl⟩ | ⟨hne, u, rfl, _⟩
      · refine iteF ⟨_, rfl, _, rfl, _, rfl, _, rfl, _, rfl, a, b, rs, cs, i, j, -1, rfl, hA.same (s1.trans s2), hB.same (s1.trans s2), h1, h2, fun _ _ v x H3 s3 hx3 hv3 => ⟨rfl, _, rfl, ?_⟩, fun h => absurd ⟨hi, hj⟩ h⟩
        have s13 := (s1.trans s2).trans s3
        rcases hv3 with ⟨rfl, rfl⟩ | ⟨hne, u, rfl, _⟩
        · exact iteF (q1 hx hi hj _ _ s13 (.inr (.inr ⟨rfl, hx2, hx3⟩)))
        · exact iteT (q1 hx hi hj _ _ s13 (.inr (.inl ⟨rfl, hx2, fun z => hne (tw_uniq hx3 z)⟩)))
      · exact iteT (q1 hx hi hj _ _ (s1.trans s2) (.inl ⟨rfl, fun z => hne (tw_uniq hx2 z)⟩))
    · exact iteT (q3 (fun z => hne (tw_uniq hx z)) H1 s1)
end
end Web

namespace Web
open PySem L2
set_option autoImplicit false
set_option linter.all false
theorem int_dec {a b : Int} (h : decide (V.int a = V.int b) = true) : a = b := by
  have := of_decide_eq_true h
  injection this
theorem int_ndec {a b : Int} (h : ¬ decide (V.int a = V.int b) = true) : ¬ a = b := fun e => h (by rw [e]; exact decide_eq_true rfl)
theorem cat_bit {K : PySem.W.Frag} {H : Hp} {Q : VK} {a p : Addr} {r : List Int} {b : Int} (ha : H a = some (.tup (r.map V.int))) (hp : H p = some (.tup [.int b])) (hl : r.length ≤ 100) (q : ∀ (t : Addr) (H' : Hp), Same H H' → H' t = some (.tup ((r ++ [b]).map V.int)) → Q (.ref t) H') : rCatT0 K (.ref a) (.ref p) H Q := by
  have hsl := sl1000
  refine ⟨a, p, _, _, rfl, rfl, SqT.of ha, SqT.of hp, by simp, by rw [List.length_map]; show r.length + 1 ≤ _; omega, fun e => ?_, fun _ t ht => ?_⟩
  · refine q p H (Same.refl H) ?_
    rw [List.map_append, e]
    exact hp
  · refine q t _ (same_upd ht) ?_
    rw [List.map_append]
    exact upd_same
def nxtR (many n : Int) (r : List Int) : List (List Int) := (r ++ [0]) :: (if 0 < n ∧ r.sum < many then [r ++ [1]] else [])
theorem rowsI_succ (many : Int) (left : List Int) (i : Nat) : rowsI many left (i + 1) = (rowsI many left i).flatMap (nxtR many (left.getD i 0)) := rfl
theorem flat_take {α : Type} {L : List (List Int)} {f : List Int → List α} {k : Nat} {r : List Int} (h : L[k]? = some r) : (L.take (k + 1)).flatMap f = (L.take k).flatMap f ++ f r := by
  rw [List.take_add_one, h, Option.toList_some, List.flatMap_append, List.flatMap_cons, List.flatMap_nil, List.append_nil]
theorem nxt_len (many n : Int) (L : List (List Int)) : (L.flatMap (nxtR many n)).length ≤ 2 * L.length := by
  induction L with
  | nil => exact Nat.le_refl _
  | cons r L ih =>
    have b : (nxtR many n r).length ≤ 2 := by unfold nxtR; split <;> simp
    rw [List.flatMap_cons, List.length_append, List.length_cons]
    omega
theorem pow_le4 : ∀ i, i ≤ 4 → 2 ^ i ≤ 16 := by decide
seal L2.PE L2.PA L2.PS L2.PSs L2.PT
section
variable {P : Program} {w : World} {K : PySem.W.Frag} {mg : Str → Option Value} {base : Heap}
/-! ### _law_rows_of -/
def spRowsOf : Sp := fun vs H Q _ => ∃ (many : Int) (a : Addr) (left : List Int), vs = [.int many, .ref a] ∧ H a = some (.lst (left.map V.int)) ∧ left.length ≤ 4 ∧ ∀ (D : Addr) (ys : List V) (H' : Hp), Same H H' → H D = none → H' D = some (.lst ys) → TupH H' ys (rowsR many left) → Q (.ref D) H'
theorem scRowsOf : FnScope ["many", "left", "rows", "number", "longer", "row"] ["many", "left"] (defScope sRowsOf) := ⟨rfl, rfl, rfl, by decide +kernel, rfl, by decide +kernel, by decide +kernel⟩
set_option maxHeartbeats 1000000 in
theorem ok_rowsOf {f : Addr} {fd : FuncData} (F : Fun K "_law_rows_of" "_law_rows_of" sRowsOf f fd) (B : Bn mg) : FnOk P w K mg base CX0 1 f fd ["many", "left"] spRowsOf := by
  refine F.ok scRowsOf (fun vs H Q E h => ?_) (fun cdv A outer s H vs Q E hr h => ?_)
  · obtain ⟨many, a, left, rfl, _⟩ := h
    rfl
  · obtain ⟨many, a, left, rfl, hA, hl4, q⟩ := h
    have hsl := sl1000
    have nd2 : (["row", "many"] : List Str).Nodup := by decide +kernel
    refine ⟨_, pss_cons (ps_set (i := 2) scRowsOf.nd rfl (Or.inl rfl) (pe_lst (pa_cons (pe_tup pa_nil) pa_nil)))
      (pss_cons (ps_for PassesOwn.never rfl (pi_list (pv 1)) (pg_name (i := 3) scRowsOf.nd rfl (Or.inl rfl))
        (pss_cons (ps_set (i := 4) scRowsOf.nd rfl (Or.inl rfl) (pe_lst pa_nil))
        (pss_cons (ps_for PassesOwn.never rfl (pi_list (pv 2)) (pg_name (i := 5) scRowsOf.nd rfl (Or.inl rfl))
          (pss_cons (ps_expr (pe_bm PySem.F.plainAttrs_list PySem.F.slot_list_append PySem.F.type_list_append mt_append (pv 4) (pa_cons (pe_op op_catT0 (pv 5) (pe_tup (pa_cons pe_int pa_nil))) pa_nil)))
          (pss_one (ps_if (PW.pt (pw_and (pt_cmpR op_gt (pv 3) pe_int (nomark _)) (pw_and1 (pt_cmpR op_lt (pe_callB (call_sumT rfl) (by rfl) B.sum (by rfl) (pa_cons (pv 5) pa_nil)) (pv 0) (nomark _)))))
            (pss_one (ps_expr (pe_bm PySem.F.plainAttrs_list PySem.F.slot_list_append PySem.F.type_list_append mt_append (pv 4) (pa_cons (pe_op op_catT0 (pv 5) (pe_tup (pa_cons pe_int pa_nil))) pa_nil)))) pss_nil))))
        (pss_one (ps_set (i := 2) scRowsOf.nd rfl (Or.inl rfl) (pv 4))))))
      (pss_one (ps_ret (pe_comp (N' := ["row", "many"]) (lk := [none, some 0]) rfl (pi_list (pv 2)) (by rfl) rfl (by decide +kernel) (by exact ⟨rfl, trivial⟩) (by rfl) (by exact LkL.ok ⟨⟨rfl, Or.inl rfl, rfl, Or.inl rfl⟩, trivial⟩)
        (fun _ _ _ => pg_name (i := 0) nd2 rfl (Or.inl rfl)) (fun _ _ _ => pts_one (pt_cmpR op_eq (pe_callB (call_sumTK K rfl rfl) (by rfl) B.sum (by rfl) (pa_cons (pv 0) pa_nil)) (pv 1) (nomark _))) (fun _ _ _ => pv 0))))), ?_⟩
    refine ⟨(by show 0 ≤ sizeLine; omega), fun t0 ft0 => ?_⟩
    have s0 := same_upd (o := .tup []) ft0
    refine ⟨(by show 1 ≤ sizeLine; decide), fun rl frl => ?_⟩
    have s1 := same_upd (o := .lst [.ref t0]) frl
    have s01 := s0.trans s1
    have grl : (upd (upd H t0 (.tup [])) rl (.lst [.ref t0])) rl = some (.lst [.ref t0]) := upd_same
    have gt0 := s1 _ _ (show (upd H t0 (.tup [])) t0 = some (.tup []) from upd_same)
    generalize upd (upd H t0 (.tup [])) rl (.lst [.ref t0]) = H1 at s01 grl gt0 ⊢
    refine gName_to ?_
    refine ⟨_, rfl, a, rfl, ⟨_, SqL.of (s01 _ _ hA)⟩, ?_⟩
    refine for_list (K := K) (a := a) (xs := left.map V.int) (fun i σ H2 => ∃ (rl : Addr) (ys : List V) (e3 e4 e5 : Option V), σ = [some (.int many), some (.ref a), some (.ref rl), e3, e4, e5] ∧ Same H H2 ∧ H2 rl = some (.lst ys) ∧ TupH H2 ys (rowsI many left i)) ⟨rl, [.ref t0], none, none, none, rfl, s01, grl, TupH.one gt0⟩ (fun i σ H2 _ ⟨_, _, _, _, _, _, s2, _⟩ => SqL.of (s2 _ _ hA)) ?_ ?_
    · rintro i x σ H2 hx ⟨rl, ys, e3, e4, e5, rfl, s2, grl, tt⟩
      obtain ⟨z, hz, rfl⟩ := int_get hx
      have hi : i < left.length := (List.getElem?_eq_some_iff.mp hz).1
      have hzd : left.getD i 0 = z := by rw [List.getD_eq_getElem?_getD, hz]; rfl
      have hyl := tt.len
      have hrl := rowsI_len many left i
      have hp4 := pow_le4 i (by omega)
      refine gName_to ?_
      refine ⟨by show 0 ≤ sizeLine; omega, fun lg flg => ?_⟩
      have s3 := same_upd (o := .lst []) flg
      have fH : H lg = none := s2.free flg
      have nrl : rl ≠ lg := ne_of_none grl flg
      have grl3 := s3 _ _ grl
      have tt3 := tt.same s3
      have glg : (upd H2 lg (.lst [])) lg = some (.lst []) := upd_same
      have s23 := s2.trans s3
      generalize upd H2 lg (.lst []) = H3 at grl3 tt3 glg s23 ⊢
      refine gName_to ?_
      refine ⟨_, rfl, rl, rfl, ⟨_, SqL.of grl3⟩, ?_⟩
      refine for_list (K := K) (a := rl) (xs := ys) (fun k σ H4 => ∃ (zs : List V) (e5 : Option V), σ = [some (.int many), some (.ref a), some (.ref rl), some (.int z), some (.ref lg), e5] ∧ Same H H4 ∧ H4 rl = some (.lst ys) ∧ TupH H4 ys (rowsI many left i) ∧ H4 lg = some (.lst zs) ∧ TupH H4 zs (((rowsI many left i).take k).flatMap (nxtR many z))) ⟨[], e5, rfl, s23, grl3, tt3, glg, .nil⟩ (fun k σ H4 _ ⟨_, _, _, _, g, _⟩ => SqL.of g) ?_ ?_
      · rintro k x σ H4 hx ⟨zs, e5', rfl, s4, grl4, tt4, glg4, tz4⟩
        obtain ⟨pa, r, rfl, hr', hpa⟩ := tt4.get hx
        obtain ⟨rm1, rm2, _⟩ := (rowsI_mem many left i r).mp (List.mem_of_getElem? hr')
        have hzl := tz4.len
        have hfl := nxt_len many z ((rowsI many left i).take k)
        have hkl : k < ys.length := (List.getElem?_eq_some_iff.mp hx).1
        rw [List.length_take] at hfl
        refine gName_to ?_
        refine ⟨_, rfl, .inl ⟨rfl, _, SqL.of glg4⟩, _, rfl, (by show 1 ≤ sizeLine; decide), fun b0 fb0 => ?_⟩
        have s5 := same_upd (o := .tup [.int 0]) fb0
        refine cat_bit (s5 _ _ hpa) upd_same (by omega) fun t H5 s6 gt => ?_
        have s56 := s5.trans s6
        refine ⟨lg, zs, _, rfl, rfl, s56 _ _ glg4, by omega, ?_⟩
        have tzU : TupH (upd H5 lg (.lst (zs ++ [.ref t]))) (zs ++ [.ref t]) (((rowsI many left i).take k).flatMap (nxtR many z) ++ [r ++ [0]]) := ((tz4.same s56).append (TupH.one gt)).updL (s56 _ _ glg4)
        have ttU : TupH (upd H5 lg (.lst (zs ++ [.ref t]))) ys (rowsI many left i) := (tt4.same s56).updL (s56 _ _ glg4)
        have sU : Same H (upd H5 lg (.lst (zs ++ [.ref t]))) := (s4.trans s56).upd fH
        have grU : (upd H5 lg (.lst (zs ++ [.ref t]))) rl = some (.lst ys) := by rw [upd_ne nrl]; exact s56 _ _ grl4
        have gpU : (upd H5 lg (.lst (zs ++ [.ref t]))) pa = some (.tup (r.map V.int)) := by rw [upd_ne (fun e => by rw [e, glg4] at hpa; cases hpa)]; exact s56 _ _ hpa
        have glU : (upd H5 lg (.lst (zs ++ [.ref t]))) lg = some (.lst (zs ++ [.ref t])) := upd_same
        generalize upd H5 lg (.lst (zs ++ [.ref t])) = HU at tzU ttU sU grU gpU glU ⊢
        have ft : ∀ (more : List (List Int)), nxtR many z r = [r ++ [0]] ++ more → ((rowsI many left i).take (k + 1)).flatMap (nxtR many z) = (((rowsI many left i).take k).flatMap (nxtR many z) ++ [r ++ [0]]) ++ more := fun more e => by rw [flat_take hr', e, List.append_assoc]
        have skip : ¬ (0 < z ∧ r.sum < many) → ∃ (zs' : List V) (e5 : Option V), ([some (.int many), some (.ref a), some (.ref rl), some (.int z), some (.ref lg), some (.ref pa)] : St) = [some (.int many), some (.ref a), some (.ref rl), some (.int z), some (.ref lg), e5] ∧ Same H HU ∧ HU rl = some (.lst ys) ∧ TupH HU ys (rowsI many left i) ∧ HU lg = some (.lst zs') ∧ TupH HU zs' (((rowsI many left i).take (k + 1)).flatMap (nxtR many z)) := fun hc => ⟨_, _, rfl, sU, grU, ttU, glU, by
          rw [ft [] (by unfold nxtR; rw [if_neg hc]; rfl), List.append_nil]; exact tzU⟩
        refine ⟨_, rfl, _, _, rfl, rfl, _, rfl, ?_⟩
        refine ite2 (fun h1 => ?_) (fun h1 => ?_)
        · have z0 := of_decide_eq_true h1
          refine ⟨_, rfl, pa, r, rfl, SqT.of gpU, _, rfl, _, _, rfl, rfl, _, rfl, ?_⟩
          refine ite2 (fun h2 => ?_) (fun h2 => ?_)
          · have z1 := of_decide_eq_true h2
            refine ⟨_, rfl, .inl ⟨rfl, _, SqL.of glU⟩, _, rfl, (by show 1 ≤ sizeLine; decide), fun b1 fb1 => ?_⟩
            have s7 := same_upd (o := .tup [.int 1]) fb1
            refine cat_bit (s7 _ _ gpU) upd_same (by omega) fun t' H6 s8 gt' => ?_
            have s78 := s7.trans s8
            refine ⟨lg, zs ++ [.ref t], _, rfl, rfl, s78 _ _ glU, by rw [List.length_append]; show zs.length + 1 < _; omega, ?_⟩
            refine ⟨_, _, rfl, (sU.trans s78).upd fH, by rw [upd_ne nrl]; exact s78 _ _ grU, (ttU.same s78).updL (s78 _ _ glU), upd_same, ?_⟩
            rw [ft [r ++ [1]] (by unfold nxtR; rw [if_pos ⟨z0, z1⟩]; rfl)]
            exact ((tzU.same s78).append (TupH.one gt')).updL (s78 _ _ glU)
          · exact skip fun z => h2 (decide_eq_true z.2)
        · exact iteF (skip fun z => h1 (decide_eq_true z.1))
      · rintro σ H4 ⟨zs, e5', rfl, s4, grl4, tt4, glg4, tz4⟩
        rw [List.take_of_length_le (by omega)] at tz4
        refine ⟨_, rfl, lg, zs, _, _, _, rfl, s4, glg4, ?_⟩
        rw [rowsI_succ, hzd]
        exact tz4
    · rintro σ H2 ⟨rl, ys, e3, e4, e5, rfl, s2, grl, tt⟩
      rw [List.length_map] at tt
      have hyl := tt.len
      have hrl := rowsI_len many left left.length
      have hp4 := pow_le4 left.length hl4
      refine ⟨_, rfl, rl, rfl, ⟨_, SqL.of grl⟩, fun D hD => ?_⟩
      refine comp_list (K := K) (a := rl) (D := D) (ys := ys) (fun i xs σ' H' => (∃ v, σ' = [v, some (.int many)]) ∧ Same H2 H' ∧ H' D = some (.lst xs) ∧ xs.length ≤ i ∧ TupH H' xs (((rowsI many left left.length).take i).filter fun r => decide (r.sum = many))) ⟨⟨none, rfl⟩, same_upd hD, upd_same, Nat.le_refl _, .nil⟩ (by omega)
        (fun i xs σ' H' _ ⟨_, s6, h6, l6, _⟩ => ⟨SqL.of (s6 _ _ grl), h6, l6⟩) ?_ ?_
      · rintro i xs x σ' H' N kN hx ⟨⟨v, rfl⟩, s6, h6, l6, t6⟩
        obtain ⟨pa, r, rfl, hr', hpa⟩ := tt.get hx
        have hpa' := s6 _ _ hpa
        refine gName_to ?_
        refine ⟨_, rfl, pa, r, rfl, SqT.of hpa', _, rfl, rfl, _, rfl, ?_⟩
        have et : ((rowsI many left left.length).take (i + 1)).filter (fun r => decide (r.sum = many)) = ((rowsI many left left.length).take i).filter (fun r => decide (r.sum = many)) ++ (if r.sum = many then [r] else []) := by
          rw [List.take_add_one, hr', Option.toList_some, List.filter_append]
          congr 1
          by_cases e : r.sum = many
          · simp [e]
          · simp [e]
        refine ite2 (fun h => ?_) (fun h => ?_)
        · have e := int_dec h
          refine ⟨_, rfl, h6, kN _ _ _ ⟨⟨_, rfl⟩, s6.upd hD, upd_same, by rw [List.length_append]; show xs.length + 1 ≤ _; omega, ?_⟩⟩
          rw [et, if_pos e]
          exact (t6.append (TupH.one hpa')).updL h6
        · have e := int_ndec h
          refine kN _ _ _ ⟨⟨_, rfl⟩, s6, h6, by omega, ?_⟩
          rw [et, if_neg e, List.append_nil]
          exact t6
      · rintro xs σ' H3 ⟨_, s6, h6, _, t6⟩
        rw [List.take_of_length_le (by omega)] at t6
        exact q D xs H3 (s2.trans s6) (s2.free hD) h6 t6
end
end Web

namespace L2
open PySem PySem.Spec PyProof.Rows
theorem call_minLK {X : Cx} (K : PySem.W.Frag) (hK : X.K = K) (hc : X.calm = true) : CallR X (.builtin "min") (fun xs H Q => ∃ (p : Addr) (ns : List Int), xs = [.ref p] ∧ SqL K H p (ns.map V.int) ∧ 0 < ns.length ∧ ∀ m : Int, m ∈ ns → (∀ x ∈ ns, m ≤ x) → Q (.int m) H) := by subst hK; exact call_minL hc
end L2
namespace Web
open PySem L2
set_option autoImplicit false
set_option linter.all false
theorem sl5000 : 5000 ≤ sizeLine := by decide
/-- tables on the heap, each with what is left of the columns; the list at av is none of these -/
def FndA (av : Addr) (H : Hp) (ys : List V) (fs : List (List (List Int) × List Int)) : Prop := Paired (fun y (p : List (List Int) × List Int) => ∃ a t zs b, y = V.ref a ∧ H a = some (.tup [.ref t, .ref b]) ∧ H t = some (.tup zs) ∧ TupH H zs p.1 ∧ H b = some (.lst (p.2.map V.int)) ∧ b ≠ av) ys fs
theorem FndA.len {av : Addr} {H : Hp} {ys : List V} {fs : List (List (List Int) × List Int)} (h : FndA av H ys fs) : ys.length = fs.length := Paired.length h
theorem FndA.same {av : Addr} {H H' : Hp} {ys : List V} {fs : List (List (List Int) × List Int)} (h : FndA av H ys fs) (s : Same H H') : FndA av H' ys fs := Paired.mapP h fun _ _ ⟨a, t, zs, b, e, h1, h2, h3, h4, h5⟩ => ⟨a, t, zs, b, e, s _ _ h1, s _ _ h2, h3.same s, s _ _ h4, h5⟩
theorem FndA.av {av av' : Addr} {H : Hp} {ys : List V} {fs : List (List (List Int) × List Int)} (h : FndA av H ys fs) (n : H av' = none) : FndA av' H ys fs := Paired.mapP h fun _ _ ⟨a, t, zs, b, e, h1, h2, h3, h4, h5⟩ => ⟨a, t, zs, b, e, h1, h2, h3, h4, ne_of_none h4 n⟩
theorem FndA.updL {av : Addr} {H : Hp} {xs zs ys : List V} {fs : List (List (List Int) × List Int)} (h : FndA av H ys fs) (hl : H av = some (.lst xs)) : FndA av (upd H av (.lst zs)) ys fs := Paired.mapP h fun _ _ ⟨a, t, us, b, e, h1, h2, h3, h4, h5⟩ => ⟨a, t, us, b, e, by rw [upd_ne (fun z => by rw [z, hl] at h1; cases h1)]; exact h1, by rw [upd_ne (fun z => by rw [z, hl] at h2; cases h2)]; exact h2, h3.updL hl, by rw [upd_ne h5]; exact h4, h5⟩
theorem FndA.append {av : Addr} {H : Hp} : ∀ {ys zs : List V} {fs gs : List (List (List Int) × List Int)}, FndA av H ys fs → FndA av H zs gs → FndA av H (ys ++ zs) (fs ++ gs)
  | _, _, _, _, .nil, u => u
  | _, _, _, _, .cons r t, u => .cons r (FndA.append t u)
theorem FndA.get {av : Addr} {H : Hp} : ∀ {ys : List V} {fs : List (List (List Int) × List Int)} {i : Nat} {y : V}, FndA av H ys fs → ys[i]? = some y → ∃ a t zs b p, y = V.ref a ∧ fs[i]? = some p ∧ H a = some (.tup [.ref t, .ref b]) ∧ H t = some (.tup zs) ∧ TupH H zs p.1 ∧ H b = some (.lst (p.2.map V.int)) ∧ b ≠ av
  | _, _, _, _, .nil, h => by cases h
  | _, _, 0, _, .cons ⟨a, t, zs, b, e, h1, h2, h3, h4, h5⟩ _, h => by cases h; exact ⟨a, t, zs, b, _, e, rfl, h1, h2, h3, h4, h5⟩
  | _, _, i + 1, _, .cons _ t, h => FndA.get t (i := i) h
/-- tables on the heap -/
def TabsH (H : Hp) (ys : List V) (Ts : List (List (List Int))) : Prop := Paired (fun y T => ∃ t zs, y = V.ref t ∧ H t = some (.tup zs) ∧ TupH H zs T) ys Ts
theorem TabsH.len {H : Hp} {ys : List V} {Ts : List (List (List Int))} (h : TabsH H ys Ts) : ys.length = Ts.length := Paired.length h
theorem TabsH.same {H H' : Hp} {ys : List V} {Ts : List (List (List Int))} (h : TabsH H ys Ts) (s : Same H H') : TabsH H' ys Ts := Paired.mapP h fun _ _ ⟨t, zs, e, h1, h2⟩ => ⟨t, zs, e, s _ _ h1, h2.same s⟩
theorem TabsH.updL {H : Hp} {l : Addr} {xs zs ys : List V} {Ts : List (List (List Int))} (h : TabsH H ys Ts) (hl : H l = some (.lst xs)) : TabsH (upd H l (.lst zs)) ys Ts := Paired.mapP h fun _ _ ⟨t, us, e, h1, h2⟩ => ⟨t, us, e, by rw [upd_ne (fun z => by rw [z, hl] at h1; cases h1)]; exact h1, h2.updL hl⟩
theorem TabsH.append {H : Hp} : ∀ {ys zs : List V} {fs gs : List (List (List Int))}, TabsH H ys fs → TabsH H zs gs → TabsH H (ys ++ zs) (fs ++ gs)
  | _, _, _, _, .nil, u => u
  | _, _, _, _, .cons r t, u => .cons r (TabsH.append t u)
theorem TabsH.get {H : Hp} : ∀ {ys : List V} {Ts : List (List (List Int))} {i : Nat} {y : V}, TabsH H ys Ts → ys[i]? = some y → ∃ t zs T, y = V.ref t ∧ Ts[i]? = some T ∧ H t = some (.tup zs) ∧ TupH H zs T
  | _, _, _, _, .nil, h => by cases h
  | _, _, 0, _, .cons ⟨t, zs, e, h1, h2⟩ _, h => by cases h; exact ⟨t, zs, _, e, rfl, h1, h2⟩
  | _, _, i + 1, _, .cons _ t, h => TabsH.get t (i := i) h
def nxtA (many : Int) (p : List (List Int) × List Int) : List (List (List Int) × List Int) := (rowsR many p.2).map fun r => (p.1 ++ [r], subL p.2 r)
theorem allI_succ (rows cols : List Int) (i : Nat) : allI rows cols (i + 1) = (allI rows cols i).flatMap (nxtA (rows.getD i 0)) := rfl
theorem flat_takeP {L : List (List (List Int) × List Int)} {f : List (List Int) × List Int → List (List (List Int) × List Int)} {k : Nat} {p : List (List Int) × List Int} (h : L[k]? = some p) : (L.take (k + 1)).flatMap f = (L.take k).flatMap f ++ f p := by
  rw [List.take_add_one, h, Option.toList_some, List.flatMap_append, List.flatMap_cons, List.flatMap_nil, List.append_nil]
theorem nxtA_len (many : Int) (wi : Nat) (hw : wi ≤ 4) (L : List (List (List Int) × List Int)) (hL : ∀ p ∈ L, p.2.length = wi) : (L.flatMap (nxtA many)).length ≤ 16 * L.length := by
  induction L with
  | nil => exact Nat.le_refl _
  | cons p L ih =>
    have a := ih fun q hq => hL q (List.mem_cons_of_mem _ hq)
    have b : (nxtA many p).length ≤ 16 := by
      unfold nxtA rowsR
      rw [List.length_map]
      refine Nat.le_trans (List.length_filter_le ..) (Nat.le_trans (rowsI_len many p.2 p.2.length) ?_)
      rw [hL p List.mem_cons_self]
      exact pow_le4 wi hw
    rw [List.flatMap_cons, List.length_append, List.length_cons]
    omega
theorem zero_iff {l : List Int} {m : Int} (hm : m ∈ l) (hle : ∀ x ∈ l, m ≤ x) : (l.sum = 0 ∧ m = 0) ↔ (l.all fun x => decide (x = 0)) = true := by
  rw [List.all_eq_true]
  constructor
  · rintro ⟨h1, rfl⟩ x hx
    refine decide_eq_true ?_
    obtain ⟨i, hi, rfl⟩ := List.mem_iff_getElem.mp hx
    have := Grf.S_ge (f := fun j => l.getD j 0) hi fun j hj => by
      show 0 ≤ l.getD j 0
      rw [List.getD_eq_getElem?_getD, List.getElem?_eq_getElem hj]
      exact hle _ (List.getElem_mem hj)
    rw [S_sum, h1] at this
    have t : l.getD i 0 ≤ 0 := this
    rw [List.getD_eq_getElem?_getD, List.getElem?_eq_getElem hi] at t
    have t' : l[i] ≤ 0 := t
    have := hle _ (List.getElem_mem hi)
    omega
  · intro h
    exact ⟨sum_zero' fun x hx => of_decide_eq_true (h x hx), of_decide_eq_true (h m hm)⟩
theorem cat_row {K : PySem.W.Frag} {H : Hp} {Q : VK} {a p pr : Addr} {zs : List V} {T : List (List Int)} {r : List Int} (ha : H a = some (.tup zs)) (hT : TupH H zs T) (hp : H p = some (.tup [.ref pr])) (hr : H pr = some (.tup (r.map V.int))) (hl : zs.length ≤ 100) (q : ∀ (t : Addr) (us : List V) (H' : Hp), Same H H' → H' t = some (.tup us) → TupH H' us (T ++ [r]) → Q (.ref t) H') : rCatT0 K (.ref a) (.ref p) H Q := by
  have hsl := sl1000
  have hlen := hT.len
  refine ⟨a, p, _, _, rfl, rfl, SqT.of ha, SqT.of hp, by simp, by show zs.length + 1 ≤ _; omega, fun e => ?_, fun _ t ht => ?_⟩
  · subst e
    have e2 : T = [] := List.length_eq_zero_iff.mp hlen.symm
    subst e2
    exact q p [.ref pr] H (Same.refl H) hp (TupH.one hr)
  · have s := same_upd (o := .tup (zs ++ [.ref pr])) ht
    exact q t _ _ s upd_same ((hT.append (TupH.one hr)).same s)
end Web

namespace Web
open PySem L2
set_option autoImplicit false
set_option linter.all false
seal L2.PE L2.PA L2.PS L2.PSs L2.PT
section
variable {P : Program} {w : World} {K : PySem.W.Frag} {mg : Str → Option Value} {base : Heap}
/-! ### _law_all_of -/
def spAllOf : Sp := fun vs H Q _ => ∃ (a b : Addr) (rs cs : List Int), vs = [.ref a, .ref b] ∧ H a = some (.lst (rs.map V.int)) ∧ H b = some (.lst (cs.map V.int)) ∧ rs.length ≤ 3 ∧ 1 ≤ cs.length ∧ cs.length ≤ 4 ∧ ∀ (D : Addr) (ys : List V) (H' : Hp), Same H H' → H' D = some (.lst ys) → TabsH H' ys (allT rs cs) → ys.length ≤ 4096 → Q (.ref D) H'
theorem scAllOf : FnScope ["rows", "columns", "found", "many", "longer", "told", "left", "row"] ["rows", "columns"] (defScope sAllOf) := ⟨rfl, rfl, rfl, by decide +kernel, rfl, by decide +kernel, by decide +kernel⟩
set_option maxHeartbeats 2000000 in
theorem ok_allOf {f fR : Addr} {fd fdR : FuncData} (F : Fun K "_law_all_of" "_law_all_of" sAllOf f fd) (B : Bn mg) (FR : Fun K "_law_rows_of" "_law_rows_of" sRowsOf fR fdR) (bR : Binds K fdR ["many", "left"] []) (mR : mg "_law_rows_of" = some (.ref fR)) : FnOk P w K mg base CX0 2 f fd ["rows", "columns"] spAllOf := by
  have GR' : FnOk P w K mg base CX0 1 fR fdR ["many", "left"] spRowsOf := ok_rowsOf FR B
  refine F.ok scAllOf (fun vs H Q E h => ?_) (fun cdv A outer s H vs Q E hr h => ?_)
  · obtain ⟨a, b, rs, cs, rfl, _⟩ := h
    rfl
  · obtain ⟨a, b, rs, cs, rfl, hA, hB, hr3, hc1, hc4, q⟩ := h
    have hsl := sl5000
    have nd2 : (["told", "left"] : List Str).Nodup := by decide +kernel
    have nd3 : (["k", "left", "row"] : List Str).Nodup := by decide +kernel
    refine ⟨_, pss_cons (ps_set (i := 2) scAllOf.nd rfl (Or.inl rfl) (pe_lst (pa_cons (pe_tup (pa_cons (pe_tup pa_nil) (pa_cons (pe_callTy call_list_of (by rfl) B.list (by rfl) (pa_cons (pv 1) pa_nil)) pa_nil))) pa_nil)))
      (pss_cons (ps_for PassesOwn.never rfl (pi_list (pv 0)) (pg_name (i := 3) scAllOf.nd rfl (Or.inl rfl))
        (pss_cons (ps_set (i := 4) scAllOf.nd rfl (Or.inl rfl) (pe_lst pa_nil))
        (pss_cons (ps_for PassesOwn.never rfl (pi_list (pv 2)) (pg_tup rfl (pgs_cons (pg_name (i := 5) scAllOf.nd rfl (Or.inl rfl)) (pgs_cons (pg_name (i := 6) scAllOf.nd rfl (Or.inr rfl)) pgs_nil)))
          (pss_one (ps_for PassesOwn.never rfl (pi_list (pe_call GR' hr (by rfl) mR FR.kp bR .nil pass0 (pa_cons (pv 3) (pa_cons (pv 6) pa_nil)))) (pg_name (i := 7) scAllOf.nd rfl (Or.inr rfl))
            (pss_one (ps_expr (pe_bm PySem.F.plainAttrs_list PySem.F.slot_list_append PySem.F.type_list_append mt_append (pv 4) (pa_cons (pe_tup (pa_cons (pe_op op_catT0 (pv 5) (pe_tup (pa_cons (pv 7) pa_nil))) (pa_cons
              (pe_comp (N' := ["k", "left", "row"]) (lk := [none, some 6, some 7]) rfl (pi_range1 rfl B.range (pa_cons (pe_callB call_len_seq (by rfl) B.len PySem.boot_len (pa_cons (pv 6) pa_nil)) pa_nil)) (by rfl) rfl (by decide +kernel) (by exact ⟨rfl, rfl, trivial⟩) (by rfl) (by exact LkL.ok ⟨⟨rfl, Or.inl rfl, rfl, Or.inl rfl⟩, ⟨rfl, Or.inl rfl, rfl, Or.inl rfl⟩, trivial⟩)
                (fun _ _ _ => pg_name (i := 0) nd3 rfl (Or.inl rfl)) (fun _ _ _ => pts_nil) (fun _ _ _ => pe_op op_sub (pe_ixSK K rfl (pv 1) (pv 0) (fun _ _ => rfl)) (pe_ixSK K rfl (pv 2) (pv 0) (fun _ _ => rfl)))) pa_nil))) pa_nil)))))))
        (pss_one (ps_set (i := 2) scAllOf.nd rfl (Or.inl rfl) (pv 4))))))
      (pss_one (ps_ret (pe_comp (N' := ["told", "left"]) (lk := [none, none]) rfl (pi_list (pv 2)) (by rfl) rfl (by decide +kernel) (by exact trivial) (by rfl) (by exact LkL.ok trivial)
        (fun _ _ _ => pg_tupK (n := 2) K rfl rfl (pgs_cons (pg_name (i := 0) nd2 rfl (Or.inl rfl)) (pgs_cons (pg_name (i := 1) nd2 rfl (Or.inl rfl)) pgs_nil)))
        (fun _ _ _ => pts_one (PW.pt (pw_and (pt_cmpR op_eq (pe_callB (call_sumK K rfl rfl) (by rfl) B.sum (by rfl) (pa_cons (pv 1) pa_nil)) pe_int (nomark _)) (pw_and1 (pt_cmpR op_eq (pe_callB (call_minLK K rfl rfl) (by rfl) B.min (by rfl) (pa_cons (pv 1) pa_nil)) pe_int (nomark _)))))) (fun _ _ _ => pv 0))))), ?_⟩
    refine ⟨(by show 0 ≤ sizeLine; omega), fun t0 ft0 => ?_⟩
    have s0 := same_upd (o := .tup []) ft0
    refine ⟨_, rfl, b, _, rfl, .inl (SqL.of (s0 _ _ hB)), fun l0 fl0 => ?_⟩
    have s1 := same_upd (o := .lst (cs.map V.int)) fl0
    refine ⟨(by show 2 ≤ sizeLine; decide), fun p0 fp0 => ?_⟩
    have s2 := same_upd (o := .tup [.ref t0, .ref l0]) fp0
    refine ⟨(by show 1 ≤ sizeLine; decide), fun fl ffl => ?_⟩
    have s3 := same_upd (o := .lst [.ref p0]) ffl
    have s03 := s0.trans (s1.trans (s2.trans s3))
    have g3 : (upd (upd (upd (upd H t0 (.tup [])) l0 (.lst (cs.map V.int))) p0 (.tup [.ref t0, .ref l0])) fl (.lst [.ref p0])) fl = some (.lst [.ref p0]) := upd_same
    have fnd0 : FndA fl (upd (upd (upd (upd H t0 (.tup [])) l0 (.lst (cs.map V.int))) p0 (.tup [.ref t0, .ref l0])) fl (.lst [.ref p0])) [.ref p0] (allI rs cs 0) :=
      .cons ⟨p0, t0, [], l0, rfl, s3 _ _ upd_same, (s1.trans (s2.trans s3)) _ _ upd_same, .nil, (s2.trans s3) _ _ upd_same, ne_of_none (s2 _ _ upd_same) ffl⟩ .nil
    generalize upd (upd (upd (upd H t0 (.tup [])) l0 (.lst (cs.map V.int))) p0 (.tup [.ref t0, .ref l0])) fl (.lst [.ref p0]) = H1 at s03 g3 fnd0 ⊢
    refine gName_to ?_
    refine ⟨_, rfl, a, rfl, ⟨_, SqL.of (s03 _ _ hA)⟩, ?_⟩
    refine for_list (K := K) (a := a) (xs := rs.map V.int) (fun i σ H2 => ∃ (fl : Addr) (ys : List V) (e3 e4 e5 e6 e7 : Option V), σ = [some (.ref a), some (.ref b), some (.ref fl), e3, e4, e5, e6, e7] ∧ Same H H2 ∧ H2 fl = some (.lst ys) ∧ FndA fl H2 ys (allI rs cs i)) ⟨fl, [.ref p0], none, none, none, none, none, rfl, s03, g3, fnd0⟩ (fun i σ H2 _ ⟨_, _, _, _, _, _, _, _, s2, _⟩ => SqL.of (s2 _ _ hA)) ?_ ?_
    · rintro i x σ H2 hx ⟨fl, ys, e3, e4, e5, e6, e7, rfl, s2, gfl, fnd⟩
      obtain ⟨z, hz, rfl⟩ := int_get hx
      have hi : i < rs.length := (List.getElem?_eq_some_iff.mp hz).1
      have hzd : rs.getD i 0 = z := by rw [List.getD_eq_getElem?_getD, hz]; rfl
      have hyl := fnd.len
      have hal := allI_len (rows := rs) (cols := cs) (wi := cs.length) rfl (i := i) (by omega)
      have h16 : (2 ^ cs.length) ^ i ≤ 16 ^ i := Nat.pow_le_pow_left (pow_le4 _ hc4) i
      have h256 : 16 ^ i ≤ 256 := by
        have : i = 0 ∨ i = 1 ∨ i = 2 := by omega
        rcases this with e | e | e <;> rw [e] <;> decide
      have h2L : ∀ p ∈ allI rs cs i, p.2.length = cs.length := fun p hp => by
        obtain ⟨_, _, _, _, e, _⟩ := (allI_mem (i := i) (by omega) p.1 p.2).mp hp
        rw [e, lftC_len]
      have hTL : ∀ p ∈ allI rs cs i, p.1.length = i := fun p hp => ((allI_mem (i := i) (by omega) p.1 p.2).mp hp).1
      refine gName_to ?_
      refine ⟨by show 0 ≤ sizeLine; omega, fun lg flg => ?_⟩
      have s3 := same_upd (o := .lst []) flg
      have fH : H lg = none := s2.free flg
      have nfl : fl ≠ lg := ne_of_none gfl flg
      have gfl3 := s3 _ _ gfl
      have fnd3 := (fnd.av flg).same s3
      have glg : (upd H2 lg (.lst [])) lg = some (.lst []) := upd_same
      have s23 := s2.trans s3
      generalize upd H2 lg (.lst []) = H3 at gfl3 fnd3 glg s23 ⊢
      refine gName_to ?_
      refine ⟨_, rfl, fl, rfl, ⟨_, SqL.of gfl3⟩, ?_⟩
      refine for_list (K := K) (a := fl) (xs := ys) (fun k σ H4 => ∃ (zs : List V) (e5 e6 e7 : Option V), σ = [some (.ref a), some (.ref b), some (.ref fl), some (.int z), some (.ref lg), e5, e6, e7] ∧ Same H H4 ∧ H4 fl = some (.lst ys) ∧ FndA lg H4 ys (allI rs cs i) ∧ H4 lg = some (.lst zs) ∧ FndA lg H4 zs (((allI rs cs i).take k).flatMap (nxtA z))) ⟨[], e5, e6, e7, rfl, s23, gfl3, fnd3, glg, .nil⟩ (fun k σ H4 _ ⟨_, _, _, _, _, _, g, _⟩ => SqL.of g) ?_ ?_
      · rintro k x σ H4 hx ⟨zs, e5', e6', e7', rfl, s4, gfl4, fnd4, glg4, fz4⟩
        obtain ⟨pa, t, us, lb, p, rfl, hp, hpa, ht, hT, hlb, nlb⟩ := fnd4.get hx
        have hpm := List.mem_of_getElem? hp
        have hpl := h2L p hpm
        have hpT := hTL p hpm
        have hkl : k < ys.length := (List.getElem?_eq_some_iff.mp hx).1
        refine ⟨pa, _, rfl, SqT.of hpa, rfl, _, _, rfl, _, _, rfl, rfl, ?_⟩
        refine ⟨_, rfl, _, rfl, z, lb, p.2, rfl, hlb, by omega, fun Dr rw' H5 s5 fDr gDr tDr => ⟨Dr, rfl, ⟨_, SqL.of gDr⟩, ?_⟩⟩
        have hrl := tDr.len
        have hRl : (rowsR z p.2).length ≤ 16 := by
          unfold rowsR
          refine Nat.le_trans (List.length_filter_le ..) (Nat.le_trans (rowsI_len z p.2 p.2.length) ?_)
          rw [hpl]
          exact pow_le4 _ hc4
        have hfl := nxtA_len z cs.length hc4 ((allI rs cs i).take k) fun p hp => h2L p (List.mem_of_mem_take hp)
        rw [List.length_take] at hfl
        have hul := hT.len
        have nDr : Dr ≠ lg := (ne_of_none glg4 fDr).symm
        refine for_list (K := K) (a := Dr) (xs := rw') (fun k2 σ H6 => ∃ (zs : List V) (e7 : Option V), σ = [some (.ref a), some (.ref b), some (.ref fl), some (.int z), some (.ref lg), some (.ref t), some (.ref lb), e7] ∧ Same H H6 ∧ H6 fl = some (.lst ys) ∧ FndA lg H6 ys (allI rs cs i) ∧ H6 Dr = some (.lst rw') ∧ TupH H6 rw' (rowsR z p.2) ∧ H6 t = some (.tup us) ∧ TupH H6 us p.1 ∧ H6 lb = some (.lst (p.2.map V.int)) ∧ H6 lg = some (.lst zs) ∧ FndA lg H6 zs (((allI rs cs i).take k).flatMap (nxtA z) ++ ((rowsR z p.2).take k2).map fun r => (p.1 ++ [r], subL p.2 r))) ⟨zs, e7', rfl, s4.trans s5, s5 _ _ gfl4, fnd4.same s5, gDr, tDr, s5 _ _ ht, hT.same s5, s5 _ _ hlb, s5 _ _ glg4, by rw [List.take_zero, List.map_nil, List.append_nil]; exact fz4.same s5⟩ (fun k2 σ H6 _ ⟨_, _, _, _, _, _, g, _⟩ => SqL.of g) ?_ ?_
        · rintro k2 x σ H6 hx2 ⟨zs, e7', rfl, s6, gfl6, fnd6, gDr6, tDr6, ht6, hT6, hlb6, glg6, fz6⟩
          obtain ⟨pr, r, rfl, hr', hpr⟩ := tDr6.get hx2
          have hrl' := (rowsR_mem.mp (List.mem_of_getElem? hr')).1
          have hk2 : k2 < rw'.length := (List.getElem?_eq_some_iff.mp hx2).1
          have hzl := fz6.len
          rw [List.length_append, List.length_map, List.length_take] at hzl
          refine gName_to ?_
          refine ⟨_, rfl, .inl ⟨rfl, _, SqL.of glg6⟩, _, rfl, _, rfl, (by show 1 ≤ sizeLine; decide), fun q1 fq1 => ?_⟩
          have s7 := same_upd (o := .tup [.ref pr]) fq1
          refine cat_row (s7 _ _ ht6) (hT6.same s7) upd_same (s7 _ _ hpr) (by omega) fun t2 us2 H7 s8 gt2 tt2 => ?_
          have s78 := s7.trans s8
          refine ⟨_, rfl, lb, _, rfl, .inl (SqL.of (s78 _ _ hlb6)), (p.2.length : Int), congrArg (fun z : Nat => [V.int (z : Int)]) (List.length_map ..), by omega, by omega, fun D2 fD2 => ?_⟩
          rw [Int.toNat_natCast]
          refine comp_range (lo := 0) (n := p.2.length) (D := D2) (fun i xs σ' H' => (∃ v, σ' = [v, some (.ref lb), some (.ref pr)]) ∧ Same H7 H' ∧ H' D2 = some (.lst xs) ∧ xs = ((subL p.2 r).take i).map V.int) ⟨⟨none, rfl⟩, same_upd fD2, upd_same, rfl⟩ (by omega)
            (fun i xs σ' H' hi ⟨_, s9, h9, e9⟩ => ⟨h9, by rw [e9, List.length_map, List.length_take]; exact Nat.min_le_left _ _⟩) ?_ ?_
          · rintro j xs σ' H' N kN hj ⟨⟨v, rfl⟩, s9, h9, rfl⟩
            rw [show ((0 : Int) + (j : Int)) = (j : Int) by omega]
            refine gName_to (tTrue_if ?_)
            have e : (subL p.2 r).take (j + 1) = (subL p.2 r).take j ++ [p.2.getD j 0 - r.getD j 0] := by
              unfold subL
              rw [List.take_add_one, List.getElem?_map, List.getElem?_range hj]; rfl
            refine ⟨_, rfl, _, rfl, .inl ⟨lb, _, _, _, rfl, rfl, SqL.of ((s78.trans s9) _ _ hlb6), at_int hj, _, rfl, _, rfl, .inr (.inl ⟨pr, _, _, _, rfl, rfl, SqT.of ((s78.trans s9) _ _ hpr), at_int (by omega), _, _, rfl, rfl, h9, kN _ _ _ ⟨⟨_, rfl⟩, s9.upd fD2, upd_same, ?_⟩⟩)⟩⟩
            rw [e, List.map_append]
            rfl
          · rintro xs σ' H8 ⟨_, s9, h9, rfl⟩
            rw [List.take_of_length_le (by rw [subL_len]; exact Nat.le_refl _)] at h9
            refine ⟨(by show 2 ≤ sizeLine; decide), fun p2 fp2 => ?_⟩
            have s10 := same_upd (o := .tup [.ref t2, .ref D2]) fp2
            have s610 := (s78.trans s9).trans s10
            have glg10 := s610 _ _ glg6
            refine ⟨lg, zs, _, rfl, rfl, glg10, by omega, ?_⟩
            have nD2 : D2 ≠ lg := (ne_of_none (s78 _ _ glg6) fD2).symm
            have one : FndA lg (upd H8 p2 (.tup [.ref t2, .ref D2])) [.ref p2] [(p.1 ++ [r], subL p.2 r)] := .cons ⟨p2, t2, us2, D2, rfl, upd_same, (s9.trans s10) _ _ gt2, tt2.same (s9.trans s10), s10 _ _ h9, nD2⟩ .nil
            have et : ((rowsR z p.2).take (k2 + 1)).map (fun r => (p.1 ++ [r], subL p.2 r)) = ((rowsR z p.2).take k2).map (fun r => (p.1 ++ [r], subL p.2 r)) ++ [(p.1 ++ [r], subL p.2 r)] := by
              rw [List.take_add_one, hr', Option.toList_some, List.map_append]; rfl
            refine ⟨zs ++ [.ref p2], _, rfl, (s6.trans s610).upd fH, by rw [upd_ne nfl]; exact s610 _ _ gfl6, (fnd6.same s610).updL glg10, by rw [upd_ne nDr]; exact s610 _ _ gDr6, (tDr6.same s610).updL glg10, by rw [upd_ne (fun e => by rw [e, glg6] at ht6; cases ht6)]; exact s610 _ _ ht6, (hT6.same s610).updL glg10, by rw [upd_ne nlb]; exact s610 _ _ hlb6, upd_same, ?_⟩
            rw [et, ← List.append_assoc]
            exact ((fz6.same s610).append one).updL glg10
        · rintro σ H6 ⟨zs, e7', rfl, s6, gfl6, fnd6, gDr6, tDr6, ht6, hT6, hlb6, glg6, fz6⟩
          refine ⟨zs, _, _, _, rfl, s6, gfl6, fnd6, glg6, ?_⟩
          rw [flat_takeP hp]
          have ee : (rowsR z p.2).take rw'.length = rowsR z p.2 := List.take_of_length_le (by omega)
          rw [ee] at fz6
          exact fz6
      · rintro σ H4 ⟨zs, e5', e6', e7', rfl, s4, gfl4, fnd4, glg4, fz4⟩
        rw [List.take_of_length_le (by omega)] at fz4
        refine ⟨_, rfl, lg, zs, _, _, _, _, _, rfl, s4, glg4, ?_⟩
        rw [allI_succ, hzd]
        exact fz4
    · rintro σ H2 ⟨fl, ys, e3, e4, e5, e6, e7, rfl, s2, gfl, fnd⟩
      rw [List.length_map] at fnd
      have hyl := fnd.len
      have hal := allI_len (rows := rs) (cols := cs) (wi := cs.length) rfl (i := rs.length) (Nat.le_refl _)
      have h16 : (2 ^ cs.length) ^ rs.length ≤ 16 ^ rs.length := Nat.pow_le_pow_left (pow_le4 _ hc4) _
      have h4096 : 16 ^ rs.length ≤ 4096 := by
        have : rs.length = 0 ∨ rs.length = 1 ∨ rs.length = 2 ∨ rs.length = 3 := by omega
        rcases this with e | e | e | e <;> rw [e] <;> decide
      have h2L : ∀ p ∈ allI rs cs rs.length, p.2.length = cs.length := fun p hp => by
        obtain ⟨_, _, _, _, e, _⟩ := (allI_mem (Nat.le_refl _) p.1 p.2).mp hp
        rw [e, lftC_len]
      refine ⟨_, rfl, fl, rfl, ⟨_, SqL.of gfl⟩, fun D hD => ?_⟩
      refine comp_list (K := K) (a := fl) (D := D) (ys := ys) (fun i xs σ' H' => (∃ v u, σ' = [v, u]) ∧ Same H2 H' ∧ H' D = some (.lst xs) ∧ xs.length ≤ i ∧ TabsH H' xs ((((allI rs cs rs.length).take i).filter fun p => p.2.all fun x => decide (x = 0)).map (·.1))) ⟨⟨none, none, rfl⟩, same_upd hD, upd_same, Nat.le_refl _, .nil⟩ (by omega)
        (fun i xs σ' H' _ ⟨_, s6, h6, l6, _⟩ => ⟨SqL.of (s6 _ _ gfl), h6, l6⟩) ?_ ?_
      · rintro i xs x σ' H' N kN hx ⟨⟨v, u, rfl⟩, s6, h6, l6, t6⟩
        obtain ⟨pa, t, us, lb, p, rfl, hp, hpa, ht, hT, hlb, _⟩ := fnd.get hx
        have hpl := h2L p (List.mem_of_getElem? hp)
        have hlb' := s6 _ _ hlb
        refine ⟨pa, _, rfl, SqT.of (s6 _ _ hpa), rfl, _, _, rfl, _, _, rfl, rfl, ?_⟩
        have et : (((allI rs cs rs.length).take (i + 1)).filter fun p => p.2.all fun x => decide (x = 0)).map (·.1) = (((allI rs cs rs.length).take i).filter fun p => p.2.all fun x => decide (x = 0)).map (·.1) ++ (if (p.2.all fun x => decide (x = 0)) = true then [p.1] else []) := by
          rw [List.take_add_one, hp, Option.toList_some, List.filter_append, List.map_append]
          congr 1
          by_cases e : (p.2.all fun x => decide (x = 0)) = true
          · rw [if_pos e, List.filter_cons_of_pos (p := fun p : List (List Int) × List Int => p.2.all fun x => decide (x = 0)) e]; rfl
          · rw [if_neg e, List.filter_cons_of_neg (p := fun p : List (List Int) × List Int => p.2.all fun x => decide (x = 0)) e]; rfl
        have no : ¬ (p.2.all fun x => decide (x = 0)) = true → N xs [some (.ref t), some (.ref lb)] H' := fun e => kN _ _ _ ⟨⟨_, _, rfl⟩, s6, h6, by omega, by rw [et, if_neg e, List.append_nil]; exact t6⟩
        refine ⟨_, rfl, lb, p.2, rfl, SqL.of hlb', rfl, _, rfl, ?_⟩
        refine ite2 (fun h1 => ?_) (fun h1 => ?_)
        · have e1 := int_dec h1
          refine ⟨_, rfl, lb, p.2, rfl, SqL.of hlb', by omega, fun m hm hle => ⟨rfl, _, rfl, ?_⟩⟩
          refine ite2 (fun h2 => ?_) (fun h2 => ?_)
          · have e2 := int_dec h2
            have e := (zero_iff hm hle).mp ⟨e1, e2⟩
            refine ⟨_, rfl, h6, kN _ _ _ ⟨⟨_, _, rfl⟩, s6.upd hD, upd_same, by rw [List.length_append]; show xs.length + 1 ≤ _; omega, ?_⟩⟩
            rw [et, if_pos e]
            exact (t6.append (.cons ⟨t, us, rfl, s6 _ _ ht, hT.same s6⟩ .nil)).updL h6
          · exact no fun e => int_ndec h2 ((zero_iff hm hle).mpr e).2
        · refine iteF (no fun e => ?_)
          rw [List.all_eq_true] at e
          exact int_ndec h1 (sum_zero' fun x hx => of_decide_eq_true (e x hx))
      · rintro xs σ' H3 ⟨_, s6, h6, l6, t6⟩
        rw [List.take_of_length_le (by omega)] at t6
        exact q D xs H3 (s2.trans s6) h6 t6 (by omega)
end
end Web

namespace Web
open PySem L2
set_option autoImplicit false
set_option linter.all false
structure Cl46 (K : PySem.W.Frag) (mg : Str → Option Value) (CT CB CW CN : Addr) : Prop where
  mT : mg "TallyError" = some (.ref CT)
  mB : mg "BadTally" = some (.ref CB)
  mW : mg "NoWeb" = some (.ref CW)
  mN : mg "NoPlace" = some (.ref CN)
  cB : ExcC K CB
  cW : ExcC K CW
  kW : ExcK K CW
  xW : PySem.W.exmOne K (.ref CW) (.ref CT) = some true
  wW : PySem.W.kitOne K (.ref CW) (.ref CW) = some true
  nW : PySem.W.kitOne K (.ref CW) (.ref CN) = some false
  bW : PySem.W.kitOne K (.ref CW) (.ref CB) = some false
  vW : PySem.W.kitOne K (.ref CW) (.type "ValueError") = some true
  cN : ExcC K CN
  kN : ExcK K CN
  xN : PySem.W.exmOne K (.ref CN) (.ref CT) = some true
  wN : PySem.W.kitOne K (.ref CN) (.ref CW) = some false
  nN : PySem.W.kitOne K (.ref CN) (.ref CN) = some true
  bN : PySem.W.kitOne K (.ref CN) (.ref CB) = some false
  vN : PySem.W.kitOne K (.ref CN) (.type "ValueError") = some true
/-- what is asked, as told -/
def AskOk (rs cs : List Int) (i j : Int) (v : V) (bs : List Bool) : Prop := (IsTw rs cs .free ∧ isPl rs.length i ∧ isPl cs.length j ∧ bs = [] ∧ ∃ x, v = .str x ∧ CtAt rs cs i j x) ∨
  (IsTw rs cs .free ∧ ¬ (isPl rs.length i ∧ isPl cs.length j) ∧ v = .non ∧ bs = [false, true, false, true]) ∨ (¬ IsTw rs cs .free ∧ v = .non ∧ bs = [true, false, false, true])
theorem mvd_set {ns : List Int} {i : Nat} {m : Int} : mvd ns (i : Int) m = ns.set i (ns.getD i 0 + m) := by unfold mvd; rw [Int.toNat_natCast]
/-- what is due of a cell -/
theorem due_of {rs cs : List Int} {i j : Nat} {x : Str} (hi : i < rs.length) (hj : j < cs.length) (hne : allT rs cs ≠ []) (h : CtAt rs cs i j x) :
    x = (if ∀ T ∈ allT rs cs, ent T i j = 0 then "nought" else if ∀ T ∈ allT rs cs, ent T i j = 1 then "one" else "either") := by
  obtain ⟨T0, h0⟩ := List.exists_mem_of_ne_nil _ hne
  have hf : IsTw rs cs .free := (allT_mem.mp h0).free
  have n0 := nought_iff hf hi hj
  have n1 := one_iff hf hi hj
  have bit : ∀ T, IsTab rs cs T → ent T i j = 0 ∨ ent T i j = 1 := fun T ht => by
    have hl : i < T.length := by rw [ht.rect.1]; exact hi
    have hw := rect_row ht.rect hi
    unfold ent
    rw [List.getD_eq_getElem?_getD, List.getElem?_eq_getElem (by rw [hw]; exact hj)]
    refine ht.bit (T.getD i []) ?_ _ (List.getElem_mem _)
    rw [List.getD_eq_getElem?_getD, List.getElem?_eq_getElem hl]
    exact List.getElem_mem hl
  unfold CtAt at h
  rw [mvd_set, mvd_set, mvd_set, mvd_set] at h
  rw [← Int.sub_eq_add_neg, ← Int.sub_eq_add_neg] at h
  rw [← n0, ← n1] at h
  rcases h with ⟨rfl, h1⟩ | ⟨rfl, ⟨T, ht, e⟩, h2⟩ | ⟨rfl, ⟨T, ht, e⟩, U, hu, e2⟩
  · have all : ∀ T ∈ allT rs cs, ent T i j = 1 := fun T hT => (bit T (allT_mem.mp hT)).resolve_left fun e => h1 ⟨T, allT_mem.mp hT, e⟩
    rw [if_neg (fun z => by have a := z T0 h0; have b := all T0 h0; omega), if_pos all]
  · have all : ∀ T ∈ allT rs cs, ent T i j = 0 := fun T hT => (bit T (allT_mem.mp hT)).resolve_right fun e => h2 ⟨T, allT_mem.mp hT, e⟩
    rw [if_pos all]
  · rw [if_neg (fun z => by have := z U (allT_mem.mpr hu); omega), if_neg (fun z => by have := z T (allT_mem.mpr ht); omega)]
seal L2.PE L2.PA L2.PS L2.PSs L2.PT
section
variable {P : Program} {w : World} {K : PySem.W.Frag} {mg : Str → Option Value} {base : Heap}
/-! ### _law_asked -/
def spAsk (K : PySem.W.Frag) : Sp := fun vs H Q _ => ∃ (a b : Addr) (rs cs : List Int) (i j : Int), vs = [.ref a, .ref b, .int i, .int j] ∧ Sq K H a rs ∧ Sq K H b cs ∧ isS rs ∧ isS cs ∧ ∀ (t l : Addr) (v : V) (bs : List Bool) (H' : Hp), Same H H' → H' t = some (.tup [v, .ref l]) → H' l = some (.lst (bs.map V.bl)) → AskOk rs cs i j v bs → Q (.ref t) H'
theorem scAsk : FnScope ["rows", "columns", "row", "column", "found", "kept", "e"] ["rows", "columns", "row", "column"] (defScope sAsk) := ⟨rfl, rfl, rfl, by decide +kernel, rfl, by decide +kernel, by decide +kernel⟩
set_option maxHeartbeats 1000000 in
theorem ok_ask {f fC CT CB CW CN : Addr} {fd fdC : FuncData} (F : Fun K "_law_asked" "_law_asked" sAsk f fd) (B : Bn mg) (FC : Fun K "cell_told" "cell_told" sCTd fC fdC) (bC : Binds K fdC ["rows", "columns", "row", "column"] []) (mC : mg "cell_told" = some (.ref fC)) (GC : FnOk P w K mg base (CXE P w) 5 fC fdC ["rows", "columns", "row", "column"] (spCTd K CN CW)) (L : Cl46 K mg CT CB CW CN) :
    FnOk P w K mg base CX0 6 f fd ["rows", "columns", "row", "column"] (spAsk K) := by
  refine F.ok scAsk (fun vs H Q E h => ?_) (fun cdv A outer s H vs Q E hr h => ?_)
  · obtain ⟨a, b, rs, cs, i, j, rfl, _⟩ := h
    rfl
  · obtain ⟨a, b, rs, cs, i, j, rfl, hA, hB, h1, h2, q⟩ := h
    refine ⟨_, pss_cons (ps_set (i := 4) scAsk.nd rfl (Or.inl rfl) pe_non)
      (pss_cons (ps_set (i := 5) scAsk.nd rfl (Or.inl rfl) (pe_lst pa_nil))
      (pss_cons (ps_try (i := 6) scAsk.nd rfl rfl (by rfl) L.mT rfl rfl
          (fun _ _ => pss_one (ps_set (i := 4) scAsk.nd rfl (Or.inl rfl) (pe_callX GC hr (by rfl) mC FC.kp bC passTry (pa_cons (pv 0) (pa_cons (pv 1) (pa_cons (pv 2) (pa_cons (pv 3) pa_nil)))))))
          (fun _ => pss_one (ps_set (i := 5) scAsk.nd rfl (Or.inl rfl) (pe_lst (pa_cons (pe_callB (call_isinstE K rfl) (by rfl) B.isin (by rfl) (pa_cons (pv 6) (pa_cons (pe_glob (v := .ref CW) (by rfl) L.mW rfl) pa_nil)))
              (pa_cons (pe_callB (call_isinstE K rfl) (by rfl) B.isin (by rfl) (pa_cons (pv 6) (pa_cons (pe_glob (v := .ref CN) (by rfl) L.mN rfl) pa_nil)))
              (pa_cons (pe_callB (call_isinstE K rfl) (by rfl) B.isin (by rfl) (pa_cons (pv 6) (pa_cons (pe_glob (v := .ref CB) (by rfl) L.mB rfl) pa_nil)))
              (pa_cons (pe_callB (call_isinstE K rfl) (by rfl) B.isin (by rfl) (pa_cons (pv 6) (pa_cons (pe_bltn (v := .ty "ValueError") (by rfl) B.ve (by rfl) rfl) pa_nil))) pa_nil))))))))
      (pss_one (ps_ret (pe_tup (pa_cons (pv 4) (pa_cons (pv 5) pa_nil))))))), ?_⟩
    refine ⟨by show 0 ≤ sizeLine; exact Nat.zero_le _, fun l0 f0 => ?_⟩
    have s0 := same_upd (o := .lst []) f0
    have g0 : (upd H l0 (.lst [])) l0 = some (.lst (([] : List Bool).map V.bl)) := upd_same
    generalize upd H l0 (.lst []) = H1 at s0 g0 ⊢
    refine gName_to ?_
    refine ⟨fun σ' cls _ H' => σ' = [some (.ref a), some (.ref b), some (.int i), some (.int j), some .non, some (.ref l0), none] ∧ Same H1 H' ∧ ((cls = .ref CW ∧ ¬ IsTw rs cs .free) ∨ (cls = .ref CN ∧ IsTw rs cs .free ∧ ¬ (isPl rs.length i ∧ isPl cs.length j))), ?_, ?_⟩
    · refine ⟨_, rfl, _, rfl, _, rfl, _, rfl, a, b, rs, cs, i, j, rfl, hA.same s0, hB.same s0, h1, h2, fun hf hi hj x H2 s2 hx => ?_, fun hf hp H2 s2 => ⟨rfl, s2, .inr ⟨rfl, hf, hp⟩⟩, fun hf H2 s2 => ⟨rfl, s2, .inl ⟨rfl, hf⟩⟩⟩
      refine ⟨_, rfl, _, rfl, (by show 2 ≤ sizeLine; decide), fun t ht => ?_⟩
      have s3 := same_upd (o := .tup [.str x, .ref l0]) ht
      exact q t l0 (.str x) [] _ ((s0.trans s2).trans s3) upd_same ((s2.trans s3) _ _ g0) (.inl ⟨hf, hi, hj, rfl, x, rfl, hx⟩)
    · rintro σ' cls H' ⟨rfl, s', ⟨rfl, hf⟩ | ⟨rfl, hf, hp⟩⟩
      · refine ⟨L.xW, fun x hx => ?_⟩
        have s1 := same_upd (o := XO x (.ref CW)) hx
        have gx : (upd H' x (XO x (.ref CW))) x = some (XO x (.ref CW)) := upd_same
        refine ⟨_, rfl, x, CW, .ref CW, _, true, rfl, gx, L.kW, rfl, L.wW, _, rfl, x, CW, .ref CN, _, false, rfl, gx, L.kW, rfl, L.nW, _, rfl, x, CW, .ref CB, _, false, rfl, gx, L.kW, rfl, L.bW, _, rfl, x, CW, .ty "ValueError", _, true, rfl, gx, L.kW, rfl, L.vW, (by show 4 ≤ sizeLine; decide), fun l2 hl2 => ?_⟩
        have s2 := same_upd (o := .lst [.bl true, .bl false, .bl false, .bl true]) hl2
        refine ⟨_, rfl, _, rfl, (by show 2 ≤ sizeLine; decide), fun t ht => ?_⟩
        have s3 := same_upd (o := .tup [.non, .ref l2]) ht
        exact q t l2 .non [true, false, false, true] _ ((s0.trans s').trans ((s1.trans s2).trans s3)) upd_same (s3 _ _ upd_same) (.inr (.inr ⟨hf, rfl, rfl⟩))
      · refine ⟨L.xN, fun x hx => ?_⟩
        have s1 := same_upd (o := XO x (.ref CN)) hx
        have gx : (upd H' x (XO x (.ref CN))) x = some (XO x (.ref CN)) := upd_same
        refine ⟨_, rfl, x, CN, .ref CW, _, false, rfl, gx, L.kN, rfl, L.wN, _, rfl, x, CN, .ref CN, _, true, rfl, gx, L.kN, rfl, L.nN, _, rfl, x, CN, .ref CB, _, false, rfl, gx, L.kN, rfl, L.bN, _, rfl, x, CN, .ty "ValueError", _, true, rfl, gx, L.kN, rfl, L.vN, (by show 4 ≤ sizeLine; decide), fun l2 hl2 => ?_⟩
        have s2 := same_upd (o := .lst [.bl false, .bl true, .bl false, .bl true]) hl2
        refine ⟨_, rfl, _, rfl, (by show 2 ≤ sizeLine; decide), fun t ht => ?_⟩
        have s3 := same_upd (o := .tup [.non, .ref l2]) ht
        exact q t l2 .non [false, true, false, true] _ ((s0.trans s').trans ((s1.trans s2).trans s3)) upd_same (s3 _ _ upd_same) (.inr (.inl ⟨hf, hp, rfl, rfl⟩))
end
end Web

namespace Web
open PySem L2
set_option autoImplicit false
set_option linter.all false
theorem bits_zero {es : List Int} (hb : ∀ x ∈ es, x = 0 ∨ x = 1) : es.sum = 0 ↔ ∀ x ∈ es, x = 0 := by
  induction es with
  | nil => exact ⟨fun _ x h => absurd h List.not_mem_nil, fun _ => rfl⟩
  | cons x es ih =>
    have hb' : ∀ y ∈ es, y = 0 ∨ y = 1 := fun y hy => hb y (List.mem_cons_of_mem _ hy)
    have h0 := bit_sum hb'
    have hx := hb x List.mem_cons_self
    rw [List.sum_cons]
    constructor
    · intro h y hy
      rcases List.mem_cons.mp hy with rfl | hy
      · omega
      · exact (ih hb').mp (by omega) y hy
    · intro h
      have := (ih hb').mpr fun y hy => h y (List.mem_cons_of_mem _ hy)
      have := h x List.mem_cons_self
      omega
theorem bits_le {es : List Int} (hb : ∀ x ∈ es, x = 0 ∨ x = 1) : es.sum ≤ es.length := by
  induction es with
  | nil => exact Int.le_refl _
  | cons x es ih =>
    have := ih fun y hy => hb y (List.mem_cons_of_mem _ hy)
    have hx := hb x List.mem_cons_self
    rw [List.sum_cons, List.length_cons]
    push_cast
    omega
theorem bits_one {es : List Int} (hb : ∀ x ∈ es, x = 0 ∨ x = 1) : es.sum = es.length ↔ ∀ x ∈ es, x = 1 := by
  induction es with
  | nil => exact ⟨fun _ x h => absurd h List.not_mem_nil, fun _ => rfl⟩
  | cons x es ih =>
    have hb' : ∀ y ∈ es, y = 0 ∨ y = 1 := fun y hy => hb y (List.mem_cons_of_mem _ hy)
    have h0 := bits_le hb'
    have hx := hb x List.mem_cons_self
    rw [List.sum_cons, List.length_cons]
    push_cast
    constructor
    · intro h y hy
      rcases List.mem_cons.mp hy with rfl | hy
      · omega
      · exact (ih hb').mp (by omega) y hy
    · intro h
      have := (ih hb').mpr fun y hy => h y (List.mem_cons_of_mem _ hy)
      have := h x List.mem_cons_self
      omega
open Classical in
noncomputable def dueS (rs cs : List Int) (i j : Nat) : Str := if ∀ T ∈ allT rs cs, ent T i j = 0 then "nought" else if ∀ T ∈ allT rs cs, ent T i j = 1 then "one" else "either"
theorem due_is {rs cs : List Int} {i j : Nat} {x : Str} (hi : i < rs.length) (hj : j < cs.length) (hne : allT rs cs ≠ []) (h : CtAt rs cs i j x) : x = dueS rs cs i j := by
  have := due_of hi hj hne h
  rw [this]
  unfold dueS
  by_cases a : ∀ T ∈ allT rs cs, ent T i j = 0
  · rw [if_pos a, if_pos a]
  · rw [if_neg a, if_neg a]
    by_cases b : ∀ T ∈ allT rs cs, ent T i j = 1
    · rw [if_pos b, if_pos b]
    · rw [if_neg b, if_neg b]
theorem dStr {K : PySem.W.Frag} {H : Hp} {x : Str} : Dt K H (.str x) (.str x) := by unfold Dt; rfl
theorem str_ne {K : PySem.W.Frag} {A : Around} {H : Hp} {Q : VK} {t u l m : Addr} {x : Str} (hun : A.units + 64 < cLine) (hx : PyData.strOk x = true) (gt : H t = some (.tup [.str x, .ref l])) (gu : H u = some (.tup [.str x, .ref m])) (gl : H l = some (.lst [])) (gm : H m = some (.lst [])) (q : Q (.bl false) H) : rEqD K A true (.ref t) (.ref u) H Q := by
  refine ⟨.tuple [.str x, .list []], .tuple [.str x, .list []], Dt.mkT (SqT.of gt) (.mkC dStr (.mkC (Dt.mkL (SqL.of gl) .mkN) .mkN)), Dt.mkT (SqT.of gu) (.mkC dStr (.mkC (Dt.mkL (SqL.of gm) .mkN) .mkN)), by simp [PyData.canLay0, PyData.canLayAll0, hx], by simp [PyData.canLay0, PyData.canLayAll0, hx], ?_, ?_⟩
  · exact un_lt hun (Nat.le_trans (Nat.min_le_left _ _) (by simp [PyData.depth, PyData.depthAll]))
  · rw [show PyData.eqv (.tuple [.str x, .list []]) (.tuple [.str x, .list []]) = true by simp [PyData.eqv, PyData.eqvAll]]
    exact q
theorem due_ok (rs cs : List Int) (i j : Nat) : PyData.strOk (dueS rs cs i j) = true := by
  unfold dueS
  split
  · decide +kernel
  · split <;> decide +kernel
theorem ent_bit {rs cs : List Int} {T : List (List Int)} (ht : IsTab rs cs T) {i j : Nat} (hi : i < rs.length) (hj : j < cs.length) : ent T i j = 0 ∨ ent T i j = 1 := by
  have hl : i < T.length := by rw [ht.rect.1]; exact hi
  have hw := rect_row ht.rect hi
  unfold ent
  rw [List.getD_eq_getElem?_getD, List.getElem?_eq_getElem (by rw [hw]; exact hj)]
  refine ht.bit (T.getD i []) ?_ _ (List.getElem_mem _)
  rw [List.getD_eq_getElem?_getD, List.getElem?_eq_getElem hl]
  exact List.getElem_mem hl
seal L2.PE L2.PA L2.PS L2.PSs L2.PT
section
variable {P : Program} {w : World} {K : PySem.W.Frag} {mg : Str → Option Value} {base : Heap}
/-! ### _law_cells_right -/
def spCellsR : Sp := fun vs H Q _ => ∃ (d a b : Addr) (ys : List V) (rs cs : List Int), vs = [.ref d, .ref a, .ref b] ∧ H d = some (.lst ys) ∧ TabsH H ys (allT rs cs) ∧ ys.length ≤ 4096 ∧ allT rs cs ≠ [] ∧ H a = some (.lst (rs.map V.int)) ∧ H b = some (.lst (cs.map V.int)) ∧ isS rs ∧ isS cs ∧ ∀ H', Same H H' → Q (.bl true) H'
theorem scCellsR : FnScope ["tables_of", "rows", "columns", "row", "column", "there", "due", "some"] ["tables_of", "rows", "columns"] (defScope sCellsR) := ⟨rfl, rfl, rfl, by decide +kernel, rfl, by decide +kernel, by decide +kernel⟩
set_option maxHeartbeats 2000000 in
theorem ok_cellsR {f fA : Addr} {fd fdA : FuncData} (F : Fun K "_law_cells_right" "_law_cells_right" sCellsR f fd) (B : Bn mg) (FA : Fun K "_law_asked" "_law_asked" sAsk fA fdA) (bA : Binds K fdA ["rows", "columns", "row", "column"] []) (mA : mg "_law_asked" = some (.ref fA)) (GA : FnOk P w K mg base CX0 6 fA fdA ["rows", "columns", "row", "column"] (spAsk K)) :
    FnOk P w K mg base CX0 7 f fd ["tables_of", "rows", "columns"] spCellsR := by
  refine F.ok scCellsR (fun vs H Q E h => ?_) (fun cdv A outer s H vs Q E hr h => ?_)
  · obtain ⟨d, a, b, ys, rs, cs, rfl, _⟩ := h
    rfl
  · obtain ⟨d, a, b, ys, rs, cs, rfl, hD, hT, hyl, hne, hA, hB, h1, h2, q⟩ := h
    have hsl := sl5000
    have hun := hr.units
    have r16 := h1.2
    have c16 := h2.2
    have hTl := hT.len
    have nd3 : (["told", "row", "column"] : List Str).Nodup := by decide +kernel
    refine ⟨_, pss_cons (ps_for PassesOwn.never rfl (pi_range1 rfl B.range (pa_cons (pe_callB call_len_seq (by rfl) B.len PySem.boot_len (pa_cons (pv 1) pa_nil)) pa_nil)) (pg_name (i := 3) scCellsR.nd rfl (Or.inr rfl))
        (pss_one (ps_for PassesOwn.never rfl (pi_range1 rfl B.range (pa_cons (pe_callB call_len_seq (by rfl) B.len PySem.boot_len (pa_cons (pv 2) pa_nil)) pa_nil)) (pg_name (i := 4) scCellsR.nd rfl (Or.inr rfl))
          (pss_cons (ps_setC (i := 5) scCellsR.nd rfl rfl (by rfl) (N' := ["told", "row", "column"]) (lk := [none, some 3, some 4]) rfl (pi_list (pv 0)) (by rfl) rfl (by decide +kernel) (by exact ⟨rfl, rfl, trivial⟩) (by rfl) (by exact LkL.ok ⟨⟨rfl, Or.inl rfl, rfl, Or.inl rfl⟩, ⟨rfl, Or.inl rfl, rfl, Or.inl rfl⟩, trivial⟩)
              (fun _ _ _ => pg_name (i := 0) nd3 rfl (Or.inl rfl)) (fun _ _ _ => pts_nil) (fun _ _ _ => pe_ixSK K rfl (pe_ixSK K rfl (pv 0) (pv 1) (fun _ _ => rfl)) (pv 2) (fun _ _ => rfl)))
          (pss_cons (ps_set (i := 6) scCellsR.nd rfl (Or.inl rfl) pe_str)
          (pss_cut (ps_if (pt_cmpR op_eq (pe_callB (call_sum rfl) (by rfl) B.sum (by rfl) (pa_cons (pv 5) pa_nil)) (pe_callB call_len_seq (by rfl) B.len PySem.boot_len (pa_cons (pv 5) pa_nil)) (nomark _)) (pss_one (ps_set (i := 6) scCellsR.nd rfl (Or.inl rfl) pe_str)) pss_nil)
          (pss_cut (ps_if (pt_cmpR op_eq (pe_callB (call_sum rfl) (by rfl) B.sum (by rfl) (pa_cons (pv 5) pa_nil)) pe_int (nomark _)) (pss_one (ps_set (i := 6) scCellsR.nd rfl (Or.inl rfl) pe_str)) pss_nil)
          (pss_one (ps_for PassesOwn.never rfl (pi_list (pe_lst (pa_cons (pe_tup (pa_cons (pv 1) (pa_cons (pv 2) pa_nil))) (pa_cons (pe_tup (pa_cons (pe_callTy call_tuple_of (by rfl) B.tuple (by rfl) (pa_cons (pv 1) pa_nil)) (pa_cons (pe_callTy call_tuple_of (by rfl) B.tuple (by rfl) (pa_cons (pv 2) pa_nil)) pa_nil))) pa_nil)))) (pg_name (i := 7) scCellsR.nd rfl (Or.inl rfl))
            (pss_one (ps_if (pt_cmpR op_neD (pe_call GA hr (by rfl) mA FA.kp bA .nil pass0 (pa_cons (pe_ix ix_tup (pv 7) pe_int (fun _ _ => rfl)) (pa_cons (pe_ix ix_tup (pv 7) pe_int (fun _ _ => rfl)) (pa_cons (pv 3) (pa_cons (pv 4) pa_nil))))) (pe_tup (pa_cons (pv 6) (pa_cons (pe_lst pa_nil) pa_nil))) (nomark _)) pss_never pss_nil)))))))))))
      (pss_one (ps_ret pe_bl)), ?_⟩
    refine ⟨_, rfl, a, _, rfl, .inl (SqL.of hA), (rs.length : Int), congrArg (fun z : Nat => [V.int (z : Int)]) (List.length_map ..), by omega, by omega, ?_⟩
    rw [Int.toNat_natCast]
    refine for_range (lo := 0) (n := rs.length) (fun _ σ H1 => ∃ e3 e4 e5 e6 e7, σ = [some (.ref d), some (.ref a), some (.ref b), e3, e4, e5, e6, e7] ∧ Same H H1) ⟨none, none, none, none, none, rfl, Same.refl H⟩ ?_ ?_
    · rintro i σ H1 hi ⟨e3, e4, e5, e6, e7, rfl, s1⟩
      rw [show ((0 : Int) + (i : Int)) = (i : Int) by omega]
      refine gName_to ?_
      refine ⟨_, rfl, b, _, rfl, .inl (SqL.of (s1 _ _ hB)), (cs.length : Int), congrArg (fun z : Nat => [V.int (z : Int)]) (List.length_map ..), by omega, by omega, ?_⟩
      rw [Int.toNat_natCast]
      refine for_range (lo := 0) (n := cs.length) (fun _ σ H2 => ∃ e4 e5 e6 e7, σ = [some (.ref d), some (.ref a), some (.ref b), some (.int i), e4, e5, e6, e7] ∧ Same H H2) ⟨e4, e5, e6, e7, rfl, s1⟩ ?_ ?_
      · rintro j σ H2 hj ⟨e4, e5, e6, e7, rfl, s2⟩
        rw [show ((0 : Int) + (j : Int)) = (j : Int) by omega]
        refine gName_to ?_
        have hD2 := s2 _ _ hD
        have hT2 := hT.same s2
        refine ⟨_, rfl, d, rfl, ⟨_, SqL.of hD2⟩, fun D3 fD3 => ?_⟩
        refine comp_list (K := K) (a := d) (D := D3) (ys := ys) (fun k xs σ' H' => (∃ v, σ' = [v, some (.int i), some (.int j)]) ∧ Same H2 H' ∧ H' D3 = some (.lst xs) ∧ xs = (((allT rs cs).take k).map fun T => ent T i j).map V.int) ⟨⟨none, rfl⟩, same_upd fD3, upd_same, rfl⟩ (by omega)
          (fun k xs σ' H' hk ⟨_, s6, h6, e6⟩ => ⟨SqL.of (s6 _ _ hD2), h6, by rw [e6, List.length_map, List.length_map, List.length_take]; exact Nat.min_le_left _ _⟩) ?_ ?_
        · rintro k xs x σ' H' N kN hx ⟨⟨v, rfl⟩, s6, h6, rfl⟩
          obtain ⟨t, zs, T, rfl, hTk, ht, hzT⟩ := hT2.get hx
          have htab := allT_mem.mp (List.mem_of_getElem? hTk)
          have hzl := hzT.len
          have hTr : T.length = rs.length := htab.rect.1
          obtain ⟨r, hr'⟩ : ∃ r, T[i]? = some r := ⟨_, List.getElem?_eq_getElem (by omega)⟩
          obtain ⟨pr, hpr, hprH⟩ := hzT.get' hr'
          have hrl := htab.rect.2 r (List.mem_of_getElem? hr')
          have ee : ent T i j = r.getD j 0 := by unfold ent; rw [List.getD_eq_getElem?_getD (l := T), hr']; rfl
          refine gName_to (tTrue_if ?_)
          refine ⟨_, rfl, _, rfl, .inr (.inl ⟨t, _, _, _, rfl, rfl, SqT.of (s6 _ _ ht), atI_nat hpr, _, rfl, .inr (.inl ⟨pr, _, _, _, rfl, rfl, SqT.of (s6 _ _ hprH), at_int (by omega), h6, kN _ _ _ ⟨⟨_, rfl⟩, s6.upd fD3, upd_same, ?_⟩⟩)⟩)⟩
          rw [List.take_add_one, hTk, Option.toList_some, List.map_append, List.map_append, ← ee]
          rfl
        rintro xs σ' H3 ⟨_, s6, h6, rfl⟩
        rw [List.take_of_length_le (by omega)] at h6
        obtain ⟨es, hes⟩ : ∃ es, es = (allT rs cs).map fun T => ent T i j := ⟨_, rfl⟩
        rw [← hes] at h6
        have ebit : ∀ x ∈ es, x = 0 ∨ x = 1 := fun x hx => by
          rw [hes] at hx
          obtain ⟨T, hT', rfl⟩ := List.mem_map.mp hx
          exact ent_bit (allT_mem.mp hT') hi hj
        have all0 : es.sum = 0 ↔ ∀ T ∈ allT rs cs, ent T i j = 0 := by
          rw [bits_zero ebit, hes]
          simp
        have all1 : es.sum = es.length ↔ ∀ T ∈ allT rs cs, ent T i j = 1 := by
          rw [bits_one ebit, hes]
          simp
        refine gName_to ?_
        refine gName_to ?_
        have s3 := s2.trans s6
        refine ⟨fun σ' H' => ∃ x : Str, σ' = [some (.ref d), some (.ref a), some (.ref b), some (.int i), some (.int j), some (.ref D3), some (.str x), e7] ∧ H3 = H' ∧ x = (if es.sum = es.length then "one" else "either"), ?_, ?_⟩
        · refine ⟨_, rfl, D3, es, rfl, SqL.of h6, _, rfl, D3, _, rfl, .inl (SqL.of h6), rfl, _, rfl, ?_⟩
          rw [List.length_map]
          by_cases c : es.sum = (es.length : Int)
          · rw [decide_eq_true (by rw [c])]
            exact iteT ⟨_, rfl, rfl, by rw [if_pos c]⟩
          · rw [decide_eq_false (fun z => c (by injection z))]
            exact iteF ⟨_, rfl, rfl, by rw [if_neg c]⟩
        rintro σ' H' ⟨x1, rfl, rfl, hx1⟩
        refine ⟨fun σ' H' => σ' = [some (.ref d), some (.ref a), some (.ref b), some (.int i), some (.int j), some (.ref D3), some (.str (dueS rs cs i j)), e7] ∧ H3 = H', ?_, ?_⟩
        · refine ⟨_, rfl, D3, es, rfl, SqL.of h6, rfl, _, rfl, ?_⟩
          by_cases c : es.sum = 0
          · rw [decide_eq_true (by rw [c])]
            refine iteT ⟨?_, rfl⟩
            have : dueS rs cs i j = "nought" := by unfold dueS; rw [if_pos (all0.mp c)]
            rw [this]
            rfl
          · rw [decide_eq_false (fun z => c (by injection z))]
            refine iteF ⟨?_, rfl⟩
            have : dueS rs cs i j = x1 := by
              unfold dueS
              rw [if_neg (fun z => c (all0.mpr z)), hx1]
              by_cases c1 : es.sum = (es.length : Int)
              · rw [if_pos (all1.mp c1), if_pos c1]
              · rw [if_neg (fun z => c1 (all1.mpr z)), if_neg c1]
            rw [this]
        rintro σ' H' ⟨rfl, rfl⟩
        have hA3 := s3 _ _ hA
        have hB3 := s3 _ _ hB
        refine ⟨_, rfl, _, rfl, (by show 2 ≤ sizeLine; decide), fun w1 fw1 => ?_⟩
        have s7 := same_upd (o := .tup [.ref a, .ref b]) fw1
        refine ⟨_, rfl, a, _, rfl, .inl ⟨SqL.of (s7 _ _ hA3), fun pa fpa => ?_⟩⟩
        have s8 := same_upd (o := .tup (rs.map V.int)) fpa
        refine ⟨_, rfl, b, _, rfl, .inl ⟨SqL.of ((s7.trans s8) _ _ hB3), fun pb fpb => ?_⟩⟩
        have s9 := same_upd (o := .tup (cs.map V.int)) fpb
        refine ⟨(by show 2 ≤ sizeLine; decide), fun w2 fw2 => ?_⟩
        have s10 := same_upd (o := .tup [.ref pa, .ref pb]) fw2
        refine ⟨(by show 2 ≤ sizeLine; decide), fun lq fq => ⟨lq, rfl, ⟨_, SqL.of upd_same⟩, ?_⟩⟩
        have s11 := same_upd (o := .lst [.ref w1, .ref w2]) fq
        have s7b := s7.trans (s8.trans (s9.trans (s10.trans s11)))
        have gq : (upd (upd (upd (upd (upd H3 w1 (.tup [.ref a, .ref b])) pa (.tup (rs.map V.int))) pb (.tup (cs.map V.int))) w2 (.tup [.ref pa, .ref pb])) lq (.lst [.ref w1, .ref w2])) lq = some (.lst [.ref w1, .ref w2]) := upd_same
        have gw1 := (s8.trans (s9.trans (s10.trans s11))) _ _ (show (upd H3 w1 (.tup [.ref a, .ref b])) w1 = some (.tup [.ref a, .ref b]) from upd_same)
        have gpa := (s9.trans (s10.trans s11)) _ _ (show (upd (upd H3 w1 (.tup [.ref a, .ref b])) pa (.tup (rs.map V.int))) pa = some (.tup (rs.map V.int)) from upd_same)
        have gpb := (s10.trans s11) _ _ (show (upd (upd (upd H3 w1 (.tup [.ref a, .ref b])) pa (.tup (rs.map V.int))) pb (.tup (cs.map V.int))) pb = some (.tup (cs.map V.int)) from upd_same)
        have gw2 := s11 _ _ (show (upd (upd (upd (upd H3 w1 (.tup [.ref a, .ref b])) pa (.tup (rs.map V.int))) pb (.tup (cs.map V.int))) w2 (.tup [.ref pa, .ref pb])) w2 = some (.tup [.ref pa, .ref pb]) from upd_same)
        generalize upd (upd (upd (upd (upd H3 w1 (.tup [.ref a, .ref b])) pa (.tup (rs.map V.int))) pb (.tup (cs.map V.int))) w2 (.tup [.ref pa, .ref pb])) lq (.lst [.ref w1, .ref w2]) = HB at s7b gq gw1 gpa gpb gw2 ⊢
        have sB := s3.trans s7b
        refine for_list (K := K) (a := lq) (xs := [.ref w1, .ref w2]) (fun _ σ Hx => ∃ e7, σ = [some (.ref d), some (.ref a), some (.ref b), some (.int i), some (.int j), some (.ref D3), some (.str (dueS rs cs i j)), e7] ∧ Same HB Hx) ⟨e7, rfl, Same.refl HB⟩ (fun i σ Hx _ ⟨_, _, s⟩ => SqL.of (s _ _ gq)) ?_ ?_
        · rintro k x σ Hx hx ⟨e7', rfl, sX⟩
          obtain ⟨ww, u, v, rfl, gw, hu, hv⟩ : ∃ ww u v, x = V.ref ww ∧ HB ww = some (.tup [.ref u, .ref v]) ∧ Sq K HB u rs ∧ Sq K HB v cs := by
            match k, hx with
            | 0, hx => cases hx; exact ⟨w1, a, b, rfl, gw1, .inl (SqL.of (sB _ _ hA)), .inl (SqL.of (sB _ _ hB))⟩
            | 1, hx => cases hx; exact ⟨w2, pa, pb, rfl, gw2, .inr (SqT.of gpa), .inr (SqT.of gpb)⟩
          have gwX := sX _ _ gw
          refine gName_to ?_
          refine ⟨_, rfl, ww, _, _, _, rfl, rfl, SqT.of gwX, atI_nat (j := 0) rfl, _, rfl, ww, _, _, _, rfl, rfl, SqT.of gwX, atI_nat (j := 1) rfl, _, rfl, _, rfl, u, v, rs, cs, (i : Int), (j : Int), rfl, hu.same sX, hv.same sX, h1, h2, fun t l vv bs Hy sy gt gl ok => ?_⟩
          have hfree : IsTw rs cs .free := by
            obtain ⟨T0, h0⟩ := List.exists_mem_of_ne_nil _ hne
            exact (allT_mem.mp h0).free
          have hpl : isPl rs.length (i : Int) ∧ isPl cs.length (j : Int) := ⟨⟨by omega, by omega⟩, ⟨by omega, by omega⟩⟩
          rcases ok with ⟨_, _, _, rfl, y, rfl, hct⟩ | ⟨_, hn, _⟩ | ⟨hn, _⟩
          · have ey := due_is hi hj hne hct
            refine ⟨_, rfl, by show 0 ≤ sizeLine; omega, fun l2 fl2 => ?_⟩
            have s12 := same_upd (o := .lst []) fl2
            refine ⟨(by show 2 ≤ sizeLine; decide), fun p2 fp2 => ?_⟩
            have s13 := same_upd (o := .tup [.str (dueS rs cs i j), .ref l2]) fp2
            rw [ey] at gt
            refine str_ne hun (due_ok rs cs i j) ((s12.trans s13) _ _ gt) upd_same ((s12.trans s13) _ _ gl) (s13 _ _ upd_same) ⟨_, rfl, iteF ?_⟩
            exact ⟨_, rfl, (sX.trans sy).trans (s12.trans s13)⟩
          · exact absurd hpl hn
          · exact absurd hfree hn
        · rintro σ Hx ⟨e7', rfl, sX⟩
          exact ⟨_, _, _, _, rfl, sB.trans sX⟩
      · rintro σ H2 ⟨e4, e5, e6, e7, rfl, s2⟩
        exact ⟨_, _, _, _, _, rfl, s2⟩
    · rintro σ H1 ⟨e3, e4, e5, e6, e7, rfl, s1⟩
      exact q _ s1
end
end Web

namespace Web
open PySem L2
set_option autoImplicit false
set_option linter.all false
theorem passN {P : Program} {w : World} {X : Cx} : Passes (CXE P w) X E0 := fun _ _ _ _ _ _ _ h => by
  obtain ⟨_, _, _, _, _, _, _, _, _, _, _, hE⟩ := h
  exact hE.elim
theorem p30 : (0 : Int) < 10 ^ (Int.toNat 30) := Int.pow_pos (by decide)
theorem four_of (a b c d : Int) (z : Int) : ∃ v : Int, atI ([.int a, .int b, .int c, .int d] : List V) (z % 4) = some (.int v) := by
  have : z % 4 = 0 ∨ z % 4 = 1 ∨ z % 4 = 2 ∨ z % 4 = 3 := by omega
  rcases this with h | h | h | h
  · rw [h]; exact ⟨a, atI_nat (j := 0) rfl⟩
  · rw [h]; exact ⟨b, atI_nat (j := 1) rfl⟩
  · rw [h]; exact ⟨c, atI_nat (j := 2) rfl⟩
  · rw [h]; exact ⟨d, atI_nat (j := 3) rfl⟩
theorem five_of (a b c d e : Addr) (z : Int) : ∃ v : Addr, atI ([.ref a, .ref b, .ref c, .ref d, .ref e] : List V) (z % 5) = some (.ref v) ∧ (v = a ∨ v = b ∨ v = c ∨ v = d ∨ v = e) := by
  have : z % 5 = 0 ∨ z % 5 = 1 ∨ z % 5 = 2 ∨ z % 5 = 3 ∨ z % 5 = 4 := by omega
  rcases this with h | h | h | h | h
  · rw [h]; exact ⟨a, atI_nat (j := 0) rfl, .inl rfl⟩
  · rw [h]; exact ⟨b, atI_nat (j := 1) rfl, .inr (.inl rfl)⟩
  · rw [h]; exact ⟨c, atI_nat (j := 2) rfl, .inr (.inr (.inl rfl))⟩
  · rw [h]; exact ⟨d, atI_nat (j := 3) rfl, .inr (.inr (.inr (.inl rfl)))⟩
  · rw [h]; exact ⟨e, atI_nat (j := 4) rfl, .inr (.inr (.inr (.inr rfl)))⟩
def dTab (T : List (List Int)) : PyData := .tuple (T.map dP)
theorem TabsH.dt {K : PySem.W.Frag} {H : Hp} : ∀ {ys : List V} {Ts : List (List (List Int))}, TabsH H ys Ts → DtAll K H (Ts.map dTab) ys
  | _, _, .nil => .mkN
  | _, _, .cons ⟨t, zs, e, h1, h2⟩ r => by
    rw [e, List.map_cons]
    exact .mkC (Dt.mkT (SqT.of h1) h2.tups.dtAll) (TabsH.dt r)
theorem tabs_lay : ∀ Ts : List (List (List Int)), PyData.canLayAll0 (Ts.map dTab) = true
  | [] => rfl
  | T :: Ts => by
    rw [List.map_cons]
    have a : (dTab T).canLay0 = true := by
      have := lay_pairs T
      unfold dTab
      simp only [PyData.canLay0]
      exact this
    simp only [PyData.canLayAll0, a, tabs_lay Ts, Bool.and_self]
def dBs (bs : List Bool) : PyData := .tuple [.none, .list (bs.map .bool)]
theorem bls_dt {K : PySem.W.Frag} {H : Hp} : ∀ bs : List Bool, DtAll K H (bs.map .bool) (bs.map V.bl)
  | [] => .mkN
  | b :: bs => .mkC (by unfold Dt; rfl) (bls_dt bs)
theorem non_ne {K : PySem.W.Frag} {A : Around} {H : Hp} {Q : VK} {t u l m : Addr} {bs : List Bool} (hun : A.units + 64 < cLine) (hb : bs = [true, false, false, true] ∨ bs = [false, true, false, true]) (gt : H t = some (.tup [.non, .ref l])) (gu : H u = some (.tup [.non, .ref m])) (gl : H l = some (.lst (bs.map V.bl))) (gm : H m = some (.lst (bs.map V.bl))) (q : Q (.bl false) H) : rEqD K A true (.ref t) (.ref u) H Q := by
  have dN : Dt K H .none .non := by unfold Dt; rfl
  refine ⟨dBs bs, dBs bs, Dt.mkT (SqT.of gt) (.mkC dN (.mkC (Dt.mkL (SqL.of gl) (bls_dt bs)) .mkN)), Dt.mkT (SqT.of gu) (.mkC dN (.mkC (Dt.mkL (SqL.of gm) (bls_dt bs)) .mkN)), ?_, ?_, ?_, ?_⟩
  · rcases hb with rfl | rfl <;> simp [dBs, PyData.canLay0, PyData.canLayAll0]
  · rcases hb with rfl | rfl <;> simp [dBs, PyData.canLay0, PyData.canLayAll0]
  · refine un_lt hun (Nat.le_trans (Nat.min_le_left _ _) ?_)
    rcases hb with rfl | rfl <;> simp [dBs, PyData.depth, PyData.depthAll]
  · have e : PyData.eqv (dBs bs) (dBs bs) = true := by rcases hb with rfl | rfl <;> simp [dBs, PyData.eqv, PyData.eqvAll]
    rw [e]
    exact q
seal L2.PE L2.PA L2.PS L2.PSs L2.PT
section
variable {P : Program} {w : World} {K : PySem.W.Frag} {mg : Str → Option Value} {base : Heap}
/-! ### table_of, where there is a wall -/
def spTofW (K : PySem.W.Frag) : Sp := fun vs H Q _ => ∃ (a b : Addr) (rs cs : List Int), vs = [.ref a, .ref b] ∧ Sq K H a rs ∧ Sq K H b cs ∧ isS rs ∧ isS cs ∧ ¬ IsTw rs cs .free ∧ ∀ (t : Addr) (v : V) (H' : Hp), Same H H' → H' t = some (.tup [.str "wall", v]) → Q (.ref t) H'
theorem scTof : FnScope ["rows", "columns", "wall"] ["rows", "columns"] (defScope sTof) := ⟨rfl, rfl, rfl, by decide +kernel, rfl, by decide +kernel, by decide +kernel⟩
theorem ok_tofW {f fW CB : Addr} {fd fdW : FuncData} (F : Fun K "table_of" "table_of" sTof f fd) (FW : Fun K "wall_of_sums" "wall_of_sums" sWoS fW fdW) (bW : Binds K fdW ["rows", "columns"] []) (mW : mg "wall_of_sums" = some (.ref fW)) (GW : FnOk P w K mg base (CXE P w) 3 fW fdW ["rows", "columns"] (spWoS K CB)) : FnOk P w K mg base CX0 4 f fd ["rows", "columns"] (spTofW K) := by
  refine F.ok scTof (fun vs H Q E h => ?_) (fun cdv A outer s H vs Q E hr h => ?_)
  · obtain ⟨a, b, rs, cs, rfl, _⟩ := h
    rfl
  · obtain ⟨a, b, rs, cs, rfl, hA, hB, h1, h2, hn, q⟩ := h
    refine ⟨_, pss_cons (ps_set (i := 2) scTof.nd rfl (Or.inl rfl) (pe_call GW hr (by rfl) mW FW.kp bW .nil (passN (P := P) (w := w)) (pa_cons (pv 0) (pa_cons (pv 1) pa_nil))))
      (pss_cons (ps_if (pt_cmpR op_notN (pv 2) pe_non (by rfl)) (pss_one (ps_ret (pe_tup (pa_cons pe_str (pa_cons (pv 2) pa_nil))))) pss_nil) pss_never), ?_⟩
    refine ⟨_, rfl, _, rfl, a, b, rs, cs, rfl, hA, hB, fun _ _ v x H1 s1 hx hv => ?_, fun h => absurd ⟨h1, h2⟩ h⟩
    refine gName_to ?_
    rcases hv with ⟨rfl, rfl⟩ | ⟨hne, u, rfl, gu⟩
    · exact absurd hx hn
    · refine ⟨_, rfl, rfl, _, rfl, iteT ?_⟩
      refine ⟨_, rfl, (by show 2 ≤ sizeLine; decide), fun p hp => ?_⟩
      exact q p _ _ (s1.trans (same_upd hp)) upd_same
def spLaw (K : PySem.W.Frag) : Sp := fun vs H Q _ => ∃ (a : Addr) (ns : List Int), vs = [.ref a] ∧ SqL K H a (ns.map V.int) ∧ ns.length ≤ 63 ∧ ∀ H' : Hp, Q (.bl true) H'
theorem scLaw : FnScope ["script", "rest", "high", "wide", "rows", "columns", "cell", "by", "tables_of", "odd", "place"] ["script"] (defScope sLaw) := ⟨rfl, rfl, rfl, by decide +kernel, rfl, by decide +kernel, by decide +kernel⟩
set_option maxHeartbeats 4000000 in
theorem ok_law0 {f fC fT fU fL fA fF fR : Addr} {fd fdC fdT fdU fdL fdA fdF fdR : FuncData} (F : Fun K "law" "law" sLaw f fd) (B : Bn mg) (FC : Fun K "_law_cell" "_law_cell" sCellS fC fdC) (bC : Binds K fdC ["script", "k"] []) (mC : mg "_law_cell" = some (.ref fC)) (GC : FnOk P w K mg base CX0 7 fC fdC ["script", "k"] (spCell K))
    (FT : Fun K "_law_table" "_law_table" sTab fT fdT) (bT : Binds K fdT ["script", "start", "high", "wide"] []) (mT : mg "_law_table" = some (.ref fT)) (GT : FnOk P w K mg base CX0 7 fT fdT ["script", "start", "high", "wide"] (spTab K))
    (FU : Fun K "_law_sums" "_law_sums" sSumsT fU fdU) (bU : Binds K fdU ["cells"] []) (mU : mg "_law_sums" = some (.ref fU)) (GU : FnOk P w K mg base CX0 7 fU fdU ["cells"] (spSumsT K))
    (FL : Fun K "_law_all_of" "_law_all_of" sAllOf fL fdL) (bL : Binds K fdL ["rows", "columns"] []) (mL : mg "_law_all_of" = some (.ref fL)) (GL : FnOk P w K mg base CX0 7 fL fdL ["rows", "columns"] spAllOf)
    (FA : Fun K "_law_asked" "_law_asked" sAsk fA fdA) (bA : Binds K fdA ["rows", "columns", "row", "column"] []) (mA : mg "_law_asked" = some (.ref fA)) (GA : FnOk P w K mg base CX0 7 fA fdA ["rows", "columns", "row", "column"] (spAsk K))
    (FF : Fun K "table_of" "table_of" sTof fF fdF) (bF : Binds K fdF ["rows", "columns"] []) (mF : mg "table_of" = some (.ref fF)) (GF : FnOk P w K mg base CX0 7 fF fdF ["rows", "columns"] (spTofW K))
    (FR : Fun K "_law_cells_right" "_law_cells_right" sCellsR fR fdR) (bR : Binds K fdR ["tables_of", "rows", "columns"] []) (mR : mg "_law_cells_right" = some (.ref fR)) (GR' : FnOk P w K mg base CX0 7 fR fdR ["tables_of", "rows", "columns"] spCellsR) : FnOk P w K mg base CX0 8 f fd ["script"] (spLaw K) := by
  refine F.ok scLaw (fun vs H Q E h => ?_) (fun cdv A outer s H vs Q E hr h => ?_)
  · obtain ⟨a, ns, rfl, _⟩ := h
    rfl
  · obtain ⟨sc, ns, rfl, hS, hlen, q⟩ := h
    have hsl := sl1000
    have hun := hr.units
    refine ⟨_, pss_cons (ps_set (i := 1) scLaw.nd rfl (Or.inl rfl) (pe_op op_fdiv (pe_call GC hr (by rfl) mC FC.kp bC .nil pass0 (pa_cons (pv 0) (pa_cons pe_int pa_nil))) pe_int))
      (pss_cons (ps_set (i := 2) scLaw.nd rfl (Or.inl rfl) (pe_op op_add pe_int (pe_op op_mod (pv 1) pe_int)))
      (pss_cons (ps_set (i := 3) scLaw.nd rfl (Or.inl rfl) (pe_op op_add pe_int (pe_op op_mod (pe_op op_fdiv (pv 1) pe_int) pe_int)))
      (pss_cons (ps_asg (pe_call GU hr (by rfl) mU FU.kp bU .nil pass0 (pa_cons (pe_call GT hr (by rfl) mT FT.kp bT .nil pass0 (pa_cons (pv 0) (pa_cons pe_int (pa_cons (pv 2) (pa_cons (pv 3) pa_nil))))) pa_nil)) (pg_tup rfl (pgs_cons (pg_name (i := 4) scLaw.nd rfl (Or.inl rfl)) (pgs_cons (pg_name (i := 5) scLaw.nd rfl (Or.inl rfl)) pgs_nil))))
      (pss_cons (ps_set (i := 6) scLaw.nd rfl (Or.inl rfl) (pe_call GC hr (by rfl) mC FC.kp bC .nil pass0 (pa_cons (pv 0) (pa_cons pe_int pa_nil))))
      (pss_cut (ps_if (pt_cmpR op_eq (pe_op op_mod (pv 6) pe_int) pe_int (nomark _))
        (pss_cons (ps_set (i := 7) scLaw.nd rfl (Or.inl rfl) (pe_ix ix_list (pe_lst (pa_cons pe_int (pa_cons (pe_un un_neg pe_int) (pa_cons pe_int (pa_cons pe_int pa_nil))))) (pe_op op_mod (pe_op op_fdiv (pv 6) pe_int) pe_int) (fun _ _ => rfl)))
        (pss_cons (ps_asg (pe_op op_add (pe_ix ix_list (pv 4) (pe_op op_mod (pe_op op_fdiv (pv 6) pe_int) (pv 2)) (fun _ _ => rfl)) (pv 7)) (pg_sub (pv 4) (pe_op op_mod (pe_op op_fdiv (pv 6) pe_int) (pv 2)) set_list))
        (pss_one (ps_if (pt_cmpR op_gt (pe_op op_mod (pe_op op_fdiv (pv 6) pe_int) pe_int) pe_int (nomark _))
          (pss_one (ps_asg (pe_op op_add (pe_ix ix_list (pv 5) (pe_op op_mod (pe_op op_fdiv (pv 6) pe_int) (pv 3)) (fun _ _ => rfl)) (pv 7)) (pg_sub (pv 5) (pe_op op_mod (pe_op op_fdiv (pv 6) pe_int) (pv 3)) set_list))) pss_nil)))) pss_nil)
      (pss_cons (ps_set (i := 8) scLaw.nd rfl (Or.inl rfl) (pe_call GL hr (by rfl) mL FL.kp bL .nil pass0 (pa_cons (pv 4) (pa_cons (pv 5) pa_nil))))
      (pss_cons (ps_set (i := 9) scLaw.nd rfl (Or.inl rfl) (pe_ix ix_list (pe_lst (pa_cons (pe_tup (pa_cons (pv 2) (pa_cons pe_int pa_nil))) (pa_cons (pe_tup (pa_cons (pe_un un_neg pe_int) (pa_cons pe_int pa_nil))) (pa_cons (pe_tup (pa_cons pe_int (pa_cons (pv 3) pa_nil)))
          (pa_cons (pe_tup (pa_cons pe_int (pa_cons (pe_un un_neg pe_int) pa_nil))) (pa_cons (pe_tup (pa_cons (pe_op op_add (pv 2) (pe_op op_mod (pe_op op_fdiv (pv 6) pe_int) (pe_op op_pow pe_int pe_int))) (pa_cons (pv 3) pa_nil))) pa_nil)))))) (pe_op op_mod (pe_op op_fdiv (pv 6) pe_int) pe_int) (fun _ _ => rfl)))
      (pss_cons (ps_if (pt_cmpR op_eqD (pv 8) (pe_lst pa_nil) (nomark _))
        (pss_cons (ps_for PassesOwn.never rfl (pi_list (pe_lst (pa_cons (pe_tup (pa_cons pe_int (pa_cons pe_int pa_nil))) (pa_cons (pv 9) pa_nil)))) (pg_name (i := 10) scLaw.nd rfl (Or.inl rfl))
          (pss_one (ps_if (pt_cmpR op_neD (pe_call GA hr (by rfl) mA FA.kp bA .nil pass0 (pa_cons (pv 4) (pa_cons (pv 5) (pa_cons (pe_ix ix_tup (pv 10) pe_int (fun _ _ => rfl)) (pa_cons (pe_ix ix_tup (pv 10) pe_int (fun _ _ => rfl)) pa_nil))))) (pe_tup (pa_cons pe_non (pa_cons (pe_lst (pa_cons pe_bl (pa_cons pe_bl (pa_cons pe_bl (pa_cons pe_bl pa_nil))))) pa_nil))) (nomark _)) pss_never pss_nil)))
        (pss_one (ps_ret (pe_cmpR op_eq (pe_ix ix_tup (pe_call GF hr (by rfl) mF FF.kp bF .nil pass0 (pa_cons (pv 4) (pa_cons (pv 5) pa_nil))) pe_int (fun _ _ => rfl)) pe_str (nomark _))))) pss_nil)
      (pss_cons (ps_if (pt_cmpR op_neD (pe_call GA hr (by rfl) mA FA.kp bA .nil pass0 (pa_cons (pv 4) (pa_cons (pv 5) (pa_cons (pe_ix ix_tup (pv 9) pe_int (fun _ _ => rfl)) (pa_cons (pe_ix ix_tup (pv 9) pe_int (fun _ _ => rfl)) pa_nil))))) (pe_tup (pa_cons pe_non (pa_cons (pe_lst (pa_cons pe_bl (pa_cons pe_bl (pa_cons pe_bl (pa_cons pe_bl pa_nil))))) pa_nil))) (nomark _)) pss_never pss_nil)
      (pss_one (ps_ret (pe_call GR' hr (by rfl) mR FR.kp bR .nil pass0 (pa_cons (pv 8) (pa_cons (pv 4) (pa_cons (pv 5) pa_nil))))))))))))))), ?_⟩
    refine ⟨_, rfl, sc, ns, 0, rfl, hS, fun c0 => ?_⟩
    refine ⟨_, _, rfl, rfl, ⟨by decide, by decide⟩, ?_⟩
    refine gName_int fun r _ => ?_
    refine gName_to ?_
    obtain ⟨hi, ehi, hi1, hi3⟩ : ∃ n : Nat, 1 + r % 3 = (n : Int) ∧ 1 ≤ n ∧ n ≤ 3 := ⟨(1 + r % 3).toNat, by omega, by omega, by omega⟩
    obtain ⟨wi, ewi, wi1, wi4⟩ : ∃ n : Nat, 1 + r / 3 % 4 = (n : Int) ∧ 1 ≤ n ∧ n ≤ 4 := ⟨(1 + r / 3 % 4).toNat, by omega, by omega, by omega⟩
    refine ⟨_, rfl, _, _, rfl, rfl, (by show (0 : Int) < 3; decide), _, _, rfl, rfl, ?_⟩
    refine gName_eq (congrArg V.int ehi) ?_
    refine gName_to ?_
    refine ⟨_, rfl, _, _, rfl, rfl, ⟨by decide, by decide⟩, _, _, rfl, rfl, (by show (0 : Int) < 4; decide), _, _, rfl, rfl, ?_⟩
    refine gName_eq (congrArg V.int ewi) ?_
    refine gName_to ?_
    refine ⟨_, rfl, _, rfl, _, rfl, sc, ns, 2, hi, wi, rfl, hS, by omega, by omega, fun lt ys H2 s2 g2 hyl hL => ?_⟩
    refine ⟨lt, ys, wi, rfl, g2, by omega, by omega, by omega, hL, fun y l m rs cs H3 s3 fl fm hlm gy gl gm hrl hcl => ?_⟩
    refine ⟨y, _, rfl, SqT.of gy, rfl, _, _, rfl, _, _, rfl, rfl, ?_⟩
    refine ⟨_, rfl, sc, ns, 3, rfl, (s2.trans s3).seq hS, fun c => ?_⟩
    refine gName_to ?_
    rw [hyl] at hrl
    refine ⟨fun σ' H' => ∃ (rs cs : List Int) (e7 : Option V), σ' = [some (.ref sc), some (.int r), some (.int hi), some (.int wi), some (.ref l), some (.ref m), some (.int c), e7, none, none, none] ∧ H' l = some (.lst (rs.map V.int)) ∧ H' m = some (.lst (cs.map V.int)) ∧ rs.length = hi ∧ cs.length = wi, ?_, ?_⟩
    · refine ⟨_, rfl, _, _, rfl, rfl, (by show (0 : Int) < 2; decide), rfl, _, rfl, ?_⟩
      refine ite2 (fun h => ?_) (fun h => ?_)
      · obtain ⟨bv, hbv⟩ := four_of 1 (-1) 1 2 (c / 2)
        refine ⟨_, rfl, (by show 4 ≤ sizeLine; decide), fun lb flb => ?_⟩
        have s4 := same_upd (o := .lst [.int 1, .int (-1), .int 1, .int 2]) flb
        refine ⟨_, rfl, _, _, rfl, rfl, ⟨by decide, by decide⟩, _, _, rfl, rfl, (by show (0 : Int) < 4; decide), lb, _, _, _, rfl, rfl, SqL.of upd_same, hbv, ?_⟩
        have gl4 := s4 _ _ gl
        have gm4 := s4 _ _ gm
        generalize upd H3 lb (.lst [.int 1, .int (-1), .int 1, .int 2]) = H4 at gl4 gm4
        refine gName_to ?_
        obtain ⟨j, hj, hjn⟩ := mod_nat (c / 8) (n := hi) (by omega)
        obtain ⟨k, hk, hkn⟩ := mod_nat (c / 96) (n := wi) (by omega)
        have at1 : atI (rs.map V.int) (c / 8 % (hi : Int)) = some (.int (rs.getD j 0)) := by rw [hj]; exact at_int (by omega)
        have at2 : atI (cs.map V.int) (c / 96 % (wi : Int)) = some (.int (cs.getD k 0)) := by rw [hk]; exact at_int (by omega)
        refine ⟨_, rfl, _, rfl, _, _, rfl, rfl, ⟨by decide, by decide⟩, _, rfl, _, _, rfl, rfl, (by show (0 : Int) < (hi : Int); omega), l, _, _, _, rfl, rfl, SqL.of gl4, at1, _, rfl, _, _, rfl, rfl, _, rfl, _, rfl, _, _, rfl, rfl, ⟨by decide, by decide⟩, _, rfl, _, _, rfl, rfl, (by show (0 : Int) < (hi : Int); omega), l, _, _, j, rfl, rfl, gl4, by rw [hj]; exact ixN_nat (by rw [List.length_map]; omega), ?_⟩
        have e1 : (rs.map V.int).set j (.int (rs.getD j 0 + bv)) = (rs.set j (rs.getD j 0 + bv)).map V.int := by rw [List.map_set]
        have gl5 : (upd H4 l (.lst ((rs.map V.int).set j (.int (rs.getD j 0 + bv))))) l = some (.lst ((rs.set j (rs.getD j 0 + bv)).map V.int)) := by rw [upd_same, e1]
        have gm5 : (upd H4 l (.lst ((rs.map V.int).set j (.int (rs.getD j 0 + bv))))) m = some (.lst (cs.map V.int)) := by rw [upd_ne (Ne.symm hlm)]; exact gm4
        refine ⟨_, rfl, _, _, rfl, rfl, ⟨by decide, by decide⟩, _, _, rfl, rfl, (by show (0 : Int) < 4; decide), _, _, rfl, rfl, _, rfl, ?_⟩
        refine ite2 (fun h2 => ?_) (fun h2 => ?_)
        · refine ⟨_, rfl, _, rfl, _, _, rfl, rfl, ⟨by decide, by decide⟩, _, rfl, _, _, rfl, rfl, (by show (0 : Int) < (wi : Int); omega), m, _, _, _, rfl, rfl, SqL.of gm5, at2, _, rfl, _, _, rfl, rfl, _, rfl, _, rfl, _, _, rfl, rfl, ⟨by decide, by decide⟩, _, rfl, _, _, rfl, rfl, (by show (0 : Int) < (wi : Int); omega), m, _, _, k, rfl, rfl, gm5, by rw [hk]; exact ixN_nat (by rw [List.length_map]; omega), ?_⟩
          refine ⟨rs.set j (rs.getD j 0 + bv), cs.set k (cs.getD k 0 + bv), _, rfl, by rw [upd_ne hlm]; exact gl5, by rw [upd_same, List.map_set], by rw [List.length_set]; exact hrl, by rw [List.length_set]; exact hcl⟩
        · exact ⟨rs.set j (rs.getD j 0 + bv), cs, _, rfl, gl5, gm5, by rw [List.length_set]; exact hrl, hcl⟩
      · exact ⟨rs, cs, _, rfl, gl, gm, hrl, hcl⟩
    clear gl gm hrl hcl rs cs gy
    rintro σ' H4 ⟨rs, cs, e7, rfl, gl, gm, hrl, hcl⟩
    have h1 : isS rs := ⟨by omega, by omega⟩
    have h2 : isS cs := ⟨by omega, by omega⟩
    refine ⟨_, rfl, _, rfl, l, m, rs, cs, rfl, gl, gm, by omega, by omega, by omega, fun D ys H5 s5 gD tD hy4 => ?_⟩
    refine gName_to ?_
    refine ⟨_, rfl, (by show 2 ≤ sizeLine; decide), fun o1 f1 => ?_⟩
    have z1 := same_upd (o := .tup [.int (hi : Int), .int 0]) f1
    refine ⟨_, rfl, (by show 2 ≤ sizeLine; decide), fun o2 f2 => ?_⟩
    have z2 := same_upd (o := .tup [.int (-1), .int 0]) f2
    refine ⟨_, rfl, (by show 2 ≤ sizeLine; decide), fun o3 f3 => ?_⟩
    have z3 := same_upd (o := .tup [.int 0, .int (wi : Int)]) f3
    refine ⟨_, rfl, (by show 2 ≤ sizeLine; decide), fun o4 f4 => ?_⟩
    have z4 := same_upd (o := .tup [.int 0, .int (-1)]) f4
    refine ⟨_, rfl, _, rfl, _, _, rfl, rfl, ⟨by decide, by decide⟩, _, _, rfl, rfl, ⟨by decide, by decide, by decide⟩, _, _, rfl, rfl, p30, _, _, rfl, rfl, _, rfl, (by show 2 ≤ sizeLine; decide), fun o5 f5 => ?_⟩
    have z5 := same_upd (o := .tup [.int ((hi : Int) + c / 8 % 10 ^ (Int.toNat 30)), .int (wi : Int)]) f5
    refine ⟨(by show 5 ≤ sizeLine; decide), fun lo flo => ?_⟩
    have z6 := same_upd (o := .lst [.ref o1, .ref o2, .ref o3, .ref o4, .ref o5]) flo
    obtain ⟨od, hod, hod'⟩ := five_of o1 o2 o3 o4 o5 (c / 7)
    refine ⟨_, rfl, _, _, rfl, rfl, ⟨by decide, by decide⟩, _, _, rfl, rfl, (by show (0 : Int) < 5; decide), lo, _, _, _, rfl, rfl, SqL.of upd_same, hod, ?_⟩
    have zz := z1.trans (z2.trans (z3.trans (z4.trans (z5.trans z6))))
    have hpow := Int.emod_nonneg (c / 8) (show (10 : Int) ^ (Int.toNat 30) ≠ 0 from Int.ne_of_gt p30)
    obtain ⟨x, y', godd, hodd⟩ : ∃ x y' : Int, (upd (upd (upd (upd (upd (upd H5 o1 (.tup [.int (hi : Int), .int 0])) o2 (.tup [.int (-1), .int 0])) o3 (.tup [.int 0, .int (wi : Int)])) o4 (.tup [.int 0, .int (-1)])) o5 (.tup [.int ((hi : Int) + c / 8 % 10 ^ (Int.toNat 30)), .int (wi : Int)])) lo (.lst [.ref o1, .ref o2, .ref o3, .ref o4, .ref o5])) od = some (.tup [.int x, .int y']) ∧ ¬ (isPl rs.length x ∧ isPl cs.length y') := by
      rcases hod' with rfl | rfl | rfl | rfl | rfl
      · exact ⟨_, _, (z2.trans (z3.trans (z4.trans (z5.trans z6)))) _ _ upd_same, fun z => by have := z.1.2; omega⟩
      · exact ⟨_, _, (z3.trans (z4.trans (z5.trans z6))) _ _ upd_same, fun z => by have := z.1.1; omega⟩
      · exact ⟨_, _, (z4.trans (z5.trans z6)) _ _ upd_same, fun z => by have := z.2.2; omega⟩
      · exact ⟨_, _, (z5.trans z6) _ _ upd_same, fun z => by have := z.2.1; omega⟩
      · exact ⟨_, _, z6 _ _ upd_same, fun z => by have := z.2.2; omega⟩
    generalize upd (upd (upd (upd (upd (upd H5 o1 (.tup [.int (hi : Int), .int 0])) o2 (.tup [.int (-1), .int 0])) o3 (.tup [.int 0, .int (wi : Int)])) o4 (.tup [.int 0, .int (-1)])) o5 (.tup [.int ((hi : Int) + c / 8 % 10 ^ (Int.toNat 30)), .int (wi : Int)])) lo (.lst [.ref o1, .ref o2, .ref o3, .ref o4, .ref o5]) = H6 at zz godd ⊢
    clear z1 z2 z3 z4 z5 z6
    have s6 := s5.trans zz
    refine gName_to ?_
    refine ⟨_, rfl, by show 0 ≤ sizeLine; omega, fun le fe => ?_⟩
    have s7 := same_upd (o := .lst []) fe
    have gD7 := (zz.trans s7) _ _ gD
    have tD7 := tD.same (zz.trans s7)
    refine ⟨.list ((allT rs cs).map dTab), .list [], Dt.mkL (SqL.of gD7) tD7.dt, Dt.mkL (SqL.of upd_same) .mkN, by simp only [PyData.canLay0, tabs_lay], by simp [PyData.canLay0, PyData.canLayAll0], ?_, _, rfl, ?_⟩
    · exact un_lt hun (Nat.le_trans (Nat.min_le_right _ _) (by simp [PyData.depth, PyData.depthAll]))
    have s67 := s6.trans s7
    have gl7 := s67 _ _ gl
    have gm7 := s67 _ _ gm
    have godd7 := s7 _ _ godd
    generalize upd H6 le (.lst []) = H7 at gD7 tD7 gl7 gm7 godd7 ⊢
    clear s67 s6 s7 zz
    by_cases hT : allT rs cs = []
    · have hnf : ¬ IsTw rs cs .free := fun z => by
        have hc0 : ∀ j, j < cs.length → 0 ≤ cs.getD j 0 := fun j hj => z.2.1 j _ (by rw [List.getD_eq_getElem?_getD, List.getElem?_eq_getElem hj]; rfl)
        obtain ⟨T, ht⟩ := gr_tab (grT_free z) hc0 (fun a ha => by
          obtain ⟨i, hi', e⟩ := List.mem_iff_getElem.mp ha
          exact z.1 i a (by rw [List.getElem?_eq_getElem hi', e])) z.2.2.1
        have := allT_mem.mpr ht
        rw [hT] at this
        exact absurd this List.not_mem_nil
      rw [hT, if_neg Bool.false_ne_true, show PyData.eqv (.list (([] : List (List (List Int))).map dTab)) (.list []) = true by simp [PyData.eqv, PyData.eqvAll]]
      refine iteT ?_
      refine ⟨(by show 2 ≤ sizeLine; decide), fun oz foz => ?_⟩
      have y1 := same_upd (o := .tup [.int 0, .int 0]) foz
      refine ⟨_, rfl, (by show 2 ≤ sizeLine; decide), fun lq fq => ⟨lq, rfl, ⟨_, SqL.of upd_same⟩, ?_⟩⟩
      have y2 := same_upd (o := .lst [.ref oz, .ref od]) fq
      have gq : (upd (upd H7 oz (.tup [.int 0, .int 0])) lq (.lst [.ref oz, .ref od])) lq = some (.lst [.ref oz, .ref od]) := upd_same
      have goz := y2 _ _ (show (upd H7 oz (.tup [.int 0, .int 0])) oz = some (.tup [.int 0, .int 0]) from upd_same)
      have gl8 := (y1.trans y2) _ _ gl7
      have gm8 := (y1.trans y2) _ _ gm7
      have god8 := (y1.trans y2) _ _ godd7
      generalize upd (upd H7 oz (.tup [.int 0, .int 0])) lq (.lst [.ref oz, .ref od]) = HB at gq goz gl8 gm8 god8 ⊢
      refine for_list (K := K) (a := lq) (xs := [.ref oz, .ref od]) (fun _ σ Hx => ∃ e10, σ = [some (.ref sc), some (.int r), some (.int hi), some (.int wi), some (.ref l), some (.ref m), some (.int c), e7, some (.ref D), some (.ref od), e10] ∧ Same HB Hx) ⟨none, rfl, Same.refl HB⟩ (fun i σ Hx _ ⟨_, _, s⟩ => SqL.of (s _ _ gq)) ?_ ?_
      · rintro k x0 σ Hx hx ⟨e10, rfl, sX⟩
        obtain ⟨ow, u, v, rfl, gow⟩ : ∃ (ow : Addr) (u v : Int), x0 = V.ref ow ∧ HB ow = some (.tup [.int u, .int v]) := by
          match k, hx with
          | 0, hx => cases hx; exact ⟨oz, 0, 0, rfl, goz⟩
          | 1, hx => cases hx; exact ⟨od, x, y', rfl, god8⟩
        have gowX := sX _ _ gow
        refine gName_to ?_
        refine ⟨_, rfl, _, rfl, _, rfl, ow, _, _, _, rfl, rfl, SqT.of gowX, atI_nat (j := 0) rfl, _, rfl, ow, _, _, _, rfl, rfl, SqT.of gowX, atI_nat (j := 1) rfl, l, m, rs, cs, u, v, rfl, .inl (SqL.of (sX _ _ gl8)), .inl (SqL.of (sX _ _ gm8)), h1, h2, fun t lk vv bs Hy sy gt glk ok => ?_⟩
        rcases ok with ⟨hf, _⟩ | ⟨hf, _⟩ | ⟨_, rfl, rfl⟩
        · exact absurd hf hnf
        · exact absurd hf hnf
        · refine ⟨(by show 4 ≤ sizeLine; decide), fun l2 fl2 => ?_⟩
          have w1 := same_upd (o := .lst [.bl true, .bl false, .bl false, .bl true]) fl2
          refine ⟨(by show 2 ≤ sizeLine; decide), fun p2 fp2 => ?_⟩
          have w2 := same_upd (o := .tup [.non, .ref l2]) fp2
          refine non_ne hun (.inl rfl) ((w1.trans w2) _ _ gt) upd_same ((w1.trans w2) _ _ glk) (w2 _ _ upd_same) ⟨_, rfl, iteF ?_⟩
          exact ⟨_, rfl, (sX.trans sy).trans (w1.trans w2)⟩
      · rintro σ Hx ⟨e10, rfl, sX⟩
        refine ⟨_, rfl, _, rfl, l, m, rs, cs, rfl, .inl (SqL.of (sX _ _ gl8)), .inl (SqL.of (sX _ _ gm8)), h1, h2, hnf, fun t v Hy sy gt => ?_⟩
        refine ⟨t, _, _, _, rfl, rfl, SqT.of gt, atI_nat (j := 0) rfl, rfl, ?_⟩
        rw [decide_eq_true rfl]
        exact q _
    · have hfr : IsTw rs cs .free := by
        obtain ⟨T0, h0⟩ := List.exists_mem_of_ne_nil _ hT
        exact (allT_mem.mp h0).free
      have eF : PyData.eqv (.list ((allT rs cs).map dTab)) (.list []) = false := by
        cases hA : allT rs cs with
        | nil => exact absurd hA hT
        | cons T Ts => simp [PyData.eqv, PyData.eqvAll]
      rw [if_neg Bool.false_ne_true, eF]
      refine iteF ?_
      refine ⟨_, rfl, _, rfl, _, rfl, od, _, _, _, rfl, rfl, SqT.of godd7, atI_nat (j := 0) rfl, _, rfl, od, _, _, _, rfl, rfl, SqT.of godd7, atI_nat (j := 1) rfl, l, m, rs, cs, x, y', rfl, .inl (SqL.of gl7), .inl (SqL.of gm7), h1, h2, fun t lk vv bs Hy sy gt glk ok => ?_⟩
      rcases ok with ⟨_, hp1, hp2, _⟩ | ⟨_, _, rfl, rfl⟩ | ⟨hf, _⟩
      · exact absurd ⟨hp1, hp2⟩ hodd
      · refine ⟨(by show 4 ≤ sizeLine; decide), fun l2 fl2 => ?_⟩
        have w1 := same_upd (o := .lst [.bl false, .bl true, .bl false, .bl true]) fl2
        refine ⟨(by show 2 ≤ sizeLine; decide), fun p2 fp2 => ?_⟩
        have w2 := same_upd (o := .tup [.non, .ref l2]) fp2
        refine non_ne hun (.inr rfl) ((w1.trans w2) _ _ gt) upd_same ((w1.trans w2) _ _ glk) (w2 _ _ upd_same) ⟨_, rfl, iteF ?_⟩
        have sy2 := sy.trans (w1.trans w2)
        refine ⟨_, rfl, _, rfl, _, rfl, D, l, m, ys, rs, cs, rfl, sy2 _ _ gD7, tD7.same sy2, hy4, hT, sy2 _ _ gl7, sy2 _ _ gm7, h1, h2, fun H' _ => q H'⟩
      · exact absurd hfr hf
theorem ok_law {f fI fK fT fM fF fβ fS fR fW fJ fO fD fC fN fB fH fU fG fL fA fE CT CB CW CN : Addr} {fd fdI fdK fdT fdM fdF fdβ fdS fdR fdW fdJ fdO fdD fdC fdN fdB fdH fdU fdG fdL fdA fdE : FuncData} {tk tg : Tok} (F : Fun K "law" "law" sLaw f fd) (Bx : Bn mg) (mo : mg "MOST_PLACES" = some (.int 24 tk)) (ms : mg "MOST_SUMS" = some (.int 16 tg))
    (FI : Fun K "is_place" "is_place" sIsP fI fdI) (bI : Binds K fdI ["places", "number"] []) (mI : mg "is_place" = some (.ref fI))
    (FK : Fun K "check_place" "check_place" sChk fK fdK) (bK : Binds K fdK ["places", "number"] []) (mK : mg "check_place" = some (.ref fK))
    (FT : Fun K "check_tally" "check_tally" sChT fT fdT) (bT : Binds K fdT ["tally"] []) (mT : mg "check_tally" = some (.ref fT))
    (FM : Fun K "moved" "moved" sMov fM fdM) (bM : Binds K fdM ["tally", "place", "more"] []) (mM : mg "moved" = some (.ref fM))
    (FF : Fun K "falling" "falling" sFall fF fdF) (bF : Binds K fdF ["tally"] []) (mF : mg "falling" = some (.ref fF))
    (Fβ : Fun K "places_below" "places_below" sBelow fβ fdβ) (bβ : Binds K fdβ ["numbers"] []) (mβ : mg "places_below" = some (.ref fβ))
    (FS : Fun K "check_sums" "check_sums" sChS fS fdS) (bS : Binds K fdS ["rows", "columns"] []) (mS : mg "check_sums" = some (.ref fS))
    (FR : Fun K "room_for" "room_for" sRoomF fR fdR) (bR : Binds K fdR ["rows", "columns", "r"] []) (mR : mg "room_for" = some (.ref fR))
    (FW : Fun K "wall_of_sums" "wall_of_sums" sWoS fW fdW) (bW : Binds K fdW ["rows", "columns"] []) (mW : mg "wall_of_sums" = some (.ref fW))
    (FJ : Fun K "table_of" "table_of" sTof fJ fdJ) (bJ : Binds K fdJ ["rows", "columns"] []) (mJ : mg "table_of" = some (.ref fJ))
    (FO : Fun K "wall_of_moved" "wall_of_moved" sWoM fO fdO) (bO : Binds K fdO ["rows", "columns", "row", "column", "more"] []) (mO : mg "wall_of_moved" = some (.ref fO))
    (FD : Fun K "cell_told" "cell_told" sCTd fD fdD) (bD : Binds K fdD ["rows", "columns", "row", "column"] []) (mD : mg "cell_told" = some (.ref fD))
    (FC : Fun K "_law_cell" "_law_cell" sCellS fC fdC) (bC : Binds K fdC ["script", "k"] []) (mC : mg "_law_cell" = some (.ref fC))
    (FN : Fun K "_law_mixed" "_law_mixed" sMixS fN fdN) (bN : Binds K fdN ["cell", "k"] []) (mN : mg "_law_mixed" = some (.ref fN))
    (FB : Fun K "_law_bit" "_law_bit" sBit fB fdB) (bB : Binds K fdB ["script", "start", "k"] []) (mB : mg "_law_bit" = some (.ref fB))
    (FH : Fun K "_law_table" "_law_table" sTab fH fdH) (bH : Binds K fdH ["script", "start", "high", "wide"] []) (mH : mg "_law_table" = some (.ref fH))
    (FU : Fun K "_law_sums" "_law_sums" sSumsT fU fdU) (bU : Binds K fdU ["cells"] []) (mU : mg "_law_sums" = some (.ref fU))
    (FG : Fun K "_law_rows_of" "_law_rows_of" sRowsOf fG fdG) (bG : Binds K fdG ["many", "left"] []) (mG : mg "_law_rows_of" = some (.ref fG))
    (FL : Fun K "_law_all_of" "_law_all_of" sAllOf fL fdL) (bL : Binds K fdL ["rows", "columns"] []) (mL : mg "_law_all_of" = some (.ref fL))
    (FA : Fun K "_law_asked" "_law_asked" sAsk fA fdA) (bA : Binds K fdA ["rows", "columns", "row", "column"] []) (mA : mg "_law_asked" = some (.ref fA))
    (FE : Fun K "_law_cells_right" "_law_cells_right" sCellsR fE fdE) (bE : Binds K fdE ["tables_of", "rows", "columns"] []) (mE : mg "_law_cells_right" = some (.ref fE))
    (Lc : Cl46 K mg CT CB CW CN) : FnOk P w K mg base CX0 8 f fd ["script"] (spLaw K) := by
  have GM : FnOk P w K mg base (CXE P w) 3 fM fdM ["tally", "place", "more"] (spMov K CB CN) := ok_mov FM Bx FT bT mT FK bK mK FI bI mI mo Lc.mB Lc.cB Lc.mN Lc.cN
  have GW : FnOk P w K mg base (CXE P w) 3 fW fdW ["rows", "columns"] (spWoS K CB) := ok_woS FW Bx FF bF mF Fβ bβ mβ FS bS mS FR bR mR ms Lc.mB Lc.cB
  have GO : FnOk P w K mg base (CXE P w) 4 fO fdO ["rows", "columns", "row", "column", "more"] (spWoM K CN) := ok_woM FO FW bW mW GW FM bM mM GM
  have GD : FnOk P w K mg base (CXE P w) 5 fD fdD ["rows", "columns", "row", "column"] (spCTd K CN CW) := ok_ctd FD FW bW mW (GW.mono (by decide)) FO bO mO GO Lc.mW Lc.cW
  have GA : FnOk P w K mg base CX0 6 fA fdA ["rows", "columns", "row", "column"] (spAsk K) := ok_ask FA Bx FD bD mD GD Lc
  have GE : FnOk P w K mg base CX0 7 fE fdE ["tables_of", "rows", "columns"] spCellsR := ok_cellsR FE Bx FA bA mA GA
  have GL : FnOk P w K mg base CX0 2 fL fdL ["rows", "columns"] spAllOf := ok_allOf FL Bx FG bG mG
  have GJ : FnOk P w K mg base CX0 4 fJ fdJ ["rows", "columns"] (spTofW K) := ok_tofW FJ FW bW mW GW
  have GC : FnOk P w K mg base CX0 1 fC fdC ["script", "k"] (spCell K) := ok_cell FC Bx
  have GH : FnOk P w K mg base CX0 3 fH fdH ["script", "start", "high", "wide"] (spTab K) := ok_tab FH Bx FC bC mC FN bN mN FB bB mB
  have GU : FnOk P w K mg base CX0 1 fU fdU ["cells"] (spSumsT K) := ok_sumsT FU Bx
  exact ok_law0 F Bx FC bC mC (GC.mono (by decide)) FH bH mH (GH.mono (by decide)) FU bU mU (GU.mono (by decide)) FL bL mL (GL.mono (by decide)) FA bA mA (GA.mono (by decide)) FJ bJ mJ (GJ.mono (by decide)) FE bE mE GE
end
end Web

namespace Web
open PySem L2
set_option autoImplicit false
set_option linter.all false
/-! ### what the top has written -/
theorem all_mk {l : PySem.W.OpenLaw} {w : World} {K : PySem.W.Frag} {h : Heap} {mg : Str → Option Value} {fa fI fK fT fM fF fβ fS fR fW fJ fO fD fC fN fB fH fU fG fL fA fE fZ CTallyError CBadTally CNoPlace CNoWeb : Addr} {tk : Tok}{tg : Tok} {cdBadTally : ClassData} {cdNoWeb : ClassData} {cdNoPlace : ClassData} (X : K.In h) (G : h.Ns mainGlobals mg) (hfa : mg "law" = some (.ref fa))
    {odI anI odK anK odT anT odM anM odF anF odβ anβ odS anS odR anR odW anW odJ anJ odO anO odD anD odC anC odN anN odB anB odH anH odU anU odG anG odL anL odA anA odE anE odZ anZ : Option Addr} {slI slK slT slM slF slβ slS slR slW slJ slO slD slC slN slB slH slU slG slL slA slE slZ : Array (Option Value)}
    {ocI kVI dcI pmI cdI ctI ocK kVK dcK pmK cdK ctK ocT kVT dcT pmT cdT ctT ocM kVM dcM pmM cdM ctM ocF kVF dcF pmF cdF ctF ocβ kVβ dcβ pmβ cdβ ctβ ocS kVS dcS pmS cdS ctS ocR kVR dcR pmR cdR ctR ocW kVW dcW pmW cdW ctW ocJ kVJ dcJ pmJ cdJ ctJ ocO kVO dcO pmO cdO ctO ocD kVD dcD pmD cdD ctD ocC kVC dcC pmC cdC ctC ocN kVN dcN pmN cdN ctN ocB kVB dcB pmB cdB ctB ocH kVH dcH pmH cdH ctH ocU kVU dcU pmU cdU ctU ocG kVG dcG pmG cdG ctG ocL kVL dcL pmL cdL ctL ocA kVA dcA pmA cdA ctA ocE kVE dcE pmE cdE ctE ocZ kVZ dcZ pmZ cdZ ctZ : Value}
    (aI : PySem.W.nsIn K mainGlobals "is_place" = some (some (.ref fI))) (lI : K.lookup fI = some ⟨ocI, odI, .func (PySem.W.fnOf "is_place" "is_place" (defArgs sIsP) (defBody sIsP) (defScope sIsP) .none kVI dcI pmI anI cdI ctI), slI⟩) (cI : PySem.W.codeIn K cdI "is_place" = true) (kI : PySem.W.keepIn K (.ref fI) = true)
    (aK : PySem.W.nsIn K mainGlobals "check_place" = some (some (.ref fK))) (lK : K.lookup fK = some ⟨ocK, odK, .func (PySem.W.fnOf "check_place" "check_place" (defArgs sChk) (defBody sChk) (defScope sChk) .none kVK dcK pmK anK cdK ctK), slK⟩) (cK : PySem.W.codeIn K cdK "check_place" = true) (kK : PySem.W.keepIn K (.ref fK) = true)
    (aT : PySem.W.nsIn K mainGlobals "check_tally" = some (some (.ref fT))) (lT : K.lookup fT = some ⟨ocT, odT, .func (PySem.W.fnOf "check_tally" "check_tally" (defArgs sChT) (defBody sChT) (defScope sChT) .none kVT dcT pmT anT cdT ctT), slT⟩) (cT : PySem.W.codeIn K cdT "check_tally" = true) (kT : PySem.W.keepIn K (.ref fT) = true)
    (aM : PySem.W.nsIn K mainGlobals "moved" = some (some (.ref fM))) (lM : K.lookup fM = some ⟨ocM, odM, .func (PySem.W.fnOf "moved" "moved" (defArgs sMov) (defBody sMov) (defScope sMov) .none kVM dcM pmM anM cdM ctM), slM⟩) (cM : PySem.W.codeIn K cdM "moved" = true) (kM : PySem.W.keepIn K (.ref fM) = true)
    (aF : PySem.W.nsIn K mainGlobals "falling" = some (some (.ref fF))) (lF : K.lookup fF = some ⟨ocF, odF, .func (PySem.W.fnOf "falling" "falling" (defArgs sFall) (defBody sFall) (defScope sFall) .none kVF dcF pmF anF cdF ctF), slF⟩) (cF : PySem.W.codeIn K cdF "falling" = true) (kF : PySem.W.keepIn K (.ref fF) = true)
    (aβ : PySem.W.nsIn K mainGlobals "places_below" = some (some (.ref fβ))) (lβ : K.lookup fβ = some ⟨ocβ, odβ, .func (PySem.W.fnOf "places_below" "places_below" (defArgs sBelow) (defBody sBelow) (defScope sBelow) .none kVβ dcβ pmβ anβ cdβ ctβ), slβ⟩) (cβ : PySem.W.codeIn K cdβ "places_below" = true) (kβ : PySem.W.keepIn K (.ref fβ) = true)
    (aS : PySem.W.nsIn K mainGlobals "check_sums" = some (some (.ref fS))) (lS : K.lookup fS = some ⟨ocS, odS, .func (PySem.W.fnOf "check_sums" "check_sums" (defArgs sChS) (defBody sChS) (defScope sChS) .none kVS dcS pmS anS cdS ctS), slS⟩) (cS : PySem.W.codeIn K cdS "check_sums" = true) (kS : PySem.W.keepIn K (.ref fS) = true)
    (aR : PySem.W.nsIn K mainGlobals "room_for" = some (some (.ref fR))) (lR : K.lookup fR = some ⟨ocR, odR, .func (PySem.W.fnOf "room_for" "room_for" (defArgs sRoomF) (defBody sRoomF) (defScope sRoomF) .none kVR dcR pmR anR cdR ctR), slR⟩) (cR : PySem.W.codeIn K cdR "room_for" = true) (kR : PySem.W.keepIn K (.ref fR) = true)
    (aW : PySem.W.nsIn K mainGlobals "wall_of_sums" = some (some (.ref fW))) (lW : K.lookup fW = some ⟨ocW, odW, .func (PySem.W.fnOf "wall_of_sums" "wall_of_sums" (defArgs sWoS) (defBody sWoS) (defScope sWoS) .none kVW dcW pmW anW cdW ctW), slW⟩) (cW : PySem.W.codeIn K cdW "wall_of_sums" = true) (kW : PySem.W.keepIn K (.ref fW) = true)
    (aJ : PySem.W.nsIn K mainGlobals "table_of" = some (some (.ref fJ))) (lJ : K.lookup fJ = some ⟨ocJ, odJ, .func (PySem.W.fnOf "table_of" "table_of" (defArgs sTof) (defBody sTof) (defScope sTof) .none kVJ dcJ pmJ anJ cdJ ctJ), slJ⟩) (cJ : PySem.W.codeIn K cdJ "table_of" = true) (kJ : PySem.W.keepIn K (.ref fJ) = true)
    (aO : PySem.W.nsIn K mainGlobals "wall_of_moved" = some (some (.ref fO))) (lO : K.lookup fO = some ⟨ocO, odO, .func (PySem.W.fnOf "wall_of_moved" "wall_of_moved" (defArgs sWoM) (defBody sWoM) (defScope sWoM) .none kVO dcO pmO anO cdO ctO), slO⟩) (cO : PySem.W.codeIn K cdO "wall_of_moved" = true) (kO : PySem.W.keepIn K (.ref fO) = true)
    (aD : PySem.W.nsIn K mainGlobals "cell_told" = some (some (.ref fD))) (lD : K.lookup fD = some ⟨ocD, odD, .func (PySem.W.fnOf "cell_told" "cell_told" (defArgs sCTd) (defBody sCTd) (defScope sCTd) .none kVD dcD pmD anD cdD ctD), slD⟩) (cD : PySem.W.codeIn K cdD "cell_told" = true) (kD : PySem.W.keepIn K (.ref fD) = true)
    (aC : PySem.W.nsIn K mainGlobals "_law_cell" = some (some (.ref fC))) (lC : K.lookup fC = some ⟨ocC, odC, .func (PySem.W.fnOf "_law_cell" "_law_cell" (defArgs sCellS) (defBody sCellS) (defScope sCellS) .none kVC dcC pmC anC cdC ctC), slC⟩) (cC : PySem.W.codeIn K cdC "_law_cell" = true) (kC : PySem.W.keepIn K (.ref fC) = true)
    (aN : PySem.W.nsIn K mainGlobals "_law_mixed" = some (some (.ref fN))) (lN : K.lookup fN = some ⟨ocN, odN, .func (PySem.W.fnOf "_law_mixed" "_law_mixed" (defArgs sMixS) (defBody sMixS) (defScope sMixS) .none kVN dcN pmN anN cdN ctN), slN⟩) (cN : PySem.W.codeIn K cdN "_law_mixed" = true) (kN : PySem.W.keepIn K (.ref fN) = true)
    (aB : PySem.W.nsIn K mainGlobals "_law_bit" = some (some (.ref fB))) (lB : K.lookup fB = some ⟨ocB, odB, .func (PySem.W.fnOf "_law_bit" "_law_bit" (defArgs sBit) (defBody sBit) (defScope sBit) .none kVB dcB pmB anB cdB ctB), slB⟩) (cB : PySem.W.codeIn K cdB "_law_bit" = true) (kB : PySem.W.keepIn K (.ref fB) = true)
    (aH : PySem.W.nsIn K mainGlobals "_law_table" = some (some (.ref fH))) (lH : K.lookup fH = some ⟨ocH, odH, .func (PySem.W.fnOf "_law_table" "_law_table" (defArgs sTab) (defBody sTab) (defScope sTab) .none kVH dcH pmH anH cdH ctH), slH⟩) (cH : PySem.W.codeIn K cdH "_law_table" = true) (kH : PySem.W.keepIn K (.ref fH) = true)
    (aU : PySem.W.nsIn K mainGlobals "_law_sums" = some (some (.ref fU))) (lU : K.lookup fU = some ⟨ocU, odU, .func (PySem.W.fnOf "_law_sums" "_law_sums" (defArgs sSumsT) (defBody sSumsT) (defScope sSumsT) .none kVU dcU pmU anU cdU ctU), slU⟩) (cU : PySem.W.codeIn K cdU "_law_sums" = true) (kU : PySem.W.keepIn K (.ref fU) = true)
    (aG : PySem.W.nsIn K mainGlobals "_law_rows_of" = some (some (.ref fG))) (lG : K.lookup fG = some ⟨ocG, odG, .func (PySem.W.fnOf "_law_rows_of" "_law_rows_of" (defArgs sRowsOf) (defBody sRowsOf) (defScope sRowsOf) .none kVG dcG pmG anG cdG ctG), slG⟩) (cG : PySem.W.codeIn K cdG "_law_rows_of" = true) (kG : PySem.W.keepIn K (.ref fG) = true)
    (aL : PySem.W.nsIn K mainGlobals "_law_all_of" = some (some (.ref fL))) (lL : K.lookup fL = some ⟨ocL, odL, .func (PySem.W.fnOf "_law_all_of" "_law_all_of" (defArgs sAllOf) (defBody sAllOf) (defScope sAllOf) .none kVL dcL pmL anL cdL ctL), slL⟩) (cL : PySem.W.codeIn K cdL "_law_all_of" = true) (kL : PySem.W.keepIn K (.ref fL) = true)
    (aA : PySem.W.nsIn K mainGlobals "_law_asked" = some (some (.ref fA))) (lA : K.lookup fA = some ⟨ocA, odA, .func (PySem.W.fnOf "_law_asked" "_law_asked" (defArgs sAsk) (defBody sAsk) (defScope sAsk) .none kVA dcA pmA anA cdA ctA), slA⟩) (cA : PySem.W.codeIn K cdA "_law_asked" = true) (kA : PySem.W.keepIn K (.ref fA) = true)
    (aE : PySem.W.nsIn K mainGlobals "_law_cells_right" = some (some (.ref fE))) (lE : K.lookup fE = some ⟨ocE, odE, .func (PySem.W.fnOf "_law_cells_right" "_law_cells_right" (defArgs sCellsR) (defBody sCellsR) (defScope sCellsR) .none kVE dcE pmE anE cdE ctE), slE⟩) (cE : PySem.W.codeIn K cdE "_law_cells_right" = true) (kE : PySem.W.keepIn K (.ref fE) = true)
    (aZ : PySem.W.nsIn K mainGlobals "law" = some (some (.ref fZ))) (lZ : K.lookup fZ = some ⟨ocZ, odZ, .func (PySem.W.fnOf "law" "law" (defArgs sLaw) (defBody sLaw) (defScope sLaw) .none kVZ dcZ pmZ anZ cdZ ctZ), slZ⟩) (cZ : PySem.W.codeIn K cdZ "law" = true) (kZ : PySem.W.keepIn K (.ref fZ) = true)
    (mo : PySem.W.nsIn K mainGlobals "MOST_PLACES" = some (some (.int 24 tk)))
    (ms : PySem.W.nsIn K mainGlobals "MOST_SUMS" = some (some (.int 16 tg)))
    (aTallyError : PySem.W.nsIn K mainGlobals "TallyError" = some (some (.ref CTallyError)))
    (aBadTally : PySem.W.nsIn K mainGlobals "BadTally" = some (some (.ref CBadTally)))
    (aNoPlace : PySem.W.nsIn K mainGlobals "NoPlace" = some (some (.ref CNoPlace)))
    (aNoWeb : PySem.W.nsIn K mainGlobals "NoWeb" = some (some (.ref CNoWeb)))
    (qBadTally : PySem.W.excIn K CBadTally [.type "ValueError", .type "Exception", .type "BaseException", .type "object"] "ValueError.__new__" = true)
    (gaBadTally : PySem.W.findIn K (.ref CBadTally) "__getattribute__" = some (some (.builtin "BaseException.__getattribute__")))
    (naBadTally : PySem.W.findIn K (.ref CBadTally) "__getattr__" = some none)
    (clBadTally : PySem.W.findIn K (.ref CBadTally) "__class__" = some (some (.builtin "object.__class__")))
    (sbBadTally : PySem.W.subIn K (.ref CBadTally) (.type "BaseException") = some true)
    (soBadTally : PySem.W.subIn K (.ref CBadTally) (.type "object") = some true)
    (csBadTally : PySem.W.clsIn K CBadTally = some cdBadTally)
    (xmBadTally : PySem.W.exmOne K (.ref CBadTally) (.ref CTallyError) = some true)
    (qNoWeb : PySem.W.excIn K CNoWeb [.type "ValueError", .type "Exception", .type "BaseException", .type "object"] "ValueError.__new__" = true)
    (gaNoWeb : PySem.W.findIn K (.ref CNoWeb) "__getattribute__" = some (some (.builtin "BaseException.__getattribute__")))
    (naNoWeb : PySem.W.findIn K (.ref CNoWeb) "__getattr__" = some none)
    (clNoWeb : PySem.W.findIn K (.ref CNoWeb) "__class__" = some (some (.builtin "object.__class__")))
    (sbNoWeb : PySem.W.subIn K (.ref CNoWeb) (.type "BaseException") = some true)
    (soNoWeb : PySem.W.subIn K (.ref CNoWeb) (.type "object") = some true)
    (csNoWeb : PySem.W.clsIn K CNoWeb = some cdNoWeb)
    (xmNoWeb : PySem.W.exmOne K (.ref CNoWeb) (.ref CTallyError) = some true)
    (i0NoWeb : PySem.W.kitOne K (.ref CNoWeb) (.ref CNoWeb) = some true)
    (i1NoWeb : PySem.W.kitOne K (.ref CNoWeb) (.ref CNoPlace) = some false)
    (i2NoWeb : PySem.W.kitOne K (.ref CNoWeb) (.ref CBadTally) = some false)
    (i3NoWeb : PySem.W.kitOne K (.ref CNoWeb) (.type "ValueError") = some true)
    (qNoPlace : PySem.W.excIn K CNoPlace [.type "ValueError", .type "Exception", .type "BaseException", .type "object"] "ValueError.__new__" = true)
    (gaNoPlace : PySem.W.findIn K (.ref CNoPlace) "__getattribute__" = some (some (.builtin "BaseException.__getattribute__")))
    (naNoPlace : PySem.W.findIn K (.ref CNoPlace) "__getattr__" = some none)
    (clNoPlace : PySem.W.findIn K (.ref CNoPlace) "__class__" = some (some (.builtin "object.__class__")))
    (sbNoPlace : PySem.W.subIn K (.ref CNoPlace) (.type "BaseException") = some true)
    (soNoPlace : PySem.W.subIn K (.ref CNoPlace) (.type "object") = some true)
    (csNoPlace : PySem.W.clsIn K CNoPlace = some cdNoPlace)
    (xmNoPlace : PySem.W.exmOne K (.ref CNoPlace) (.ref CTallyError) = some true)
    (i0NoPlace : PySem.W.kitOne K (.ref CNoPlace) (.ref CNoWeb) = some false)
    (i1NoPlace : PySem.W.kitOne K (.ref CNoPlace) (.ref CNoPlace) = some true)
    (i2NoPlace : PySem.W.kitOne K (.ref CNoPlace) (.ref CBadTally) = some false)
    (i3NoPlace : PySem.W.kitOne K (.ref CNoPlace) (.type "ValueError") = some true)
    (z1 : PySem.W.nsIn K mainGlobals "len" = some none)
    (z2 : PySem.W.nsIn K mainGlobals "range" = some none)
    (z3 : PySem.W.nsIn K mainGlobals "enumerate" = some none)
    (z4 : PySem.W.nsIn K mainGlobals "list" = some none)
    (z5 : PySem.W.nsIn K mainGlobals "tuple" = some none)
    (z6 : PySem.W.nsIn K mainGlobals "sorted" = some none)
    (z7 : PySem.W.nsIn K mainGlobals "set" = some none)
    (z8 : PySem.W.nsIn K mainGlobals "isinstance" = some none)
    (z9 : PySem.W.nsIn K mainGlobals "int" = some none)
    (z10 : PySem.W.nsIn K mainGlobals "bool" = some none)
    (z11 : PySem.W.nsIn K mainGlobals "min" = some none)
    (z12 : PySem.W.nsIn K mainGlobals "max" = some none)
    (z13 : PySem.W.nsIn K mainGlobals "sum" = some none)
    (z14 : PySem.W.nsIn K mainGlobals "str" = some none)
    (z15 : PySem.W.nsIn K mainGlobals "ValueError" = some none) :
    ∃ fd : FuncData, (∀ (s : Shared) (v : Value), BindsTo s fd ⟨[v], []⟩ [("script", v)]) ∧ ∀ base : Heap, K.In base → base.Ns mainGlobals mg → FnOk l.prog w K mg base CX0 8 fa fd ["script"] (spLaw K) := by
  have e := hfa.symm.trans (PySem.W.mg_of X G aZ)
  cases e
  have B : Bn mg := ⟨PySem.W.mg_none_of X G z1, PySem.W.mg_none_of X G z2, PySem.W.mg_none_of X G z3, PySem.W.mg_none_of X G z4, PySem.W.mg_none_of X G z5, PySem.W.mg_none_of X G z6, PySem.W.mg_none_of X G z7, PySem.W.mg_none_of X G z8, PySem.W.mg_none_of X G z9, PySem.W.mg_none_of X G z10, PySem.W.mg_none_of X G z11, PySem.W.mg_none_of X G z12, PySem.W.mg_none_of X G z13, PySem.W.mg_none_of X G z14, PySem.W.mg_none_of X G z15⟩
  have FI := fun_mk (st := sIsP) lI cI kI
  have bI := FI.binds (ps := ["places", "number"]) fun _ _ _ _ _ _ us hl => match us, hl with | [_, _], _ => rfl
  have FK := fun_mk (st := sChk) lK cK kK
  have bK := FK.binds (ps := ["places", "number"]) fun _ _ _ _ _ _ us hl => match us, hl with | [_, _], _ => rfl
  have FT := fun_mk (st := sChT) lT cT kT
  have bT := FT.binds (ps := ["tally"]) fun _ _ _ _ _ _ us hl => match us, hl with | [_], _ => rfl
  have FM := fun_mk (st := sMov) lM cM kM
  have bM := FM.binds (ps := ["tally", "place", "more"]) fun _ _ _ _ _ _ us hl => match us, hl with | [_, _, _], _ => rfl
  have FF := fun_mk (st := sFall) lF cF kF
  have bF := FF.binds (ps := ["tally"]) fun _ _ _ _ _ _ us hl => match us, hl with | [_], _ => rfl
  have Fβ := fun_mk (st := sBelow) lβ cβ kβ
  have bβ := Fβ.binds (ps := ["numbers"]) fun _ _ _ _ _ _ us hl => match us, hl with | [_], _ => rfl
  have FS := fun_mk (st := sChS) lS cS kS
  have bS := FS.binds (ps := ["rows", "columns"]) fun _ _ _ _ _ _ us hl => match us, hl with | [_, _], _ => rfl
  have FR := fun_mk (st := sRoomF) lR cR kR
  have bR := FR.binds (ps := ["rows", "columns", "r"]) fun _ _ _ _ _ _ us hl => match us, hl with | [_, _, _], _ => rfl
  have FW := fun_mk (st := sWoS) lW cW kW
  have bW := FW.binds (ps := ["rows", "columns"]) fun _ _ _ _ _ _ us hl => match us, hl with | [_, _], _ => rfl
  have FJ := fun_mk (st := sTof) lJ cJ kJ
  have bJ := FJ.binds (ps := ["rows", "columns"]) fun _ _ _ _ _ _ us hl => match us, hl with | [_, _], _ => rfl
  have FO := fun_mk (st := sWoM) lO cO kO
  have bO := FO.binds (ps := ["rows", "columns", "row", "column", "more"]) fun _ _ _ _ _ _ us hl => match us, hl with | [_, _, _, _, _], _ => rfl
  have FD := fun_mk (st := sCTd) lD cD kD
  have bD := FD.binds (ps := ["rows", "columns", "row", "column"]) fun _ _ _ _ _ _ us hl => match us, hl with | [_, _, _, _], _ => rfl
  have FC := fun_mk (st := sCellS) lC cC kC
  have bC := FC.binds (ps := ["script", "k"]) fun _ _ _ _ _ _ us hl => match us, hl with | [_, _], _ => rfl
  have FN := fun_mk (st := sMixS) lN cN kN
  have bN := FN.binds (ps := ["cell", "k"]) fun _ _ _ _ _ _ us hl => match us, hl with | [_, _], _ => rfl
  have FB := fun_mk (st := sBit) lB cB kB
  have bB := FB.binds (ps := ["script", "start", "k"]) fun _ _ _ _ _ _ us hl => match us, hl with | [_, _, _], _ => rfl
  have FH := fun_mk (st := sTab) lH cH kH
  have bH := FH.binds (ps := ["script", "start", "high", "wide"]) fun _ _ _ _ _ _ us hl => match us, hl with | [_, _, _, _], _ => rfl
  have FU := fun_mk (st := sSumsT) lU cU kU
  have bU := FU.binds (ps := ["cells"]) fun _ _ _ _ _ _ us hl => match us, hl with | [_], _ => rfl
  have FG := fun_mk (st := sRowsOf) lG cG kG
  have bG := FG.binds (ps := ["many", "left"]) fun _ _ _ _ _ _ us hl => match us, hl with | [_, _], _ => rfl
  have FL := fun_mk (st := sAllOf) lL cL kL
  have bL := FL.binds (ps := ["rows", "columns"]) fun _ _ _ _ _ _ us hl => match us, hl with | [_, _], _ => rfl
  have FA := fun_mk (st := sAsk) lA cA kA
  have bA := FA.binds (ps := ["rows", "columns", "row", "column"]) fun _ _ _ _ _ _ us hl => match us, hl with | [_, _, _, _], _ => rfl
  have FE := fun_mk (st := sCellsR) lE cE kE
  have bE := FE.binds (ps := ["tables_of", "rows", "columns"]) fun _ _ _ _ _ _ us hl => match us, hl with | [_, _, _], _ => rfl
  have FZ := fun_mk (st := sLaw) lZ cZ kZ
  exact ⟨PySem.W.fnOf "law" "law" (defArgs sLaw) (defBody sLaw) (defScope sLaw) .none kVZ dcZ pmZ anZ cdZ ctZ, fun s v => .of_eq rfl, fun base _ _ => ok_law FZ B (PySem.W.mg_of X G mo) (PySem.W.mg_of X G ms) FI bI (PySem.W.mg_of X G aI) FK bK (PySem.W.mg_of X G aK) FT bT (PySem.W.mg_of X G aT) FM bM (PySem.W.mg_of X G aM) FF bF (PySem.W.mg_of X G aF) Fβ bβ (PySem.W.mg_of X G aβ) FS bS (PySem.W.mg_of X G aS) FR bR (PySem.W.mg_of X G aR) FW bW (PySem.W.mg_of X G aW) FJ bJ (PySem.W.mg_of X G aJ) FO bO (PySem.W.mg_of X G aO) FD bD (PySem.W.mg_of X G aD) FC bC (PySem.W.mg_of X G aC) FN bN (PySem.W.mg_of X G aN) FB bB (PySem.W.mg_of X G aB) FH bH (PySem.W.mg_of X G aH) FU bU (PySem.W.mg_of X G aU) FG bG (PySem.W.mg_of X G aG) FL bL (PySem.W.mg_of X G aL) FA bA (PySem.W.mg_of X G aA) FE bE (PySem.W.mg_of X G aE) ⟨PySem.W.mg_of X G aTallyError, PySem.W.mg_of X G aBadTally, PySem.W.mg_of X G aNoWeb, PySem.W.mg_of X G aNoPlace, ⟨qBadTally⟩, ⟨qNoWeb⟩, ⟨gaNoWeb, naNoWeb, clNoWeb, sbNoWeb, soNoWeb, by rw [csNoWeb]; rfl⟩, xmNoWeb, i0NoWeb, i1NoWeb, i2NoWeb, i3NoWeb, ⟨qNoPlace⟩, ⟨gaNoPlace, naNoPlace, clNoPlace, sbNoPlace, soNoPlace, by rw [csNoPlace]; rfl⟩, xmNoPlace, i0NoPlace, i1NoPlace, i2NoPlace, i3NoPlace⟩⟩
theorem walk {l : PySem.W.OpenLaw} {q : Program} {loose : List Str} {XP : (Str → Option Value) → Heap → Prop} {YP : World → Heap → Prop} {d : DefRec} {K : Params → PySem.W.Frag} (hn : l.most = some 63) (hdf : d.params.defaults = [])
    (hY : ∀ (w : World) (h : Heap), YP w h → (K w.params).In h)
    (F : ∀ (w : World) (mg : Str → Option Value) (fa : Addr) (h : Heap), (K w.params).In h → h.Ns mainGlobals mg → mg d.name = some (.ref fa) →
      ∃ fd : FuncData, (∀ (s : Shared) (u : Value), BindsTo s fd ⟨[u], []⟩ [("script", u)]) ∧ ∀ base : Heap, (K w.params).In base → base.Ns mainGlobals mg → FnOk l.prog w (K w.params) mg base CX0 8 fa fd ["script"] (spLaw (K w.params))) :
    PySem.W.WalkO q loose XP YP l.row.toRowW d [] (fun f vs => PySem.call f vs) :=
  L2.walk_of (n := 63) (k := 8) (x := "script") (CX := fun _ => CX0) (sp := fun w => spLaw (K w.params)) hn (by decide) hdf ⟨rfl, by decide, by decide⟩ hY F (fun _ _ a ns hl _ hS => ⟨a, ns, rfl, hS, hl, fun _ => rfl⟩) fun _ _ _ _ _ z => z
end Web
open PySem PySem.W PyProof.Rows
set_option maxRecDepth 100000 in
set_option maxHeartbeats 0 in
theorem PySem.Challenge.cw_tallyweb_k46_whole_cells_of_all_tables_holds : PySem.Challenge.rw_tallyweb_k46_whole_cells_of_all_tables.Holds := by
  w_on; o_law; k_head; (case hw => w_witness2)
  k_fill
  refine Web.walk (l := PySem.Challenge.rw_tallyweb_k46_whole_cells_of_all_tables) rfl rfl (fun w h Y => PySem.W.km_in_of Y) ?F
  case F =>
    intro w mg fa h KX G hmg
    refine' Web.all_mk KX G hmg ?aI ?lI ?cI ?kI ?aK ?lK ?cK ?kK ?aT ?lT ?cT ?kT ?aM ?lM ?cM ?kM ?aF ?lF ?cF ?kF ?aβ ?lβ ?cβ ?kβ ?aS ?lS ?cS ?kS ?aR ?lR ?cR ?kR ?aW ?lW ?cW ?kW ?aJ ?lJ ?cJ ?kJ ?aO ?lO ?cO ?kO ?aD ?lD ?cD ?kD ?aC ?lC ?cC ?kC ?aN ?lN ?cN ?kN ?aB ?lB ?cB ?kB ?aH ?lH ?cH ?kH ?aU ?lU ?cU ?kU ?aG ?lG ?cG ?kG ?aL ?lL ?cL ?kL ?aA ?lA ?cA ?kA ?aE ?lE ?cE ?kE ?aZ ?lZ ?cZ ?kZ ?mo ?ms ?aTallyError ?aBadTally ?aNoPlace ?aNoWeb ?qBadTally ?gaBadTally ?naBadTally ?clBadTally ?sbBadTally ?soBadTally ?csBadTally ?xmBadTally ?qNoWeb ?gaNoWeb ?naNoWeb ?clNoWeb ?sbNoWeb ?soNoWeb ?csNoWeb ?xmNoWeb ?i0NoWeb ?i1NoWeb ?i2NoWeb ?i3NoWeb ?qNoPlace ?gaNoPlace ?naNoPlace ?clNoPlace ?sbNoPlace ?soNoPlace ?csNoPlace ?xmNoPlace ?i0NoPlace ?i1NoPlace ?i2NoPlace ?i3NoPlace ?z1 ?z2 ?z3 ?z4 ?z5 ?z6 ?z7 ?z8 ?z9 ?z10 ?z11 ?z12 ?z13 ?z14 ?z15
    (case aI => k_is); (case lI => k_is); (case cI => k_is); (case kI => k_is)
    (case aK => k_is); (case lK => k_is); (case cK => k_is); (case kK => k_is)
    (case aT => k_is); (case lT => k_is); (case cT => k_is); (case kT => k_is)
    (case aM => k_is); (case lM => k_is); (case cM => k_is); (case kM => k_is)
    (case aF => k_is); (case lF => k_is); (case cF => k_is); (case kF => k_is)
    (case aβ => k_is); (case lβ => k_is); (case cβ => k_is); (case kβ => k_is)
    (case aS => k_is); (case lS => k_is); (case cS => k_is); (case kS => k_is)
    (case aR => k_is); (case lR => k_is); (case cR => k_is); (case kR => k_is)
    (case aW => k_is); (case lW => k_is); (case cW => k_is); (case kW => k_is)
    (case aJ => k_is); (case lJ => k_is); (case cJ => k_is); (case kJ => k_is)
    (case aO => k_is); (case lO => k_is); (case cO => k_is); (case kO => k_is)
    (case aD => k_is); (case lD => k_is); (case cD => k_is); (case kD => k_is)
    (case aC => k_is); (case lC => k_is); (case cC => k_is); (case kC => k_is)
    (case aN => k_is); (case lN => k_is); (case cN => k_is); (case kN => k_is)
    (case aB => k_is); (case lB => k_is); (case cB => k_is); (case kB => k_is)
    (case aH => k_is); (case lH => k_is); (case cH => k_is); (case kH => k_is)
    (case aU => k_is); (case lU => k_is); (case cU => k_is); (case kU => k_is)
    (case aG => k_is); (case lG => k_is); (case cG => k_is); (case kG => k_is)
    (case aL => k_is); (case lL => k_is); (case cL => k_is); (case kL => k_is)
    (case aA => k_is); (case lA => k_is); (case cA => k_is); (case kA => k_is)
    (case aE => k_is); (case lE => k_is); (case cE => k_is); (case kE => k_is)
    (case aZ => k_is); (case lZ => k_is); (case cZ => k_is); (case kZ => k_is)
    (case mo => k_is); (case ms => k_is); (case aTallyError => k_is); (case aBadTally => k_is)
    (case aNoPlace => k_is); (case aNoWeb => k_is); (case qBadTally => k_exc); (case gaBadTally => k_is)
    (case naBadTally => k_is); (case clBadTally => k_is); (case sbBadTally => k_is); (case soBadTally => k_is)
    (case csBadTally => k_is); (case xmBadTally => kts_exm); (case qNoWeb => k_exc); (case gaNoWeb => k_is)
    (case naNoWeb => k_is); (case clNoWeb => k_is); (case sbNoWeb => k_is); (case soNoWeb => k_is)
    (case csNoWeb => k_is); (case xmNoWeb => kts_exm); (case i0NoWeb => kit_is); (case i1NoWeb => kit_is)
    (case i2NoWeb => kit_is); (case i3NoWeb => kit_is); (case qNoPlace => k_exc); (case gaNoPlace => k_is)
    (case naNoPlace => k_is); (case clNoPlace => k_is); (case sbNoPlace => k_is); (case soNoPlace => k_is)
    (case csNoPlace => k_is); (case xmNoPlace => kts_exm); (case i0NoPlace => kit_is); (case i1NoPlace => kit_is)
    (case i2NoPlace => kit_is); (case i3NoPlace => kit_is); (case z1 => k_is); (case z2 => k_is)
    (case z3 => k_is); (case z4 => k_is); (case z5 => k_is); (case z6 => k_is)
    (case z7 => k_is); (case z8 => k_is); (case z9 => k_is); (case z10 => k_is)
    (case z11 => k_is); (case z12 => k_is); (case z13 => k_is); (case z14 => k_is)
    (case z15 => k_is)
#print axioms PySem.Challenge.cw_tallyweb_k46_whole_cells_of_all_tables_holds

