import PyProof.Rows.All
import Wide.All
import OpenK.AllK
import Wide.FinOn
import Lean
import PyProof.EqAt
import PyProof.EqKinds
import PyProof.TupleCall
import PyProof.EnumFor
import PyProof.EnumMake
import PyProof.EnumStmt
import PyProof.WalksEnum
import PyProof.NeKinds
import PyProof.CompFree
import PyProof.Rows.Range3
import PyProof.Rows.ChunkEnd
import PyProof.Rows.StrCase
import PyProof.Rows.StrIndexOr
import PyProof.StrLawsIn
import PyProof.StrLawsIdx
import PyProof.SliceStr2
import PyProof.StrWalks
import PyProof.StationsW
import PyProof.ExcClass3
import PyProof.RulesAs
import PyProof.NsDelKeeps
import PyProof.ExcInit
import PyProof.ExcArgsOwn
import PyProof.InstStore
import PyProof.InstLoad
import PyProof.ExcBaseAll.ValueError
import PyProof.InstStoreFacts
import PyProof.ExcAttrAll.ValueError
import PyProof.Rows.StrJoinMade
import PyProof.ConsumeWalk
import PyProof.DictIter
import PyProof.DictWalks
import PyProof.Rows.SortStr
import PyProof.MeetsSeq
import KE.KRevIter
import PySem.Challenge.RW_findcourt_k07_makes_refused
set_option Elab.async false
set_option linter.all false
set_option maxRecDepth 100000
/-! THE HAND LAYER, for ints, bools, texts, own classes, LISTS and tuples (index, slices, in, append, pop ..), calls, loops. Paste it whole ahead of your own text; what your proof does not reach may be deleted. -/
namespace L2
open PySem PySem.Spec PyProof.Rows

/-- a key: an int or a str -/
abbrev Key := Sum Int Str
def keyIs : Key → Value → Bool
  | .inl k, v => Value.isInt k v
  | .inr x, v => Value.isStrOf x v
def keyH (w : World) : Key → Int
  | .inl k => hashInt k
  | .inr x => hashStr w x
theorem keyIs_shape : ∀ {k : Key} {v : Value}, keyIs k v = true → (∃ i t, k = Sum.inl i ∧ v = Value.int i t) ∨ (∃ x t, k = Sum.inr x ∧ v = Value.str x t)
  | .inl i, v, h => by
    obtain ⟨t, e⟩ := Value.isInt_shape (k := i) (v := v) h
    exact .inl ⟨i, t, rfl, e⟩
  | .inr x, v, h => by
    obtain ⟨t, e⟩ := Value.isStrOf_shape (x := x) (v := v) h
    exact .inr ⟨x, t, rfl, e⟩
theorem keyIs_int (i : Int) (t : Tok) : keyIs (.inl i) (.int i t) = true := by simp [keyIs, Value.isInt]
theorem keyIs_str (x : Str) (t : Tok) : keyIs (.inr x) (.str x t) = true := by simp [keyIs, Value.isStrOf]
theorem key_ll (a b : Int) : decide ((Sum.inl a : Key) = Sum.inl b) = (a == b) := by
  by_cases e : a = b
  · subst e; simp
  · have h : ¬ (Sum.inl a : Key) = Sum.inl b := fun q => e (Sum.inl.inj q)
    rw [decide_eq_false h]
    exact (beq_eq_false_iff_ne.mpr e).symm
theorem key_rr (a b : Str) : decide ((Sum.inr a : Key) = Sum.inr b) = decide (a = b) := by
  by_cases e : a = b
  · subst e; simp
  · have h : ¬ (Sum.inr a : Key) = Sum.inr b := fun q => e (Sum.inr.inj q)
    rw [decide_eq_false h, decide_eq_false e]
theorem key_lr (a : Int) (b : Str) : decide ((Sum.inl a : Key) = Sum.inr b) = false := decide_eq_false (fun q => nomatch q)
theorem key_rl (a : Str) (b : Int) : decide ((Sum.inr a : Key) = Sum.inl b) = false := decide_eq_false (fun q => nomatch q)

def mixKind (prog : Program) (w : World) : PySem.KeyKind prog w Key where
  is := keyIs
  hash := keyH w
  inj := fun v a b ha hb => by
    rcases keyIs_shape ha with ⟨i, t, rfl, rfl⟩ | ⟨x, t, rfl, rfl⟩
    · rcases keyIs_shape hb with ⟨j, u, rfl, e⟩ | ⟨y, u, rfl, e⟩
      · injection e with e1 _; rw [e1]
      · exact nomatch e
    · rcases keyIs_shape hb with ⟨j, u, rfl, e⟩ | ⟨y, u, rfl, e⟩
      · exact nomatch e
      · injection e with e1 _; rw [e1]
  byValue := fun k v h => by
    rcases keyIs_shape h with ⟨i, t, rfl, rfl⟩ | ⟨x, t, rfl, rfl⟩ <;> rfl
  pyHash := fun hv h => by
    rcases keyIs_shape hv with ⟨i, t, rfl, rfl⟩ | ⟨x, t, rfl, rfl⟩
    · exact wpAny_pyHash_int h
    · exact wpAny_pyHash_str h
  eqBool := fun hu hv h => by
    rcases keyIs_shape hu with ⟨i, t, rfl, rfl⟩ | ⟨x, t, rfl, rfl⟩
    · rcases keyIs_shape hv with ⟨j, u, rfl, rfl⟩ | ⟨y, u, rfl, rfl⟩
      · rw [key_ll] at h; exact wpAny_eqBool_int h
      · rw [key_lr] at h; exact SeqAt.EqAt.int_str i t y u _ _ _ _ h
    · rcases keyIs_shape hv with ⟨j, u, rfl, rfl⟩ | ⟨y, u, rfl, rfl⟩
      · rw [key_rl] at h; exact SeqAt.EqAt.str_int x t j u _ _ _ _ h
      · rw [key_rr] at h; exact wpAny_eqBool_str h
  «strs» := fun k x t v h => by
    rcases keyIs_shape h with ⟨i, u, rfl, e⟩ | ⟨y, u, rfl, e⟩
    · exact nomatch e
    · injection e with e1 _
      subst e1
      cases v <;> rfl

theorem mixKind_is (prog : Program) (w : World) (k : Key) (v : Value) : (mixKind prog w).is k v = keyIs k v := rfl
theorem mixKind_int (prog : Program) (w : World) (i : Int) (t : Tok) : (mixKind prog w).is (.inl i) (.int i t) = true := keyIs_int i t
theorem mixKind_str (prog : Program) (w : World) (x : Str) (t : Tok) : (mixKind prog w).is (.inr x) (.str x t) = true := keyIs_str x t
end L2

namespace L2
open PySem PySem.Spec PyProof.Rows

/-- a value, without the heap -/
inductive V where
  | non | bl (b : Bool) | int (i : Int) | str (x : Str) | byt (b : Array UInt8) | flt (b : UInt64) | ref (a : Addr) | ty (n : String)
  deriving DecidableEq

def RelV : V → Value → Prop
  | .non, u => u = Value.none
  | .bl b, u => u = Value.bool b
  | .int i, u => ∃ t, u = Value.int i t
  | .str x, u => ∃ t, u = Value.str x t
  | .byt b, u => ∃ t, u = Value.bytes b t
  | .flt b, u => ∃ t, u = Value.float b t
  | .ref a, u => u = Value.ref a
  | .ty n, u => u = Value.type n

abbrev Vals : List V → List Value → Prop := Paired RelV
theorem Vals.length {xs : List V} {us : List Value} (r : Vals xs us) : xs.length = us.length := Paired.length r
theorem Vals.get : ∀ {xs : List V} {us : List Value} {i : Nat} {x : V}, Vals xs us → xs[i]? = some x → ∃ u, us[i]? = some u ∧ RelV x u
  | _, _, _, _, .nil, e => by simp at e
  | _, _, 0, _, .cons r _, e => by simp at e; subst e; exact ⟨_, rfl, r⟩
  | _, _, i + 1, x, .cons _ t, e => by
    obtain ⟨u, h1, h2⟩ := Vals.get (i := i) (x := x) t (by simpa using e)
    exact ⟨u, by simpa using h1, h2⟩
theorem Vals.set {x : V} {u : Value} (r : RelV x u) : ∀ {xs : List V} {us : List Value} (i : Nat), Vals xs us → Vals (xs.set i x) (us.set i u)
  | _, _, _, .nil => .nil
  | _, _, 0, .cons _ t => .cons r t
  | _, _, i + 1, .cons q t => .cons q (Vals.set r i t)
theorem Vals.append : ∀ {xs ys : List V} {us ws : List Value}, Vals xs us → Vals ys ws → Vals (xs ++ ys) (us ++ ws)
  | _, _, _, _, .nil, s => s
  | _, _, _, _, .cons r t, s => .cons r (Vals.append t s)
theorem Vals.take : ∀ {xs : List V} {us : List Value} (n : Nat), Vals xs us → Vals (xs.take n) (us.take n)
  | _, _, 0, _ => .nil
  | _, _, _ + 1, .nil => .nil
  | _, _, n + 1, .cons r t => .cons r (Vals.take n t)
theorem Vals.drop : ∀ {xs : List V} {us : List Value} (n : Nat), Vals xs us → Vals (xs.drop n) (us.drop n)
  | _, _, 0, r => r
  | _, _, _ + 1, .nil => .nil
  | _, _, n + 1, .cons _ t => Vals.drop n t
theorem Vals.none_of : ∀ {xs : List V} {us : List Value} {i : Nat}, Vals xs us → xs[i]? = none → us[i]? = none := fun {xs us i} r e => by
  have h1 := r.length
  have h2 : xs.length ≤ i := List.getElem?_eq_none_iff.mp e
  exact List.getElem?_eq_none_iff.mpr (by omega)

def RelO : Option V → Option Value → Prop
  | some v, some u => RelV v u
  | none, none => True
  | _, _ => False
def KV {κ : Type} : List (κ × V) → List (κ × Value) → Prop := Paired fun (p : κ × V) (q : κ × Value) => p.1 = q.1 ∧ RelV p.2 q.2

/-- a key of a dict (00_mix): an int or a text -/
def kV : Key → V
  | .inl i => .int i
  | .inr x => .str x

/-- what stands at a tracked address -/
inductive HO where
  /-- a list -/
  | lst (xs : List V)
  /-- a tuple (never changes) -/
  | tup (xs : List V)
  /-- a dict whose keys are ints and texts; one whose keys are tuples of ints and texts (the empty one is both) -/
  | dK (kvs : List (Key × V)) | dT (kvs : List (List Key × V))
  /-- a set of ints: its members, its size -/
  | set (S : Int → Bool) (n : Nat)
  /-- an instance of the class at C, its dict at dx, its attributes -/
  | ins (C dx : Addr) (fs : List (Str × V))
  /-- the dict of the instance at x -/
  | own (x : Addr)
  /-- the dict of an exception -/
  | xd (fs : List (Str × V))
  /-- a bound method, f of x -/
  | met (f x : Addr)
  /-- a range object lo, lo + 1, .. below hi -/
  | rng (lo hi : Int)
  /-- a thing that is known to the object (the script; a dict while a loop walks it): read, never written while it is so -/
  | frz (o : Obj) (u : HO)
  /-- a code object's table -/
  | tbl (ps : Array Value)
  /-- any other thing, by what is true of its one object (a def of one's own: SetO a S n := HO.ext fun h => ..) -/
  | ext (φ : Heap → Prop)

abbrev Hp := Addr → Option HO
def upd (H : Hp) (a : Addr) (o : HO) : Hp := fun b => if b = a then some o else H b
theorem upd_same {H : Hp} {a : Addr} {o : HO} : upd H a o a = some o := by unfold upd; rw [if_pos rfl]
theorem upd_ne {H : Hp} {a b : Addr} {o : HO} (h : b ≠ a) : upd H a o b = H b := by unfold upd; rw [if_neg h]
theorem upd_upd {H : Hp} {a : Addr} {o u : HO} : upd (upd H a o) a u = upd H a u := by
  funext b; unfold upd; split <;> rfl
/-- two objects of different content stand apart -/
theorem ne_of {H : Hp} {a b : Addr} {o u : HO} (h : H a = some o) (h' : H b = some u) (d : o ≠ u) : a ≠ b := by
  intro e; subst e; rw [h] at h'; exact d (Option.some.inj h')
theorem ne_of_none {H : Hp} {a b : Addr} {o : HO} (h : H a = some o) (h' : H b = none) : a ≠ b := by
  intro e; subst e; rw [h] at h'; cases h'

section
variable (P : Program) (w : World)
def ObjOk (H : Hp) (h : Heap) (a : Addr) : HO → Prop
  | .lst xs => xs.length ≤ sizeLine ∧ ∃ (its : List Value) (n : Nat), Vals xs its ∧ h.get? a = some { cls := .type "list", data := .seq its.toArray n }
  | .tup xs => xs.length ≤ sizeLine ∧ ∃ its : List Value, Vals xs its ∧ IsTup h a its.toArray
  | .dK kvs => kvs.length ≤ sizeLine ∧ (a == sysModules) = false ∧ ∃ vs, KV kvs vs ∧ h.DictOf (mixKind P w) a vs
  | .dT kvs => kvs.length ≤ sizeLine ∧ (a == sysModules) = false ∧ ∃ xs : List (List Key × Addr × Value),
      Paired (fun (p : List Key × V) (q : List Key × Addr × Value) => p.1 = q.1 ∧ H q.2.1 = some (.tup (p.1.map kV)) ∧ RelV p.2 q.2.2) kvs xs ∧
      ∃ o es ep, h.get? a = some o ∧ o.ExactDict ∧ o.data = .dict es ep ∧ es.toList = xs.map (entryOfKey (tupleKind (mixKind P w))) ∧ (xs.map (·.1)).Nodup
  | .set S n => h.SetOf (intKind P w) a S n
  | .ins C dx fs => H dx = some (.own a) ∧ fs.length ≤ 1000 ∧ dx ≠ a ∧ h.get? a = some (PySem.W.instObj C dx) ∧
      ∃ mA, h.Ns1 dx mA ∧ (∀ f, RelO (fs.lookup f) (mA f)) ∧ PySem.Within mA (fs.map (·.1))
  | .own _ => ∃ o, h.get? a = some o
  | .xd fs => ∃ mA, h.Ns1 a mA ∧ ∀ f, RelO (fs.lookup f) (mA f)
  | .rng lo hi => ∃ t u v, h.get? a = some { cls := .type "range", data := .fields #[.int lo t, .int hi u, .int 1 v] }
  | .frz o u => h.get? a = some o ∧ ObjOk H h a u
  | .tbl ps => h.get? a = some { cls := .none, data := .fields ps }
  | .met f x => h.get? a = some (PySem.W.methodObj (.ref f) (.ref x))
  | .ext φ => φ h ∧ (∃ o, h.get? a = some o) ∧ ∀ h1 h2 : Heap, φ h1 → (∀ o, h1.get? a = some o → h2.get? a = some o) → φ h2
/-- the abstract heap is held -/
def HOk (H : Hp) (h : Heap) : Prop := ∀ a o, H a = some o → ObjOk P w H h a o
end

section
variable {P : Program} {w : World} {H H' : Hp} {h h' : Heap} {a : Addr} {o : HO}
theorem ObjOk.lt (x : ObjOk P w H h a o) : a < h.objs.size := by
  cases o with
  | lst xs => obtain ⟨_, _, _, _, e⟩ := x; exact Heap.lt_size e
  | tup xs => obtain ⟨_, _, _, p⟩ := x; exact p.lt
  | dK kvs => obtain ⟨_, _, _, _, o, _, _, e, _⟩ := x; exact Heap.lt_size e
  | dT kvs => obtain ⟨_, _, _, _, o, _, _, e, _⟩ := x; exact Heap.lt_size e
  | set S n => obtain ⟨o, _, _, _, e, _⟩ := x; exact Heap.lt_size e
  | ins C dx fs => obtain ⟨_, _, _, e, _⟩ := x; exact Heap.lt_size e
  | own y => obtain ⟨_, e⟩ := x; exact Heap.lt_size e
  | xd fs => obtain ⟨_, ⟨_, _, _, e, _⟩, _⟩ := x; exact Heap.lt_size e
  | rng lo hi => obtain ⟨_, _, _, e⟩ := x; exact Heap.lt_size e
  | frz ob u => obtain ⟨e, _⟩ := x; exact Heap.lt_size e
  | tbl ps => exact Heap.lt_size (show h.get? a = some _ from x)
  | met f y => exact Heap.lt_size (show h.get? a = some _ from x)
  | ext φ => obtain ⟨_, ⟨_, e⟩, _⟩ := x; exact Heap.lt_size e
theorem Paired.mapP {α β : Type} {F G : α → β → Prop} : ∀ {l₁ : List α} {l₂ : List β}, Paired F l₁ l₂ → (∀ a b, F a b → G a b) → Paired G l₁ l₂
  | _, _, .nil, _ => .nil
  | _, _, .cons r t, f => .cons (f _ _ r) (Paired.mapP t f)
theorem Paired.imp' {α β : Type} {F G : α → β → Prop} (f : ∀ a b, F a b → G a b) {l₁ : List α} {l₂ : List β} (r : Paired F l₁ l₂) : Paired G l₁ l₂ := Paired.mapP r f
/-- what an object's description leans on: its own object, its own dict, the tuples -/
theorem ObjOk.stay (x : ObjOk P w H h a o) (k : ∀ b u, (b = a ∨ H b = some (.own a)) → h.get? b = some u → h'.get? b = some u)
    (ho : ∀ b, H b = some (.own a) → H' b = some (.own a)) (ht : ∀ b xs, H b = some (.tup xs) → H' b = some (.tup xs)) : ObjOk P w H' h' a o := by
  induction o with
  | lst xs => obtain ⟨z, its, n, r, e⟩ := x; exact ⟨z, its, n, r, k _ _ (.inl rfl) e⟩
  | tup xs => obtain ⟨z, its, r, ob, e, c⟩ := x; exact ⟨z, its, r, ob, k _ _ (.inl rfl) e, c⟩
  | dK kvs => obtain ⟨z, y, vs, r, ob, es, ep, e, c⟩ := x; exact ⟨z, y, vs, r, ob, es, ep, k _ _ (.inl rfl) e, c⟩
  | dT kvs =>
    obtain ⟨z, y, xs, r, ob, es, ep, e, c⟩ := x
    exact ⟨z, y, xs, Paired.mapP r fun p q z => ⟨z.1, ht _ _ z.2.1, z.2.2⟩, ob, es, ep, k _ _ (.inl rfl) e, c⟩
  | set S n => obtain ⟨ob, es, ep, t, e, c⟩ := x; exact ⟨ob, es, ep, t, k _ _ (.inl rfl) e, c⟩
  | ins C dx fs =>
    obtain ⟨d, z, ne, e, mA, ⟨od, es, ep, e2, c⟩, r⟩ := x
    exact ⟨ho _ d, z, ne, k _ _ (.inl rfl) e, mA, ⟨od, es, ep, k _ _ (.inr d) e2, c⟩, r⟩
  | own y => obtain ⟨ob, e⟩ := x; exact ⟨ob, k _ _ (.inl rfl) e⟩
  | xd fs => obtain ⟨mA, ⟨od, es, ep, e, c⟩, r⟩ := x; exact ⟨mA, ⟨od, es, ep, k _ _ (.inl rfl) e, c⟩, r⟩
  | rng lo hi => obtain ⟨t, u, v, e⟩ := x; exact ⟨t, u, v, k _ _ (.inl rfl) e⟩
  | frz ob u ih => obtain ⟨e, q⟩ := x; exact ⟨k _ _ (.inl rfl) e, ih q⟩
  | tbl ps =>
    have e : h.get? a = some { cls := .none, data := .fields ps } := x
    show h'.get? a = some { cls := .none, data := .fields ps }
    exact k a _ (.inl rfl) e
  | met f y =>
    have e : h.get? a = some (PySem.W.methodObj (.ref f) (.ref y)) := x
    show h'.get? a = some (PySem.W.methodObj (.ref f) (.ref y))
    exact k a _ (.inl rfl) e
  | ext φ => obtain ⟨p, ⟨o, e⟩, st⟩ := x; exact ⟨st _ _ p fun o q => k _ _ (.inl rfl) q, ⟨o, k _ _ (.inl rfl) e⟩, st⟩
theorem HOk.lt (x : HOk P w H h) (e : H a = some o) : a < h.objs.size := (x a o e).lt
theorem HOk.fresh (x : HOk P w H h) (e : h.objs.size ≤ a) : H a = none := by
  cases q : H a with
  | none => rfl
  | some u => exact absurd (Nat.lt_of_lt_of_le (x.lt q) e) (Nat.lt_irrefl _)
/-- every object of the heap is kept -/
theorem HOk.kept (x : HOk P w H h) (k : ∀ b u, h.get? b = some u → h'.get? b = some u) : HOk P w H h' := fun a o e =>
  (x a o e).stay (fun b u _ q => k b u q) (fun _ q => q) fun _ _ q => q
/-- a new object is laid and tracked -/
theorem HOk.laid (x : HOk P w H h) (k : ∀ b u, h.get? b = some u → h'.get? b = some u) (hp : h.objs.size ≤ a) (new : ObjOk P w (upd H a o) h' a o) : HOk P w (upd H a o) h' := fun b u e => by
  have hn := x.fresh hp
  by_cases hb : b = a
  · subst hb; rw [upd_same] at e; cases e; exact new
  · rw [upd_ne hb] at e
    exact (x b u e).stay (fun c v _ q => k c v q) (fun c q => by rw [upd_ne (ne_of_none q hn)]; exact q) fun c xs q => by rw [upd_ne (ne_of_none q hn)]; exact q
end

/-- what may be read as u: it is u, or a known u -/
def Rd (H : Hp) (a : Addr) (u : HO) : Prop := H a = some u ∨ ∃ o, H a = some (.frz o u)
theorem Rd.of {H : Hp} {a : Addr} {u : HO} (h : H a = some u) : Rd H a u := .inl h
theorem Rd.ok {P : Program} {w : World} {H : Hp} {h : Heap} {a : Addr} {u : HO} (r : Rd H a u) (x : HOk P w H h) : ObjOk P w H h a u := by
  rcases r with r | ⟨o, r⟩
  · exact x a u r
  · obtain ⟨_, q⟩ := x a _ r
    exact q
/-- what may be written -/
def Mut : Option HO → Prop
  | some (.lst _) => True
  | some (.dK _) => True
  | some (.dT _) => True
  | some (.set _ _) => True
  | some (.ins _ _ _) => True
  | some (.ext _) => True
  | _ => False
section
variable {P : Program} {w : World} {H : Hp} {h h' : Heap} {x e : Addr} {o' : HO}
/-- the object at e is changed: x itself, or the dict of the instance x -/
theorem HOk.write (ok : HOk P w H h) (mu : Mut (H x)) (he : e = x ∨ H e = some (.own x)) (k : ∀ b u, b ≠ e → h.get? b = some u → h'.get? b = some u) (heo : ∃ u, h'.get? e = some u)
    (new : ObjOk P w (upd H x o') h' x o') : HOk P w (upd H x o') h' := fun b u q => by
  have nown : ∀ c y, H c = some (.own y) → c ≠ x := fun c y r z => by subst z; rw [r] at mu; exact mu
  have ntup : ∀ c xs, H c = some (.tup xs) → c ≠ x := fun c xs r z => by subst z; rw [r] at mu; exact mu
  by_cases hb : b = x
  · subst hb; rw [upd_same] at q; cases q; exact new
  · rw [upd_ne hb] at q
    by_cases hbe : b = e
    · have q' : H b = some (.own x) := by
        rcases he with z | z
        · exact absurd (hbe.trans z) hb
        · rw [hbe]; exact z
      rw [q] at q'; cases q'
      obtain ⟨v, hv⟩ := heo
      exact ⟨v, by rw [hbe]; exact hv⟩
    · refine (ok b u q).stay (fun c v hc r => k c v ?_ r) (fun c r => by rw [upd_ne (nown c b r)]; exact r) fun c xs r => by rw [upd_ne (ntup c xs r)]; exact r
      rcases hc with rfl | hc
      · exact hbe
      · rintro rfl
        rcases he with z | z
        · exact nown c b hc z
        · rw [hc] at z; cases z; exact hb rfl
end

/-! ### kept unless tracked; of the frames at fs (the callers') the slots may change (an exception that passes writes there); of the records at ex (iterators) nothing is said -/
structure Un (fs ex : List Addr) (H H' : Hp) (h h' : Heap) : Prop where
  keep : ∀ b o, h.get? b = some o → H b = none → b ∉ fs → b ∉ ex → h'.get? b = some o
  slot : ∀ b o, h.get? b = some o → H b = none → b ∈ fs → b ∉ ex → ∃ sl, h'.get? b = some { o with slots := sl }
  free : ∀ b o, h.get? b = some o → H b = none → b ∉ ex → H' b = none
  there : ∀ b o, h.get? b = some o → b ∉ ex → ∃ o', h'.get? b = some o'
  tups : ∀ b xs, H b = some (.tup xs) → H' b = some (.tup xs)
  frzs : ∀ b o u, H b = some (.frz o u) → H' b = some (.frz o u)
  tbls : ∀ b ps, H b = some (.tbl ps) → ∃ more, H' b = some (.tbl (ps ++ more))
section
variable {fs fs' ex ex' : List Addr} {H H1 H2 : Hp} {h h1 h2 h' : Heap} {a x e : Addr} {o : HO}
theorem Un.any (u : Un fs ex H H1 h h1) {b : Addr} {ob : Obj} (q : h.get? b = some ob) (n : H b = none) (hx : b ∉ ex) : ∃ sl, h1.get? b = some { ob with slots := sl } := by
  by_cases hb : b ∈ fs
  · exact u.slot b ob q n hb hx
  · exact ⟨ob.slots, u.keep b ob q n hb hx⟩
theorem Un.trans (a : Un fs ex H H1 h h1) (b : Un fs ex H1 H2 h1 h2) : Un fs ex H H2 h h2 where
  keep := fun c ob q n hc hx => b.keep c ob (a.keep c ob q n hc hx) (a.free c ob q n hx) hc hx
  slot := fun c ob q n hc hx => by
    obtain ⟨sl, e1⟩ := a.slot c ob q n hc hx
    obtain ⟨sl', e2⟩ := b.slot c _ e1 (a.free c ob q n hx) hc hx
    exact ⟨sl', e2⟩
  free := fun c ob q n hx => by
    obtain ⟨o', e1⟩ := a.there c ob q hx
    exact b.free c o' e1 (a.free c ob q n hx) hx
  there := fun c ob q hx => by
    obtain ⟨o', e1⟩ := a.there c ob q hx
    exact b.there c o' e1 hx
  tups := fun c xs q => b.tups c xs (a.tups c xs q)
  frzs := fun c ob xs q => b.frzs c ob xs (a.frzs c ob xs q)
  tbls := fun c ps q => by
    obtain ⟨m1, e1⟩ := a.tbls c ps q
    obtain ⟨m2, e2⟩ := b.tbls c _ e1
    exact ⟨m1 ++ m2, by rw [e2, Array.append_assoc]⟩
theorem Un.kept (k : ∀ b u, h.get? b = some u → h'.get? b = some u) : Un fs ex H H h h' :=
  ⟨fun b ob q _ _ _ => k b ob q, fun b ob q _ _ _ => ⟨ob.slots, k b ob q⟩, fun _ _ _ n _ => n, fun b ob q _ => ⟨ob, k b ob q⟩, fun _ _ q => q, fun _ _ _ q => q, fun _ ps q => ⟨#[], by rw [q]; simp⟩⟩
theorem Un.refl : Un fs ex H H h h := Un.kept fun _ _ q => q
theorem Un.laid (k : ∀ b u, h.get? b = some u → h'.get? b = some u) (hp : h.objs.size ≤ a) (hn : H a = none) : Un fs ex H (upd H a o) h h' where
  keep := fun b u q _ _ _ => k b u q
  slot := fun b u q _ _ _ => ⟨u.slots, k b u q⟩
  free := fun b u q n _ => by rw [upd_ne (Nat.ne_of_lt (Nat.lt_of_lt_of_le (Heap.lt_size q) hp))]; exact n
  there := fun b u q _ => ⟨u, k b u q⟩
  tups := fun b xs q => by rw [upd_ne (ne_of_none q hn)]; exact q
  frzs := fun b u xs q => by rw [upd_ne (ne_of_none q hn)]; exact q
  tbls := fun b ps q => ⟨#[], by rw [upd_ne (ne_of_none q hn), q]; simp⟩
theorem Un.write (mu : Mut (H x)) (he : e = x ∨ H e = some (.own x)) (k : ∀ b u, b ≠ e → h.get? b = some u → h'.get? b = some u) (heo : ∃ u, h'.get? e = some u) : Un fs ex H (upd H x o) h h' := by
  have hx : ∀ b, H b = none → b ≠ x := fun b n z => by subst z; rw [n] at mu; exact mu
  have hb : ∀ b, H b = none → b ≠ e := fun b n z => by
    subst z
    rcases he with r | r
    · exact hx b n r
    · rw [n] at r; cases r
  have hm : ∀ b u, H b = some u → ¬ Mut (some u) → b ≠ x := fun b u q nm z => by subst z; rw [q] at mu; exact nm mu
  refine ⟨fun b u q n _ _ => k b u (hb b n) q, fun b u q n _ _ => ⟨u.slots, k b u (hb b n) q⟩, fun b u q n _ => by rw [upd_ne (hx b n)]; exact n, fun b u q _ => ?_,
    fun b xs q => by rw [upd_ne (hm b _ q fun z => z)]; exact q, fun b u xs q => by rw [upd_ne (hm b _ q fun z => z)]; exact q, fun b ps q => ⟨#[], by rw [upd_ne (hm b _ q fun z => z), q]; simp⟩⟩
  by_cases hbe : b = e
  · subst hbe; exact heo
  · exact ⟨u, k b u hbe q⟩
theorem Un.mono (u : Un fs ex H H1 h h1) (hs : ∀ b ∈ fs, b ∈ fs') (hx : ∀ b ∈ ex, b ∈ ex') : Un fs' ex' H H1 h h1 :=
  ⟨fun b ob q n hb he => u.keep b ob q n (fun z => hb (hs b z)) fun z => he (hx b z), fun _ _ q n _ he => u.any q n fun z => he (hx _ z), fun b ob q n he => u.free b ob q n fun z => he (hx b z), fun b ob q he => u.there b ob q fun z => he (hx b z), u.tups, u.frzs, u.tbls⟩
end

/-! ### the heap without what is tracked -/
def trk (h : Heap) (H : Hp) : List Addr := (List.range h.objs.size).filter fun a => (H a).isSome
def hidT (h : Heap) (H : Hp) : Heap := PySem.W.hideAll h (trk h H)
theorem hidT_size (h : Heap) (H : Hp) : (hidT h H).objs.size = h.objs.size := PySem.W.hideAll_size _ _
theorem hidT_get {h : Heap} {H : Hp} {b : Addr} {o : Obj} (e : h.get? b = some o) (n : H b = none) : (hidT h H).get? b = some o :=
  PySem.W.hideAll_get _ e fun hm => by
    have q : (H b).isSome = true := (List.mem_filter.mp hm).2
    rw [n] at q; simp at q
theorem of_hidT {h : Heap} {H : Hp} {b : Addr} {o : Obj} (e : (hidT h H).get? b = some o) : h.get? b = some o ∧ H b = none := by
  have e' : h.get? b = some o := PySem.W.of_hideAll (trk h H) e
  refine ⟨e', ?_⟩
  cases q : H b with
  | none => rfl
  | some x =>
    have hm : b ∈ trk h H := List.mem_filter.mpr ⟨List.mem_range.mpr (Heap.lt_size e'), by simp [q]⟩
    have z : (hidT h H).get? b = none := PySem.W.hideAll_none (trk h H) hm
    rw [z] at e; cases e

/-! ### OpenK's ledger, filled with every new object but one -/
def allNews (g h : Heap) (L : Addr) : List (Addr × Obj) := (List.range h.objs.size).filterMap fun a => if a = L ∨ (g.get? a).isSome = true then none else (h.get? a).map fun o => (a, o)
theorem mem_allNews {g h : Heap} {L a : Addr} {o : Obj} (h1 : a ≠ L) (h2 : g.get? a = none) (h3 : h.get? a = some o) : (a, o) ∈ allNews g h L :=
  List.mem_filterMap.mpr ⟨a, List.mem_range.mpr (Heap.lt_size h3), by simp [h1, h2, h3]⟩
theorem of_mem_allNews {g h : Heap} {L : Addr} {p : Addr × Obj} (hp : p ∈ allNews g h L) : p.1 ≠ L ∧ g.get? p.1 = none ∧ h.get? p.1 = some p.2 := by
  obtain ⟨b, _, e⟩ := List.mem_filterMap.mp hp
  split at e
  · cases e
  · rename_i hn
    cases q : h.get? b with
    | none => rw [q] at e; simp at e
    | some u =>
      rw [q] at e
      simp only [Option.map_some, Option.some.injEq] at e
      subst e
      refine ⟨fun z => hn (.inl z), ?_, q⟩
      show g.get? b = none
      cases r : g.get? b with
      | none => rfl
      | some v => exact (hn (.inr (by simp [r]))).elim
def rest (g h : Heap) (L d : Addr) : List (Addr × Obj) := (allNews g h L).filter fun p => decide (p.1 ≠ d)
theorem rest_ne {g h : Heap} {L d : Addr} : ∀ p ∈ rest g h L d, p.1 ≠ d := fun p hp => of_decide_eq_true (List.mem_filter.mp hp).2
theorem mem_rest {g h : Heap} {L d a : Addr} {o : Obj} (h1 : a ≠ L) (h2 : g.get? a = none) (h3 : h.get? a = some o) (h4 : a ≠ d) : (a, o) ∈ rest g h L d :=
  List.mem_filter.mpr ⟨mem_allNews h1 h2 h3, decide_eq_true h4⟩
theorem news_all {g h : Heap} {L : Addr} : News g L h (allNews g h L) := fun p hp => let ⟨a, b, c⟩ := of_mem_allNews hp; ⟨c, a, b⟩
theorem news_at {g h : Heap} {L d : Addr} {o : Obj} (h1 : d ≠ L) (h2 : g.get? d = none) (h3 : h.get? d = some o) : News g L h ((d, o) :: rest g h L d) := fun p hp => by
  rcases List.mem_cons.mp hp with rfl | hp
  · exact ⟨h3, h1, h2⟩
  · exact news_all p (List.mem_filter.mp hp).1
/-- behind a rule that changed d alone: all else but the frame is kept -/
theorem kept_of_news {g h h' : Heap} {L d : Addr} {m : Str → Option Value} (k : ∀ b o, g.get? b = some o → h.get? b = some o) (F : Fr g L h' m) (N : News g L h' (rest g h L d)) :
    ∀ b o, b ≠ L → b ≠ d → h.get? b = some o → h'.get? b = some o := fun b o h1 h2 e => by
  cases q : g.get? b with
  | some u =>
    have := k b u q
    rw [e] at this; cases this
    exact F.keep b _ q
  | none => exact (N (b, o) (mem_rest h1 q e h2)).1
end L2

namespace L2
open PySem PySem.Spec PyProof.Rows

/-- the module's facts, over the base: the heap at the law's entry without what is tracked there -/
structure Mod (K : PySem.W.Frag) (mg : Str → Option Value) (base : Heap) : Prop where
  kin : K.In base
  glob : base.Ns mainGlobals mg
  blt : ∃ mb, base.Ns builtinsNs mb ∧ ∀ x : Str, x ≠ "__name__" → mb x = bootBuiltins x
  nolimit : base.NoLimit

/-- the context: a def's body (or a comprehension's block) running. base: fixed through the whole law; s₀, H₀: the entry; outer: the frames whose slots others may change (a def's callers); stack: all frames that run;
   ex: iterators that were made ahead of the entry and are walked here (a comprehension's); fn: the names whose cells were made at the entry (a def: all; a comprehension's block: its own); calm: not within an except suite; pn: pins that every state bears; xe: what is wanted of an exception that leaves the code -/
structure Cx where
  prog : Program
  w : World
  K : PySem.W.Frag
  mg : Str → Option Value
  base : Heap
  A : Around
  N : List Str
  s₀ : Shared
  H₀ : Hp
  env : Env
  outer : List Env
  stack : List Env
  ex : List Addr
  fn : Str → Bool
  calm : Bool
  pn : List (Addr × Obj)
  xe : Value → Shared → Prop
/-- the callers' frames -/
def frs (l : List Env) : List Addr := l.filterMap (·.frame)
abbrev Cx.fs (X : Cx) : List Addr := frs X.outer

def Vis (sc : Scope) (x : Str) : Prop := sc.names.lookup x = some .local ∨ sc.names.lookup x = some .cell ∨ sc.names.lookup x = some .free
def Loc (sc : Scope) (x : Str) : Prop := sc.names.lookup x = some .local ∨ sc.names.lookup x = some .cell
def Look (env : Env) (h : Heap) (m : Str → Option Value) (x : Str) (u : Value) : Prop :=
  (env.kindOf x = some .local ∧ m x = some u) ∨ ((env.kindOf x = some .cell ∨ env.kindOf x = some .free) ∧ ∃ c, env.cells.lookup x = some c ∧ h.IsCell c (some u))

structure Cx.Ok (X : Cx) : Prop where
  mod : Mod X.K X.mg X.base
  kind : X.env.scope.kind = .function
  glob : X.env.globals = mainGlobals
  blt : X.env.builtins = builtinsNs
  above : X.s₀.heap.objs.size ≤ X.env.locals
  inj : ∀ x y c, X.env.cells.lookup x = some c → X.env.cells.lookup y = some c → x = y
  has : ∀ x, (X.env.kindOf x = some .cell ∨ X.env.kindOf x = some .free) → ∃ c, X.env.cells.lookup x = some c
  cab : ∀ x c, X.fn x = true → X.env.cells.lookup x = some c → X.s₀.heap.objs.size ≤ c
  hd : X.calm = true → X.A.handled = none
  frames : X.A.frames = some X.stack
  stk : X.stack = X.outer ∨ (X.stack = X.env :: X.outer ∧ X.env.frame = some X.env.locals)
  exf : ∀ b ∈ X.ex, b ≠ X.env.locals ∧ ∀ x c, X.env.cells.lookup x = some c → c ≠ b
  bs : ∀ b o, X.base.get? b = some o → X.s₀.heap.get? b = some o ∧ X.H₀ b = none
  bsz : X.base.objs.size ≤ X.s₀.heap.objs.size
  noex : ∀ b o, X.base.get? b = some o → b ∉ X.ex
  exfs : ∀ b ∈ X.ex, b ∉ X.fs
  funs : X.s₀.heap.FunFrames X.base X.outer
  frf : ∀ b ∈ X.fs, X.H₀ b = none

structure Inv (X : Cx) (pins : List (Addr × Obj)) (σ : List (Option V)) (H : Hp) (s : Shared) : Prop where
  ok : X.Ok
  os : s.os = X.s₀.os
  bare : AllBare s.gens
  base : Un X.fs X.ex X.H₀ H X.s₀.heap s.heap
  loc : ∃ m, s.heap.Ns X.env.locals m ∧ ∀ (i : Nat) (x : Str) (v : V), X.N[i]? = some x → σ[i]? = some (some v) → Vis X.env.scope x → ∃ u, RelV v u ∧ Look X.env s.heap m x u
  cell : ∀ x c, X.env.cells.lookup x = some c → ∃ v, s.heap.IsCell c v
  free : H X.env.locals = none
  freeC : ∀ x c, X.env.cells.lookup x = some c → H c = none
  pin : ∀ p ∈ X.pn ++ pins, s.heap.get? p.1 = some p.2 ∧ H p.1 = none ∧ p.1 ≠ X.env.locals ∧ p.1 ∉ X.fs ∧ ∀ v, p.2.data ≠ .cell v
  hok : HOk X.prog X.w H s.heap
  len : σ.length = X.N.length

section
variable {X : Cx} {pins : List (Addr × Obj)} {σ : List (Option V)} {H H' : Hp} {s : Shared} {h' : Heap}

theorem Cx.Ok.nofr (ok : X.Ok) {b : Addr} {o : Obj} (e : X.base.get? b = some o) : b ∉ X.fs := fun hb => by
  have := (ok.funs.mem hb).1
  rw [e] at this; cases this
theorem Inv.bs (I : Inv X pins σ H s) : ∀ b o, X.base.get? b = some o → s.heap.get? b = some o ∧ H b = none := fun b o e =>
  ⟨I.base.keep b o (I.ok.bs b o e).1 (I.ok.bs b o e).2 (I.ok.nofr e) (I.ok.noex b o e), I.base.free b o (I.ok.bs b o e).1 (I.ok.bs b o e).2 (I.ok.noex b o e)⟩
theorem Inv.bk (I : Inv X pins σ H s) : ∀ b o, X.base.get? b = some o → s.heap.get? b = some o := fun b o e => (I.bs b o e).1
theorem Inv.mod (I : Inv X pins σ H s) : Mod X.K X.mg X.base := I.ok.mod
theorem Inv.kIn (I : Inv X pins σ H s) : X.K.In s.heap := I.ok.mod.kin.keeps I.bk
theorem Inv.nolimit (I : Inv X pins σ H s) : s.heap.NoLimit := I.ok.mod.nolimit.keeps I.bk
/-- the frame over the base: for OpenK's rules (K.In X.base is I.mod.kin) -/
theorem Inv.fr (I : Inv X pins σ H s) : ∃ m, Fr X.base X.env.locals s.heap m :=
  let ⟨m, hn, _⟩ := I.loc
  ⟨m, hn, I.bk, Nat.le_trans I.ok.bsz I.ok.above⟩
theorem Inv.lt (I : Inv X pins σ H s) : X.env.locals < s.heap.objs.size := let ⟨_, hn, _⟩ := I.loc; hn.lt
theorem Inv.sz (I : Inv X pins σ H s) : X.s₀.heap.objs.size ≤ s.heap.objs.size := Nat.le_trans I.ok.above (Nat.le_of_lt I.lt)
theorem Inv.nofs (I : Inv X pins σ H s) {a : Addr} (h : s.heap.objs.size ≤ a) : a ∉ X.fs := fun hb => by
  obtain ⟨_, o, ho, _⟩ := I.ok.funs.mem hb
  exact absurd (Nat.lt_of_lt_of_le (Heap.lt_size ho) (Nat.le_trans I.sz h)) (Nat.lt_irrefl _)
theorem Inv.cne (I : Inv X pins σ H s) : ∀ x c, X.env.cells.lookup x = some c → c ≠ X.env.locals := fun x c e z => by
  obtain ⟨v, o, ho, hd⟩ := I.cell x c e
  obtain ⟨m, ⟨o', es, ep, ho', hd', _⟩, _⟩ := I.loc
  rw [z, ho'] at ho; cases ho; rw [hd'] at hd; cases hd
theorem Inv.funs (I : Inv X pins σ H s) : s.heap.FunFrames X.base X.outer := by
  have all : ∀ (l : List Env), (∀ b ∈ frs l, b ∈ X.fs) → X.s₀.heap.FunFrames X.base l → s.heap.FunFrames X.base l := by
    intro l
    induction l with
    | nil => intro _ _; trivial
    | cons env r ih =>
      intro hs hl
      obtain ⟨hk, ⟨L, o, hf, hn, ho, hd⟩, hr⟩ := hl
      have hL : L ∈ X.fs := hs L (by unfold frs; rw [List.filterMap_cons, hf]; exact List.mem_cons_self)
      obtain ⟨sl, e⟩ := I.base.slot L o ho (I.ok.frf L hL) hL fun z => I.ok.exfs L z hL
      exact ⟨hk, ⟨L, _, hf, hn, e, hd⟩, ih (fun b hb => hs b (by unfold frs; rw [List.filterMap_cons, hf]; exact List.mem_cons_of_mem _ hb)) hr⟩
  exact all X.outer (fun _ hb => hb) I.ok.funs

/-- the frames that run, for a call -/
theorem Inv.stack (I : Inv X pins σ H s) : s.heap.FunFrames X.base X.stack := by
  rcases I.ok.stk with e | ⟨e, hf⟩
  · rw [e]; exact I.funs
  · rw [e]
    obtain ⟨m, hn, _⟩ := I.loc
    refine .cons (by rw [I.ok.kind]; decide) hf hn ?_ I.funs
    exact Heap.get?_none_of_le (Nat.le_trans I.ok.bsz I.ok.above)
theorem Inv.stkSub (I : Inv X pins σ H s) : ∀ b ∈ frs X.stack, b ∈ X.env.locals :: X.fs := fun b hb => by
  rcases I.ok.stk with e | ⟨e, hf⟩
  · rw [e] at hb; exact List.mem_cons_of_mem _ hb
  · rw [e] at hb
    unfold frs at hb
    rw [List.filterMap_cons, hf] at hb
    exact hb
theorem Inv.stkFree (I : Inv X pins σ H s) : ∀ b ∈ frs X.stack, H b = none := fun b hb => by
  rcases List.mem_cons.mp (I.stkSub b hb) with e | hb
  · rw [e]; exact I.free
  · obtain ⟨_, o, ho, _⟩ := I.ok.funs.mem hb
    exact I.base.free b o ho (I.ok.frf b hb) fun z => I.ok.exfs b z hb

/-- THE STEP: the untracked objects but the frame and the records at ch are kept (the callers' frames up to slots), the frame's map is kept, the new abstract heap is held -/
theorem Inv.step {g' : Array GenState} {t' : Nat} {d' : Drawn} {ch : List Addr} (I : Inv X pins σ H s)
    (hch : ∀ b ∈ ch, (b ∈ X.ex ∨ X.s₀.heap.objs.size ≤ b) ∧ b ≠ X.env.locals ∧ (∀ x c, X.env.cells.lookup x = some c → c ≠ b) ∧ ∀ p ∈ X.pn ++ pins, p.1 ≠ b)
    (keep : ∀ b o, b ≠ X.env.locals → b ∉ X.fs → b ∉ ch → s.heap.get? b = some o → H b = none → h'.get? b = some o)
    (slot : ∀ b o, b ≠ X.env.locals → b ∈ X.fs → b ∉ ch → s.heap.get? b = some o → H b = none → ∃ sl, h'.get? b = some { o with slots := sl }) (free : ∀ b o, b ∉ ch → s.heap.get? b = some o → H b = none → H' b = none)
    (there : ∀ b o, b ∉ ch → s.heap.get? b = some o → ∃ o', h'.get? b = some o')
    (tups : ∀ b xs, H b = some (.tup xs) → H' b = some (.tup xs)) (frzs : ∀ b o u, H b = some (.frz o u) → H' b = some (.frz o u)) (tbls : ∀ b ps, H b = some (.tbl ps) → ∃ more, H' b = some (.tbl (ps ++ more)))
    (ns : ∀ m, s.heap.Ns X.env.locals m → h'.Ns X.env.locals m) (hok : HOk X.prog X.w H' h') (hg : AllBare g') :
    Inv X pins σ H' { s with heap := h', gens := g', drawn := d', toks := t' } := by
  have neL : ∀ b o, X.s₀.heap.get? b = some o → b ≠ X.env.locals := fun b o e => Nat.ne_of_lt (Nat.lt_of_lt_of_le (Heap.lt_size e) I.ok.above)
  have neC : ∀ b o, X.s₀.heap.get? b = some o → b ∉ X.ex → b ∉ ch := fun b o e hx hb => by
    rcases (hch b hb).1 with z | z
    · exact hx z
    · exact absurd (Nat.lt_of_lt_of_le (Heap.lt_size e) z) (Nat.lt_irrefl _)
  have cellK : ∀ x c, X.env.cells.lookup x = some c → ∀ v, s.heap.IsCell c v → h'.IsCell c v := fun x c e v ⟨o, ho, hd⟩ => by
    have nch : c ∉ ch := fun z => (hch c z).2.2.1 x c e rfl
    by_cases hc : c ∈ X.fs
    · obtain ⟨sl, q⟩ := slot c o (I.cne x c e) hc nch ho (I.freeC x c e)
      exact ⟨_, q, hd⟩
    · exact ⟨o, keep c o (I.cne x c e) hc nch ho (I.freeC x c e), hd⟩
  refine ⟨I.ok, I.os, hg, ⟨fun b o e n hb hx => ?_, fun b o e n hb hx => ?_, fun b o e n hx => ?_, fun b o e hx => ?_, fun b xs e => tups b xs (I.base.tups b xs e), fun b o xs e => frzs b o xs (I.base.frzs b o xs e), fun b ps e => ?_⟩, ?_, fun x c e => ?_, ?_, fun x c e => ?_, fun p hp => ?_, hok, I.len⟩
  · exact keep b o (neL b o e) hb (neC b o e hx) (I.base.keep b o e n hb hx) (I.base.free b o e n hx)
  · obtain ⟨sl, e1⟩ := I.base.slot b o e n hb hx
    obtain ⟨sl', e2⟩ := slot b _ (neL b o e) hb (neC b o e hx) e1 (I.base.free b o e n hx)
    exact ⟨sl', e2⟩
  · obtain ⟨o', e1⟩ := I.base.there b o e hx
    exact free b o' (neC b o e hx) e1 (I.base.free b o e n hx)
  · obtain ⟨o', e1⟩ := I.base.there b o e hx
    exact there b o' (neC b o e hx) e1
  · obtain ⟨m1, e1⟩ := I.base.tbls b ps e
    obtain ⟨m2, e2⟩ := tbls b _ e1
    exact ⟨m1 ++ m2, by rw [e2, Array.append_assoc]⟩
  · obtain ⟨m, hn, hl⟩ := I.loc
    refine ⟨m, ns m hn, fun i x v e1 e2 e3 => ?_⟩
    obtain ⟨u, r, l⟩ := hl i x v e1 e2 e3
    refine ⟨u, r, ?_⟩
    rcases l with l | ⟨k, c, e, z⟩
    · exact .inl l
    · exact .inr ⟨k, c, e, cellK x c e _ z⟩
  · obtain ⟨v, z⟩ := I.cell x c e
    exact ⟨v, cellK x c e v z⟩
  · obtain ⟨m, ⟨o, _, _, ho, _⟩, _⟩ := I.loc
    exact free _ o (fun z => (hch _ z).2.1 rfl) ho I.free
  · obtain ⟨v, o, ho, hd⟩ := I.cell x c e
    exact free c o (fun z => (hch c z).2.2.1 x c e rfl) ho (I.freeC x c e)
  · obtain ⟨e, n, ne, nf, d⟩ := I.pin p hp
    have nch : p.1 ∉ ch := fun z => (hch p.1 z).2.2.2 p hp rfl
    exact ⟨keep p.1 p.2 ne nf nch e n, free p.1 p.2 nch e n, ne, nf, d⟩
/-- .. where the frame's own object is kept too -/
theorem Inv.un {t' : Nat} (I : Inv X pins σ H s) (u : Un X.fs [] H H' s.heap h') (hok : HOk X.prog X.w H' h') : Inv X pins σ H' { s with heap := h', toks := t' } := by
  obtain ⟨m, ⟨o, es, ep, ho, r⟩, _⟩ := id I.loc
  obtain ⟨sl, hL⟩ := u.any ho I.free (by simp)
  exact I.step (g' := s.gens) (d' := s.drawn) (ch := []) (fun _ z => nomatch z) (fun b o _ hb _ e n => u.keep b o e n hb (by simp)) (fun b o _ hb _ e n => u.slot b o e n hb (by simp)) (fun b o _ e n => u.free b o e n (by simp)) (fun b o _ e => u.there b o e (by simp)) u.tups u.frzs u.tbls (fun m' hm => by
    obtain ⟨o', es', ep', ho', r'⟩ := hm
    rw [ho] at ho'; cases ho'
    exact ⟨_, es', ep', hL, r'⟩) hok I.bare
/-- behind a call (or a comprehension's block): the slots of this frame may have changed too, the records at ch may have turned -/
theorem Inv.call {g' : Array GenState} {t' : Nat} {d' : Drawn} {ch : List Addr} (I : Inv X pins σ H s) (u : Un (frs X.stack) ch H H' s.heap h') (hok : HOk X.prog X.w H' h') (hg : AllBare g')
    (hch : ∀ b ∈ ch, (b ∈ X.ex ∨ X.s₀.heap.objs.size ≤ b) ∧ b ≠ X.env.locals ∧ (∀ x c, X.env.cells.lookup x = some c → c ≠ b) ∧ ∀ p ∈ X.pn ++ pins, p.1 ≠ b) :
    Inv X pins σ H' { s with heap := h', gens := g', drawn := d', toks := t' } := by
  obtain ⟨m, ⟨o, es, ep, ho, r⟩, _⟩ := id I.loc
  obtain ⟨sl, hL⟩ := u.any ho I.free fun z => (hch _ z).2.1 rfl
  exact I.step (ch := ch) hch (fun b o hL hb hc e n => u.keep b o e n (fun z => (List.mem_cons.mp (I.stkSub b z)).elim hL hb) hc) (fun b o _ _ hc e n => u.any e n hc) (fun b o hc e n => u.free b o e n hc) (fun b o hc e => u.there b o e hc) u.tups u.frzs u.tbls (fun m' hm => by
    obtain ⟨o', es', ep', ho', r'⟩ := hm
    rw [ho] at ho'; cases ho'
    exact ⟨_, es', ep', hL, r'⟩) hok hg
/-- an untracked record of ours (an iterator) has turned -/
theorem Inv.turned {t' : Nat} {it : Addr} (I : Inv X pins σ H s) (k : ∀ b o, b ≠ it → s.heap.get? b = some o → h'.get? b = some o) (hn : H it = none) (hL : it ≠ X.env.locals)
    (h1 : it ∈ X.ex ∨ X.s₀.heap.objs.size ≤ it) (h2 : ∀ x c, X.env.cells.lookup x = some c → c ≠ it) (h3 : ∀ p ∈ X.pn ++ pins, p.1 ≠ it) : Inv X pins σ H { s with heap := h', toks := t' } := by
  have nit : ∀ b u, H b = some u → b ≠ it := fun b u e z => by rw [z, hn] at e; cases e
  refine I.step (g' := s.gens) (d' := s.drawn) (ch := [it]) (fun b hb => ?_) (fun b o _ _ hc e _ => k b o (fun z => hc (by simp [z])) e) (fun b o _ _ hc e _ => ⟨o.slots, k b o (fun z => hc (by simp [z])) e⟩) (fun _ _ _ _ n => n)
    (fun b o hc e => ⟨o, k b o (fun z => hc (by simp [z])) e⟩) (fun _ _ e => e) (fun _ _ _ e => e) (fun b ps e => ⟨#[], by rw [e]; simp⟩) (fun m hm => ?_) (fun b u e => ?_) I.bare
  · have e : b = it := by simpa using hb
    subst e
    exact ⟨h1, hL, h2, h3⟩
  · obtain ⟨o, es, ep, ho, r⟩ := hm
    exact ⟨o, es, ep, k _ o (Ne.symm hL) ho, r⟩
  · refine (I.hok b u e).stay (fun c v hc q => k c v ?_ q) (fun _ q => q) fun _ _ q => q
    rcases hc with z | z
    · rw [z]; exact nit b u e
    · exact nit c _ z
theorem Inv.tok (I : Inv X pins σ H s) (t : Nat) : Inv X pins σ H { s with toks := t } := I.un (h' := s.heap) (t' := t) Un.refl I.hok
/-- all objects kept -/
theorem Inv.kept {t' : Nat} (I : Inv X pins σ H s) (k : ∀ b u, s.heap.get? b = some u → h'.get? b = some u) : Inv X pins σ H { s with heap := h', toks := t' } := I.un (Un.kept k) (I.hok.kept k)
/-- a new object laid and tracked -/
theorem Inv.laid {a : Addr} {o : HO} {t' : Nat} (I : Inv X pins σ H s) (k : ∀ b u, s.heap.get? b = some u → h'.get? b = some u) (hp : s.heap.objs.size ≤ a) (new : ObjOk X.prog X.w (upd H a o) h' a o) :
    Inv X pins σ (upd H a o) { s with heap := h', toks := t' } := I.un (Un.laid k hp (I.hok.fresh hp)) (I.hok.laid k hp new)
/-- an object written -/
theorem Inv.write {x e : Addr} {o : HO} {t' : Nat} (I : Inv X pins σ H s) (mu : Mut (H x)) (he : e = x ∨ H e = some (.own x)) (k : ∀ b u, b ≠ e → s.heap.get? b = some u → h'.get? b = some u) (heo : ∃ u, h'.get? e = some u)
    (new : ObjOk X.prog X.w (upd H x o) h' x o) : Inv X pins σ (upd H x o) { s with heap := h', toks := t' } := I.un (Un.write mu he k heo) (I.hok.write mu he k heo new)
/-- forgetting slots, pins -/
theorem Inv.weak {σ' : List (Option V)} (I : Inv X pins σ H s) (hl : σ'.length = σ.length) (w : ∀ (i : Nat) v, σ'[i]? = some (some v) → σ[i]? = some (some v)) : Inv X pins σ' H s :=
  ⟨I.ok, I.os, I.bare, I.base, let ⟨m, hn, hl'⟩ := I.loc; ⟨m, hn, fun i x v e1 e2 e3 => hl' i x v e1 (w i v e2) e3⟩, I.cell, I.free, I.freeC, I.pin, I.hok, hl.trans I.len⟩
theorem Inv.pins_of {pins' : List (Addr × Obj)} (I : Inv X pins σ H s) (h : ∀ p ∈ pins', s.heap.get? p.1 = some p.2 ∧ H p.1 = none ∧ p.1 ≠ X.env.locals ∧ p.1 ∉ X.fs ∧ ∀ v, p.2.data ≠ .cell v) : Inv X pins' σ H s :=
  ⟨I.ok, I.os, I.bare, I.base, I.loc, I.cell, I.free, I.freeC, fun p hp => (List.mem_append.mp hp).elim (fun z => I.pin p (List.mem_append_left _ z)) (h p), I.hok, I.len⟩

theorem nodup_ix {N : List Str} (hN : N.Nodup) {i j : Nat} {x : Str} (a : N[i]? = some x) (b : N[j]? = some x) : i = j := by
  obtain ⟨h1, e1⟩ := List.getElem?_eq_some_iff.mp a
  obtain ⟨h2, e2⟩ := List.getElem?_eq_some_iff.mp b
  exact (List.getElem_inj hN).mp (e1.trans e2.symm)

/-- a name is stored; what changed -/
theorem store_ok2 {M : Model} {A : Around} {E : Value → Shared → Prop} {i : Nat} {x : Str} {v : V} {u : Value} {Q : Unit → Shared → Prop} (I : Inv X pins σ H s) (hN : X.N.Nodup) (hi : X.N[i]? = some x) (hx : Loc X.env.scope x) (r : RelV v u)
    (h : ∀ s', Inv X pins (σ.set i (some v)) H s' → (∃ a, Heap.SameBut a s.heap s'.heap ∧ (a = X.env.locals ∨ X.env.cells.lookup x = some a)) → Q () s') (hf : X.fn x = true ∨ X.env.scope.names.lookup x = some .local := by first | exact .inl rfl | exact .inr rfl | assumption) : wpAny M A (storeName X.env x u) Q E s := by
  obtain ⟨m, hn, hl⟩ := id I.loc
  have hcls : (X.env.scope.kind == .class || (X.env.scope.kind == .module && X.env.locals != X.env.globals)) = false := by rw [I.ok.kind]; rfl
  have hiσ : i < σ.length := by rw [I.len]; exact (List.getElem?_eq_some_iff.mp hi).1
  have cne := I.cne
  have tracked : ∀ {a : Addr} {h' : Heap}, (∃ o, s.heap.get? a = some o ∧ H a = none) → Heap.SameBut a s.heap h' → HOk X.prog X.w H h' := fun {a h'} ha hs b ob e => by
    obtain ⟨_, _, hfree⟩ := ha
    refine (I.hok b ob e).stay (fun c w' hc q => (hs.2 c ?_).trans q) (fun _ q => q) fun _ _ q => q
    rintro rfl
    rcases hc with rfl | hc
    · rw [hfree] at e; cases e
    · rw [hfree] at hc; cases hc
  rcases hx with hk | hk
  · refine wpAny_storeName_local hk hn (fun h' hn' hs => ?_) hcls
    obtain ⟨oL, _, _, hoL, _⟩ := id hn
    refine h _ ⟨I.ok, I.os, I.bare, ⟨fun b o e n hb hx => ?_, fun b o e n hb hx => ?_, I.base.free, fun b o e hx => ?_, I.base.tups, I.base.frzs, I.base.tbls⟩, ⟨_, hn', fun j y v' e1 e2 e3 => ?_⟩, fun y c e => ?_, I.free, I.freeC, fun p hp => ?_, tracked ⟨oL, hoL, I.free⟩ hs, by simpa using I.len⟩ ⟨_, hs, .inl rfl⟩
    · exact (hs.2 b (Nat.ne_of_lt (Nat.lt_of_lt_of_le (Heap.lt_size e) I.ok.above))).trans (I.base.keep b o e n hb hx)
    · obtain ⟨sl, e1⟩ := I.base.slot b o e n hb hx
      exact ⟨sl, (hs.2 b (Nat.ne_of_lt (Nat.lt_of_lt_of_le (Heap.lt_size e) I.ok.above))).trans e1⟩
    · obtain ⟨o', e1⟩ := I.base.there b o e hx
      exact ⟨o', (hs.2 b (Nat.ne_of_lt (Nat.lt_of_lt_of_le (Heap.lt_size e) I.ok.above))).trans e1⟩
    · by_cases hj : j = i
      · subst hj
        rw [hi] at e1; cases e1
        rw [List.getElem?_set_self hiσ] at e2
        cases e2
        exact ⟨u, r, .inl ⟨hk, by simp⟩⟩
      · rw [List.getElem?_set_ne (Ne.symm hj)] at e2
        obtain ⟨u', r', q⟩ := hl j y v' e1 e2 e3
        refine ⟨u', r', ?_⟩
        rcases q with ⟨k, e⟩ | ⟨k, c, e, z⟩
        · refine .inl ⟨k, ?_⟩
          have : y ≠ x := fun e => hj (nodup_ix hN e1 (e ▸ hi))
          simp [this, e]
        · exact .inr ⟨k, c, e, z.sameBut hs (cne y c e)⟩
    · obtain ⟨w', z⟩ := I.cell y c e
      exact ⟨w', z.sameBut hs (cne y c e)⟩
    · obtain ⟨e, n, ne, nf, d⟩ := I.pin p hp
      exact ⟨(hs.2 p.1 ne).trans e, n, ne, nf, d⟩
  · have hfn : X.fn x = true := by
      rcases hf with z | z
      · exact z
      · rw [z] at hk; cases hk
    obtain ⟨c, hc⟩ := I.ok.has x (.inl hk)
    obtain ⟨w', z⟩ := I.cell x c hc
    refine wpAny_storeName_cell I.ok.kind hk hc z (fun h' hc' hs => ?_)
    obtain ⟨oc, hoc, hocd⟩ := id z
    refine h { s with heap := h' } ⟨I.ok, I.os, I.bare, ⟨fun b o e n hb hx => ?_, fun b o e n hb hx => ?_, I.base.free, fun b o e hx => ?_, I.base.tups, I.base.frzs, I.base.tbls⟩, ⟨m, hn.sameBut hs (Ne.symm (cne x c hc)), fun j y v' e1 e2 e3 => ?_⟩, fun y c' e => ?_, I.free, I.freeC, fun p hp => ?_, tracked ⟨oc, hoc, I.freeC x c hc⟩ hs, by simpa using I.len⟩ ⟨c, hs, .inr hc⟩
    · exact (hs.2 b (Nat.ne_of_lt (Nat.lt_of_lt_of_le (Heap.lt_size e) (I.ok.cab x c hfn hc)))).trans (I.base.keep b o e n hb hx)
    · obtain ⟨sl, e1⟩ := I.base.slot b o e n hb hx
      exact ⟨sl, (hs.2 b (Nat.ne_of_lt (Nat.lt_of_lt_of_le (Heap.lt_size e) (I.ok.cab x c hfn hc)))).trans e1⟩
    · obtain ⟨o', e1⟩ := I.base.there b o e hx
      exact ⟨o', (hs.2 b (Nat.ne_of_lt (Nat.lt_of_lt_of_le (Heap.lt_size e) (I.ok.cab x c hfn hc)))).trans e1⟩
    · by_cases hj : j = i
      · subst hj
        rw [hi] at e1; cases e1
        rw [List.getElem?_set_self hiσ] at e2
        cases e2
        exact ⟨u, r, .inr ⟨.inl hk, c, hc, hc'⟩⟩
      · rw [List.getElem?_set_ne (Ne.symm hj)] at e2
        obtain ⟨u', r', q⟩ := hl j y v' e1 e2 e3
        refine ⟨u', r', ?_⟩
        rcases q with q | ⟨k, c', e, z'⟩
        · exact .inl q
        · refine .inr ⟨k, c', e, z'.sameBut hs ?_⟩
          rintro rfl
          exact hj (nodup_ix hN e1 (I.ok.inj _ _ _ e hc ▸ hi))
    · by_cases hcc : c' = c
      · subst hcc; exact ⟨_, hc'⟩
      · obtain ⟨w2, z2⟩ := I.cell y c' e
        exact ⟨w2, z2.sameBut hs hcc⟩
    · obtain ⟨e, n, ne, nf, d⟩ := I.pin p hp
      refine ⟨(hs.2 p.1 ?_).trans e, n, ne, nf, d⟩
      intro q
      rw [q, hoc] at e
      have q' : oc = p.2 := Option.some.inj e
      exact d w' (by rw [← q']; exact hocd)
theorem store_ok {M : Model} {A : Around} {E : Value → Shared → Prop} {i : Nat} {x : Str} {v : V} {u : Value} {Q : Unit → Shared → Prop} (I : Inv X pins σ H s) (hN : X.N.Nodup) (hi : X.N[i]? = some x) (hx : Loc X.env.scope x) (r : RelV v u)
    (h : ∀ s', Inv X pins (σ.set i (some v)) H s' → Q () s') (hf : X.fn x = true ∨ X.env.scope.names.lookup x = some .local := by first | exact .inl rfl | exact .inr rfl | assumption) : wpAny M A (storeName X.env x u) Q E s :=
  store_ok2 I hN hi hx r (fun s' I' _ => h s' I') hf
/-- behind a call or a block, the state as it is -/
theorem Inv.call' {s' : Shared} {ch : List Addr} (I : Inv X pins σ H s) (ho : s'.os = s.os) (u : Un (frs X.stack) ch H H' s.heap s'.heap) (hok : HOk X.prog X.w H' s'.heap) (hg : AllBare s'.gens)
    (hch : ∀ b ∈ ch, (b ∈ X.ex ∨ X.s₀.heap.objs.size ≤ b) ∧ b ≠ X.env.locals ∧ (∀ x c, X.env.cells.lookup x = some c → c ≠ b) ∧ ∀ p ∈ X.pn ++ pins, p.1 ≠ b) : Inv X pins σ H' s' := by
  obtain ⟨h', g', d', t', o'⟩ := s'
  have e : o' = s.os := ho
  subst e
  exact I.call (g' := g') (t' := t') (d' := d') u hok hg hch
end

/-! ### the judgements -/
/-- an exception: its class, its own dict's address (where it has one), the abstract heap behind it -/
abbrev XK := Value → Option Addr → Hp → Prop
abbrev St := List (Option V)
abbrev VK := V → Hp → Prop
/-- an expression's reading; a test's; an argument list's -/
abbrev TE := St → Hp → VK → Prop
abbrev TT := St → Hp → (Bool → Hp → Prop) → Prop
abbrev TA := St → Hp → (List V → Hp → Prop) → Prop
/-- what is wanted behind a statement -/
structure Ends where
  nx : St → Hp → Prop
  rt : VK
  bk : St → Hp → Prop := fun _ _ => False
  ct : St → Hp → Prop := fun _ _ => False
abbrev TS := Ends → St → Hp → Prop

def EP (X : Cx) (pins : List (Addr × Obj)) (σ : St) (Q : VK) (u : Value) (s' : Shared) : Prop := ∃ v H', Inv X pins σ H' s' ∧ RelV v u ∧ Q v H'
def TP (X : Cx) (pins : List (Addr × Obj)) (σ : St) (Q : Bool → Hp → Prop) (b : Bool) (s' : Shared) : Prop := ∃ H', Inv X pins σ H' s' ∧ Q b H'
def AP (X : Cx) (pins : List (Addr × Obj)) (σ : St) (Q : List V → Hp → Prop) (us : List Value) (s' : Shared) : Prop := ∃ vs H', Inv X pins σ H' s' ∧ Vals vs us ∧ Q vs H'
def SP (X : Cx) (pins : List (Addr × Obj)) (D : Ends) (f : Flow) (s' : Shared) : Prop :=
  match f with
  | .next => ∃ σ' H', Inv X pins σ' H' s' ∧ D.nx σ' H'
  | .brk => ∃ σ' H', Inv X pins σ' H' s' ∧ D.bk σ' H'
  | .cont => ∃ σ' H', Inv X pins σ' H' s' ∧ D.ct σ' H'
  | .ret u => ∃ v σ' H', Inv X pins σ' H' s' ∧ RelV v u ∧ D.rt v H'

def PE (X : Cx) (e : Expr) (t : TE) : Prop :=
  ∀ (pins : List (Addr × Obj)) (s : Shared) (σ : St) (H : Hp) (Q : VK), Inv X pins σ H s → t σ H Q → wpAny (model X.prog X.w) X.A (eval e X.env) (EP X pins σ Q) X.xe s
def PT (X : Cx) (e : Expr) (t : TT) : Prop :=
  ∀ (pins : List (Addr × Obj)) (s : Shared) (σ : St) (H : Hp) (Q : Bool → Hp → Prop), Inv X pins σ H s → t σ H Q → wpAny (model X.prog X.w) X.A (isTrue e X.env (eval e X.env)) (TP X pins σ Q) X.xe s
/-- a test whatever its 'whole' is (and, or) -/
def PW (X : Cx) (e : Expr) (t : TT) : Prop :=
  ∀ (whole : Sem Value) (pins : List (Addr × Obj)) (s : Shared) (σ : St) (H : Hp) (Q : Bool → Hp → Prop), Inv X pins σ H s → t σ H Q → wpAny (model X.prog X.w) X.A (isTrue e X.env whole) (TP X pins σ Q) X.xe s
theorem PW.pt {X : Cx} {e : Expr} {t : TT} (h : PW X e t) : PT X e t := h _
/-- an argument list (no star), from the left -/
def PA (X : Cx) (es : List Expr) (t : TA) : Prop :=
  ∀ (pos : Pos) (pins : List (Addr × Obj)) (s : Shared) (σ : St) (H : Hp) (Q : List V → Hp → Prop), Inv X pins σ H s → t σ H Q → wpAny (model X.prog X.w) X.A (spliced (backTo pos (starEach es X.env))) (AP X pins σ Q) X.xe s
def PS (X : Cx) (st : Stmt) (t : TS) : Prop :=
  ∀ (pins : List (Addr × Obj)) (s : Shared) (σ : St) (H : Hp) (D : Ends), Inv X pins σ H s → t D σ H → wpAny (model X.prog X.w) X.A (exec st X.env) (SP X pins D) X.xe s
def PSs (X : Cx) (st : List Stmt) (t : TS) : Prop :=
  ∀ (pins : List (Addr × Obj)) (s : Shared) (σ : St) (H : Hp) (D : Ends), Inv X pins σ H s → t D σ H → wpAny (model X.prog X.w) X.A (execs st X.env) (SP X pins D) X.xe s
/-- weaken the end -/
theorem thn {α : Type} {t : Sem α} {Q Q' : α → Shared → Prop} {M : Model} {A : Around} {E : Value → Shared → Prop} {s : Shared} (h : wpAny M A t Q E s) (hQ : ∀ a s, Q a s → Q' a s) : wpAny M A t Q' E s := wpAny_mono h hQ fun _ _ x => x
end L2

namespace L2
open PySem PySem.Spec PyProof.Rows
section
variable {X : Cx}

/-- two expressions in a row -/
theorem bin {a b : Expr} {ta tb : TE} (ha : PE X a ta) (hb : PE X b tb) {pins : List (Addr × Obj)} {s : Shared} {σ : St} {H : Hp} {R : V → V → Hp → Prop} (I : Inv X pins σ H s) (h : ta σ H fun x H1 => tb σ H1 fun y H2 => R x y H2)
    {α : Type} {Q : α → Shared → Prop} {f : Value → Value → Sem α}
    (hf : ∀ v u s2 x y H2, Inv X pins σ H2 s2 → RelV x v → RelV y u → R x y H2 → wpAny (model X.prog X.w) X.A (f v u) Q X.xe s2) :
    wpAny (model X.prog X.w) X.A (eval a X.env) (fun v s₁ => wpAny (model X.prog X.w) X.A (eval b X.env) (fun u s₂ => wpAny (model X.prog X.w) X.A (f v u) Q X.xe s₂) X.xe s₁) X.xe s := by
  refine thn (ha pins s σ H _ I h) fun v s1 ⟨x, H1, I1, r1, q1⟩ => ?_
  refine thn (hb pins s1 σ H1 _ I1 q1) fun u s2 ⟨y, H2, I2, r2, q2⟩ => ?_
  exact hf v u s2 x y H2 I2 r1 r2 q2

/-! ### names and constants -/
def tVar (i : Nat) : TE := fun σ H Q => ∃ v, σ[i]? = some (some v) ∧ Q v H
def tC (v : V) : TE := fun _ H Q => Q v H
theorem pe_var {i : Nat} {x : Str} {pos : Pos} (hN : X.N[i]? = some x) (hv : Vis X.env.scope x) (hd : (x == ("__debug__" : Str)) = false := by decide) (hcd : (x == ("__classdict__" : Str)) = false := by decide) : PE X (.Name x pos) (tVar i) := by
  intro pins s σ H Q I h
  obtain ⟨v, e, h⟩ := h
  obtain ⟨m, hn, hl⟩ := I.loc
  obtain ⟨u, r, l⟩ := hl i x v hN e hv
  have fin : EP X pins σ Q u s := ⟨v, H, I, r, h⟩
  rcases l with ⟨hk, hm⟩ | ⟨hk, c, hc, hcell⟩
  · exact wpAny_Name (wpAny_loadName_local I.ok.kind hk hn hm fin) hd
  · rcases hk with hk | hk
    · exact wpAny_Name (wpAny_loadName_cell I.ok.kind hk hc hcell fin) hd
    · exact wpAny_Name (wpAny_loadName_free I.ok.kind hk hc hcell fin hcd) hd
theorem pe_int {i j pos} : PE X (.Constant (.int i) j pos) (tC (.int i)) := fun _ _ _ H _ I h => wpAny_Constant_int ⟨.int i, H, I.tok _, ⟨_, rfl⟩, h⟩
theorem pe_bl {b j pos} : PE X (.Constant (.bool b) j pos) (tC (.bl b)) := fun _ _ _ H _ I h => Constant_bool ⟨.bl b, H, I, rfl, h⟩
theorem pe_non {j pos} : PE X (.Constant .none j pos) (tC .non) := fun _ _ _ H _ I h => Constant_none ⟨.non, H, I, rfl, h⟩
theorem pe_str {x j pos} : PE X (.Constant (.str x) j pos) (tC (.str x)) := fun _ _ _ H _ I h => Calls.Constant_str ⟨.str x, H, I.tok _, ⟨_, rfl⟩, h⟩

/-- a global name of the def -/
def Gl (X : Cx) (x : Str) : Prop := X.env.kindOf x = some .globalImplicit
theorem ld_glob {E : Value → Shared → Prop} {pins : List (Addr × Obj)} {s : Shared} {σ : St} {H : Hp} {x : Str} {u : Value} {pos : Pos} {Q : Value → Shared → Prop} (I : Inv X pins σ H s) (hg : Gl X x) (hm : X.mg x = some u) (h : Q u s)
    (hd : (x == ("__debug__" : Str)) = false := by decide) : wpAny (model X.prog X.w) X.A (eval (.Name x pos) X.env) Q E s :=
  Calls.Name_function_global I.ok.kind hg (Calls.loadGlobal_global (by rw [I.ok.glob]; exact I.mod.glob.keeps I.bk) hm h) hd
theorem ld_blt {E : Value → Shared → Prop} {pins : List (Addr × Obj)} {s : Shared} {σ : St} {H : Hp} {x : Str} {u : Value} {pos : Pos} {Q : Value → Shared → Prop} (I : Inv X pins σ H s) (hg : Gl X x) (hm : X.mg x = none) (hv : bootBuiltins x = some u) (h : Q u s)
    (hn : x ≠ "__name__" := by decide) (hd : (x == ("__debug__" : Str)) = false := by decide) : wpAny (model X.prog X.w) X.A (eval (.Name x pos) X.env) Q E s := by
  obtain ⟨mb, h1, h2⟩ := I.mod.blt
  exact Calls.Name_function_global I.ok.kind hg (Calls.loadGlobal_builtin (by rw [I.ok.glob]; exact I.mod.glob.keeps I.bk) hm (by rw [I.ok.blt]; exact h1.keeps I.bk) ((h2 x hn).trans hv) h) hd
/-- a module's constant, a class, a function, as a value -/
theorem pe_glob {x : Str} {v : V} {u : Value} {pos : Pos} (hg : Gl X x) (hm : X.mg x = some u) (r : RelV v u) (hd : (x == ("__debug__" : Str)) = false := by decide) : PE X (.Name x pos) (tC v) :=
  fun _ _ _ H _ I h => ld_glob I hg hm ⟨v, H, I, r, h⟩ hd
theorem pe_bltn {x : Str} {v : V} {u : Value} {pos : Pos} (hg : Gl X x) (hm : X.mg x = none) (hv : bootBuiltins x = some u) (r : RelV v u) (hn : x ≠ "__name__" := by decide) (hd : (x == ("__debug__" : Str)) = false := by decide) : PE X (.Name x pos) (tC v) :=
  fun _ _ _ H _ I h => ld_blt I hg hm hv ⟨v, H, I, r, h⟩ hn hd

/-! ### arithmetic -/
/-- two ints -/
def t2I (ta tb : TE) (k : Int → Int → Hp → Prop) : St → Hp → Prop := fun σ H => ta σ H fun x H1 => tb σ H1 fun y H2 => ∃ i j, x = .int i ∧ y = .int j ∧ k i j H2
def tAdd (ta tb : TE) : TE := fun σ H Q => t2I ta tb (fun i j H2 => Q (.int (i + j)) H2) σ H
def tSub (ta tb : TE) : TE := fun σ H Q => t2I ta tb (fun i j H2 => Q (.int (i - j)) H2) σ H
/-- the left factor below 2^64 -/
def tMul (ta tb : TE) : TE := fun σ H Q => t2I ta tb (fun i j H2 => (-(2 ^ 64) < i ∧ i < 2 ^ 64) ∧ Q (.int (i * j)) H2) σ H
variable {a b : Expr} {ta tb : TE} {pos : Pos}
theorem pe_add (ha : PE X a ta) (hb : PE X b tb) : PE X (.BinOp a .Add b pos) (tAdd ta tb) := by
  intro pins s σ H Q I h
  refine wpAny_BinOp (bin ha hb I h fun v u s2 x y H2 I2 rx ry q => ?_)
  obtain ⟨i, j, rfl, rfl, q⟩ := q
  obtain ⟨t, rfl⟩ := rx
  obtain ⟨t', rfl⟩ := ry
  exact add_int ⟨.int _, H2, I2.tok _, ⟨_, rfl⟩, q⟩
theorem pe_sub (ha : PE X a ta) (hb : PE X b tb) : PE X (.BinOp a .Sub b pos) (tSub ta tb) := by
  intro pins s σ H Q I h
  refine wpAny_BinOp (bin ha hb I h fun v u s2 x y H2 I2 rx ry q => ?_)
  obtain ⟨i, j, rfl, rfl, q⟩ := q
  obtain ⟨t, rfl⟩ := rx
  obtain ⟨t', rfl⟩ := ry
  exact sub_int ⟨.int _, H2, I2.tok _, ⟨_, rfl⟩, q⟩
theorem pe_mul (ha : PE X a ta) (hb : PE X b tb) : PE X (.BinOp a .Mult b pos) (tMul ta tb) := by
  intro pins s σ H Q I h
  refine wpAny_BinOp (bin ha hb I h fun v u s2 x y H2 I2 rx ry q => ?_)
  obtain ⟨i, j, rfl, rfl, ⟨q1, q2⟩, q⟩ := q
  obtain ⟨t, rfl⟩ := rx
  obtain ⟨t', rfl⟩ := ry
  exact mul_int ⟨.int _, H2, I2.tok _, ⟨_, rfl⟩, q⟩ (.of_left (intBits_le_64 q1 q2))

/-! ### comparisons -/
def PC (X : Cx) (op : CmpOp) (a b : Expr) (t : TE) : Prop :=
  ∀ (pins : List (Addr × Obj)) (s : Shared) (σ : St) (H : Hp) (Q : VK), Inv X pins σ H s → t σ H Q →
    wpAny (model X.prog X.w) X.A (eval a X.env) (fun v s₁ => wpAny (model X.prog X.w) X.A (eval b X.env) (fun u s₂ => wpAny (model X.prog X.w) X.A (compareOp op v u) (EP X pins σ Q) X.xe s₂) X.xe s₁) X.xe s
theorem nobehind (b : Expr) {op : CmpOp} (h : op ≠ .In) (h2 : op ≠ .NotIn) : behindInMarks op b = false := by
  have e1 : (op == CmpOp.In) = false := by cases op <;> first | rfl | exact absurd rfl h
  have e2 : (op == CmpOp.NotIn) = false := by cases op <;> first | rfl | exact absurd rfl h2
  cases b <;> simp [behindInMarks, e1, e2]
def tCmp (p : Int → Int → Bool) (ta tb : TE) : TE := fun σ H Q => t2I ta tb (fun i j H2 => Q (.bl (p i j)) H2) σ H
abbrev tLt : TE → TE → TE := tCmp fun i j => decide (i < j)
abbrev tLe : TE → TE → TE := tCmp fun i j => decide (i ≤ j)
abbrev tGt : TE → TE → TE := tCmp fun i j => decide (j < i)
abbrev tGe : TE → TE → TE := tCmp fun i j => decide (j ≤ i)
abbrev tEqI : TE → TE → TE := tCmp fun i j => decide (i = j)
abbrev tNeI : TE → TE → TE := tCmp fun i j => !decide (i = j)
/-- a comparison of two ints, by its rule -/
theorem pc_int {op : CmpOp} {p : Int → Int → Bool} (ha : PE X a ta) (hb : PE X b tb)
    (rule : ∀ (i j : Int) (t u : Tok) (Q : Value → Shared → Prop) (s : Shared), Q (.bool (p i j)) s → wpAny (model X.prog X.w) X.A (compareOp op (.int i t) (.int j u)) Q X.xe s) : PC X op a b (tCmp p ta tb) := by
  intro pins s σ H Q I h
  refine bin ha hb I h fun v u s2 x y H2 I2 rx ry q => ?_
  obtain ⟨i, j, rfl, rfl, q⟩ := q
  obtain ⟨t, rfl⟩ := rx
  obtain ⟨t', rfl⟩ := ry
  exact rule i j t t' _ s2 ⟨.bl _, H2, I2, rfl, q⟩
theorem pc_lt (ha : PE X a ta) (hb : PE X b tb) : PC X .Lt a b (tLt ta tb) := pc_int ha hb fun _ _ _ _ _ _ h => lt_int h
theorem pc_le (ha : PE X a ta) (hb : PE X b tb) : PC X .LtE a b (tLe ta tb) := pc_int ha hb fun _ _ _ _ _ _ h => le_int h
theorem pc_gt (ha : PE X a ta) (hb : PE X b tb) : PC X .Gt a b (tGt ta tb) := pc_int ha hb fun _ _ _ _ _ _ h => gt_int h
theorem pc_ge (ha : PE X a ta) (hb : PE X b tb) : PC X .GtE a b (tGe ta tb) := pc_int ha hb fun _ _ _ _ _ _ h => ge_int h
theorem pc_eqI (ha : PE X a ta) (hb : PE X b tb) : PC X .Eq a b (tEqI ta tb) := pc_int ha hb fun _ _ _ _ _ _ h => eq_int (by rw [Bool.beq_eq_decide_eq]; exact h)
theorem pc_neI (ha : PE X a ta) (hb : PE X b tb) : PC X .NotEq a b (tNeI ta tb) := pc_int ha hb fun _ _ _ _ _ _ h => ne_int (by rw [bne, Bool.beq_eq_decide_eq]; exact h)
/-- is None -/
def tIsN (ta : TE) : TE := fun σ H Q => ta σ H fun x H1 => Q (.bl (decide (x = .non))) H1
def tNotN (ta : TE) : TE := fun σ H Q => ta σ H fun x H1 => Q (.bl (!decide (x = .non))) H1
theorem RelV.none_iff {x : V} {v : Value} (r : RelV x v) : (v == Value.none) = decide (x = .non) := by
  cases x with
  | non => cases r; rfl
  | bl _ => cases r; rfl
  | int _ => obtain ⟨t, rfl⟩ := r; rfl
  | str _ => obtain ⟨t, rfl⟩ := r; rfl
  | byt _ => obtain ⟨t, rfl⟩ := r; rfl
  | flt _ => obtain ⟨t, rfl⟩ := r; rfl
  | ref _ => cases r; rfl
  | ty _ => cases r; rfl
theorem pc_isN {j pos'} (ha : PE X a ta) : PC X .Is a (.Constant .none j pos') (tIsN ta) := by
  intro pins s σ H Q I h
  refine thn (ha pins s σ H _ I h) fun v s1 ⟨x, H1, I1, r1, q1⟩ => ?_
  exact Constant_none (is_none_gen ⟨.bl _, H1, I1, by rw [r1.none_iff]; rfl, q1⟩)
theorem pc_notN {j pos'} (ha : PE X a ta) : PC X .IsNot a (.Constant .none j pos') (tNotN ta) := by
  intro pins s σ H Q I h
  refine thn (ha pins s σ H _ I h) fun v s1 ⟨x, H1, I1, r1, q1⟩ => ?_
  exact Constant_none (isnot_none_gen ⟨.bl _, H1, I1, by rw [r1.none_iff]; rfl, q1⟩)
/-- a comparison as a value, as a test -/
def tB (t : TE) : TT := fun σ H Q => t σ H fun x H1 => ∃ c, x = .bl c ∧ Q c H1
theorem pe_cmp {op : CmpOp} {t : TE} (h : PC X op a b t) (h1 : behindInMarks op b = false := by first | exact nobehind _ (by decide) (by decide) | rfl) : PE X (.Compare a [op] [b] pos) t := fun pins s σ H Q I hw => wpAny_Compare1 (h pins s σ H Q I hw) h1
theorem pt_cmp {op : CmpOp} {t : TE} (h : PC X op a b t) (h1 : behindInMarks op b = false := by first | exact nobehind _ (by decide) (by decide) | rfl) : PT X (.Compare a [op] [b] pos) (tB t) := by
  intro pins s σ H Q I hw
  refine wpAny_isTrue_Compare1 (thn (h pins s σ H _ I hw) fun v s1 h1 => thn h1 fun u s2 h2 => thn h2 fun c s3 ⟨x, H1, I1, r1, q1⟩ => ?_) h1
  obtain ⟨d, rfl, q⟩ := q1
  cases r1
  exact wpAny_truthy_bool ⟨H1, I1, q⟩
/-- an expression whose value is a bool, as a test -/
theorem pt_val {e : Expr} {t : TE} (h : PE X e t) (he : ∀ whole, isTrue e X.env whole = (do let v ← whole; standAt e.pos; holding [v] (truthy v)) := by intro _; rfl) : PT X e (tB t) := by
  intro pins s σ H Q I hw
  refine isTrue_plain (thn (h pins s σ H _ I hw) fun v s1 ⟨x, H1, I1, r1, q1⟩ => ?_) (he _)
  obtain ⟨d, rfl, q⟩ := q1
  cases r1
  exact wpAny_truthy_bool ⟨H1, I1, q⟩

/-! ### and, or, not -/
variable {tA tB' : TT} {rest : List Expr}
def tAnd (t u : TT) : TT := fun σ H Q => t σ H fun c H1 => if c = true then u σ H1 Q else Q false H1
def tOr (t u : TT) : TT := fun σ H Q => t σ H fun c H1 => if c = true then Q true H1 else u σ H1 Q
def tNot (t : TT) : TT := fun σ H Q => t σ H fun c H1 => Q (!c) H1
theorem pw_and1 (ha : PT X a tA) : PW X (.BoolOp .And [a] pos) tA := by
  intro wh pins s σ H Q I h
  refine isTrue_and (thn (ha pins s σ H Q I h) fun c s1 e => ?_)
  cases c with
  | true => exact isTrue_and_nil e
  | false => exact e
theorem pw_or1 (ha : PT X a tA) : PW X (.BoolOp .Or [a] pos) tA := by
  intro wh pins s σ H Q I h
  refine isTrue_or (thn (ha pins s σ H Q I h) fun c s1 e => ?_)
  cases c with
  | false => exact isTrue_or_nil e
  | true => exact e
theorem pw_and (ha : PT X a tA) (hb : PW X (.BoolOp .And (b :: rest) pos) tB') : PW X (.BoolOp .And (a :: b :: rest) pos) (tAnd tA tB') := by
  intro wh pins s σ H Q I h
  refine isTrue_and (thn (ha pins s σ H _ I h) fun c s1 ⟨H1, I1, q1⟩ => ?_)
  cases c with
  | true => exact hb wh pins s1 σ H1 Q I1 q1
  | false => exact ⟨H1, I1, q1⟩
theorem pw_or (ha : PT X a tA) (hb : PW X (.BoolOp .Or (b :: rest) pos) tB') : PW X (.BoolOp .Or (a :: b :: rest) pos) (tOr tA tB') := by
  intro wh pins s σ H Q I h
  refine isTrue_or (thn (ha pins s σ H _ I h) fun c s1 ⟨H1, I1, q1⟩ => ?_)
  cases c with
  | true => exact ⟨H1, I1, q1⟩
  | false => exact hb wh pins s1 σ H1 Q I1 q1
theorem pt_not (ha : PT X a tA) : PT X (.UnaryOp .Not a pos) (tNot tA) := by
  intro pins s σ H Q I h
  exact isTrue_not (ha pins s σ H (fun c H1 => Q (!c) H1) I h)
/-- .. as values (bools) -/
def tAndV (ta tb : TE) : TE := fun σ H Q => ta σ H fun x H1 => ∃ c, x = .bl c ∧ if c = true then tb σ H1 Q else Q (.bl false) H1
def tOrV (ta tb : TE) : TE := fun σ H Q => ta σ H fun x H1 => ∃ c, x = .bl c ∧ if c = true then Q (.bl true) H1 else tb σ H1 Q
def tNotV (ta : TE) : TE := fun σ H Q => ta σ H fun x H1 => ∃ c, x = .bl c ∧ Q (.bl (!c)) H1
theorem pe_one {op} {t : TE} (h : PE X a t) : PE X (.BoolOp op [a] pos) t := fun pins s σ H Q I hw => BoolOp_one (h pins s σ H Q I hw)
theorem pe_and (ha : PE X a ta) (hb : PE X (.BoolOp .And (b :: rest) pos) tb) : PE X (.BoolOp .And (a :: b :: rest) pos) (tAndV ta tb) := by
  intro pins s σ H Q I h
  refine BoolOp_and (thn (ha pins s σ H _ I h) fun v s1 ⟨x, H1, I1, r1, q1⟩ => ?_)
  obtain ⟨c, rfl, q1⟩ := q1
  cases r1
  refine wpAny_truthy_bool ?_
  cases c with
  | true => exact hb pins s1 σ H1 Q I1 q1
  | false => exact ⟨.bl false, H1, I1, rfl, q1⟩
theorem pe_or (ha : PE X a ta) (hb : PE X (.BoolOp .Or (b :: rest) pos) tb) : PE X (.BoolOp .Or (a :: b :: rest) pos) (tOrV ta tb) := by
  intro pins s σ H Q I h
  refine BoolOp_or (thn (ha pins s σ H _ I h) fun v s1 ⟨x, H1, I1, r1, q1⟩ => ?_)
  obtain ⟨c, rfl, q1⟩ := q1
  cases r1
  refine wpAny_truthy_bool ?_
  cases c with
  | false => exact hb pins s1 σ H1 Q I1 q1
  | true => exact ⟨.bl true, H1, I1, rfl, q1⟩
theorem pe_not (ha : PE X a ta) : PE X (.UnaryOp .Not a pos) (tNotV ta) := by
  intro pins s σ H Q I h
  refine UnaryOp_ (thn (ha pins s σ H _ I h) fun v s1 ⟨x, H1, I1, r1, q1⟩ => ?_)
  obtain ⟨c, rfl, q1⟩ := q1
  cases r1
  exact not_of (wpAny_truthy_bool ⟨.bl (!c), H1, I1, rfl, q1⟩)
/-- a if t else b -/
def tIf (t : TT) (ta tb : TE) : TE := fun σ H Q => t σ H fun c H1 => if c = true then ta σ H1 Q else tb σ H1 Q
theorem pe_ifExp {c : Expr} (hc : PT X c tA) (ha : PE X a ta) (hb : PE X b tb) : PE X (.IfExp c a b pos) (tIf tA ta tb) := by
  intro pins s σ H Q I h
  refine wpAny_IfExp (thn (hc pins s σ H _ I h) fun d s1 ⟨H1, I1, q1⟩ => ?_)
  cases d with
  | true => exact ha pins s1 σ H1 Q I1 q1
  | false => exact hb pins s1 σ H1 Q I1 q1
end
end L2

namespace L2
open PySem PySem.Spec PyProof.Rows

/-! ### a list, a tuple that is read: tracked, frozen, or an object of the module -/
def SqL (K : PySem.W.Frag) (H : Hp) (a : Addr) (xs : List V) : Prop :=
  Rd H a (.lst xs) ∨
    ∃ (o : Obj) (its : Array Value) (n : Nat), K.lookup a = some o ∧ o.cls = .type "list" ∧ o.dict = none ∧ o.data = .seq its n ∧ its.size ≤ sizeLine ∧ Vals xs its.toList
def SqT (K : PySem.W.Frag) (H : Hp) (a : Addr) (xs : List V) : Prop :=
  Rd H a (.tup xs) ∨
    ∃ (o : Obj) (its : Array Value) (n : Nat), K.lookup a = some o ∧ o.cls = .type "tuple" ∧ o.data = .seq its n ∧ its.size ≤ sizeLine ∧ Vals xs its.toList
def absV : Value → Option V
  | .none => some .non
  | .bool b => some (.bl b)
  | .int i _ => some (.int i)
  | .str x _ => some (.str x)
  | .bytes b _ => some (.byt b)
  | .float b _ => some (.flt b)
  | .ref a => some (.ref a)
  | .type n => some (.ty n)
  | _ => none
theorem RelV.abs {x : V} {u : Value} (r : RelV x u) : absV u = some x := by
  cases x with
  | non => cases r; rfl
  | bl _ => cases r; rfl
  | int _ => obtain ⟨t, rfl⟩ := r; rfl
  | str _ => obtain ⟨t, rfl⟩ := r; rfl
  | byt _ => obtain ⟨t, rfl⟩ := r; rfl
  | flt _ => obtain ⟨t, rfl⟩ := r; rfl
  | ref _ => cases r; rfl
  | ty _ => cases r; rfl
theorem RelV.inj {x y : V} {u : Value} (r : RelV x u) (q : RelV y u) : x = y := Option.some.inj (r.abs.symm.trans q.abs)
theorem Vals.inj : ∀ {xs ys : List V} {us : List Value}, Vals xs us → Vals ys us → xs = ys
  | _, _, _, .nil, .nil => rfl
  | _, _, _, .cons r t, .cons r' t' => by rw [r.inj r', Vals.inj t t']
section
variable {X : Cx} {pins : List (Addr × Obj)} {σ : St} {H : Hp} {s : Shared} {a : Addr} {xs ys : List V}
theorem SqL.of {K : PySem.W.Frag} (h : H a = some (.lst xs)) : SqL K H a xs := .inl (.inl h)
theorem SqT.of {K : PySem.W.Frag} (h : H a = some (.tup xs)) : SqT K H a xs := .inl (.inl h)
theorem Inv.list (I : Inv X pins σ H s) (h : SqL X.K H a xs) : ∃ its : List Value, Vals xs its ∧ PlainL s.heap a its.toArray ∧ xs.length ≤ sizeLine := by
  rcases h with h | ⟨o, its, n, hk, hc, hd, hs, hz, r⟩
  · obtain ⟨z, its, n, r, e⟩ := h.ok I.hok
    exact ⟨its, r, ⟨_, n, e, rfl, rfl, rfl⟩, z⟩
  · refine ⟨its.toList, r, ⟨o, n, I.kIn a o hk, hc, hd, by simpa using hs⟩, ?_⟩
    have e := r.length
    simp only [Array.length_toList] at e
    omega
theorem Inv.tuple (I : Inv X pins σ H s) (h : SqT X.K H a xs) : ∃ its : List Value, Vals xs its ∧ IsTup s.heap a its.toArray ∧ xs.length ≤ sizeLine := by
  rcases h with h | ⟨o, its, n, hk, hc, hs, hz, r⟩
  · obtain ⟨z, its, r, p⟩ := h.ok I.hok
    exact ⟨its, r, p, z⟩
  · refine ⟨its.toList, r, ⟨o, I.kIn a o hk, hc, n, by simpa using hs⟩, ?_⟩
    have e := r.length
    simp only [Array.length_toList] at e
    omega
theorem Inv.list_inj (I : Inv X pins σ H s) (h : SqL X.K H a xs) (h' : SqL X.K H a ys) : xs = ys := by
  obtain ⟨its, r, ⟨o, n, e, _, _, d⟩, _⟩ := I.list h
  obtain ⟨its', r', ⟨o', n', e', _, _, d'⟩, _⟩ := I.list h'
  rw [e] at e'; cases e'
  rw [d] at d'
  injection d' with d1 _
  have : its = its' := by simpa using congrArg Array.toList d1
  subst this
  exact r.inj r'
theorem Inv.tuple_inj (I : Inv X pins σ H s) (h : SqT X.K H a xs) (h' : SqT X.K H a ys) : xs = ys := by
  obtain ⟨its, r, ⟨o, e, _, n, d⟩, _⟩ := I.tuple h
  obtain ⟨its', r', ⟨o', e', _, n', d'⟩, _⟩ := I.tuple h'
  rw [e] at e'; cases e'
  rw [d] at d'
  injection d' with d1 _
  have : its = its' := by simpa using congrArg Array.toList d1
  subst this
  exact r.inj r'
end

/-! ### another wish about exceptions -/
abbrev Cx.wish (X : Cx) (E : Value → Shared → Prop) : Cx := { X with xe := E }
/-- no exception leaves -/
abbrev Cx.nox (X : Cx) : Cx := X.wish fun _ _ => False
theorem Cx.Ok.wish {X : Cx} (ok : X.Ok) (E : Value → Shared → Prop) : (X.wish E).Ok :=
  ⟨ok.mod, ok.kind, ok.glob, ok.blt, ok.above, ok.inj, ok.has, ok.cab, ok.hd, ok.frames, ok.stk, ok.exf, ok.bs, ok.bsz, ok.noex, ok.exfs, ok.funs, ok.frf⟩
theorem Cx.Ok.unwish {X : Cx} {E : Value → Shared → Prop} (ok : (X.wish E).Ok) : X.Ok :=
  ⟨ok.mod, ok.kind, ok.glob, ok.blt, ok.above, ok.inj, ok.has, ok.cab, ok.hd, ok.frames, ok.stk, ok.exf, ok.bs, ok.bsz, ok.noex, ok.exfs, ok.funs, ok.frf⟩
section
variable {X : Cx} {pins : List (Addr × Obj)} {σ : St} {H : Hp} {s : Shared} {E : Value → Shared → Prop}
theorem Inv.wish (I : Inv X pins σ H s) (E : Value → Shared → Prop) : Inv (X.wish E) pins σ H s := ⟨I.ok.wish E, I.os, I.bare, I.base, I.loc, I.cell, I.free, I.freeC, I.pin, I.hok, I.len⟩
theorem Inv.unwish (I : Inv (X.wish E) pins σ H s) : Inv X pins σ H s := ⟨I.ok.unwish, I.os, I.bare, I.base, I.loc, I.cell, I.free, I.freeC, I.pin, I.hok, I.len⟩
theorem SP.unwish {D : Ends} {f : Flow} {s' : Shared} (h : SP (X.wish E) pins D f s') : SP X pins D f s' := by
  cases f with
  | next => obtain ⟨σ', H', I, q⟩ := h; exact ⟨σ', H', I.unwish, q⟩
  | brk => obtain ⟨σ', H', I, q⟩ := h; exact ⟨σ', H', I.unwish, q⟩
  | cont => obtain ⟨σ', H', I, q⟩ := h; exact ⟨σ', H', I.unwish, q⟩
  | ret u => obtain ⟨v, σ', H', I, r, q⟩ := h; exact ⟨v, σ', H', I.unwish, r, q⟩
theorem PE.nox {e : Expr} {t : TE} (h : PE X.nox e t) : PE X e t := fun pins s σ H Q I hw =>
  wpAny_mono (h pins s σ H Q (I.wish _) hw) (fun _ _ ⟨v, H', I', r, q⟩ => ⟨v, H', I'.unwish, r, q⟩) fun _ _ z => False.elim z
theorem PT.nox {e : Expr} {t : TT} (h : PT X.nox e t) : PT X e t := fun pins s σ H Q I hw =>
  wpAny_mono (h pins s σ H Q (I.wish _) hw) (fun _ _ ⟨H', I', q⟩ => ⟨H', I'.unwish, q⟩) fun _ _ z => False.elim z
theorem PSs.nox {st : List Stmt} {t : TS} (h : PSs X.nox st t) : PSs X st t := fun pins s σ H D I hw =>
  wpAny_mono (h pins s σ H D (I.wish _) hw) (fun _ _ q => q.unwish) fun _ _ z => False.elim z
end

/-! ### blocks and small statements -/
section
variable {X : Cx} {st : Stmt} {rest : List Stmt} {t u : TS} {e : Expr} {te : TE} {pos : Pos}
def tNext : TS := fun D σ H => D.nx σ H
def tSeq (t u : TS) : TS := fun D σ H => t { D with nx := u D } σ H
theorem pss_nil : PSs X [] tNext := fun _ _ σ H _ I h => wpAny_execs_nil ⟨σ, H, I, h⟩
theorem pss_cons (h1 : PS X st t) (h2 : PSs X rest u) : PSs X (st :: rest) (tSeq t u) := by
  intro pins s σ H D I h
  refine wpAny_execs_cons (thn (h1 pins s σ H { D with nx := u D } I h) fun f s1 q => ?_)
  cases f with
  | next =>
    obtain ⟨σ', H', I', q⟩ := q
    exact h2 pins s1 σ' H' D I' q
  | ret v => exact q
  | brk => exact q
  | cont => exact q
theorem pss_one (h1 : PS X st t) : PSs X [st] t := by
  intro pins s σ H D I h
  refine wpAny_execs_cons (thn (h1 pins s σ H D I h) fun f s1 q => ?_)
  cases f with
  | next => exact wpAny_execs_nil q
  | ret v => exact q
  | brk => exact q
  | cont => exact q
def tBreak : TS := fun D σ H => D.bk σ H
def tCont : TS := fun D σ H => D.ct σ H
theorem ps_pass : PS X (.Pass pos) tNext := fun _ _ σ H _ I h => wpAny_Pass ⟨σ, H, I, h⟩
theorem ps_break : PS X (.Break pos) tBreak := fun _ _ σ H _ I h => wpAny_Break ⟨σ, H, I, h⟩
theorem ps_continue : PS X (.Continue pos) tCont := fun _ _ σ H _ I h => wpAny_Continue ⟨σ, H, I, h⟩
/-- in a def's body nothing is shown -/
theorem Inv.quiet {pins : List (Addr × Obj)} {σ : St} {H : Hp} {s : Shared} (I : Inv X pins σ H s) : interactive X.env = false := by simp [interactive, I.ok.kind]
/-- a docstring -/
theorem ps_doc {x j pos pos'} : PS X (.Expr (.Constant (.str x) j pos) pos') tNext := fun _ s σ H _ I h => wpAny_Expr (Calls.Constant_str (show SP X _ _ .next { s with toks := s.toks + 1 } from ⟨σ, H, I.tok _, h⟩)) I.quiet
/-- an expression whose value is dropped -/
def tDrop (te : TE) : TS := fun D σ H => te σ H fun _ H1 => D.nx σ H1
theorem ps_expr (he : PE X e te) (hs : swapsWith e none pos.line X.env = pure false := by rfl) : PS X (.Expr e pos) (tDrop te) := by
  intro pins s σ H D I h
  exact wpAny_Expr_any (thn (he pins s σ H _ I h) fun v s1 ⟨x, H1, I1, r1, q1⟩ => ⟨σ, H1, I1, q1⟩) I.quiet hs
def tRet (te : TE) : TS := fun D σ H => te σ H D.rt
theorem ps_ret (he : PE X e te) : PS X (.Return (some e) pos) (tRet te) := by
  intro pins s σ H D I h
  exact wpAny_Return_some (thn (he pins s σ H _ I h) fun v s1 ⟨x, H1, I1, r1, q1⟩ => ⟨x, σ, H1, I1, r1, q1⟩)
def tRetN : TS := fun D _ H => D.rt .non H
theorem ps_retN : PS X (.Return none pos) tRetN := fun _ _ σ H _ I h => wpAny_Return_none ⟨.non, σ, H, I, rfl, h⟩
def tIfS (c : TT) (t u : TS) : TS := fun D σ H => c σ H fun b H1 => if b = true then t D σ H1 else u D σ H1
theorem ps_if {c : Expr} {a b : List Stmt} {tc : TT} (hc : PT X c tc) (ha : PSs X a t) (hb : PSs X b u) : PS X (.If c a b pos) (tIfS tc t u) := by
  intro pins s σ H D I h
  refine wpAny_If (thn (hc pins s σ H _ I h) fun d s1 ⟨H1, I1, q1⟩ => ?_)
  cases d with
  | true => exact ha pins s1 σ H1 D I1 q1
  | false => exact hb pins s1 σ H1 D I1 q1
/-- code that the proof never comes to -/
def tNever : TS := fun _ _ _ => False
theorem ps_never : PS X st tNever := fun _ _ _ _ _ _ h => h.elim
theorem pss_never {sts : List Stmt} : PSs X sts tNever := fun _ _ _ _ _ _ h => h.elim
end

/-! ### targets -/
abbrev TG := V → St → Hp → (St → Hp → Prop) → Prop
abbrev TGs := List V → St → Hp → (St → Hp → Prop) → Prop
def PG (X : Cx) (target : Expr) (t : TG) : Prop :=
  ∀ (pins : List (Addr × Obj)) (s : Shared) (σ : St) (H : Hp) (v : V) (u : Value) (Q : St → Hp → Prop), Inv X pins σ H s → RelV v u → t v σ H Q →
    wpAny (model X.prog X.w) X.A (assign target X.env u) (fun _ s' => ∃ σ' H', Inv X pins σ' H' s' ∧ Q σ' H') X.xe s
/-- several targets, one after another -/
def PGs (X : Cx) (ts : List Expr) (t : TGs) : Prop :=
  ∀ (pins : List (Addr × Obj)) (s : Shared) (σ : St) (H : Hp) (vs : List V) (us : List Value) (Q : St → Hp → Prop), Inv X pins σ H s → Vals vs us → t vs σ H Q →
    wpAny (model X.prog X.w) X.A (assignInOrder ((assignEach ts X.env).map (·.2)) us) (fun _ s' => ∃ σ' H', Inv X pins σ' H' s' ∧ Q σ' H') X.xe s
/-- o[i] = v, by values -/
abbrev TSet := V → V → V → Hp → (Hp → Prop) → Prop
def PSet (X : Cx) (t : TSet) : Prop :=
  ∀ (pins : List (Addr × Obj)) (s : Shared) (σ : St) (H : Hp) (o i v : V) (ov iv u : Value) (Q : Hp → Prop), Inv X pins σ H s → RelV o ov → RelV i iv → RelV v u → t o i v H Q →
    wpAny (model X.prog X.w) X.A (setItem ov iv u) (fun _ s' => ∃ H', Inv X pins σ H' s' ∧ Q H') X.xe s
/-- a op= b, by values -/
abbrev TIp := V → V → Hp → VK → Prop
def PIp (X : Cx) (op : Operator) (t : TIp) : Prop :=
  ∀ (pins : List (Addr × Obj)) (s : Shared) (σ : St) (H : Hp) (x y : V) (v u : Value) (Q : VK), Inv X pins σ H s → RelV x v → RelV y u → t x y H Q →
    wpAny (model X.prog X.w) X.A (inplaceOp op v u) (EP X pins σ Q) X.xe s
section
variable {X : Cx} {pos : Pos}
def gName (i : Nat) : TG := fun v σ H Q => Q (σ.set i (some v)) H
theorem pg_name {i : Nat} {x : Str} (hN : X.N.Nodup) (hi : X.N[i]? = some x) (hx : Loc X.env.scope x) (hf : X.fn x = true ∨ X.env.scope.names.lookup x = some .local := by first | exact .inl rfl | exact .inr rfl | assumption) : PG X (.Name x pos) (gName i) := by
  intro pins s σ H v u Q I r h
  exact wpAny_assign_Name (store_ok I hN hi hx r (fun s' I' => ⟨_, H, I', h⟩) hf)
def gNil : TGs := fun vs σ H Q => vs = [] ∧ Q σ H
def gCons (t : TG) (u : TGs) : TGs := fun vs σ H Q => ∃ v r, vs = v :: r ∧ t v σ H fun σ' H' => u r σ' H' Q
theorem pgs_nil : PGs X [] gNil := by
  intro pins s σ H vs us Q I r h
  obtain ⟨e, h⟩ := h
  subst e
  cases r
  exact assignInOrder_nil ⟨σ, H, I, h⟩
theorem pgs_cons {e : Expr} {es : List Expr} {t : TG} {u : TGs} (h1 : PG X e t) (h2 : PGs X es u)
    (hs : (assignEach (e :: es) X.env).map (·.2) = assign e X.env :: (assignEach es X.env).map (·.2) := by rfl) : PGs X (e :: es) (gCons t u) := by
  intro pins s σ H vs us Q I r h
  obtain ⟨v, vr, e1, h⟩ := h
  subst e1
  cases r with
  | cons r rr =>
    rw [hs]
    refine assignInOrder_cons (thn (h1 pins s σ H _ _ _ I r h) fun _ s1 ⟨σ1, H1, I1, q1⟩ => ?_)
    exact h2 pins s1 σ1 H1 _ _ Q I1 rr q1
/-- (a, b, ..) = a tuple of that length -/
def gTup (K : PySem.W.Frag) (n : Nat) (t : TGs) : TG := fun v σ H Q => ∃ a xs, v = .ref a ∧ SqT K H a xs ∧ xs.length = n ∧ t xs σ H Q
theorem pg_tup {es : List Expr} {k : Nat} {t : TGs} {n : Nat} (hc : X.calm = true) (h : PGs X es t)
    (hn : (assignEach es X.env).length = n := by rfl) (hst : (assignEach es X.env).findIdx? (·.1) = none := by rfl) : PG X (.Tuple es k pos) (gTup X.K n t) := by
  intro pins s σ H v u Q I r hw
  obtain ⟨a, xs, e1, hq, hl, hw⟩ := hw
  subst e1
  cases r
  obtain ⟨its, rv, ht, hz⟩ := I.tuple hq
  refine assign_Tuple_tuple (I.ok.hd hc) ht (by simp [hn, ← hl, rv.length]) hst fun h' hx => ?_
  have I1 : Inv X pins σ H { s with heap := h' } := I.kept (t' := s.toks) fun b o e => hx b o (Nat.ne_of_lt (Heap.lt_size e)) e
  exact h pins _ σ H xs _ Q I1 (by simpa using rv) hw
/-- o[i] = .. -/
def gSub (to ti : TE) (t : TSet) : TG := fun v σ H Q => to σ H fun o H1 => ti σ H1 fun i H2 => t o i v H2 fun H3 => Q σ H3
theorem pg_sub {o i : Expr} {to ti : TE} {t : TSet} (ho : PE X o to) (hi : PE X i ti) (hs : PSet X t)
    (ha : ∀ v, assign (.Subscript o i pos) X.env v = (do
      let ov ← holding [v] (eval o X.env)
      let iv ← holding [v, ov] (eval i X.env)
      standAt pos
      holding [v, ov, iv] (setItem ov iv v)
      release [v, ov, iv] []) := by intro _; rfl) : PG X (.Subscript o i pos) (gSub to ti t) := by
  intro pins s σ H v u Q I r h
  rw [ha]
  refine wpAny_bind (wpAny_holding (thn (ho pins s σ H _ I h) fun ov s1 ⟨x, H1, I1, r1, q1⟩ => ?_))
  refine wpAny_bind (wpAny_holding (thn (hi pins s1 σ H1 _ I1 q1) fun iv s2 ⟨y, H2, I2, r2, q2⟩ => ?_))
  refine wpAny_bind (wpAny_standAt (wpAny_bind (wpAny_holding (thn (hs pins s2 σ H2 x y v ov iv u _ I2 r1 r2 r q2) fun _ s3 ⟨H3, I3, q3⟩ => ?_))))
  exact wpAny_release ⟨σ, H3, I3, q3⟩
/-- target = value -/
def tAsg (te : TE) (g : TG) : TS := fun D σ H => te σ H fun x H1 => g x σ H1 D.nx
theorem ps_asg {tg e : Expr} {te : TE} {g : TG} (he : PE X e te) (hg : PG X tg g) (hs : swapsWithSole [tg] e pos.line X.env = pure false := by rfl) (hw : swappedStores [tg] e X.env = pure none := by rfl)
    (h1 : (assignEach [tg] X.env).map (·.2) = [assign tg X.env] := by rfl) : PS X (.Assign [tg] e pos) (tAsg te g) := by
  intro pins s σ H D I h
  refine wpAny_Assign_stores (thn (he pins s σ H _ I h) fun v s1 ⟨x, H1, I1, r1, q1⟩ => ?_) hs hw
  rw [h1]
  exact thn (hg pins s1 σ H1 x v _ I1 r1 q1) fun _ s2 q => q
/-- name = value -/
theorem ps_set {i : Nat} {x : Str} {e : Expr} {te : TE} {pos' : Pos} (hN : X.N.Nodup) (hi : X.N[i]? = some x) (hx : Loc X.env.scope x) (he : PE X e te) (hs : swapsWith e (some (.Name x pos')) pos.line X.env = pure false := by rfl) (hf : X.fn x = true ∨ X.env.scope.names.lookup x = some .local := by first | exact .inl rfl | exact .inr rfl | assumption) :
    PS X (.Assign [.Name x pos'] e pos) (tAsg te (gName i)) := by
  intro pins s σ H D I h
  refine wpAny_Assign_Name (thn (he pins s σ H _ I h) fun v s1 ⟨y, H1, I1, r1, q1⟩ => ?_) hs
  exact store_ok I1 hN hi hx r1 (fun s2 I2 => ⟨_, H1, I2, q1⟩) hf
/-- a, b = x, y with plain local names: stored from the right; the pair itself is not tracked (the opening rows as in PyProof/Rows/TupAssign.lean:23) -/
def tPar (i j : Nat) (ta : TA) : TS := fun D σ H => ta σ H fun vs H1 => ∃ v w, vs = [v, w] ∧ D.nx ((σ.set i (some v)).set j (some w)) H1
theorem ps_par {i j : Nat} {x y : Str} {a b : Expr} {ta : TA} {px py pt : Pos} {kt k2 pt2} (hc : X.calm = true) (hN : X.N.Nodup) (hi : X.N[i]? = some x) (hj : X.N[j]? = some y) (hij : i ≠ j)
    (hx : X.env.scope.names.lookup x = some .local) (hy : X.env.scope.names.lookup y = some .local) (ha : PA X [a, b] ta)
    (hw : swappedStores [.Tuple [.Name x px, .Name y py] kt pt] (.Tuple [a, b] k2 pt2) X.env = pure (some [x, y]))
    (hs : swapsWithSole [.Tuple [.Name x px, .Name y py] kt pt] (.Tuple [a, b] k2 pt2) pos.line X.env = pure false := by rfl) :
    PS X (.Assign [.Tuple [.Name x px, .Name y py] kt pt] (.Tuple [a, b] k2 pt2) pos) (tPar i j ta) := by
  intro pins s σ H D I h
  rw [exec_Assign_arm]
  refine wpAny_bind (wpAny_standAt ?_)
  rw [hs]
  refine wpAny_bind (wpAny_pure ?_)
  rw [if_neg (by decide)]
  refine wpAny_bind (Tuple_ (thn (ha _ pins s σ H _ I h) fun us s1 ⟨vs, H1, I1, r1, q1⟩ => ?_))
  obtain ⟨v, w, e1, q1⟩ := q1
  subst e1
  obtain ⟨u1, u2, rfl, rv, rw'⟩ : ∃ u1 u2, us = [u1, u2] ∧ RelV v u1 ∧ RelV w u2 := by
    cases r1 with
    | cons p q =>
      cases q with
      | cons p' q' =>
        cases q'
        exact ⟨_, _, rfl, p, p'⟩
  refine wpAny_newObj_type ?_ (by show 2 ≤ sizeLine; decide)
  have I2 : Inv X pins σ H1 { s1 with heap := s1.heap.push { cls := .type "tuple", data := .seq [u1, u2].toArray } } := I1.kept (t' := s1.toks) fun b o e => Heap.get?_push_of_some _ e
  rw [hw]
  refine wpAny_bind (wpAny_pure ?_)
  show wpAny (model X.prog X.w) X.A (do rule "assign.swapped-stores"; let items ← unpackItems (.ref s1.heap.objs.size) 2 none; assignInOrder [fun v => bindName X.env y v, fun v => bindName X.env x v] items.reverse; pure Flow.next) _ _ _
  refine wpAny_bind (wpAny_rule (wpAny_bind (unpackItems_tuple (items := #[u1, u2]) (I.ok.hd hc) (IsTup.new s1.heap _) fun h' hx' => ?_)))
  have I3 := I2.kept (h' := h') (t' := s1.toks) fun b o e => hx' b o (Nat.ne_of_lt (Heap.lt_size e)) e
  show wpAny _ _ (assignInOrder [fun v => bindName X.env y v, fun v => bindName X.env x v] [u2, u1] >>= fun _ => pure Flow.next) _ _ _
  refine wpAny_bind (assignInOrder_cons (wpAny_bindName (store_ok I3 hN hj (.inl hy) rw' (fun s2 I4 => ?_) (.inr hy))))
  refine assignInOrder_cons (wpAny_bindName (store_ok I4 hN hi (.inl hx) rv (fun s3 I5 => assignInOrder_nil (wpAny_pure ?_)) (.inr hx)))
  rw [List.set_comm _ _ (Ne.symm hij)] at I5
  exact ⟨_, H1, I5, q1⟩
/-- name op= e -/
def tAug (i : Nat) (te : TE) (ti : TIp) : TS := fun D σ H => ∃ x, σ[i]? = some (some x) ∧ te σ H fun y H1 => ti x y H1 fun z H2 => D.nx (σ.set i (some z)) H2
theorem ps_aug {i : Nat} {x : Str} {e : Expr} {te : TE} {op : Operator} {ti : TIp} {pos' : Pos} (hN : X.N.Nodup) (hi : X.N[i]? = some x) (hx : Loc X.env.scope x) (he : PE X e te) (ho : PIp X op ti) (hf : X.fn x = true ∨ X.env.scope.names.lookup x = some .local := by first | exact .inl rfl | exact .inr rfl | assumption) :
    PS X (.AugAssign (.Name x pos') op e pos) (tAug i te ti) := by
  intro pins s σ H D I h
  obtain ⟨v, e1, h⟩ := h
  obtain ⟨m, hn, hl⟩ := I.loc
  have vis : Vis X.env.scope x := by rcases hx with k | k; exact .inl k; exact .inr (.inl k)
  obtain ⟨u, r, l⟩ := hl i x v hi e1 vis
  refine wpAny_AugAssign_Name ?_
  have go : wpAny (model X.prog X.w) X.A (eval e X.env) (fun w s₂ => wpAny (model X.prog X.w) X.A (inplaceOp op u w) (fun r s₃ => wpAny (model X.prog X.w) X.A (storeName X.env x r) (fun _ => SP X pins D .next) X.xe s₃) X.xe s₂) X.xe s := by
    refine thn (he pins s σ H _ I h) fun w s1 ⟨y, H1, I1, r1, q1⟩ => ?_
    refine thn (ho pins s1 σ H1 v y u w _ I1 r r1 q1) fun z s2 ⟨zv, H2, I2, r2, q2⟩ => ?_
    exact store_ok I2 hN hi hx r2 (fun s3 I3 => ⟨_, H2, I3, q2⟩) hf
  rcases l with ⟨hk, hm⟩ | ⟨hk, c, hc, hcell⟩
  · exact wpAny_loadName_local I.ok.kind hk hn hm go
  · rcases hk with hk | hk
    · exact wpAny_loadName_cell I.ok.kind hk hc hcell go
    · rcases hx with k | k
      · have : X.env.scope.names.lookup x = some .free := hk
        rw [k] at this; cases this
      · have : X.env.scope.names.lookup x = some .free := hk
        rw [k] at this; cases this
/-- o[i] op= e -/
def tAugS (to ti te : TE) (tget : V → V → Hp → VK → Prop) (tip : TIp) (tset : TSet) : TS := fun D σ H => to σ H fun o H1 => ti σ H1 fun i H2 => tget o i H2 fun x H3 => te σ H3 fun y H4 => tip x y H4 fun z H5 => tset o i z H5 fun H6 => D.nx σ H6
/-- o[i], by values -/
def PGet (X : Cx) (t : V → V → Hp → VK → Prop) : Prop :=
  ∀ (pins : List (Addr × Obj)) (s : Shared) (σ : St) (H : Hp) (o i : V) (ov iv : Value) (Q : VK), Inv X pins σ H s → RelV o ov → RelV i iv → t o i H Q →
    wpAny (model X.prog X.w) X.A (getItem ov iv) (EP X pins σ Q) X.xe s
theorem ps_augS {o i e : Expr} {to ti te : TE} {tget : V → V → Hp → VK → Prop} {tip : TIp} {tset : TSet} {op : Operator} {tpos : Pos} (ho : PE X o to) (hi : PE X i ti) (hg : PGet X tget) (he : PE X e te) (hp : PIp X op tip) (hs : PSet X tset)
    (ha : ∀ ov iv new, augStore i ov iv new = (do holding [new, ov, iv] (setItem ov iv new); release [new, ov, iv] []; pure .next) := by intros; rfl) : PS X (.AugAssign (.Subscript o i tpos) op e pos) (tAugS to ti te tget tip tset) := by
  intro pins s σ H D I h
  refine wpAny_AugAssign_SubscriptAny (thn (ho pins s σ H _ I h) fun ov s1 ⟨x1, H1, I1, r1, q1⟩ => ?_) ha
  refine thn (hi pins s1 σ H1 _ I1 q1) fun iv s2 ⟨x2, H2, I2, r2, q2⟩ => ?_
  refine thn (hg pins s2 σ H2 x1 x2 ov iv _ I2 r1 r2 q2) fun old s3 ⟨x3, H3, I3, r3, q3⟩ => ?_
  refine thn (he pins s3 σ H3 _ I3 q3) fun v s4 ⟨x4, H4, I4, r4, q4⟩ => ?_
  refine thn (hp pins s4 σ H4 x3 x4 old v _ I4 r3 r4 q4) fun new s5 ⟨x5, H5, I5, r5, q5⟩ => ?_
  exact thn (hs pins s5 σ H5 x1 x2 x5 ov iv new _ I5 r1 r2 r5 q5) fun _ s6 ⟨H6, I6, q6⟩ => ⟨σ, H6, I6, q6⟩
/-- ints -/
def ipI (f : Int → Int → Int) : TIp := fun x y H Q => ∃ i j, x = .int i ∧ y = .int j ∧ Q (.int (f i j)) H
theorem ip_add : PIp X .Add (ipI fun i j => i + j) := by
  intro pins s σ H x y v u Q I r1 r2 h
  obtain ⟨i, j, e1, e2, q⟩ := h
  subst e1; subst e2
  obtain ⟨t, rfl⟩ := r1
  obtain ⟨t', rfl⟩ := r2
  exact iadd_int ⟨.int _, H, I.tok _, ⟨_, rfl⟩, q⟩
theorem ip_sub : PIp X .Sub (ipI fun i j => i - j) := by
  intro pins s σ H x y v u Q I r1 r2 h
  obtain ⟨i, j, e1, e2, q⟩ := h
  subst e1; subst e2
  obtain ⟨t, rfl⟩ := r1
  obtain ⟨t', rfl⟩ := r2
  exact isub_int ⟨.int _, H, I.tok _, ⟨_, rfl⟩, q⟩
end

/-! ### while -/
section
variable {X : Cx} {pos : Pos}
/-- the invariant W with its measure -/
def tWhile (c : TT) (tb : TS) : TS := fun D σ H => ∃ W : Nat → St → Hp → Prop, (∃ m, W m σ H) ∧ ∀ m σ H, W m σ H →
  c σ H fun b H1 => if b = true then ∃ N : St → Hp → Prop, (∀ σ' H', N σ' H' → ∃ m', m' < m ∧ W m' σ' H') ∧ tb { D with nx := N, ct := N, bk := D.nx } σ H1 else D.nx σ H1
theorem ps_while {c : Expr} {body : List Stmt} {tc : TT} {tb : TS} (hp : PassesOwn (model X.prog X.w) X.A X.env X.xe) (hc : PT X c tc) (hb : PSs X body tb) : PS X (.While c body [] pos) (tWhile tc tb) := by
  intro pins s σ H D I h
  obtain ⟨W, ⟨m0, w0⟩, turn⟩ := h
  refine wpAny_While (codeAny_whileLoop (fun n s' => ∃ σ' H', Inv X pins σ' H' s' ∧ W n σ' H') ?_ m0 ⟨σ, H, I, w0⟩)
  rintro n s1 ⟨σ1, H1, I1, w1⟩
  refine wpAny_passesOwn hp (thn (hc pins s1 σ1 H1 _ I1 (turn n σ1 H1 w1)) fun b s2 ⟨H2, I2, q2⟩ => ?_)
  cases b with
  | true =>
    obtain ⟨N, hN, q2⟩ := q2
    rw [if_pos rfl]
    refine wpAny_passesOwn hp (thn (hb pins s2 σ1 H2 _ I2 q2) fun f s3 q3 => ?_)
    cases f with
    | next =>
      obtain ⟨σ3, H3, I3, n3⟩ := q3
      obtain ⟨m', hm, w3⟩ := hN σ3 H3 n3
      exact ⟨m', hm, σ3, H3, I3, w3⟩
    | cont =>
      obtain ⟨σ3, H3, I3, n3⟩ := q3
      obtain ⟨m', hm, w3⟩ := hN σ3 H3 n3
      exact ⟨m', hm, σ3, H3, I3, w3⟩
    | brk => exact q3
    | ret v => exact q3
  | false =>
    rw [if_neg Bool.false_ne_true]
    exact wpAny_execs_nil ⟨σ1, H2, I2, q2⟩
end

/-! ### what a loop or a comprehension walks -/
/-- at turn i: it yields x (the heap may grow), or it stops -/
structure It where
  go : Nat → Hp → Prop
  yld : Nat → Hp → V → Hp → Prop
  stop : Nat → Hp → Prop
/-- the iterator's own objects may turn: they are not the frame's, not pinned, younger than the entry (or a comprehension's own) -/
def FpOk (X : Cx) (pins : List (Addr × Obj)) (H : Hp) (b : Addr) : Prop :=
  H b = none ∧ b ≠ X.env.locals ∧ b ∉ X.fs ∧ (b ∈ X.ex ∨ X.s₀.heap.objs.size ≤ b) ∧ (∀ x c, X.env.cells.lookup x = some c → c ≠ b) ∧ ∀ p ∈ X.pn ++ pins, p.1 ≠ b
theorem Inv.fpOk {X : Cx} {pins : List (Addr × Obj)} {σ : St} {H H' : Hp} {s : Shared} {b : Addr} (I : Inv X pins σ H s) (hb : s.heap.objs.size ≤ b) (hn : H' b = none) : FpOk X pins H' b := by
  refine ⟨hn, Nat.ne_of_gt (Nat.lt_of_lt_of_le I.lt hb), I.nofs hb, .inr (Nat.le_trans I.sz hb), fun x c e z => ?_, fun p hp z => ?_⟩
  · obtain ⟨v, q⟩ := I.cell x c e
    exact absurd (Nat.lt_of_lt_of_le q.lt (by rw [z]; exact hb)) (Nat.lt_irrefl _)
  · exact absurd (Nat.lt_of_lt_of_le (Heap.lt_size (I.pin p hp).1) (by rw [z]; exact hb)) (Nat.lt_irrefl _)
structure Turn (P : Program) (w : World) (K : PySem.W.Frag) (tg : Expr) (J : It) (fp : List Addr) (it : Addr) (tn : Nat → Heap → Prop) : Prop where
  mem : it ∈ fp
  obj : ∀ i h, tn i h → ∀ b ∈ fp, ∃ o, h.get? b = some o ∧ ∀ v, o.data ≠ .cell v
  keep : ∀ i h h', tn i h → (∀ b ∈ fp, ∀ o, h.get? b = some o → h'.get? b = some o) → tn i h'
  item : ∀ (X : Cx), X.prog = P → X.w = w → X.K = K → X.calm = true → ∀ (i : Nat) (pins : List (Addr × Obj)) (s : Shared) (σ : St) (H : Hp) (E : Value → Shared → Prop), Inv X pins σ H s → (∀ b ∈ fp, FpOk X pins H b) → tn i s.heap → J.go i H →
    wpAny (model P w) X.A (pyNext (.ref it)) (fun r s1 => ∃ u, r = some u ∧
      wpAny (model P w) X.A (letOwnedTupleGo tg (.ref it) u) (fun _ s2 => ∃ x H', Inv X pins σ H' s2 ∧ RelV x u ∧ J.yld i H x H' ∧ tn (i + 1) s2.heap ∧ ∀ b ∈ fp, H' b = none) E s1) E s
  done : ∀ (X : Cx), X.prog = P → X.w = w → X.K = K → X.calm = true → ∀ (i : Nat) (pins : List (Addr × Obj)) (s : Shared) (σ : St) (H : Hp) (E : Value → Shared → Prop), Inv X pins σ H s → (∀ b ∈ fp, FpOk X pins H b) → tn i s.heap → J.stop i H →
    wpAny (model P w) X.A (pyNext (.ref it)) (fun r s1 => r = none ∧ Inv X pins σ H s1) E s
  self : ∀ (A : Around) (i : Nat) (s : Shared) (Q : Value → Shared → Prop) (E : Value → Shared → Prop), tn i s.heap → Q (.ref it) s → wpAny (model P w) A (pyIter (.ref it)) Q E s
abbrev TI := St → Hp → (It → Hp → Prop) → Prop
/-- an iterator has come -/
def PIE (X : Cx) (pins : List (Addr × Obj)) (σ : St) (tg : Expr) (R : It → Hp → Prop) (itv : Value) (s2 : Shared) : Prop :=
  ∃ (it : Addr) (fp : List Addr) (tn : Nat → Heap → Prop) (J : It) (H' : Hp), itv = .ref it ∧ Inv X pins σ H' s2 ∧ Turn X.prog X.w X.K tg J fp it tn ∧ tn 0 s2.heap ∧ (∀ b ∈ fp, FpOk X pins H' b) ∧ R J H'
def PI (X : Cx) (tg iter : Expr) (wi : TI) : Prop :=
  ∀ (pins : List (Addr × Obj)) (s : Shared) (σ : St) (H : Hp) (R : It → Hp → Prop), Inv X pins σ H s → wi σ H R →
    wpAny (model X.prog X.w) X.A (eval iter X.env) (fun v s1 => wpAny (model X.prog X.w) X.A (pyIter v) (PIE X pins σ tg R) X.xe s1) X.xe s

/-- the step ahead of the store is nothing for an iterator that keeps no tuple -/
theorem go_of {M : Model} {A : Around} {E : Value → Shared → Prop} {s : Shared} {tg : Expr} {it : Addr} {u : Value} {o : Obj} {n : String} {vs : Array Value} {Q : Unit → Shared → Prop} (ho : s.heap.get? it = some o) (hc : o.cls = .type n) (hd : o.data = .fields vs)
    (hn : ["enumerate", "zip", "dict_itemiterator", "dict_reverseitemiterator", "odict_iterator", "itertools.zip_longest", "itertools.pairwise"].contains n = false) (hQ : Q () s) : wpAny M A (letOwnedTupleGo tg (.ref it) u) Q E s := by
  unfold letOwnedTupleGo
  cases tg <;> first
    | exact wpAny_pure hQ
    | (cases u <;> first
        | exact wpAny_pure hQ
        | (refine wpAny_bind (wpAny_load ho ?_)
           rw [hc, hd]
           show wpAny M A (if (["enumerate", "zip", "dict_itemiterator", "dict_reverseitemiterator", "odict_iterator", "itertools.zip_longest", "itertools.pairwise"].contains n && vs[0]? == some (rawInt _)) = true then _ else _) Q E s
           rw [if_neg (by intro h; rw [hn, Bool.false_and] at h; cases h)]
           exact wpAny_pure hQ))

/-- the list at a, as it stands at each turn (a loop may append to it) -/
def Itl (K : PySem.W.Frag) (a : Addr) : It :=
  ⟨fun i H => ∃ xs x, SqL K H a xs ∧ xs[i]? = some x, fun i H x H' => H' = H ∧ ∀ xs, SqL K H a xs → xs[i]? = some x, fun i H => ∃ xs, SqL K H a xs ∧ xs.length ≤ i⟩
def Itt (K : PySem.W.Frag) (a : Addr) : It :=
  ⟨fun i H => ∃ xs x, SqT K H a xs ∧ xs[i]? = some x, fun i H x H' => H' = H ∧ ∀ xs, SqT K H a xs → xs[i]? = some x, fun i H => ∃ xs, SqT K H a xs ∧ xs.length ≤ i⟩
/-- lo, lo + 1, .. (n of them) -/
def Itr (lo : Int) (n : Nat) : It := ⟨fun i _ => i < n, fun i H x H' => H' = H ∧ x = .int (lo + i), fun i _ => n ≤ i⟩
theorem turn_list {P : Program} {w : World} {K : PySem.W.Frag} {tg : Expr} (a it : Addr) : Turn P w K tg (Itl K a) [it] it (fun i h => h.IsListIter it a i) where
  mem := by simp
  obj := fun i h st b hb => by
    have e : b = it := by simpa using hb
    subst e
    obtain ⟨o, e, c, d⟩ := st
    exact ⟨o, e, fun v z => by rw [d] at z; cases z⟩
  keep := fun i h h' st k => st.at fun o e => k it (by simp) o e
  item := by
    intro X hP hw hK hc i pins s σ H E I hf st hg
    subst hP hw hK
    obtain ⟨xs, x, hq, hx⟩ := hg
    obtain ⟨its, rv, p, hz⟩ := I.list hq
    obtain ⟨u, hu, ru⟩ := rv.get hx
    obtain ⟨f0, f1, f2, f3, f4, f5⟩ := hf it (by simp)
    refine wpAny_pyNext_list_item st p.isList (x := u) (by simpa using hu) fun h' st' sb => ?_
    have I1 : Inv X pins σ H { s with heap := h' } := I.turned (t' := s.toks) (fun b o hb e => (sb.2 b hb).trans e) f0 f1 f3 f4 f5
    obtain ⟨o, e, c, d⟩ := id st'
    exact ⟨u, rfl, go_of (s := { s with heap := h' }) e c d (by decide) ⟨x, H, I1, ru, ⟨rfl, fun ys hy => by rw [I.list_inj hy hq]; exact hx⟩, st', fun b hb => (hf b hb).1⟩⟩
  done := by
    intro X hP hw hK hc i pins s σ H E I hf st hg
    subst hP hw hK
    obtain ⟨xs, hq, hx⟩ := hg
    obtain ⟨its, rv, p, hz⟩ := I.list hq
    obtain ⟨f0, f1, f2, f3, f4, f5⟩ := hf it (by simp)
    have hl := rv.length
    exact wpAny_pyNext_list_end (I.ok.hd hc) st p.isList (by simp; omega) fun h' eb => ⟨rfl, I.turned (t' := s.toks) (fun b o hb e => eb b o hb e) f0 f1 f3 f4 f5⟩
  self := fun _ _ _ _ _ st h => wpAny_pyIter_listiter st h
theorem turn_tuple {P : Program} {w : World} {K : PySem.W.Frag} {tg : Expr} (a it : Addr) : Turn P w K tg (Itt K a) [it] it (fun i h => h.IsTupleIter it a i) where
  mem := by simp
  obj := fun i h st b hb => by
    have e : b = it := by simpa using hb
    subst e
    obtain ⟨o, e, c, d⟩ := st
    exact ⟨o, e, fun v z => by rw [d] at z; cases z⟩
  keep := fun i h h' st k => st.at fun o e => k it (by simp) o e
  item := by
    intro X hP hw hK hc i pins s σ H E I hf st hg
    subst hP hw hK
    obtain ⟨xs, x, hq, hx⟩ := hg
    obtain ⟨its, rv, p, hz⟩ := I.tuple hq
    obtain ⟨u, hu, ru⟩ := rv.get hx
    obtain ⟨f0, f1, f2, f3, f4, f5⟩ := hf it (by simp)
    refine wpAny_pyNext_tuple_item st (show s.heap.IsTuple a its.toArray from p) (x := u) (by simpa using hu) fun h' st' sb => ?_
    have I1 : Inv X pins σ H { s with heap := h' } := I.turned (t' := s.toks) (fun b o hb e => (sb.2 b hb).trans e) f0 f1 f3 f4 f5
    obtain ⟨o, e, c, d⟩ := id st'
    exact ⟨u, rfl, go_of (s := { s with heap := h' }) e c d (by decide) ⟨x, H, I1, ru, ⟨rfl, fun ys hy => by rw [I.tuple_inj hy hq]; exact hx⟩, st', fun b hb => (hf b hb).1⟩⟩
  done := by
    intro X hP hw hK hc i pins s σ H E I hf st hg
    subst hP hw hK
    obtain ⟨xs, hq, hx⟩ := hg
    obtain ⟨its, rv, p, hz⟩ := I.tuple hq
    obtain ⟨f0, f1, f2, f3, f4, f5⟩ := hf it (by simp)
    have hl := rv.length
    exact wpAny_pyNext_tuple_end (I.ok.hd hc) st (show s.heap.IsTuple a its.toArray from p) (by simp; omega) fun h' eb => ⟨rfl, I.turned (t' := s.toks) (fun b o hb e => eb b o hb e) f0 f1 f3 f4 f5⟩
  self := fun _ _ _ _ _ st h => wpAny_pyIter_tupleiter st h
theorem turn_range {P : Program} {w : World} {K : PySem.W.Frag} {tg : Expr} (it : Addr) (lo : Int) (n : Nat) : Turn P w K tg (Itr lo n) [it] it (fun i h => IsRangeIter h it (lo + (i : Nat) * 1) ((n : Int) - (i : Nat)) 1) where
  mem := by simp
  obj := fun i h st b hb => by
    have e : b = it := by simpa using hb
    subst e
    exact ⟨_, st, fun v z => by
      have z' : Data.fields _ = Data.cell v := z
      cases z'⟩
  keep := fun i h h' st k => k it (by simp) _ st
  item := by
    intro X hP hw hK hc i pins s σ H E I hf st hg
    subst hP hw hK
    obtain ⟨f0, f1, f2, f3, f4, f5⟩ := hf it (by simp)
    have W := Walks.range (prog := X.prog) (w := X.w) (I.ok.hd hc) it lo 1 n
    refine W.item i s _ _ hg st fun v h' tk hv st' kk => ?_
    obtain ⟨t, rfl⟩ := hv
    have I1 : Inv X pins σ H { s with heap := h', toks := tk } := I.turned (fun b o hb e => kk b o (by simpa using hb) e) f0 f1 f3 f4 f5
    refine ⟨_, rfl, go_of (s := { s with heap := h', toks := tk }) (n := "range_iterator") st' rfl rfl (by decide) ⟨.int (lo + i), H, I1, ⟨t, ?_⟩, ⟨rfl, rfl⟩, st', fun b hb => (hf b hb).1⟩⟩
    rw [Int.mul_one]
  done := by
    intro X hP hw hK hc i pins s σ H E I hf st hg
    subst hP hw hK
    obtain ⟨f0, f1, f2, f3, f4, f5⟩ := hf it (by simp)
    exact wpAny_pyNext_range_end (I.ok.hd hc) st (by have : n ≤ i := hg; omega) fun h' eb => ⟨rfl, I.turned (t' := s.toks) (fun b o hb e => eb b o hb e) f0 f1 f3 f4 f5⟩
  self := fun _ _ _ _ _ st h => wpAny_pyIter_rangeiter st h
end L2

namespace L2
open PySem PySem.Spec PyProof.Rows
section
variable {X : Cx} {tg : Expr}
def iList (K : PySem.W.Frag) (tl : TE) : TI := fun σ H R => tl σ H fun x H1 => ∃ a, x = .ref a ∧ (∃ xs, SqL K H1 a xs) ∧ R (Itl K a) H1
def iTup (K : PySem.W.Frag) (tl : TE) : TI := fun σ H R => tl σ H fun x H1 => ∃ a, x = .ref a ∧ (∃ xs, SqT K H1 a xs) ∧ R (Itt K a) H1
theorem pi_list {l : Expr} {tl : TE} (hl : PE X l tl) : PI X tg l (iList X.K tl) := by
  intro pins s σ H R I h
  refine thn (hl pins s σ H _ I h) fun v s1 ⟨x, H1, I1, r1, q1⟩ => ?_
  obtain ⟨a, e, ⟨xs, hq⟩, q⟩ := q1
  subst e
  cases r1
  obtain ⟨its, rv, p, hz⟩ := I1.list hq
  refine wpAny_pyIter_list p.isList ?_
  refine ⟨s1.heap.objs.size, [s1.heap.objs.size], _, _, H1, rfl, I1.kept (t' := s1.toks) fun b o e => Heap.get?_push_of_some _ e, turn_list a _, ⟨_, Heap.get?_push_size _ rfl, rfl, rfl⟩, fun b hb => ?_, q⟩
  have e : b = s1.heap.objs.size := by simpa using hb
  subst e
  exact I1.fpOk (Nat.le_refl _) (I1.hok.fresh (Nat.le_refl _))
theorem pi_tup {l : Expr} {tl : TE} (hl : PE X l tl) : PI X tg l (iTup X.K tl) := by
  intro pins s σ H R I h
  refine thn (hl pins s σ H _ I h) fun v s1 ⟨x, H1, I1, r1, q1⟩ => ?_
  obtain ⟨a, e, ⟨xs, hq⟩, q⟩ := q1
  subst e
  cases r1
  obtain ⟨its, rv, p, hz⟩ := I1.tuple hq
  refine wpAny_pyIter_tuple (show s1.heap.IsTuple a its.toArray from p) ?_
  refine ⟨s1.heap.objs.size, [s1.heap.objs.size], _, _, H1, rfl, I1.kept (t' := s1.toks) fun b o e => Heap.get?_push_of_some _ e, turn_tuple a _, ⟨_, Heap.get?_push_size _ rfl, rfl, rfl⟩, fun b hb => ?_, q⟩
  have e : b = s1.heap.objs.size := by simpa using hb
  subst e
  exact I1.fpOk (Nat.le_refl _) (I1.hok.fresh (Nat.le_refl _))
/-- a range object just made, walked -/
theorem range_it {pins : List (Addr × Obj)} {σ : St} {H : Hp} {s : Shared} {R : It → Hp → Prop} {E : Value → Shared → Prop} {lo hi : Int} {t u v : Tok} {tk : Nat} (I : Inv X pins σ H s) (h1 : -(2 ^ 62) ≤ lo) (h2 : lo < 2 ^ 62) (h3 : -(2 ^ 62) ≤ hi) (h4 : hi < 2 ^ 62)
    (q : R (Itr lo (hi - lo).toNat) H) : wpAny (model X.prog X.w) X.A (pyIter (.ref s.heap.objs.size)) (PIE X pins σ tg R) E { s with heap := s.heap.push { cls := .type "range", data := .fields #[.int lo t, .int hi u, .int 1 v] }, toks := tk } := by
  refine wpAny_pyIter_range (IsRange.new ..) (small_one h1 h2 h3 h4) ?_
  have I1 : Inv X pins σ H { s with heap := s.heap.push { cls := .type "range", data := .fields #[.int lo t, .int hi u, .int 1 v] }, toks := tk } := I.kept fun b o e => Heap.get?_push_of_some _ e
  refine ⟨(s.heap.push { cls := .type "range", data := .fields #[.int lo t, .int hi u, .int 1 v] }).objs.size, [(s.heap.push { cls := .type "range", data := .fields #[.int lo t, .int hi u, .int 1 v] }).objs.size], _, _, H, rfl,
    I1.kept (t' := tk) fun b o e => Heap.get?_push_of_some _ e, turn_range _ lo (hi - lo).toNat, ?_, fun b hb => ?_, q⟩
  · have e1 : lo + ((0 : Nat) : Int) * 1 = lo := by simp
    have e2 : (((hi - lo).toNat : Nat) : Int) - ((0 : Nat) : Int) = Builtin.Range.rangeSize lo hi 1 := by rw [rangeSize_one]; split <;> omega
    show IsRangeIter _ _ (lo + ((0 : Nat) : Int) * 1) ((((hi - lo).toNat : Nat) : Int) - ((0 : Nat) : Int)) 1
    rw [e1, e2]
    exact Heap.get?_push_size _ rfl
  · have e : b = (s.heap.push { cls := .type "range", data := .fields #[.int lo t, .int hi u, .int 1 v] }).objs.size := by simpa using hb
    subst e
    exact I1.fpOk (Nat.le_refl _) (I1.hok.fresh (Nat.le_refl _))
def iRng1 (ta : TA) : TI := fun σ H R => ta σ H fun vs H1 => ∃ j : Int, vs = [.int j] ∧ -(2 ^ 62) ≤ j ∧ j < 2 ^ 62 ∧ R (Itr 0 j.toNat) H1
def iRng2 (ta : TA) : TI := fun σ H R => ta σ H fun vs H1 => ∃ i j : Int, vs = [.int i, .int j] ∧ (-(2 ^ 62) ≤ i ∧ i < 2 ^ 62 ∧ -(2 ^ 62) ≤ j ∧ j < 2 ^ 62) ∧ R (Itr i (j - i).toNat) H1
theorem pi_range1 {a : Expr} {ta : TA} {p pos : Pos} (hg : Gl X "range") (hm : X.mg "range" = none) (ha : PA X [a] ta) (hs : starEach [a] X.env = [(false, eval a X.env)] := by rfl) : PI X tg (.Call (.Name "range" p) [a] [] pos) (iRng1 ta) := by
  intro pins s σ H R I h
  refine Call_ (ld_blt I hg hm boot_range (PyProof.Rows.callWith_type1 (thn (ha pos pins s σ H _ I h) fun us s1 ⟨vs, H1, I1, r1, q1⟩ => ?_) hs rfl))
  obtain ⟨j, e, q1, q2, q⟩ := q1
  subst e
  cases r1 with
  | cons r rr =>
    cases rr
    obtain ⟨t, rfl⟩ := r
    exact call_range_1 (range_it I1 (by omega) (by omega) q1 q2 (by simpa using q))
theorem pi_range2 {a b : Expr} {ta : TA} {p pos : Pos} (hg : Gl X "range") (hm : X.mg "range" = none) (ha : PA X [a, b] ta) (hs : starEach [a, b] X.env = [(false, eval a X.env), (false, eval b X.env)] := by rfl) (hs2 : starEach [b] X.env = [(false, eval b X.env)] := by rfl) :
    PI X tg (.Call (.Name "range" p) [a, b] [] pos) (iRng2 ta) := by
  intro pins s σ H R I h
  refine Call_ (ld_blt I hg hm boot_range (PyProof.Rows.callWith_type1 (thn (ha pos pins s σ H _ I h) fun us s1 ⟨vs, H1, I1, r1, q1⟩ => ?_) (by rw [hs, hs2]) (by rw [hs2]; rfl)))
  obtain ⟨i, j, e, ⟨q1, q2, q3, q4⟩, q⟩ := q1
  subst e
  cases r1 with
  | cons r rr =>
    cases rr with
    | cons r' rr =>
      cases rr
      obtain ⟨t, rfl⟩ := r
      obtain ⟨t', rfl⟩ := r'
      exact call_range_2 (range_it I1 q1 q2 q3 q4 q)

/-! ### for -/
/-- W: the invariant by the turn and a measure; N: what the body is to reach -/
def tFor (wi : TI) (g : TG) (tb : TS) : TS := fun D σ H => wi σ H fun J H1 => ∃ W : Nat → Nat → St → Hp → Prop, (∃ m, W 0 m σ H1) ∧ ∀ i m σ H, W i m σ H →
  (J.stop i H ∧ D.nx σ H) ∨ (J.go i H ∧ ∃ N : St → Hp → Prop, (∀ σ' H', N σ' H' → ∃ m', m' < m ∧ W (i + 1) m' σ' H') ∧ ∀ x H', J.yld i H x H' → g x σ H' fun σ2 H2 => tb { D with nx := N, ct := N, bk := D.nx } σ2 H2)
/-- the records at fp as they stand -/
def pinsAt (fp : List Addr) (h : Heap) : List (Addr × Obj) := fp.filterMap fun b => (h.get? b).map fun o => (b, o)
theorem mem_pinsAt {fp : List Addr} {h : Heap} {b : Addr} {o : Obj} (hb : b ∈ fp) (e : h.get? b = some o) : (b, o) ∈ pinsAt fp h := List.mem_filterMap.mpr ⟨b, hb, by rw [e]; rfl⟩
theorem of_pinsAt {fp : List Addr} {h : Heap} {p : Addr × Obj} (hp : p ∈ pinsAt fp h) : p.1 ∈ fp ∧ h.get? p.1 = some p.2 := by
  obtain ⟨b, hb, e⟩ := List.mem_filterMap.mp hp
  cases q : h.get? b with
  | none => rw [q] at e; cases e
  | some o =>
    rw [q] at e
    have e' : (b, o) = p := Option.some.inj e
    subst e'
    exact ⟨hb, q⟩
theorem Inv.pinned {pins : List (Addr × Obj)} {σ : St} {H : Hp} {s : Shared} {fp : List Addr} (I : Inv X pins σ H s) (hf : ∀ b ∈ fp, FpOk X pins H b) (ho : ∀ b ∈ fp, ∃ o, s.heap.get? b = some o ∧ ∀ v, o.data ≠ .cell v) : Inv X (pins ++ pinsAt fp s.heap) σ H s :=
  I.pins_of fun p hp => (List.mem_append.mp hp).elim (fun z => I.pin p (List.mem_append_right _ z)) fun z => by
    obtain ⟨hb, e⟩ := of_pinsAt z
    obtain ⟨f0, f1, f2, _⟩ := hf p.1 hb
    obtain ⟨o, e', d⟩ := ho p.1 hb
    rw [e] at e'; cases e'
    exact ⟨e, f0, f1, f2, d⟩
theorem Inv.unpinned {pins pl : List (Addr × Obj)} {σ : St} {H : Hp} {s : Shared} (I : Inv X (pins ++ pl) σ H s) : Inv X pins σ H s := I.pins_of fun p hp => I.pin p (List.mem_append_right _ (List.mem_append_left _ hp))
theorem ps_for {iter : Expr} {body : List Stmt} {wi : TI} {g : TG} {tb : TS} {pos : Pos} (hp : PassesOwn (model X.prog X.w) X.A X.env X.xe) (hc : X.calm = true) (hi : PI X tg iter wi) (hg : PG X tg g) (hb : PSs X body tb)
    (hs : ∀ x, foldedSetIterable iter X.env x = pure x := by intro _; rfl) : PS X (.For tg iter body [] pos) (tFor wi g tb) := by
  intro pins s σ H D I h
  refine wpAny_For (thn (hi pins s σ H _ I h) fun v s1 h1 => thn h1 fun itv s2 h2 => ?_) hs
  obtain ⟨it, fp, tn, J, H2, e, I2, T, st2, f2, W, ⟨m0, w0⟩, turn⟩ := h2
  subst e
  -- what stays true of the iterator's objects through the loop
  have stat : ∀ {H' : Hp}, (∀ b ∈ fp, H' b = none) → ∀ b ∈ fp, FpOk X pins H' b := fun hn b hb => ⟨hn b hb, (f2 b hb).2⟩
  refine codeAny_forLoop_any (fun n s' => ∃ i σ' H', Inv X pins σ' H' s' ∧ tn i s'.heap ∧ (∀ b ∈ fp, H' b = none) ∧ W i n σ' H') ?_ m0 ⟨0, σ, H2, I2, st2, fun b hb => (f2 b hb).1, w0⟩
  rintro n s3 ⟨i, σ3, H3, I3, st3, fr3, w3⟩
  rcases turn i n σ3 H3 w3 with ⟨stop, qn⟩ | ⟨go, N, hN, step⟩
  · refine wpAny_passesOwn hp (thn (T.done X rfl rfl rfl hc i pins s3 σ3 H3 X.xe I3 (stat fr3) st3 stop) fun r s4 ⟨hr, I4⟩ => ?_)
    subst hr
    exact wpAny_execs_nil ⟨σ3, H3, I4, qn⟩
  · refine wpAny_passesOwn hp (thn (T.item X rfl rfl rfl hc i pins s3 σ3 H3 X.xe I3 (stat fr3) st3 go) fun r s4 ⟨u, hr, h4⟩ => ?_)
    subst hr
    refine wpAny_passesOwn hp (thn h4 fun _ s5 ⟨x, H5, I5, r5, y5, st5, fr5⟩ => ?_)
    have I5' := I5.pinned (stat fr5) (T.obj _ _ st5)
    refine wpAny_passesOwn hp (thn (hg _ s5 σ3 H5 x u _ I5' r5 (step x H5 y5)) fun _ s6 ⟨σ6, H6, I6, q6⟩ => ?_)
    refine wpAny_passesOwn hp (thn (hb _ s6 σ6 H6 _ I6 q6) fun f s7 q7 => ?_)
    have again : ∀ {σ7 : St} {H7 : Hp}, Inv X (pins ++ pinsAt fp s5.heap) σ7 H7 s7 → N σ7 H7 → ∃ m, m < n ∧ ∃ i σ' H', Inv X pins σ' H' s7 ∧ tn i s7.heap ∧ (∀ b ∈ fp, H' b = none) ∧ W i m σ' H' := fun {σ7 H7} I7 n7 => by
      obtain ⟨m', hm, w7⟩ := hN σ7 H7 n7
      refine ⟨m', hm, i + 1, σ7, H7, I7.unpinned, T.keep _ _ _ st5 fun b hb o e => (I7.pin (b, o) (List.mem_append_right _ (List.mem_append_right _ (mem_pinsAt hb e)))).1, fun b hb => ?_, w7⟩
      obtain ⟨o, e, d⟩ := T.obj _ _ st5 b hb
      exact (I7.pin (b, o) (List.mem_append_right _ (List.mem_append_right _ (mem_pinsAt hb e)))).2.1
    cases f with
    | next => obtain ⟨σ7, H7, I7, n7⟩ := q7; exact again I7 n7
    | cont => obtain ⟨σ7, H7, I7, n7⟩ := q7; exact again I7 n7
    | brk => obtain ⟨σ7, H7, I7, q7⟩ := q7; exact ⟨σ7, H7, I7.unpinned, q7⟩
    | ret v => obtain ⟨x7, σ7, H7, I7, r7, q7⟩ := q7; exact ⟨x7, σ7, H7, I7.unpinned, r7, q7⟩
end

/-! ### the forms one uses -/
/-- over a list that the body leaves as it is -/
theorem for_list {K : PySem.W.Frag} {a : Addr} {xs : List V} {g : TG} {tb : TS} {D : Ends} {σ : St} {H : Hp} (Pv : Nat → St → Hp → Prop) (h0 : Pv 0 σ H) (hl : ∀ i σ H, i ≤ xs.length → Pv i σ H → SqL K H a xs)
    (hs : ∀ i x σ H, xs[i]? = some x → Pv i σ H → g x σ H fun σ2 H2 => tb { D with nx := Pv (i + 1), ct := Pv (i + 1), bk := D.nx } σ2 H2) (hd : ∀ σ H, Pv xs.length σ H → D.nx σ H) :
    ∃ W : Nat → Nat → St → Hp → Prop, (∃ m, W 0 m σ H) ∧ ∀ i m σ H, W i m σ H →
      ((Itl K a).stop i H ∧ D.nx σ H) ∨ ((Itl K a).go i H ∧ ∃ N : St → Hp → Prop, (∀ σ' H', N σ' H' → ∃ m', m' < m ∧ W (i + 1) m' σ' H') ∧ ∀ x H', (Itl K a).yld i H x H' → g x σ H' fun σ2 H2 => tb { D with nx := N, ct := N, bk := D.nx } σ2 H2) := by
  refine ⟨fun i m σ H => m = xs.length - i ∧ i ≤ xs.length ∧ Pv i σ H, ⟨xs.length, by simp, Nat.zero_le _, h0⟩, ?_⟩
  rintro i m σ H ⟨rfl, hi, p⟩
  have q := hl i σ H hi p
  by_cases hlt : i < xs.length
  · refine .inr ⟨⟨xs, xs[i], q, by simp [hlt]⟩, Pv (i + 1), fun σ' H' p' => ⟨xs.length - (i + 1), by omega, rfl, hlt, p'⟩, fun x H' y => ?_⟩
    obtain ⟨e, y⟩ := y
    subst e
    exact hs i x σ _ (y xs q) p
  · have e : i = xs.length := by omega
    subst e
    exact .inl ⟨⟨xs, q, Nat.le_refl _⟩, hd σ H p⟩
theorem for_tup {K : PySem.W.Frag} {a : Addr} {xs : List V} {g : TG} {tb : TS} {D : Ends} {σ : St} {H : Hp} (Pv : Nat → St → Hp → Prop) (h0 : Pv 0 σ H) (hl : ∀ i σ H, i ≤ xs.length → Pv i σ H → SqT K H a xs)
    (hs : ∀ i x σ H, xs[i]? = some x → Pv i σ H → g x σ H fun σ2 H2 => tb { D with nx := Pv (i + 1), ct := Pv (i + 1), bk := D.nx } σ2 H2) (hd : ∀ σ H, Pv xs.length σ H → D.nx σ H) :
    ∃ W : Nat → Nat → St → Hp → Prop, (∃ m, W 0 m σ H) ∧ ∀ i m σ H, W i m σ H →
      ((Itt K a).stop i H ∧ D.nx σ H) ∨ ((Itt K a).go i H ∧ ∃ N : St → Hp → Prop, (∀ σ' H', N σ' H' → ∃ m', m' < m ∧ W (i + 1) m' σ' H') ∧ ∀ x H', (Itt K a).yld i H x H' → g x σ H' fun σ2 H2 => tb { D with nx := N, ct := N, bk := D.nx } σ2 H2) := by
  refine ⟨fun i m σ H => m = xs.length - i ∧ i ≤ xs.length ∧ Pv i σ H, ⟨xs.length, by simp, Nat.zero_le _, h0⟩, ?_⟩
  rintro i m σ H ⟨rfl, hi, p⟩
  have q := hl i σ H hi p
  by_cases hlt : i < xs.length
  · refine .inr ⟨⟨xs, xs[i], q, by simp [hlt]⟩, Pv (i + 1), fun σ' H' p' => ⟨xs.length - (i + 1), by omega, rfl, hlt, p'⟩, fun x H' y => ?_⟩
    obtain ⟨e, y⟩ := y
    subst e
    exact hs i x σ _ (y xs q) p
  · have e : i = xs.length := by omega
    subst e
    exact .inl ⟨⟨xs, q, Nat.le_refl _⟩, hd σ H p⟩
theorem for_range {lo : Int} {n : Nat} {g : TG} {tb : TS} {D : Ends} {σ : St} {H : Hp} (Pv : Nat → St → Hp → Prop) (h0 : Pv 0 σ H)
    (hs : ∀ i σ H, i < n → Pv i σ H → g (.int (lo + i)) σ H fun σ2 H2 => tb { D with nx := Pv (i + 1), ct := Pv (i + 1), bk := D.nx } σ2 H2) (hd : ∀ σ H, Pv n σ H → D.nx σ H) :
    ∃ W : Nat → Nat → St → Hp → Prop, (∃ m, W 0 m σ H) ∧ ∀ i m σ H, W i m σ H →
      ((Itr lo n).stop i H ∧ D.nx σ H) ∨ ((Itr lo n).go i H ∧ ∃ N : St → Hp → Prop, (∀ σ' H', N σ' H' → ∃ m', m' < m ∧ W (i + 1) m' σ' H') ∧ ∀ x H', (Itr lo n).yld i H x H' → g x σ H' fun σ2 H2 => tb { D with nx := N, ct := N, bk := D.nx } σ2 H2) := by
  refine ⟨fun i m σ H => m = n - i ∧ i ≤ n ∧ Pv i σ H, ⟨n, by simp, Nat.zero_le _, h0⟩, ?_⟩
  rintro i m σ H ⟨rfl, hi, p⟩
  by_cases hlt : i < n
  · refine .inr ⟨hlt, Pv (i + 1), fun σ' H' p' => ⟨n - (i + 1), by omega, rfl, hlt, p'⟩, fun x H' y => ?_⟩
    obtain ⟨e, y⟩ := y
    subst e y
    exact hs i σ _ hlt p
  · have e : i = n := by omega
    subst e
    exact .inl ⟨Nat.le_refl _, hd σ H p⟩
/-- while, by a word and a measure of the state -/
theorem while_by {c : TT} {tb : TS} {D : Ends} {σ : St} {H : Hp} (Pv : St → Hp → Prop) (μ : St → Hp → Nat) (h0 : Pv σ H)
    (hs : ∀ σ H, Pv σ H → c σ H fun b H1 => if b = true then tb { D with nx := fun σ' H' => Pv σ' H' ∧ μ σ' H' < μ σ H, ct := fun σ' H' => Pv σ' H' ∧ μ σ' H' < μ σ H, bk := D.nx } σ H1 else D.nx σ H1)
    (mono : ∀ σ H Q Q', (∀ b H1, Q b H1 → Q' b H1) → c σ H Q → c σ H Q') : tWhile c tb D σ H := by
  refine ⟨fun m σ H => m = μ σ H ∧ Pv σ H, ⟨_, rfl, h0⟩, ?_⟩
  rintro m σ H ⟨rfl, p⟩
  refine mono σ H _ _ (fun b H1 q => ?_) (hs σ H p)
  cases b with
  | true => exact ⟨_, fun σ' H' ⟨p', l⟩ => ⟨_, l, rfl, p'⟩, q⟩
  | false => exact q
end L2

namespace L2
open PySem PySem.Spec PyProof.Rows

abbrev R2 := V → V → Hp → VK → Prop
/-- a two-place operation on values: f is binaryOp op, inplaceOp op or compareOp op -/
def OpR (X : Cx) (f : Value → Value → Sem Value) (r : R2) : Prop :=
  ∀ (pins : List (Addr × Obj)) (s : Shared) (σ : St) (H : Hp) (x y : V) (v u : Value) (Q : VK), Inv X pins σ H s → RelV x v → RelV y u → r x y H Q →
    wpAny (model X.prog X.w) X.A (f v u) (EP X pins σ Q) X.xe s
/-- a one-place operation -/
def UnR (X : Cx) (f : Value → Sem Value) (r : V → Hp → VK → Prop) : Prop :=
  ∀ (pins : List (Addr × Obj)) (s : Shared) (σ : St) (H : Hp) (x : V) (v : Value) (Q : VK), Inv X pins σ H s → RelV x v → r x H Q →
    wpAny (model X.prog X.w) X.A (f v) (EP X pins σ Q) X.xe s
/-- a call of a value that is known (a builtin, a type) with values -/
def CallR (X : Cx) (f : Value) (r : List V → Hp → VK → Prop) : Prop :=
  ∀ (pins : List (Addr × Obj)) (s : Shared) (σ : St) (H : Hp) (xs : List V) (us : List Value) (Q : VK), Inv X pins σ H s → Vals xs us → r xs H Q →
    wpAny (model X.prog X.w) X.A (call f us) (EP X pins σ Q) X.xe s
/-- a value's truth -/
def TruR (X : Cx) (r : V → Hp → (Bool → Hp → Prop) → Prop) : Prop :=
  ∀ (pins : List (Addr × Obj)) (s : Shared) (σ : St) (H : Hp) (x : V) (v : Value) (Q : Bool → Hp → Prop), Inv X pins σ H s → RelV x v → r x H Q →
    wpAny (model X.prog X.w) X.A (truthy v) (TP X pins σ Q) X.xe s

def tOp (r : R2) (ta tb : TE) : TE := fun σ H Q => ta σ H fun x H1 => tb σ H1 fun y H2 => r x y H2 Q
def tUn (r : V → Hp → VK → Prop) (ta : TE) : TE := fun σ H Q => ta σ H fun x H1 => r x H1 Q
/-- ints in, under C, and a value out -/
def rI (C : Int → Int → Prop) (g : Int → Int → V) : R2 := fun x y H Q => ∃ i j, x = .int i ∧ y = .int j ∧ C i j ∧ Q (g i j) H
def rI0 (g : Int → Int → V) : R2 := fun x y H Q => ∃ i j, x = .int i ∧ y = .int j ∧ Q (g i j) H
def rU (g : Int → V) : V → Hp → VK → Prop := fun x H Q => ∃ i, x = .int i ∧ Q (g i) H

section
variable {X : Cx} {a b c : Expr} {ta tb tc : TE} {pos : Pos}

theorem binT (ha : PE X a ta) (hb : PE X b tb) {pins : List (Addr × Obj)} {s : Shared} {σ : St} {H : Hp} {R : V → V → Hp → Prop} (I : Inv X pins σ H s)
    (h : ta σ H fun x H1 => tb σ H1 fun y H2 => R x y H2) {Q : Value → Shared → Prop} {f : Value → Value → Sem Value}
    (hf : ∀ v u s2 x y H2, Inv X pins σ H2 s2 → RelV x v → RelV y u → R x y H2 → wpAny (model X.prog X.w) X.A (f v u) Q X.xe s2) :
    wpAny (model X.prog X.w) X.A (eval a X.env) (fun v s₁ => wpAny (model X.prog X.w) X.A (eval b X.env) (fun u s₂ => wpAny (model X.prog X.w) X.A (f v u) Q X.xe s₂) X.xe s₁) X.xe s := by
  refine thn (ha pins s σ H _ I h) fun v s1 ⟨x, H1, I1, r1, q1⟩ => ?_
  refine thn (hb pins s1 σ H1 _ I1 q1) fun u s2 ⟨y, H2, I2, r2, q2⟩ => ?_
  exact hf v u s2 x y H2 I2 r1 r2 q2

theorem pe_op {op : Operator} {r : R2} (ho : OpR X (binaryOp op) r) (ha : PE X a ta) (hb : PE X b tb) : PE X (.BinOp a op b pos) (tOp r ta tb) := by
  intro pins s σ H Q I h
  exact wpAny_BinOp (binT ha hb I h fun v u s2 x y H2 I2 rx ry q => ho pins s2 σ H2 x y v u Q I2 rx ry q)
theorem pe_un {op : UnaryOp} {r : V → Hp → VK → Prop} (ho : UnR X (unaryOp op) r) (ha : PE X a ta) : PE X (.UnaryOp op a pos) (tUn r ta) := by
  intro pins s σ H Q I h
  exact UnaryOp_ (thn (ha pins s σ H _ I h) fun v s1 ⟨x, H1, I1, r1, q1⟩ => ho pins s1 σ H1 x v Q I1 r1 q1)
/-- a op= e at a name: the name's slot i -/
theorem augR {op : Operator} {r : R2} (ho : OpR X (inplaceOp op) r) {pins : List (Addr × Obj)} {s : Shared} {σ : St} {H : Hp} {x y : V} {v u : Value} {Q : VK} (I : Inv X pins σ H s)
    (rx : RelV x v) (ry : RelV y u) (q : r x y H Q) : wpAny (model X.prog X.w) X.A (inplaceOp op v u) (EP X pins σ Q) X.xe s := ho pins s σ H x y v u Q I rx ry q

/-! ### ints -/
theorem opI {f : Value → Value → Sem Value} {C : Int → Int → Prop} {g : Int → Int → Int}
    (rule : ∀ (i j : Int) (t u : Tok) (s : Shared) (Q : Value → Shared → Prop) (E : Value → Shared → Prop), C i j → Q (.int (g i j) s.toks) { s with toks := s.toks + 1 } → wpAny (model X.prog X.w) X.A (f (.int i t) (.int j u)) Q E s) :
    OpR X f (rI C fun i j => .int (g i j)) := by
  intro pins s σ H x y v u Q I rx ry h
  obtain ⟨i, j, rfl, rfl, hc, q⟩ := h
  obtain ⟨t, rfl⟩ := rx
  obtain ⟨t', rfl⟩ := ry
  exact rule i j t t' s _ _ hc ⟨.int (g i j), H, I.tok _, ⟨_, rfl⟩, q⟩
theorem opI0 {f : Value → Value → Sem Value} {g : Int → Int → Int}
    (rule : ∀ (i j : Int) (t u : Tok) (s : Shared) (Q : Value → Shared → Prop) (E : Value → Shared → Prop), Q (.int (g i j) s.toks) { s with toks := s.toks + 1 } → wpAny (model X.prog X.w) X.A (f (.int i t) (.int j u)) Q E s) :
    OpR X f (rI0 fun i j => .int (g i j)) := by
  intro pins s σ H x y v u Q I rx ry h
  obtain ⟨i, j, rfl, rfl, q⟩ := h
  obtain ⟨t, rfl⟩ := rx
  obtain ⟨t', rfl⟩ := ry
  exact rule i j t t' s _ _ ⟨.int (g i j), H, I.tok _, ⟨_, rfl⟩, q⟩
theorem opB0 {f : Value → Value → Sem Value} {g : Int → Int → Bool}
    (rule : ∀ (i j : Int) (t u : Tok) (s : Shared) (Q : Value → Shared → Prop) (E : Value → Shared → Prop), Q (.bool (g i j)) s → wpAny (model X.prog X.w) X.A (f (.int i t) (.int j u)) Q E s) :
    OpR X f (rI0 fun i j => .bl (g i j)) := by
  intro pins s σ H x y v u Q I rx ry h
  obtain ⟨i, j, rfl, rfl, q⟩ := h
  obtain ⟨t, rfl⟩ := rx
  obtain ⟨t', rfl⟩ := ry
  exact rule i j t t' s _ _ ⟨.bl (g i j), H, I, rfl, q⟩

def CDiv (i j : Int) : Prop := 0 < j ∧ j < 1073741824
def CDivN (i j : Int) : Prop := j ≠ 0 ∧ j.natAbs < 1073741824
def CPow (i j : Int) : Prop := 0 ≤ j ∧ j ≤ 1000000 ∧ i.natAbs < 2 ^ 64
def CMul (i j : Int) : Prop := (-(2 ^ 64) < i ∧ i < 2 ^ 64) ∨ (-(2 ^ 64) < j ∧ j < 2 ^ 64)
theorem CMul.ok {i j : Int} (h : CMul i j) : IntMulOk i j := by
  rcases h with ⟨h1, h2⟩ | ⟨h1, h2⟩
  · exact .of_left (intBits_le_64 h1 h2)
  · exact .of_right (intBits_le_64 h1 h2)
theorem two_pow_nn (k : Nat) : (0 : Int) ≤ 2 ^ k := by
  rw [two_pow_cast]
  exact Int.natCast_nonneg _

theorem op_add : OpR X (binaryOp .Add) (rI0 fun i j => .int (i + j)) := opI0 fun _ _ _ _ _ _ _ q => add_int q
theorem op_sub : OpR X (binaryOp .Sub) (rI0 fun i j => .int (i - j)) := opI0 fun _ _ _ _ _ _ _ q => sub_int q
theorem op_mul : OpR X (binaryOp .Mult) (rI CMul fun i j => .int (i * j)) := opI fun _ _ _ _ _ _ _ hc q => mul_int q hc.ok
/-- // by a positive divisor -/
theorem op_fdiv : OpR X (binaryOp .FloorDiv) (rI CDiv fun i j => .int (i / j)) := opI fun i j _ _ _ _ _ hc q => by
  have h1 : (0 : Int) < j := hc.1
  have h2 : j < 1073741824 := hc.2
  exact floordiv_int (by omega) (by rw [Int.fdiv_eq_ediv_of_nonneg i (by omega)]; exact q) (.inl (PyProof.noPylong_small (by omega)))
theorem op_fdivN : OpR X (binaryOp .FloorDiv) (rI CDivN fun i j => .int (i.fdiv j)) := opI fun _ _ _ _ _ _ _ hc q => floordiv_int hc.1 q (.inl (PyProof.noPylong_small hc.2))
/-- % by a positive divisor of any size -/
theorem op_mod : OpR X (binaryOp .Mod) (rI (fun _ j => 0 < j) fun i j => .int (i % j)) := opI fun i j _ _ _ _ _ hc q => by
  have h1 : (0 : Int) < j := hc
  exact mod_int' (by omega) (by rw [Int.fmod_eq_emod_of_nonneg i (by omega)]; exact q)
theorem op_modN : OpR X (binaryOp .Mod) (rI (fun _ j => j ≠ 0) fun i j => .int (i.fmod j)) := opI fun _ _ _ _ _ _ _ hc q => mod_int' hc q
theorem op_pow : OpR X (binaryOp .Pow) (rI CPow fun i j => .int (i ^ j.toNat)) := opI fun _ _ _ _ _ _ _ hc q => pow_int_small hc.1 hc.2.1 hc.2.2 q
theorem op_shl : OpR X (binaryOp .LShift) (rI CPow fun i j => .int (i * 2 ^ j.toNat)) := opI fun _ _ _ _ _ _ _ hc q => lshift_int_small hc.1 hc.2.1 hc.2.2 q
theorem op_shr : OpR X (binaryOp .RShift) (rI (fun _ j => 0 ≤ j) fun i j => .int (i / 2 ^ j.toNat)) := opI fun i j _ _ _ _ _ hc q =>
  rshift_int hc (by rw [Int.fdiv_eq_ediv_of_nonneg i (two_pow_nn _)]; exact q)
theorem op_and : OpR X (binaryOp .BitAnd) (rI0 fun i j => .int (Builtin.bitAnd i j)) := opI0 fun _ _ _ _ _ _ _ q => and_int q
theorem op_or : OpR X (binaryOp .BitOr) (rI0 fun i j => .int (Builtin.bitOr i j)) := opI0 fun _ _ _ _ _ _ _ q => or_int q
theorem op_xor : OpR X (binaryOp .BitXor) (rI0 fun i j => .int (Builtin.bitXor i j)) := opI0 fun _ _ _ _ _ _ _ q => xor_int q

theorem iop_add : OpR X (inplaceOp .Add) (rI0 fun i j => .int (i + j)) := opI0 fun _ _ _ _ _ _ _ q => iadd_int q
theorem iop_sub : OpR X (inplaceOp .Sub) (rI0 fun i j => .int (i - j)) := opI0 fun _ _ _ _ _ _ _ q => isub_int q
theorem iop_mul : OpR X (inplaceOp .Mult) (rI CMul fun i j => .int (i * j)) := opI fun _ _ _ _ _ _ _ hc q => imul_int q hc.ok
theorem iop_fdiv : OpR X (inplaceOp .FloorDiv) (rI CDiv fun i j => .int (i / j)) := opI fun i j _ _ _ _ _ hc q => by
  have h1 : (0 : Int) < j := hc.1
  have h2 : j < 1073741824 := hc.2
  exact ifloordiv_int (by omega) (by rw [Int.fdiv_eq_ediv_of_nonneg i (by omega)]; exact q) (.inl (PyProof.noPylong_small (by omega)))
theorem iop_mod : OpR X (inplaceOp .Mod) (rI (fun _ j => 0 < j) fun i j => .int (i % j)) := opI fun i j _ _ _ _ _ hc q => by
  have h1 : (0 : Int) < j := hc
  exact imod_int (by omega) (by rw [Int.fmod_eq_emod_of_nonneg i (by omega)]; exact q)
theorem iop_shl : OpR X (inplaceOp .LShift) (rI CPow fun i j => .int (i * 2 ^ j.toNat)) := opI fun _ _ _ _ _ _ _ hc q => ilshift_int_small hc.1 hc.2.1 hc.2.2 q
theorem iop_shr : OpR X (inplaceOp .RShift) (rI (fun _ j => 0 ≤ j) fun i j => .int (i / 2 ^ j.toNat)) := opI fun i j _ _ _ _ _ hc q =>
  irshift_int hc (by rw [Int.fdiv_eq_ediv_of_nonneg i (two_pow_nn _)]; exact q)
theorem iop_and : OpR X (inplaceOp .BitAnd) (rI0 fun i j => .int (Builtin.bitAnd i j)) := opI0 fun _ _ _ _ _ _ _ q => iand_int q
theorem iop_or : OpR X (inplaceOp .BitOr) (rI0 fun i j => .int (Builtin.bitOr i j)) := opI0 fun _ _ _ _ _ _ _ q => ior_int q
theorem iop_xor : OpR X (inplaceOp .BitXor) (rI0 fun i j => .int (Builtin.bitXor i j)) := opI0 fun _ _ _ _ _ _ _ q => ixor_int q

theorem unI {f : Value → Sem Value} {g : Int → Int}
    (rule : ∀ (i : Int) (t : Tok) (s : Shared) (Q : Value → Shared → Prop) (E : Value → Shared → Prop), Q (.int (g i) s.toks) { s with toks := s.toks + 1 } → wpAny (model X.prog X.w) X.A (f (.int i t)) Q E s) :
    UnR X f (rU fun i => .int (g i)) := by
  intro pins s σ H x v Q I rx h
  obtain ⟨i, rfl, q⟩ := h
  obtain ⟨t, rfl⟩ := rx
  exact rule i t s _ _ ⟨.int (g i), H, I.tok _, ⟨_, rfl⟩, q⟩
theorem un_neg : UnR X (unaryOp .USub) (rU fun i => .int (-i)) := unI fun _ _ _ _ _ q => neg_int q
theorem un_inv : UnR X (unaryOp .Invert) (rU fun i => .int (Builtin.bitNot i)) := unI fun _ _ _ _ _ q => invert_int q

/-! ### bools among ints: n += (a < b) -/
theorem op_add_ib : OpR X (binaryOp .Add) (fun x y H Q => ∃ i k, x = .int i ∧ y = .bl k ∧ Q (.int (i + b2i k)) H) := by
  intro pins s σ H x y v u Q I rx ry h
  obtain ⟨i, k, rfl, rfl, q⟩ := h
  obtain ⟨t, rfl⟩ := rx
  cases ry
  exact add_int_bool ⟨.int (i + b2i k), H, I.tok _, ⟨_, rfl⟩, q⟩
end

/-! ### comparisons -/
/-- the scalars that == tells apart as data does -/
def scal : V → V → Bool
  | .non, .non => true | .non, .int _ => true | .int _, .non => true | .non, .bl _ => true | .bl _, .non => true | .non, .str _ => true | .str _, .non => true
  | .int _, .int _ => true | .bl _, .bl _ => true | .str _, .str _ => true | .byt _, .byt _ => true
  | .int _, .str _ => true | .str _, .int _ => true | .bl _, .str _ => true | .str _, .bl _ => true
  | _, _ => false
def rEq : R2 := fun x y H Q => scal x y = true ∧ Q (.bl (decide (x = y))) H
def rNe : R2 := fun x y H Q => scal x y = true ∧ Q (.bl (!decide (x = y))) H

theorem dec_int {i j : Int} : decide (V.int i = V.int j) = (i == j) := by
  rw [Bool.eq_iff_iff]
  simp
theorem dec_bl {i j : Bool} : decide (V.bl i = V.bl j) = (i == j) := by
  rw [Bool.eq_iff_iff]
  simp
theorem dec_str {i j : Str} : decide (V.str i = V.str j) = (i == j) := by
  rw [Bool.eq_iff_iff]
  simp
theorem dec_byt {i j : Array UInt8} : decide (V.byt i = V.byt j) = (i.toList == j.toList) := by
  rw [Bool.eq_iff_iff]
  cases i
  cases j
  simp

section
variable {X : Cx} {a b c : Expr} {ta tb tc : TE} {pos : Pos}
theorem fin_bl {pins : List (Addr × Obj)} {σ : St} {H : Hp} {s : Shared} {Q : VK} {k k' : Bool} (I : Inv X pins σ H s) (q : Q (.bl k) H) (e : k = k') : EP X pins σ Q (.bool k') s := by
  subst e
  exact ⟨.bl k, H, I, rfl, q⟩
theorem op_eq : OpR X (compareOp .Eq) rEq := by
  intro pins s σ H x y v u Q I rx ry h
  obtain ⟨hs, q⟩ := h
  cases x with
  | non =>
    cases rx
    cases y with
    | non => cases ry; exact PySem.EqNone.eq_none_none (fin_bl I q (by simp))
    | bl j => cases ry; exact PySem.EqNone.eq_none_bool (fin_bl I q (by simp))
    | int j => obtain ⟨t', rfl⟩ := ry; exact PySem.EqNone.eq_none_int (fin_bl I q (by simp))
    | str j => obtain ⟨t', rfl⟩ := ry; exact PySem.EqNone.eq_none_str (fin_bl I q (by simp))
    | _ => exact absurd (show false = true from hs) Bool.false_ne_true
  | bl i =>
    cases rx
    cases y with
    | non => cases ry; exact PySem.EqNone.eq_bool_none (fin_bl I q (by simp))
    | bl j => cases ry; exact eq_bool (fin_bl I q dec_bl)
    | str j => obtain ⟨t', rfl⟩ := ry; exact PySem.EqMixed.eq_bool_str (fin_bl I q (by simp))
    | _ => exact absurd (show false = true from hs) Bool.false_ne_true
  | int i =>
    obtain ⟨t, rfl⟩ := rx
    cases y with
    | non => cases ry; exact PySem.EqNone.eq_int_none (fin_bl I q (by simp))
    | int j => obtain ⟨t', rfl⟩ := ry; exact eq_int (fin_bl I q dec_int)
    | str j => obtain ⟨t', rfl⟩ := ry; exact PySem.EqMixed.eq_int_str (fin_bl I q (by simp))
    | _ => exact absurd (show false = true from hs) Bool.false_ne_true
  | str i =>
    obtain ⟨t, rfl⟩ := rx
    cases y with
    | non => cases ry; exact PySem.EqNone.eq_str_none (fin_bl I q (by simp))
    | bl j => cases ry; exact PySem.EqMixed.eq_str_bool (fin_bl I q (by simp))
    | int j => obtain ⟨t', rfl⟩ := ry; exact PySem.EqMixed.eq_str_int (fin_bl I q (by simp))
    | str j => obtain ⟨t', rfl⟩ := ry; exact eq_str (fin_bl I q dec_str)
    | _ => exact absurd (show false = true from hs) Bool.false_ne_true
  | byt i =>
    obtain ⟨t, rfl⟩ := rx
    cases y with
    | byt j => obtain ⟨t', rfl⟩ := ry; exact PySem.W.eq_bytes (fin_bl I q dec_byt)
    | _ => exact absurd (show false = true from hs) Bool.false_ne_true
  | _ => cases y <;> exact absurd (show false = true from hs) Bool.false_ne_true
theorem op_ne : OpR X (compareOp .NotEq) rNe := by
  intro pins s σ H x y v u Q I rx ry h
  obtain ⟨hs, q⟩ := h
  cases x with
  | non =>
    cases rx
    cases y with
    | non => cases ry; exact PySem.EqNone.ne_none_none (fin_bl I q (by simp))
    | bl j => cases ry; exact PySem.EqNone.ne_none_bool (fin_bl I q (by simp))
    | int j => obtain ⟨t', rfl⟩ := ry; exact PySem.EqNone.ne_none_int (fin_bl I q (by simp))
    | str j => obtain ⟨t', rfl⟩ := ry; exact PySem.EqNone.ne_none_str (fin_bl I q (by simp))
    | _ => exact absurd (show false = true from hs) Bool.false_ne_true
  | bl i =>
    cases rx
    cases y with
    | non => cases ry; exact PySem.EqNone.ne_bool_none (fin_bl I q (by simp))
    | bl j => cases ry; exact ne_bool (fin_bl I q (congrArg not dec_bl))
    | str j => obtain ⟨t', rfl⟩ := ry; exact PySem.EqMixed.ne_bool_str (fin_bl I q (by simp))
    | _ => exact absurd (show false = true from hs) Bool.false_ne_true
  | int i =>
    obtain ⟨t, rfl⟩ := rx
    cases y with
    | non => cases ry; exact PySem.EqNone.ne_int_none (fin_bl I q (by simp))
    | int j => obtain ⟨t', rfl⟩ := ry; exact ne_int (fin_bl I q (congrArg not dec_int))
    | str j => obtain ⟨t', rfl⟩ := ry; exact PySem.EqMixed.ne_int_str (fin_bl I q (by simp))
    | _ => exact absurd (show false = true from hs) Bool.false_ne_true
  | str i =>
    obtain ⟨t, rfl⟩ := rx
    cases y with
    | non => cases ry; exact PySem.EqNone.ne_str_none (fin_bl I q (by simp))
    | bl j => cases ry; exact PySem.EqMixed.ne_str_bool (fin_bl I q (by simp))
    | int j => obtain ⟨t', rfl⟩ := ry; exact PySem.EqMixed.ne_str_int (fin_bl I q (by simp))
    | str j => obtain ⟨t', rfl⟩ := ry; exact ne_str (fin_bl I q (congrArg not dec_str))
    | _ => exact absurd (show false = true from hs) Bool.false_ne_true
  | byt i =>
    obtain ⟨t, rfl⟩ := rx
    cases y with
    | byt j => obtain ⟨t', rfl⟩ := ry; exact PySem.W.ne_bytes (fin_bl I q (congrArg not dec_byt))
    | _ => exact absurd (show false = true from hs) Bool.false_ne_true
  | _ => cases y <;> exact absurd (show false = true from hs) Bool.false_ne_true

theorem op_lt : OpR X (compareOp .Lt) (rI0 fun i j => .bl (decide (i < j))) := opB0 fun _ _ _ _ _ _ _ q => lt_int q
theorem op_le : OpR X (compareOp .LtE) (rI0 fun i j => .bl (decide (i ≤ j))) := opB0 fun _ _ _ _ _ _ _ q => le_int q
theorem op_gt : OpR X (compareOp .Gt) (rI0 fun i j => .bl (decide (j < i))) := opB0 fun _ _ _ _ _ _ _ q => gt_int q
theorem op_ge : OpR X (compareOp .GtE) (rI0 fun i j => .bl (decide (j ≤ i))) := opB0 fun _ _ _ _ _ _ _ q => ge_int q
theorem op_lt_str : OpR X (compareOp .Lt) (fun x y H Q => ∃ i j, x = .str i ∧ y = .str j ∧ Q (.bl (decide (i.cps.toList < j.cps.toList))) H) := by
  intro pins s σ H x y v u Q I rx ry h
  obtain ⟨i, j, rfl, rfl, q⟩ := h
  obtain ⟨t, rfl⟩ := rx
  obtain ⟨t', rfl⟩ := ry
  exact lt_str (fin_bl I q rfl)
/-- the one string within the other -/
theorem op_in_str : OpR X (compareOp .In) (fun x y H Q => ∃ i j, x = .str i ∧ y = .str j ∧ Q (.bl (!(Builtin.Str.occurrences j i 0 j.length 1).isEmpty)) H) := by
  intro pins s σ H x y v u Q I rx ry h
  obtain ⟨i, j, rfl, rfl, q⟩ := h
  obtain ⟨t, rfl⟩ := rx
  obtain ⟨t', rfl⟩ := ry
  exact in_str (fin_bl I q rfl)

/-- is None, is not None: the right side a value none -/
theorem op_isN : OpR X (compareOp .Is) (fun x y H Q => y = .non ∧ Q (.bl (decide (x = .non))) H) := by
  intro pins s σ H x y v u Q I rx ry h
  obtain ⟨rfl, q⟩ := h
  cases ry
  refine is_none_gen (fin_bl I q ?_)
  cases x <;> first
    | (cases rx; rfl)
    | (obtain ⟨t, rfl⟩ := rx; rfl)
theorem op_notN : OpR X (compareOp .IsNot) (fun x y H Q => y = .non ∧ Q (.bl (!decide (x = .non))) H) := by
  intro pins s σ H x y v u Q I rx ry h
  obtain ⟨rfl, q⟩ := h
  cases ry
  refine isnot_none_gen (fin_bl I q ?_)
  cases x <;> first
    | (cases rx; rfl)
    | (obtain ⟨t, rfl⟩ := rx; rfl)

theorem op_notin_str : OpR X (compareOp .NotIn) (fun x y H Q => ∃ i j, x = .str i ∧ y = .str j ∧ Q (.bl (!(!(Builtin.Str.occurrences j i 0 j.length 1).isEmpty))) H) := by
  intro pins s σ H x y v u Q I rx ry h
  obtain ⟨i, j, rfl, rfl, q⟩ := h
  obtain ⟨t, rfl⟩ := rx
  obtain ⟨t', rfl⟩ := ry
  exact notIn_str (fin_bl I q rfl)
/-- is, is not of two objects that are tracked lists or instances -/
def isObj : HO → Bool
  | .lst _ => true
  | .ins _ _ _ => true
  | _ => false
theorem obj_there {pins : List (Addr × Obj)} {s : Shared} {σ : St} {H : Hp} {a : Addr} {o : HO} (I : Inv X pins σ H s) (h : H a = some o) (p : isObj o = true) : ∃ ob, s.heap.get? a = some ob ∧ ob.cls ≠ .type "tuple" := by
  cases o with
  | lst xs =>
    obtain ⟨_, its, n, _, e⟩ : xs.length ≤ sizeLine ∧ ∃ (its : List Value) (n : Nat), Vals xs its ∧ s.heap.get? a = some { cls := .type "list", data := .seq its.toArray n } := I.hok a _ h
    exact ⟨_, e, (by show Value.type "list" ≠ .type "tuple"; decide +kernel)⟩
  | ins C dx fs =>
    have x := I.hok a _ h
    obtain ⟨_, _, _, e, _⟩ := x
    exact ⟨_, e, (by show Value.ref C ≠ .type "tuple"; exact fun z => by cases z)⟩
  | _ => exact absurd (show false = true from p) Bool.false_ne_true
theorem op_is_ref : OpR X (compareOp .Is) (fun x y H Q => ∃ a b oa ob, x = .ref a ∧ y = .ref b ∧ H a = some oa ∧ isObj oa = true ∧ H b = some ob ∧ isObj ob = true ∧ Q (.bl (decide (a = b))) H) := by
  intro pins s σ H x y v u Q I rx ry h
  obtain ⟨a, b, oa, ob, rfl, rfl, ha, pa, hb, pb, q⟩ := h
  cases rx
  cases ry
  obtain ⟨o1, e1, n1⟩ := obj_there I ha pa
  obtain ⟨o2, e2, _⟩ := obj_there I hb pb
  by_cases z : a = b
  · subst z
    exact wpAny_is_ref_self (fin_bl I q (by simp))
  · exact wpAny_is_ref_other z e1 e2 n1 (fin_bl I q (by simp [z]))
theorem op_isnot_ref : OpR X (compareOp .IsNot) (fun x y H Q => ∃ a b oa ob, x = .ref a ∧ y = .ref b ∧ H a = some oa ∧ isObj oa = true ∧ H b = some ob ∧ isObj ob = true ∧ Q (.bl (!decide (a = b))) H) := by
  intro pins s σ H x y v u Q I rx ry h
  obtain ⟨a, b, oa, ob, rfl, rfl, ha, pa, hb, pb, q⟩ := h
  cases rx
  cases ry
  obtain ⟨o1, e1, n1⟩ := obj_there I ha pa
  obtain ⟨o2, e2, _⟩ := obj_there I hb pb
  by_cases z : a = b
  · subst z
    exact wpAny_isNot_ref_self (fin_bl I q (by simp))
  · exact wpAny_isNot_ref_other z e1 e2 n1 (fin_bl I q (by simp [z]))

/-- two rules for one operation: by cases -/
theorem OpR.or {f : Value → Value → Sem Value} {r r' : R2} (h : OpR X f r) (h' : OpR X f r') : OpR X f (fun x y H Q => r x y H Q ∨ r' x y H Q) := by
  intro pins s σ H x y v u Q I rx ry q
  rcases q with q | q
  · exact h pins s σ H x y v u Q I rx ry q
  · exact h' pins s σ H x y v u Q I rx ry q

theorem nomark (b : Expr) {op : CmpOp} (h : op ≠ .In := by decide) (h2 : op ≠ .NotIn := by decide) : behindInMarks op b = false := by
  have e1 : (op == CmpOp.In) = false := by cases op <;> first | rfl | exact absurd rfl h
  have e2 : (op == CmpOp.NotIn) = false := by cases op <;> first | rfl | exact absurd rfl h2
  cases b <;> simp [behindInMarks, e1, e2]
/-- a comparison as a value; hm: nomark b, or (for in, not in) by with_unfolding_all rfl -/
theorem pe_cmpR {op : CmpOp} {r : R2} (ho : OpR X (compareOp op) r) (ha : PE X a ta) (hb : PE X b tb) (hm : behindInMarks op b = false) : PE X (.Compare a [op] [b] pos) (tOp r ta tb) := by
  intro pins s σ H Q I h
  exact wpAny_Compare1 (binT ha hb I h fun v u s2 x y H2 I2 rx ry q => ho pins s2 σ H2 x y v u Q I2 rx ry q) hm
/-- a reading of a value as a test -/
def tTest (t : TE) : TT := fun σ H Q => t σ H fun x H' => ∃ k, x = .bl k ∧ Q k H'
theorem pt_cmpR {op : CmpOp} {r : R2} (ho : OpR X (compareOp op) r) (ha : PE X a ta) (hb : PE X b tb) (hm : behindInMarks op b = false) : PT X (.Compare a [op] [b] pos) (tTest (tOp r ta tb)) := by
  intro pins s σ H Q I h
  refine wpAny_isTrue_Compare1 (thn (ha pins s σ H _ I h) fun v s1 ⟨x, H1, I1, r1, q1⟩ => thn (hb pins s1 σ H1 _ I1 q1) fun u s2 ⟨y, H2, I2, r2, q2⟩ =>
    thn (ho pins s2 σ H2 x y v u _ I2 r1 r2 q2) fun c s3 ⟨z, H3, I3, r3, k, e, q3⟩ => ?_) hm
  subst e
  cases r3
  exact wpAny_truthy_bool ⟨H3, I3, q3⟩
/-- a op1 b op2 c -/
def tChain (r r' : R2) (ta tb tc : TE) : TE := fun σ H Q => ta σ H fun x H1 => tb σ H1 fun y H2 => r x y H2 fun z H3 => ∃ k, z = .bl k ∧
  (if k = true then tc σ H3 fun w' H4 => r' y w' H4 Q else Q (.bl false) H3)
theorem pe_chain {op op' : CmpOp} {r r' : R2} (ho : OpR X (compareOp op) r) (ho' : OpR X (compareOp op') r') (ha : PE X a ta) (hb : PE X b tb) (hc : PE X c tc)
    (hm : lastMarks [op, op'] [b, c] = false := by with_unfolding_all rfl) : PE X (.Compare a [op, op'] [b, c] pos) (tChain r r' ta tb tc) := by
  intro pins s σ H Q I h
  refine Compare_chain (thn (ha pins s σ H _ I h) fun v s1 ⟨x, H1, I1, r1, q1⟩ => chain_link (thn (hb pins s1 σ H1 _ I1 q1) fun u s2 ⟨y, H2, I2, r2, q2⟩ =>
    thn (ho pins s2 σ H2 x y v u _ I2 r1 r2 q2) fun d s3 ⟨z, H3, I3, r3, k, e, q3⟩ => ?_)) hm
  subst e
  cases r3
  refine wpAny_truthy_bool ?_
  cases k with
  | false => exact ite_ff ⟨.bl false, H3, I3, rfl, q3⟩
  | true => exact ite_tt (chain_last (thn (hc pins s3 σ H3 _ I3 q3) fun w' s4 ⟨z', H4, I4, r4, q4⟩ => ho' pins s4 σ H4 y z' u w' Q I4 r2 r4 q4))
theorem pt_chain {op op' : CmpOp} {r r' : R2} (ho : OpR X (compareOp op) r) (ho' : OpR X (compareOp op') r') (ha : PE X a ta) (hb : PE X b tb) (hc : PE X c tc)
    (hm : lastMarks [op, op'] [b, c] = false := by with_unfolding_all rfl) : PT X (.Compare a [op, op'] [b, c] pos) (tTest (tChain r r' ta tb tc)) := by
  intro pins s σ H Q I h
  refine isTrue_chain (thn (ha pins s σ H _ I h) fun v s1 ⟨x, H1, I1, r1, q1⟩ => test_link (thn (hb pins s1 σ H1 _ I1 q1) fun u s2 ⟨y, H2, I2, r2, q2⟩ =>
    thn (ho pins s2 σ H2 x y v u _ I2 r1 r2 q2) fun d s3 ⟨z, H3, I3, r3, k, e, q3⟩ => ?_)) hm
  subst e
  cases r3
  refine wpAny_truthy_bool ?_
  cases k with
  | false =>
    obtain ⟨k', e', q'⟩ := q3
    cases e'
    exact ite_ff ⟨H3, I3, q'⟩
  | true =>
    refine ite_tt (test_last (thn (hc pins s3 σ H3 _ I3 q3) fun w' s4 ⟨z', H4, I4, r4, q4⟩ => thn (ho' pins s4 σ H4 y z' u w' _ I4 r2 r4 q4) fun d' s5 ⟨z2, H5, I5, r5, k2, e2, q5⟩ => ?_))
    subst e2
    cases r5
    exact wpAny_truthy_bool ⟨H5, I5, q5⟩

/-! ### truth -/
/-- a value's truth by the abstract heap -/
def TruV (K : PySem.W.Frag) (x : V) (H : Hp) (k : Bool) : Prop :=
  match x with
  | .non => k = false
  | .bl b => k = b
  | .int i => k = (i != 0)
  | .str y => y.length ≤ sizeLine ∧ k = ((y.length : Int) != 0)
  | .byt y => y.size ≤ sizeLine ∧ k = ((y.size : Int) != 0)
  | .ref p => (∃ xs, SqL K H p xs ∧ k = !xs.isEmpty) ∨ (∃ xs, SqT K H p xs ∧ k = !xs.isEmpty) ∨ ∃ kvs, H p = some (.dK kvs) ∧ k = !kvs.isEmpty
  | _ => False
theorem isEmpty_kv {κ : Type} {kvs : List (κ × V)} {vs : List (κ × Value)} (r : KV kvs vs) : (!vs.isEmpty) = !kvs.isEmpty := by
  cases r <;> rfl
theorem isEmpty_of {xs : List V} {its : List Value} (r : Vals xs its) : (!its.toArray.isEmpty) = !xs.isEmpty := by
  cases r <;> simp
theorem line63 : (sizeLine : Nat) < 2 ^ 63 := by rw [sizeLine_eq]; decide
theorem tru_ok : TruR X (fun x H Q => ∃ k, TruV X.K x H k ∧ Q k H) := by
  intro pins s σ H x v Q I rx h
  obtain ⟨k, e, q⟩ := h
  have hl := line63
  have hs : sizeLine = 16777216 := sizeLine_eq
  cases x with
  | non =>
    cases rx
    have e' : k = false := e
    subst e'
    exact truthy_none ⟨H, I, q⟩
  | bl b =>
    cases rx
    have e' : k = b := e
    subst e'
    exact wpAny_truthy_bool ⟨H, I, q⟩
  | int i =>
    obtain ⟨t, rfl⟩ := rx
    have e' : k = (i != 0) := e
    subst e'
    exact PySem.P.truthy_int ⟨H, I, q⟩
  | str y =>
    obtain ⟨t, rfl⟩ := rx
    obtain ⟨hy, e'⟩ : y.length ≤ sizeLine ∧ k = ((y.length : Int) != 0) := e
    subst e'
    exact PySem.P.truthy_str (by omega) ⟨H, I.tok _, q⟩
  | byt y =>
    obtain ⟨t, rfl⟩ := rx
    obtain ⟨hy, e'⟩ : y.size ≤ sizeLine ∧ k = ((y.size : Int) != 0) := e
    subst e'
    exact PySem.W.truthy_bytes (by omega) ⟨H, I.tok _, q⟩
  | ref p =>
    cases rx
    have e' : (∃ xs, SqL X.K H p xs ∧ k = !xs.isEmpty) ∨ (∃ xs, SqT X.K H p xs ∧ k = !xs.isEmpty) ∨ ∃ kvs, H p = some (.dK kvs) ∧ k = !kvs.isEmpty := e
    rcases e' with ⟨xs, hx, e'⟩ | ⟨xs, hx, e'⟩ | ⟨kvs, hx, e'⟩
    · subst e'
      obtain ⟨its, r, pl, hz⟩ := I.list hx
      have hlen := r.length
      exact wpAny_truthy_list pl.isList (by simp only [List.size_toArray]; omega) ⟨H, I.tok _, by rw [isEmpty_of r]; exact q⟩
    · subst e'
      obtain ⟨its, r, pl, hz⟩ := I.tuple hx
      have hlen := r.length
      exact truthy_tuple pl (by simp only [List.size_toArray]; omega) ⟨H, I.tok _, by rw [isEmpty_of r]; exact q⟩
    · subst e'
      obtain ⟨hz, hS, vs, r, m⟩ : kvs.length ≤ sizeLine ∧ (p == sysModules) = false ∧ ∃ vs, KV kvs vs ∧ s.heap.DictOf (mixKind X.prog X.w) p vs := I.hok p _ hx
      have hlen : kvs.length = vs.length := Paired.length r
      exact wpAny_truthy_dict hS m (by omega) ⟨H, I.tok _, by rw [isEmpty_kv r]; exact q⟩
  | _ => exact (show False from e).elim
/-- any expression whose test is its value's truth (a name, a call, a subscript, a field ..: he by fun _ => rfl) -/
theorem pt_truth (ha : PE X a ta) (he : ∀ whole, isTrue a X.env whole = (do let v ← whole; standAt a.pos; holding [v] (truthy v))) :
    PT X a (fun σ H Q => ta σ H fun x H' => ∃ k, TruV X.K x H' k ∧ Q k H') := by
  intro pins s σ H Q I h
  exact isTrue_plain (thn (ha pins s σ H _ I h) fun v s1 ⟨x, H1, I1, r1, q1⟩ => tru_ok pins s1 σ H1 x v Q I1 r1 q1) (he _)

/-! ### strs and bytes -/
theorem pe_byt {x : List UInt8} {k : Nat} : PE X (.Constant (.bytes x) k pos) (fun _ H Q => Q (.byt x.toArray) H) := fun _ _ _ H _ I h => PySem.W.Constant_bytes ⟨.byt x.toArray, H, I.tok _, ⟨_, rfl⟩, h⟩
theorem op_add_str : OpR X (binaryOp .Add) (fun x y H Q => ∃ i j, x = .str i ∧ y = .str j ∧ i.length + j.length ≤ sizeLine ∧ Q (.str (i ++ j)) H) := by
  intro pins s σ H x y v u Q I rx ry h
  obtain ⟨i, j, rfl, rfl, hz, q⟩ := h
  obtain ⟨t, rfl⟩ := rx
  obtain ⟨t', rfl⟩ := ry
  exact add_str (fun t' tk => ⟨.str (i ++ j), H, I.tok _, ⟨_, rfl⟩, q⟩) hz
theorem iop_add_str : OpR X (inplaceOp .Add) (fun x y H Q => ∃ i j, x = .str i ∧ y = .str j ∧ i.length + j.length ≤ sizeLine ∧ Q (.str (i ++ j)) H) := by
  intro pins s σ H x y v u Q I rx ry h
  obtain ⟨i, j, rfl, rfl, hz, q⟩ := h
  obtain ⟨t, rfl⟩ := rx
  obtain ⟨t', rfl⟩ := ry
  exact iadd_str (fun t' tk => ⟨.str (i ++ j), H, I.tok _, ⟨_, rfl⟩, q⟩) hz
theorem op_add_byt : OpR X (binaryOp .Add) (fun x y H Q => ∃ i j, x = .byt i ∧ y = .byt j ∧ i.size + j.size ≤ 16777216 ∧ Q (.byt (i ++ j)) H) := by
  intro pins s σ H x y v u Q I rx ry h
  obtain ⟨i, j, rfl, rfl, hz, q⟩ := h
  obtain ⟨t, rfl⟩ := rx
  obtain ⟨t', rfl⟩ := ry
  exact PySem.W.KBy.add_bytes hz (fun t' tk => ⟨.byt (i ++ j), H, I.tok _, ⟨_, rfl⟩, q⟩)

def PlainIxT (b : Expr) : Prop := ∀ o i, subscripted b false o i = operate [o, i] (getItem o i)
/-- s[i], 0 ≤ i < len -/
theorem pe_item_str (ha : PE X a ta) (hb : PE X b tb) (hs : PlainIxT b) :
    PE X (.Subscript a b pos) (tOp (fun x y H Q => ∃ z i c, x = .str z ∧ y = .int i ∧ 0 ≤ i ∧ i < 2 ^ 63 ∧ i < z.length ∧ z.cps[i.toNat]? = some c ∧ Q (.str ⟨#[c]⟩) H) ta tb) := by
  intro pins s σ H Q I h
  refine Subscript_ (binT ha hb I h fun v u s2 x y H2 I2 rx ry q => ?_)
  obtain ⟨z, i, c, rfl, rfl, h0, h63, h1, hc, q⟩ := q
  obtain ⟨t, rfl⟩ := rx
  obtain ⟨t', rfl⟩ := ry
  have e : seqIndex? i z.length = some i.toNat := PySem.StrLaws.seqIndex_nonneg h0 h1
  exact tail_any (typeIs_str s2 z t) slot_str_getitem.lookup (getItem_str (c := c) (by
    have e1 : decide (i < -(2 ^ 63 : Int)) = false := decide_eq_false (by omega)
    have e2 : decide (i ≥ 2 ^ 63) = false := decide_eq_false (by omega)
    rw [e1, e2] <;> rfl) (by rw [e]; exact hc) ⟨.str ⟨#[c]⟩, H2, I2.tok _, ⟨_, rfl⟩, q⟩) (hs _ _)
/-- b[i], 0 ≤ i < len -/
theorem pe_item_byt (ha : PE X a ta) (hb : PE X b tb) (hs : PlainIxT b) :
    PE X (.Subscript a b pos) (tOp (fun x y H Q => ∃ (z : List UInt8) (i : Int), x = .byt z.toArray ∧ y = .int i ∧ z.length ≤ sizeLine ∧ 0 ≤ i ∧ i < z.length ∧ Q (.int ((z.getD i.toNat 0).toNat : Nat)) H) ta tb) := by
  intro pins s σ H Q I h
  refine Subscript_ (binT ha hb I h fun v u s2 x y H2 I2 rx ry q => ?_)
  obtain ⟨z, i, rfl, rfl, hz, h0, h1, q⟩ := q
  obtain ⟨t, rfl⟩ := rx
  obtain ⟨t', rfl⟩ := ry
  have hl : sizeLine = 16777216 := sizeLine_eq
  exact tail_any (PySem.W.typeIs_bytes s2 z.toArray t) PySem.W.FB.slot_bytes_getitem.lookup (PySem.W.getItem_bytes (by omega) h0 h1 ⟨.int ((z.getD i.toNat 0).toNat : Nat), H2, I2.tok _, ⟨_, rfl⟩, q⟩) (hs _ _)

/-! ### scalar builtins, by CallR -/
theorem vals1 {x : V} {us : List Value} (r : Vals [x] us) : ∃ u, us = [u] ∧ RelV x u := by
  cases r with
  | cons r1 r2 => cases r2; exact ⟨_, rfl, r1⟩
theorem vals2 {x y : V} {us : List Value} (r : Vals [x, y] us) : ∃ u w', us = [u, w'] ∧ RelV x u ∧ RelV y w' := by
  cases r with
  | cons r1 r2 =>
    cases r2 with
    | cons r3 r4 => cases r4; exact ⟨_, _, rfl, r1, r3⟩
theorem call_abs : CallR X (.builtin "abs") (fun xs H Q => ∃ i, xs = [.int i] ∧ Q (.int (if i < 0 then -i else i)) H) := by
  intro pins s σ H xs us Q I r h
  obtain ⟨i, rfl, q⟩ := h
  obtain ⟨u, rfl, t, rfl⟩ := vals1 r
  exact call_abs_int fun u tk => ⟨.int (if i < 0 then -i else i), H, I.tok _, ⟨_, rfl⟩, q⟩
theorem call_max2 (hc : X.calm = true) : CallR X (.builtin "max") (fun xs H Q => ∃ i j, xs = [.int i, .int j] ∧ Q (.int (if j > i then j else i)) H) := by
  intro pins s σ H xs us Q I r h
  obtain ⟨i, j, rfl, q⟩ := h
  obtain ⟨u, w', rfl, ⟨t, rfl⟩, ⟨t', rfl⟩⟩ := vals2 r
  refine max_two_ints (I.ok.hd hc) fun h' tk k => ⟨_, H, I.kept k, ?_, q⟩
  by_cases hj : j > i
  · rw [if_pos hj, if_pos hj]; exact ⟨_, rfl⟩
  · rw [if_neg hj, if_neg hj]; exact ⟨_, rfl⟩
theorem call_min2 (hc : X.calm = true) : CallR X (.builtin "min") (fun xs H Q => ∃ i j, xs = [.int i, .int j] ∧ Q (.int (if j < i then j else i)) H) := by
  intro pins s σ H xs us Q I r h
  obtain ⟨i, j, rfl, q⟩ := h
  obtain ⟨u, w', rfl, ⟨t, rfl⟩, ⟨t', rfl⟩⟩ := vals2 r
  refine min_two_ints (I.ok.hd hc) fun h' tk k => ⟨_, H, I.kept k, ?_, q⟩
  by_cases hj : j < i
  · rw [if_pos hj, if_pos hj]; exact ⟨_, rfl⟩
  · rw [if_neg hj, if_neg hj]; exact ⟨_, rfl⟩
theorem call_int1 : CallR X (.type "int") (fun xs H Q => (∃ i, xs = [.int i] ∧ Q (.int i) H) ∨ ∃ k, xs = [.bl k] ∧ Q (.int (if k then 1 else 0)) H) := by
  intro pins s σ H xs us Q I r h
  rcases h with ⟨i, rfl, q⟩ | ⟨k, rfl, q⟩
  · obtain ⟨u, rfl, t, rfl⟩ := vals1 r
    exact call_int_int ⟨.int i, H, I, ⟨_, rfl⟩, q⟩
  · obtain ⟨u, rfl, r1⟩ := vals1 r
    cases r1
    exact call_int_bool ⟨.int (if k then 1 else 0), H, I.tok _, ⟨_, rfl⟩, q⟩
theorem call_bool1 : CallR X (.type "bool") (fun xs H Q => (∃ i, xs = [.int i] ∧ Q (.bl (i != 0)) H) ∨ ∃ k, xs = [.bl k] ∧ Q (.bl k) H) := by
  intro pins s σ H xs us Q I r h
  rcases h with ⟨i, rfl, q⟩ | ⟨k, rfl, q⟩
  · obtain ⟨u, rfl, t, rfl⟩ := vals1 r
    exact call_bool_int ⟨.bl (i != 0), H, I, rfl, q⟩
  · obtain ⟨u, rfl, r1⟩ := vals1 r
    cases r1
    exact call_bool_bool ⟨.bl k, H, I, rfl, q⟩
theorem call_str_int : CallR X (.type "str") (fun xs H Q => ∃ i, xs = [.int i] ∧ i.natAbs.log2 < 1920 ∧ Q (.str (toString i)) H) := by
  intro pins s σ H xs us Q I r h
  obtain ⟨i, rfl, hz, q⟩ := h
  obtain ⟨u, rfl, t, rfl⟩ := vals1 r
  exact PySem.P.str_of_int hz ⟨.str _, H, I.tok _, ⟨_, rfl⟩, q⟩
theorem call_ord : CallR X (.builtin "ord") (fun xs H Q => ∃ x, xs = [.str x] ∧ x.length = 1 ∧ Q (.int (x.cps.getD 0 0 : Nat)) H) := by
  intro pins s σ H xs us Q I r h
  obtain ⟨x, rfl, hz, q⟩ := h
  obtain ⟨u, rfl, t, rfl⟩ := vals1 r
  exact ord_of_one hz ⟨.int _, H, I.tok _, ⟨_, rfl⟩, q⟩
theorem call_chr : CallR X (.builtin "chr") (fun xs H Q => ∃ i, xs = [.int i] ∧ 0 ≤ i ∧ i ≤ 1114111 ∧ Q (.str ⟨#[i.toNat]⟩) H) := by
  intro pins s σ H xs us Q I r h
  obtain ⟨i, rfl, h0, h1, q⟩ := h
  obtain ⟨u, rfl, t, rfl⟩ := vals1 r
  exact chr_of_range h0 h1 ⟨.str _, H, I.tok _, ⟨_, rfl⟩, q⟩
/-- len of a str, a bytes, a list, a tuple -/
def LenV (K : PySem.W.Frag) (x : V) (H : Hp) (n : Nat) : Prop :=
  match x with
  | .str y => y.length ≤ sizeLine ∧ n = y.length
  | .byt y => y.size ≤ sizeLine ∧ n = y.size
  | .ref p => (∃ xs, SqL K H p xs ∧ n = xs.length) ∨ ∃ xs, SqT K H p xs ∧ n = xs.length
  | _ => False
theorem call_len : CallR X (.builtin "len") (fun xs H Q => ∃ x n, xs = [x] ∧ LenV X.K x H n ∧ Q (.int n) H) := by
  intro pins s σ H xs us Q I r h
  obtain ⟨x, n, rfl, e, q⟩ := h
  obtain ⟨u, rfl, rx⟩ := vals1 r
  have hl := line63
  have hs : sizeLine = 16777216 := sizeLine_eq
  cases x with
  | str y =>
    obtain ⟨t, rfl⟩ := rx
    obtain ⟨hy, e'⟩ : y.length ≤ sizeLine ∧ n = y.length := e
    subst e'
    exact len_str (by omega) ⟨.int _, H, I.tok _, ⟨_, rfl⟩, q⟩
  | byt y =>
    obtain ⟨t, rfl⟩ := rx
    obtain ⟨hy, e'⟩ : y.size ≤ sizeLine ∧ n = y.size := e
    subst e'
    exact PySem.W.len_bytes (by omega) ⟨.int _, H, I.tok _, ⟨_, rfl⟩, q⟩
  | ref p =>
    cases rx
    have e' : (∃ xs, SqL X.K H p xs ∧ n = xs.length) ∨ ∃ xs, SqT X.K H p xs ∧ n = xs.length := e
    rcases e' with ⟨xs, hx, e'⟩ | ⟨xs, hx, e'⟩
    · subst e'
      obtain ⟨its, r', pl, hz⟩ := I.list hx
      have hlen := r'.length
      exact Calls.call_len_list pl.isList (by simp only [List.size_toArray]; omega) ⟨.int xs.length, H, I.tok _, ⟨_, by simp only [List.size_toArray]; rw [hlen]⟩, q⟩
    · subst e'
      obtain ⟨its, r', pl, hz⟩ := I.tuple hx
      have hlen := r'.length
      exact len_tuple pl (by simp only [List.size_toArray]; omega) ⟨.int xs.length, H, I.tok _, ⟨_, by simp only [List.size_toArray]; rw [hlen]⟩, q⟩
  | _ => exact (show False from e).elim
/-- divmod: a new tuple -/
theorem call_divmod : CallR X (.builtin "divmod") (fun xs H Q => ∃ i j, xs = [.int i, .int j] ∧ CDiv i j ∧ ∀ p, H p = none → Q (.ref p) (upd H p (.tup [.int (i / j), .int (i % j)]))) := by
  intro pins s σ H xs us Q I r h
  obtain ⟨i, j, rfl, ⟨h1, h2⟩, q⟩ := h
  obtain ⟨u, w', rfl, ⟨t, rfl⟩, ⟨t', rfl⟩⟩ := vals2 r
  refine divmod_int (by omega) ?_ (.inl (PyProof.noPylong_small (by omega)))
  rw [Int.fdiv_eq_ediv_of_nonneg i (by omega), Int.fmod_eq_emod_of_nonneg i (by omega)]
  have hn : H s.heap.objs.size = none := I.hok.fresh (Nat.le_refl _)
  refine ⟨.ref s.heap.objs.size, _, ?_, rfl, q _ hn⟩
  refine I.laid (fun b o e => Heap.get?_push_of_some _ e) (Nat.le_refl _) ⟨by simp only [List.length_cons, List.length_nil]; rw [sizeLine_eq]; decide, [.int (i / j) s.toks, .int (i % j) (s.toks + 1)], .cons ⟨_, rfl⟩ (.cons ⟨_, rfl⟩ .nil), ?_⟩
  exact ⟨_, Heap.get?_push_size s.heap rfl, rfl, 0, rfl⟩
end
end L2

namespace L2
open PySem PySem.Spec PyProof.Rows

/-! ### an instance, its attributes a map -/
structure ObjM (h : Heap) (x dx C : Addr) (mA : Str → Option Value) : Prop where
  obj : h.get? x = some (PySem.W.instObj C dx)
  ns : h.Ns1 dx mA
  ne : dx ≠ x

theorem lookIn_ns {h : Heap} {dx : Addr} {mA : Str → Option Value} (n : h.Ns1 dx mA) : ∃ od, h.get? dx = some od ∧ ∀ name, PySem.W.lookIn name od = some (mA name) := by
  obtain ⟨o, es, ep, ho, hd, hk, _, hm⟩ := n
  refine ⟨o, ho, fun name => ?_⟩
  have e := hm name
  unfold nsFind findBy at e
  rw [← Array.find?_toList] at e
  unfold PySem.W.lookIn
  rw [hd]
  dsimp only
  split
  · rename_i y q
    rw [q] at e
    exact congrArg some e
  · rename_i q
    rw [q] at e
    have a : es.toList.any (·.refKey) = false := by
      rw [List.any_eq_false]
      intro y hy
      obtain ⟨z, t, hkey⟩ := hk y (Array.mem_toList_iff.mp hy)
      simp [DictEntry.refKey, hkey]
    have a' : ¬ es.toList.any (·.refKey) = true := by rw [a]; exact Bool.false_ne_true
    rw [if_neg a']
    exact congrArg some e

theorem ObjM.look {h : Heap} {x dx C : Addr} {mA : Str → Option Value} (I : ObjM h x dx C mA) : ∃ od, PySem.W.InstAt h x (PySem.W.instObj C dx) C (some od) ∧ ∀ name, PySem.W.lookIn name od = some (mA name) :=
  let ⟨od, ho, hl⟩ := lookIn_ns I.ns
  ⟨od, ⟨I.obj, rfl, rfl, ho⟩, hl⟩

section
variable {prog : Program} {w : World} {A : Around} {E : Value → Shared → Prop} {s : Shared} {K : PySem.W.Frag} {x dx C f : Addr} {mA : Str → Option Value} {name : Str} {v : Value}

theorem get_map {expr : Bool} {Q : Value → Shared → Prop} (X : K.In s.heap) (I : ObjM s.heap x dx C mA) (hg : PySem.W.plainGet K C name = true) (hh : PySem.W.hasDictIn K C = true)
    (ha : PySem.W.findIn K (.ref C) name = some none) (hv : mA name = some v) (hv' : PySem.W.handedIn v = true) (h : Q v { s with toks := s.toks + 1 }) :
    wpAny (model prog w) A (getAttr (.ref x) name expr) Q E s := by
  obtain ⟨od, J, hl⟩ := I.look
  exact PySem.W.get_value X J (PySem.W.plainGet_of hg).1 (PySem.W.findObj_own hh ha rfl (by rw [hl, hv])) hv' h

theorem get_const {expr : Bool} {a : Value} {Q : Value → Shared → Prop} (X : K.In s.heap) (I : ObjM s.heap x dx C mA) (hg : PySem.W.plainGet K C name = true) (hh : PySem.W.hasDictIn K C = true)
    (ha : PySem.W.findIn K (.ref C) name = some (some a)) (hn : PySem.W.specialIn K a "__get__" = some none) (hc : PySem.W.copiedNames.contains name = false) (hv : mA name = none) (hv' : PySem.W.handedIn a = true)
    (h : Q a { s with toks := s.toks + 1 }) : wpAny (model prog w) A (getAttr (.ref x) name expr) Q E s := by
  obtain ⟨od, J, hl⟩ := I.look
  exact PySem.W.get_value X J (PySem.W.plainGet_of hg).1 (PySem.W.findObj_cls hh ha hn hv' hc (by rw [hl, hv])) hv' h

theorem get_meth {pl : Sem Bool} {Q : Value × List Value → Shared → Prop} (X : K.In s.heap) (I : ObjM s.heap x dx C mA) (hg : PySem.W.plainGet K C name = true)
    (hf : PySem.W.findIn K (.ref C) name = some (some (.ref f))) (ht : PySem.W.isFn K (.ref f) = true) (hv : mA name = none) (h : Q (.ref f, [.ref x]) s) :
    wpAny (model prog w) A (getMethod (.ref x) name pl) Q E s := by
  obtain ⟨od, J, hl⟩ := I.look
  exact PySem.W.method_fn X J (PySem.W.plainGet_of hg).1 (PySem.W.plainGet_of hg).2 hf (beq_iff_eq.mp ht) (by show (PySem.W.lookIn name od).map (·.isSome) = some false; rw [hl, hv]; rfl) h

theorem set_map {ns : List Str} {Q : Unit → Shared → Prop} (X : K.In s.heap) (I : ObjM s.heap x dx C mA)
    (hs : PySem.W.findIn K (.ref C) "__setattr__" = some (some (.builtin "object.__setattr__"))) (hp : PySem.W.plainOver K C = true) (ht : PySem.W.takerIn K C name = some none) (hh : PySem.W.hasDictIn K C = true)
    (hw : PySem.Within mA ns) (hsz : ns.length ≤ sizeLine)
    (h : ∀ h', ObjM h' x dx C (fun y => if y = name then some v else mA y) → Heap.SameBut dx s.heap h' → Q () { s with heap := h', toks := s.toks + 2 }) :
    wpAny (model prog w) A (setAttr (.ref x) name v) Q E s := by
  obtain ⟨od, J, hl⟩ := I.look
  refine PySem.W.set_plain X J hs (PySem.W.osa_open (s := { s with toks := s.toks + 1 }) (r := none) X J hp ht fun b => ?_)
  obtain ⟨cd, hc, hd'⟩ := PySem.W.any_some hh
  have hx : s.heap.get? x = some ⟨.ref C, some dx, .plain, #[]⟩ := I.obj
  refine wpAny_bind (wpAny_pure (wpAny_bind (wpAny_bind (wpAny_loadPart hx (wpAny_bind (PySem.W.Looks.here (s := { s with toks := s.toks + 1 }) (PySem.W.looks_clsIn X hc) ?_))))))
  rw [hd']
  refine wpAny_pure (a := some dx) (wpAny_bind (wpAny_pure (wpAny_bind ?_)))
  refine wpAny_nsSet1 (s := { s with toks := s.toks + 1 }) I.ns fun h' hn2 hs2 => ?_
  obtain ⟨oD, esD, epD, hoD, hdD, hcD⟩ := hn2.count (PySem.Within.cons name v hw)
  refine wpAny_bind (wpAny_lookBehind hoD (by rw [hdD]; exact pastItsLine_dict (Nat.le_trans hcD (by rw [List.length_cons]; omega))) ?_)
  exact wpAny_pure (h _ ⟨(hs2.2 _ (Ne.symm I.ne)).trans I.obj, hn2, I.ne⟩ hs2)

/-- C(..): the dict at the heap's end, the instance behind it; then its __init__ -/
theorem make_map {R : Result → Shared → Prop} {vs : List Value} {kw : List (Str × Value)} (X : K.In s.heap) (hm : PySem.W.makesIn K C = true)
    (hi : PySem.W.findIn K (.ref C) "__init__" = some (some (.ref f))) (hf : PySem.W.typeIn K (.ref f) = some (.type "function"))
    (h : codeAny (model prog w) (A.under (.builtin "type.__call__" ⟨.ref C :: vs, kw⟩)) (.call (.ref f) ⟨.ref (s.heap.objs.size + 1) :: vs, kw⟩) (PySem.W.InitBack (s.heap.objs.size + 1) R)
      { s with heap := (s.heap.push PySem.W.emptyDict).push (PySem.W.instObj C s.heap.objs.size) }) :
    codeAny (model prog w) A (.call (.ref C) ⟨vs, kw⟩) R s := by
  obtain ⟨hh, g, d, t, os⟩ := s
  exact PySem.W.make_core (PySem.W.makes_of X hm) (PySem.W.looks_findIn X hi) (fun self => PySem.W.bind_fn X self hf) (.inl rfl) h
/-- C() where there is no __init__ but object's -/
theorem make_map0 {R : Result → Shared → Prop} (X : K.In s.heap) (hm : PySem.W.makesIn K C = true)
    (hi : PySem.W.findIn K (.ref C) "__init__" = some (some (.builtin "object.__init__")))
    (hb : ∀ self, PySem.W.Looks (model prog w) s.heap (bindSpecial (.builtin "object.__init__") self) (.builtin "object.__init__", [self]))
    (h : codeAny (model prog w) (A.under (.builtin "type.__call__" ⟨[.ref C], []⟩)) (.call (.builtin "object.__init__") ⟨[.ref (s.heap.objs.size + 1)], []⟩) (PySem.W.InitBack (s.heap.objs.size + 1) R)
      { s with heap := (s.heap.push PySem.W.emptyDict).push (PySem.W.instObj C s.heap.objs.size) }) :
    codeAny (model prog w) A (.call (.ref C) ⟨[], []⟩) R s := by
  obtain ⟨hh, g, d, t, os⟩ := s
  exact PySem.W.make_core (PySem.W.makes_of X hm) (PySem.W.looks_findIn X hi) hb (.inr ⟨rfl, rfl⟩) h
end

/-! ### the attributes as a list of pairs -/
def putF (f : Str) (v : V) : List (Str × V) → List (Str × V)
  | [] => [(f, v)]
  | (g, x) :: r => if g = f then (g, v) :: r else (g, x) :: putF f v r
theorem lookup_putF (f g : Str) (v : V) : ∀ fs : List (Str × V), (putF f v fs).lookup g = if g = f then some v else fs.lookup g
  | [] => by
    show List.lookup g [(f, v)] = _
    by_cases h : g = f
    · have hb : (g == f) = true := beq_iff_eq.mpr h
      simp only [List.lookup, hb, if_pos h]
    · have hb : (g == f) = false := beq_eq_false_iff_ne.mpr h
      simp only [List.lookup, hb, if_neg h]
  | (k, x) :: r => by
    have ih := lookup_putF f g v r
    rw [show putF f v ((k, x) :: r) = (if k = f then (k, v) :: r else (k, x) :: putF f v r) from rfl]
    by_cases hk : k = f
    · rw [if_pos hk]
      by_cases h : g = k
      · have hb : (g == k) = true := beq_iff_eq.mpr h
        simp only [List.lookup, hb, if_pos (h.trans hk)]
      · have hb : (g == k) = false := beq_eq_false_iff_ne.mpr h
        simp only [List.lookup, hb, if_neg (fun e : g = f => h (e.trans hk.symm))]
    · rw [if_neg hk]
      by_cases h : g = k
      · have hb : (g == k) = true := beq_iff_eq.mpr h
        simp only [List.lookup, hb, if_neg (fun e : g = f => hk (h.symm.trans e))]
      · have hb : (g == k) = false := beq_eq_false_iff_ne.mpr h
        simp only [List.lookup, hb]
        exact ih
theorem keys_putF (f : Str) (v : V) : ∀ fs : List (Str × V), f ∈ (putF f v fs).map (·.1) ∧ ∀ g, g ∈ fs.map (·.1) → g ∈ (putF f v fs).map (·.1)
  | [] => ⟨by simp [putF], fun g h => by simp at h⟩
  | (k, x) :: r => by
    obtain ⟨i1, i2⟩ := keys_putF f v r
    rw [show putF f v ((k, x) :: r) = (if k = f then (k, v) :: r else (k, x) :: putF f v r) from rfl]
    by_cases hk : k = f
    · rw [if_pos hk]
      subst hk
      exact ⟨by simp, fun g h => by simpa using h⟩
    · rw [if_neg hk]
      refine ⟨?_, fun g h => ?_⟩
      · rw [List.map_cons]
        exact List.mem_cons_of_mem _ i1
      · rw [List.map_cons] at h ⊢
        rcases List.mem_cons.mp h with e | e
        · exact List.mem_cons.mpr (.inl e)
        · exact List.mem_cons_of_mem _ (i2 g e)
theorem length_putF (f : Str) (v : V) : ∀ fs : List (Str × V), (putF f v fs).length ≤ fs.length + 1
  | [] => by simp [putF]
  | (k, x) :: r => by
    have ih := length_putF f v r
    rw [show putF f v ((k, x) :: r) = (if k = f then (k, v) :: r else (k, x) :: putF f v r) from rfl]
    by_cases hk : k = f
    · rw [if_pos hk, List.length_cons, List.length_cons]; omega
    · rw [if_neg hk, List.length_cons, List.length_cons]; omega

theorem RelO.some_of {v : V} {o : Option Value} (r : RelO (some v) o) : ∃ u, o = some u ∧ RelV v u := by
  cases o with
  | none => exact (show False from r).elim
  | some u => exact ⟨u, rfl, r⟩
theorem RelO.none_of {o : Option Value} (r : RelO none o) : o = none := by
  cases o with
  | none => rfl
  | some u => exact (show False from r).elim
theorem handed_of {v : V} {u : Value} (r : RelV v u) : PySem.W.handedIn u = true := by
  cases v with
  | non => cases (show u = Value.none from r); rfl
  | bl b => cases (show u = Value.bool b from r); rfl
  | int i => obtain ⟨t, e⟩ := (show ∃ t, u = Value.int i t from r); cases e; rfl
  | str x => obtain ⟨t, e⟩ := (show ∃ t, u = Value.str x t from r); cases e; rfl
  | byt b => obtain ⟨t, e⟩ := (show ∃ t, u = Value.bytes b t from r); cases e; rfl
  | flt b => obtain ⟨t, e⟩ := (show ∃ t, u = Value.float b t from r); cases e; rfl
  | ref a => cases (show u = Value.ref a from r); rfl
  | ty n => cases (show u = Value.type n from r); rfl

section
variable {P : Program} {w : World} {H H' : Hp} {h h' : Heap} {a C dx : Addr} {fs fs' : List (Str × V)}
theorem ins_get (hok : HOk P w H h) (e : H a = some (.ins C dx fs)) : ∃ mA, ObjM h a dx C mA ∧ (∀ f, RelO (fs.lookup f) (mA f)) ∧ PySem.Within mA (fs.map (·.1)) ∧ fs.length ≤ 1000 ∧ H dx = some (.own a) := by
  obtain ⟨d, z, ne, ob, mA, n, r, q⟩ := (show ObjOk P w H h a (.ins C dx fs) from hok a _ e)
  exact ⟨mA, ⟨ob, n, ne⟩, r, q, z, d⟩
end

/-! ### what of the text a class must have -/
structure Cls (K : PySem.W.Frag) (C : Addr) : Prop where
  pg : PySem.W.plainGet K C Str.empty = true
  hd : PySem.W.hasDictIn K C = true
  po : PySem.W.plainOver K C = true
  sa : PySem.W.findIn K (.ref C) "__setattr__" = some (some (.builtin "object.__setattr__"))
theorem Cls.get {K : PySem.W.Frag} {C : Addr} (c : Cls K C) (f : Str) : PySem.W.plainGet K C f = true := c.pg
/-- no class of it has the name -/
def NoAttr (K : PySem.W.Frag) (C : Addr) (f : Str) : Prop := PySem.W.findIn K (.ref C) f = some none
theorem NoAttr.taker {K : PySem.W.Frag} {C : Addr} {f : Str} (n : NoAttr K C f) : PySem.W.takerIn K C f = some none := by
  unfold PySem.W.takerIn
  rw [show PySem.W.findIn K (.ref C) f = some none from n]
  rfl
/-- a constant of the class -/
structure Con (K : PySem.W.Frag) (C : Addr) (f : Str) (v : V) (u : Value) : Prop where
  at_ : PySem.W.findIn K (.ref C) f = some (some u)
  rel : RelV v u
  get : PySem.W.specialIn K u "__get__" = some none
  cp : PySem.W.copiedNames.contains f = false
/-- a method: a plain def of the class or of one above it -/
structure Meth (K : PySem.W.Frag) (C : Addr) (m : Str) (f : Addr) : Prop where
  at_ : PySem.W.findIn K (.ref C) m = some (some (.ref f))
  fn : PySem.W.isFn K (.ref f) = true
  kp : PySem.W.keepIn K (.ref f) = true

section
variable {X : Cx} {pins : List (Addr × Obj)} {σ : St} {H : Hp} {s : Shared} {a C dx : Addr} {fs : List (Str × V)} {f : Str} {v : V} {A : Around} {E : Value → Shared → Prop}

theorem getattr_ok {b : Bool} {Q : Value → Shared → Prop} (I : Inv X pins σ H s) (e : H a = some (.ins C dx fs)) (c : Cls X.K C) (n : NoAttr X.K C f) (l : fs.lookup f = some v)
    (h : ∀ u s', Inv X pins σ H s' → RelV v u → Q u s') : wpAny (model X.prog X.w) A (getAttr (.ref a) f b) Q E s := by
  obtain ⟨mA, O, r, _, _, _⟩ := ins_get I.hok e
  obtain ⟨u, hu, ru⟩ := RelO.some_of (v := v) (o := mA f) (by rw [← l]; exact r f)
  exact get_map I.kIn O (c.get f) c.hd n hu (handed_of ru) (h u _ (I.tok _) ru)

theorem getcon_ok {b : Bool} {u : Value} {Q : Value → Shared → Prop} (I : Inv X pins σ H s) (e : H a = some (.ins C dx fs)) (c : Cls X.K C) (k : Con X.K C f v u) (l : fs.lookup f = none)
    (h : ∀ s', Inv X pins σ H s' → Q u s') : wpAny (model X.prog X.w) A (getAttr (.ref a) f b) Q E s := by
  obtain ⟨mA, O, r, _, _, _⟩ := ins_get I.hok e
  have hn : mA f = none := RelO.none_of (by rw [← l]; exact r f)
  exact get_const I.kIn O (c.get f) c.hd k.at_ k.get k.cp hn (handed_of k.rel) (h _ (I.tok _))

theorem getmeth_ok {m : Str} {g : Addr} {pl : Sem Bool} {Q : Value × List Value → Shared → Prop} (I : Inv X pins σ H s) (e : H a = some (.ins C dx fs)) (c : Cls X.K C) (k : Meth X.K C m g) (l : fs.lookup m = none)
    (h : Q (.ref g, [.ref a]) s) : wpAny (model X.prog X.w) A (getMethod (.ref a) m pl) Q E s := by
  obtain ⟨mA, O, r, _, _, _⟩ := ins_get I.hok e
  have hn : mA m = none := RelO.none_of (by rw [← l]; exact r m)
  exact get_meth I.kIn O (c.get m) k.at_ k.fn hn h

theorem setattr_ok {y : V} {u : Value} {Q : Unit → Shared → Prop} (I : Inv X pins σ H s) (e : H a = some (.ins C dx fs)) (c : Cls X.K C) (n : NoAttr X.K C f) (hl : fs.length < 1000) (ry : RelV y u)
    (h : ∀ s', Inv X pins σ (upd H a (.ins C dx (putF f y fs))) s' → Q () s') : wpAny (model X.prog X.w) A (setAttr (.ref a) f u) Q E s := by
  obtain ⟨mA, O, r, wi, _, ho⟩ := ins_get I.hok e
  have hz : (fs.map (·.1)).length ≤ sizeLine := by rw [List.length_map, sizeLine_eq]; omega
  refine set_map I.kIn O c.sa c.po n.taker c.hd wi hz fun h' O' sb => h _ ?_
  have hd : ∃ o, h'.get? dx = some o := let ⟨o, _, _, e', _⟩ := O'.ns; ⟨o, e'⟩
  refine I.write (x := a) (e := dx) (by rw [e]; exact True.intro) (.inr ho) (fun b q hb z => (sb.2 b hb).trans z) hd ?_
  refine ⟨by rw [upd_ne O.ne]; exact ho, ?_, O.ne, O'.obj, _, O'.ns, fun g => ?_, fun g hg => ?_⟩
  · have := length_putF f y fs; omega
  · show RelO ((putF f y fs).lookup g) (if g = f then some u else mA g)
    rw [lookup_putF]
    by_cases q : g = f
    · rw [if_pos q, if_pos q]; exact ry
    · rw [if_neg q, if_neg q]; exact r g
  · by_cases q : g = f
    · rw [q]; exact (keys_putF f y fs).1
    · refine (keys_putF f y fs).2 g (wi g fun z => hg ?_)
      show (if g = f then some u else mA g) = none
      rw [if_neg q]; exact z

/-- a new instance, tracked, without attributes -/
theorem Inv.made (I : Inv X pins σ H s) : Inv X pins σ (upd (upd H s.heap.objs.size (.own (s.heap.objs.size + 1))) (s.heap.objs.size + 1) (.ins C s.heap.objs.size []))
    { s with heap := (s.heap.push PySem.W.emptyDict).push (PySem.W.instObj C s.heap.objs.size) } := by
  have e1 : (s.heap.push PySem.W.emptyDict).get? s.heap.objs.size = some PySem.W.emptyDict := Heap.get?_push_size s.heap rfl
  have e2 : ((s.heap.push PySem.W.emptyDict).push (PySem.W.instObj C s.heap.objs.size)).get? (s.heap.objs.size + 1) = some (PySem.W.instObj C s.heap.objs.size) := by
    have := Heap.get?_push_size (s.heap.push PySem.W.emptyDict) (o := PySem.W.instObj C s.heap.objs.size) rfl
    rwa [Heap.size_push] at this
  have e3 : (s.heap.push PySem.W.emptyDict).Ns s.heap.objs.size (fun _ => none) := ⟨PySem.W.emptyDict, #[], _, e1, rfl, (fun e he => absurd he (by simp)), fun _ => rfl⟩
  have I1 := I.laid (a := s.heap.objs.size) (o := .own (s.heap.objs.size + 1)) (h' := s.heap.push PySem.W.emptyDict) (t' := s.toks) (fun b u q => Heap.get?_push_of_some _ q) (Nat.le_refl _) ⟨_, e1⟩
  refine I1.laid (a := s.heap.objs.size + 1) (o := .ins C s.heap.objs.size []) (t' := s.toks) (fun b u q => Heap.get?_push_of_some _ q) (Nat.le_of_eq (Heap.size_push _ _)) ?_
  have ne : s.heap.objs.size ≠ s.heap.objs.size + 1 := Nat.ne_of_lt (Nat.lt_succ_self _)
  refine ⟨by rw [upd_ne ne, upd_same], Nat.zero_le _, ne, e2, fun _ => none, (Heap.Ns1.of_empty e3).at fun o q => Heap.get?_push_of_some _ q, fun _ => True.intro, fun y hy => absurd rfl hy⟩

/-- e.f where nothing but the object is asked: through attributeBase (super) and the last hold -/
theorem attr_of {prog : Program} {w : World} {env : Env} {e : Expr} {f : Str} {pos : Pos} {s : Shared} {Q : Value → Shared → Prop} (hb : attributeBase e f env (eval e env) = eval e env)
    (h : wpAny (model prog w) A (eval e env) (fun o s₁ => wpAny (model prog w) A (getAttr o f true) Q E s₁) E s) : wpAny (model prog w) A (eval (.Attribute e f pos) env) Q E s :=
  Attribute_any_ h (by rw [arm_eval_Attribute, hb])
end

/-! ### readings and rules -/
/-- e.f, an attribute of the instance -/
def tFld (K : PySem.W.Frag) (ta : TE) (f : Str) : TE := fun σ H Q => ta σ H fun x H1 => ∃ a C dx fs v, x = .ref a ∧ H1 a = some (.ins C dx fs) ∧ Cls K C ∧ NoAttr K C f ∧ fs.lookup f = some v ∧ Q v H1
/-- e.f, a constant of the class -/
def tCon (K : PySem.W.Frag) (ta : TE) (f : Str) : TE := fun σ H Q => ta σ H fun x H1 => ∃ a C dx fs v u, x = .ref a ∧ H1 a = some (.ins C dx fs) ∧ Cls K C ∧ Con K C f v u ∧ fs.lookup f = none ∧ Q v H1
/-- e.f = value -/
def sFld (K : PySem.W.Frag) (ta tv : TE) (f : Str) : TS := fun D σ H => tv σ H fun y H1 => ta σ H1 fun x H2 => ∃ a C dx fs, x = .ref a ∧ H2 a = some (.ins C dx fs) ∧ Cls K C ∧ NoAttr K C f ∧ fs.length < 1000 ∧
  D.nx σ (upd H2 a (.ins C dx (putF f y fs)))
/-- an augmented operator on two values -/
def InOp (X : Cx) (op : Operator) (rd : V → V → Hp → VK → Prop) : Prop :=
  ∀ (pins : List (Addr × Obj)) (s : Shared) (σ : St) (H : Hp) (x y : V) (u v : Value) (Q : VK), Inv X pins σ H s → RelV x u → RelV y v → rd x y H Q → wpAny (model X.prog X.w) X.A (inplaceOp op u v) (EP X pins σ Q) X.xe s
/-- e.f op= value -/
def sFldAug (K : PySem.W.Frag) (ta tv : TE) (rd : V → V → Hp → VK → Prop) (f : Str) : TS := fun D σ H => ta σ H fun x H1 => ∃ a C dx fs v, x = .ref a ∧ H1 a = some (.ins C dx fs) ∧ Cls K C ∧ NoAttr K C f ∧ fs.lookup f = some v ∧
  tv σ H1 fun y H2 => rd v y H2 fun z H3 => ∃ dx' fs', H3 a = some (.ins C dx' fs') ∧ fs'.length < 1000 ∧ D.nx σ (upd H3 a (.ins C dx' (putF f z fs')))

section
variable {X : Cx} {o e value : Expr} {f : Str} {pos pos' tpos : Pos} {ta tv : TE}
theorem pe_fld (he : PE X e ta) (hb : attributeBase e f X.env (eval e X.env) = eval e X.env) : PE X (.Attribute e f pos) (tFld X.K ta f) := by
  intro pins s σ H Q I h
  refine attr_of hb (thn (he pins s σ H _ I h) fun u s1 ⟨x, H1, I1, rx, a, C, dx, fs, v, ex, ea, c, n, l, q⟩ => ?_)
  subst ex
  obtain rfl : u = Value.ref a := rx
  exact getattr_ok I1 ea c n l fun u' s2 I2 ru => ⟨v, H1, I2, ru, q⟩
theorem pe_con (he : PE X e ta) (hb : attributeBase e f X.env (eval e X.env) = eval e X.env) : PE X (.Attribute e f pos) (tCon X.K ta f) := by
  intro pins s σ H Q I h
  refine attr_of hb (thn (he pins s σ H _ I h) fun u s1 ⟨x, H1, I1, rx, a, C, dx, fs, v, u0, ex, ea, c, k, l, q⟩ => ?_)
  subst ex
  obtain rfl : u = Value.ref a := rx
  exact getcon_ok I1 ea c k l fun s2 I2 => ⟨v, H1, I2, k.rel, q⟩
theorem ps_fld (ha : PE X o ta) (hv : PE X value tv) (hs : swapsWith value (some (.Attribute o f pos')) pos.line X.env = pure false) : PS X (.Assign [.Attribute o f pos'] value pos) (sFld X.K ta tv f) := by
  intro pins s σ H D I h
  refine plainObj_wpAny_Assign_Attribute (thn (hv pins s σ H _ I h) fun u s1 ⟨y, H1, I1, ry, q⟩ => thn (ha pins s1 σ H1 _ I1 q) fun ov s2 ⟨x, H2, I2, rx, a, C, dx, fs, ex, ea, c, n, l, q2⟩ => ?_) hs
  subst ex
  obtain rfl : ov = Value.ref a := rx
  exact setattr_ok I2 ea c n l ry fun s3 I3 => ⟨σ, _, I3, q2⟩
theorem ps_fldaug {op : Operator} {rd : V → V → Hp → VK → Prop} (ha : PE X o ta) (hv : PE X value tv) (hop : InOp X op rd) : PS X (.AugAssign (.Attribute o f tpos) op value pos) (sFldAug X.K ta tv rd f) := by
  intro pins s σ H D I h
  refine wpAny_AugAssign_AttributeAny (thn (ha pins s σ H _ I h) fun ov s1 ⟨x, H1, I1, rx, a, C, dx, fs, v, ex, ea, c, n, l, q⟩ => ?_)
  subst ex
  obtain rfl : ov = Value.ref a := rx
  refine getattr_ok I1 ea c n l fun u s2 I2 ru => thn (hv pins s2 σ H1 _ I2 q) fun w3 s3 ⟨y, H2, I3, ry, q3⟩ => thn (hop pins s3 σ H2 v y u w3 _ I3 ru ry q3) fun w4 s4 ⟨z, H3, I4, rz, dx', fs', ea', l', q4⟩ => ?_
  exact setattr_ok I4 ea' c n l' rz fun s5 I5 => ⟨σ, _, I5, q4⟩
def rAdd : V → V → Hp → VK → Prop := fun x y H Q => ∃ i j, x = .int i ∧ y = .int j ∧ Q (.int (i + j)) H
def rSub : V → V → Hp → VK → Prop := fun x y H Q => ∃ i j, x = .int i ∧ y = .int j ∧ Q (.int (i - j)) H
theorem in_add : InOp X .Add rAdd := by
  rintro pins s σ H x y u v Q I rx ry ⟨i, j, rfl, rfl, q⟩
  obtain ⟨t, rfl⟩ := (show ∃ t, u = Value.int i t from rx)
  obtain ⟨t', rfl⟩ := (show ∃ t', v = Value.int j t' from ry)
  exact PyProof.Rows.iadd_int ⟨.int (i + j), H, I.tok _, ⟨_, rfl⟩, q⟩
theorem in_sub : InOp X .Sub rSub := by
  rintro pins s σ H x y u v Q I rx ry ⟨i, j, rfl, rfl, q⟩
  obtain ⟨t, rfl⟩ := (show ∃ t, u = Value.int i t from rx)
  obtain ⟨t', rfl⟩ := (show ∃ t', v = Value.int j t' from ry)
  exact PyProof.Rows.isub_int ⟨.int (i - j), H, I.tok _, ⟨_, rfl⟩, q⟩

/-- what is between an instance and its method: the tree of a method call -/
theorem methcall_of {pl : Sem Bool} {m : Str} {apos : Pos} {args : List Expr} {pins : List (Addr × Obj)} {s : Shared} {σ : St} {H : Hp} {Q : Value → Shared → Prop} {te : TE} (he : PE X e te) (I : Inv X pins σ H s)
    (h : te σ H fun x H1 => ∃ a C dx fs g, x = .ref a ∧ H1 a = some (.ins C dx fs) ∧ Cls X.K C ∧ Meth X.K C m g ∧ fs.lookup m = none ∧
      ∀ s1, Inv X pins σ H1 s1 → wpAny (model X.prog X.w) X.A (callWith pos (.ref g) [.ref a] (backTo pos (starEach args X.env)) (backToKw pos (keywordEach [] X.env))) Q X.xe s1)
    (ht : eval (.Call (.Attribute e m apos) args [] pos) X.env = (do
      let ov ← eval e X.env
      standAt apos.atName
      let (f, first) ← holding [ov] (getMethod ov m pl)
      callWith pos f first (backTo pos (starEach args X.env)) (backToKw pos (keywordEach [] X.env)))) :
    wpAny (model X.prog X.w) X.A (eval (.Call (.Attribute e m apos) args [] pos) X.env) Q X.xe s := by
  refine PySem.W.methodCall_KW (pl := pl) (thn (he pins s σ H _ I h) fun u s1 ⟨x, H1, I1, rx, a, C, dx, fs, g, ex, ea, c, k, l, q⟩ => ?_) ht
  subst ex
  obtain rfl : u = Value.ref a := rx
  exact getmeth_ok I1 ea c k l (q s1 I1)
end

/-! ### isinstance -/
section
variable {X : Cx} {pins : List (Addr × Obj)} {σ : St} {H : Hp} {s : Shared} {A : Around} {E : Value → Shared → Prop} {Q : Value → Shared → Prop} {c : Value} {b : Bool}
/-- the type of a value, as the fragment's deciders take it; for an instance its class -/
inductive TyOf (K : PySem.W.Frag) (H : Hp) : V → Value → Prop where
  | non : TyOf K H .non (.type "NoneType")
  | bl (x : Bool) : TyOf K H (.bl x) (.type "bool")
  | int (i : Int) : TyOf K H (.int i) (.type "int")
  | str (x : Str) : TyOf K H (.str x) (.type "str")
  | flt (x : UInt64) : TyOf K H (.flt x) (.type "float")
  | lst {a : Addr} {xs : List V} (e : H a = some (.lst xs)) : TyOf K H (.ref a) (.type "list")
  | frz {a : Addr} {o : Obj} {xs : List V} (e : H a = some (.frz o (.lst xs))) : TyOf K H (.ref a) (.type "list")
  | tup {a : Addr} {xs : List V} (e : H a = some (.tup xs)) : TyOf K H (.ref a) (.type "tuple")
  | dK {a : Addr} {kvs : List (Key × V)} (e : H a = some (.dK kvs)) : TyOf K H (.ref a) (.type "dict")
  | dT {a : Addr} {kvs : List (List Key × V)} (e : H a = some (.dT kvs)) : TyOf K H (.ref a) (.type "dict")
  | ins {a C dx : Addr} {fs : List (Str × V)} (e : H a = some (.ins C dx fs)) (cl : Cls K C) (ha : PySem.W.findIn K (.ref C) "__class__" = some (some (.builtin "object.__class__")))
      (hn : PySem.W.specialIn K (.builtin "object.__class__") "__get__" = some (some (.builtin "getset_descriptor.__get__"))) (htk : PySem.W.takesIn K (.builtin "object.__class__") = some true)
      (hm : PySem.W.mroIn K C (.type "object") = some true) : TyOf K H (.ref a) (.ref C)
/-- isinstance(x, c) for one class c, a built-in or an own one: kitOne's answer -/
theorem isinst_ok {x : V} {u t : Value} (I : Inv X pins σ H s) (rx : RelV x u) (ty : TyOf X.K H x t) (e : PySem.W.kitOne X.K t c = some b) (h : ∀ tk, Q (.bool b) { s with toks := tk }) :
    wpAny (model X.prog X.w) A (call (.builtin "isinstance") [u, c]) Q E s := by
  cases ty with
  | non => cases (show u = Value.none from rx); exact PySem.W.kia_one PySem.W.kitx_none I.kIn True.intro e (fun z => nomatch z) h
  | bl y => cases (show u = Value.bool y from rx); exact PySem.W.kia_one PySem.W.kitx_bool I.kIn True.intro e (fun z => nomatch z) h
  | int i => obtain ⟨t, q⟩ := (show ∃ t, u = Value.int i t from rx); cases q; exact PySem.W.kia_one PySem.W.kitx_int I.kIn True.intro e (fun z => nomatch z) h
  | str y => obtain ⟨t, q⟩ := (show ∃ t, u = Value.str y t from rx); cases q; exact PySem.W.kia_one PySem.W.kitx_str I.kIn True.intro e (fun z => nomatch z) h
  | flt y => obtain ⟨t, q⟩ := (show ∃ t, u = Value.float y t from rx); cases q; exact PySem.W.kia_one PySem.W.kitx_float I.kIn True.intro e (fun z => nomatch z) h
  | @lst a xs ea =>
    cases (show u = Value.ref a from rx)
    obtain ⟨_, _, n, _, h1⟩ := (show ObjOk X.prog X.w H s.heap a (.lst xs) from I.hok a _ ea)
    exact PySem.W.kia_one PySem.W.kitx_list I.kIn ⟨_, h1, rfl⟩ e (fun z => nomatch z) h
  | @frz a ob xs ea =>
    cases (show u = Value.ref a from rx)
    obtain ⟨_, _, _, n, _, h1⟩ := (show ObjOk X.prog X.w H s.heap a (.frz ob (.lst xs)) from I.hok a _ ea)
    exact PySem.W.kia_one PySem.W.kitx_list I.kIn ⟨_, h1, rfl⟩ e (fun z => nomatch z) h
  | @tup a xs ea =>
    cases (show u = Value.ref a from rx)
    obtain ⟨_, _, _, p⟩ := (show ObjOk X.prog X.w H s.heap a (.tup xs) from I.hok a _ ea)
    obtain ⟨o, h1, h2, _⟩ := p
    exact PySem.W.kia_one PySem.W.kitx_tuple I.kIn ⟨o, h1, h2⟩ e (fun z => nomatch z) h
  | @dK a kvs ea =>
    cases (show u = Value.ref a from rx)
    obtain ⟨_, _, vs, _, p⟩ := (show ObjOk X.prog X.w H s.heap a (.dK kvs) from I.hok a _ ea)
    obtain ⟨o, es, ep, h1, h2, _⟩ := p
    exact PySem.W.kia_one PySem.W.kitx_dict I.kIn ⟨o, h1, h2.1⟩ e (fun z => nomatch z) h
  | @dT a kvs ea =>
    cases (show u = Value.ref a from rx)
    obtain ⟨_, _, xs, _, o, es, ep, h1, h2, _⟩ := (show ObjOk X.prog X.w H s.heap a (.dT kvs) from I.hok a _ ea)
    exact PySem.W.kia_one PySem.W.kitx_dict I.kIn ⟨o, h1, h2.1⟩ e (fun z => nomatch z) h
  | @ins a C dx fs ea cl ha hn htk hm =>
    cases (show u = Value.ref a from rx)
    obtain ⟨mA, O, _⟩ := ins_get I.hok ea
    obtain ⟨od, J, _⟩ := O.look
    exact PySem.W.kia_one (PySem.W.kitx_own (cl.get _) cl.hd ha hn htk hm) I.kIn J e (fun z => nomatch z) h
end
end L2

namespace L2
open PySem PySem.Spec PyProof.Rows

/-! ### room -/
structure Room (k : Nat) (A : Around) : Prop where
  hd : A.handled = none
  dp : A.depth + 3 * k + 5 < recursionLimit
  un : A.units + 16 * k + 200 < cLine
theorem Room.mono {j k : Nat} {A : Around} (r : Room k A) (h : j ≤ k) : Room j A := ⟨r.hd, by have := r.dp; omega, by have := r.un; omega⟩
theorem Room.deeper {k : Nat} {A : Around} (r : Room (k + 1) A) (env : Env) : Room k (A.deeper env) :=
  ⟨r.hd, by have := r.dp; show A.depth + 1 + 3 * k + 5 < _; omega, by have := r.un; show A.units + 3 + 16 * k + 200 < _; omega⟩
theorem Room.in1 {k : Nat} {A : Around} (r : Room (k + 1) A) : Room k A.in1 :=
  ⟨r.hd, by have := r.dp; show A.depth + 3 * k + 5 < _; omega, by have := r.un; show A.units + 1 + 16 * k + 200 < _; omega⟩
theorem make_depth {A : Around} {C : Addr} {us : List Value} {kw : List (Str × Value)} : (A.under (.builtin "type.__call__" ⟨.ref C :: us, kw⟩)).depth = A.depth + 1 := by
  first | rfl | simp [Around.under, Code.weight, Code.isCreation, Code.isGuard, Code.isCaller, Code.frames, Code.isFrame, guardIds]
theorem make_units {A : Around} {C : Addr} {us : List Value} {kw : List (Str × Value)} : (A.under (.builtin "type.__call__" ⟨.ref C :: us, kw⟩)).units = A.units + 1 := by
  first | rfl | simp [Around.under, Code.cUnits, Code.frames, Code.isFrame]
theorem Room.make {k : Nat} {A : Around} (r : Room (k + 1) A) (C : Addr) (us : List Value) (kw : List (Str × Value)) : Room k (A.under (.builtin "type.__call__" ⟨.ref C :: us, kw⟩)) :=
  ⟨r.hd, by have := r.dp; rw [make_depth]; omega, by have := r.un; rw [make_units]; omega⟩
theorem Room.depth {k : Nat} {A : Around} (r : Room k A) : A.depth < recursionLimit := by have := r.dp; omega
theorem Room.units {k : Nat} {A : Around} (r : Room k A) : A.units + 64 < cLine := by have := r.un; omega
theorem Room.units0 {k : Nat} {A : Around} (r : Room k A) : A.units < cLine := by have := r.un; omega

/-! ### argument lists and displays -/
def tNil : TA := fun _ H Q => Q [] H
def tCons (ta : TE) (tr : TA) : TA := fun σ H Q => ta σ H fun x H1 => tr σ H1 fun xs H2 => Q (x :: xs) H2
section
variable {X : Cx} {e : Expr} {es : List Expr} {te : TE} {t : TA} {pos : Pos}
theorem pa_nil : PA X [] tNil := fun _ _ _ _ H Q I h => Calls.spliced_nil ⟨[], H, I, .nil, h⟩
theorem pa_cons (ha : PE X e te) (hr : PA X es t) (hs : starEach (e :: es) X.env = (false, eval e X.env) :: starEach es X.env := by rfl) : PA X (e :: es) (tCons te t) := by
  intro pos pins s σ H Q I h
  rw [hs]
  show wpAny _ _ (spliced ((false, eval e X.env) :: backTo pos (starEach es X.env))) _ _ s
  refine Calls.spliced_cons (thn (ha pins s σ H _ I h) fun u s1 ⟨x, H1, I1, r1, q1⟩ => ?_)
  exact thn (hr pos pins s1 σ H1 _ I1 q1) fun us s2 ⟨xs, H2, I2, r2, q2⟩ => ⟨x :: xs, H2, I2, .cons r1 r2, q2⟩

/-- a tuple, a list of written items -/
def tTup (t : TA) : TE := fun σ H Q => t σ H fun xs H1 => xs.length ≤ sizeLine ∧ ∀ p, H1 p = none → Q (.ref p) (upd H1 p (.tup xs))
def tLst (t : TA) : TE := fun σ H Q => t σ H fun xs H1 => xs.length ≤ sizeLine ∧ ∀ p, H1 p = none → Q (.ref p) (upd H1 p (.lst xs))
theorem pe_tup {x1} (h : PA X es t) : PE X (.Tuple es x1 pos) (tTup t) := by
  intro pins s σ H Q I hq
  refine wpAny_Tuple_spliced (thn (h pos pins s σ H _ I hq) fun us s1 ⟨xs, H1, I1, r, z, q⟩ => ⟨by rw [← r.length]; exact z, ?_⟩)
  have hf : H1 s1.heap.objs.size = none := I1.hok.fresh (Nat.le_refl _)
  refine ⟨.ref s1.heap.objs.size, upd H1 s1.heap.objs.size (.tup xs), I1.laid (t' := s1.toks) (fun b u e => Heap.get?_push_of_some _ e) (Nat.le_refl _) ?_, rfl, q _ hf⟩
  exact ⟨z, us, r, ⟨_, Heap.get?_push_size _ rfl, rfl, _, rfl⟩⟩
theorem pe_lst (h : PA X es t) : PE X (.List es pos) (tLst t) := by
  intro pins s σ H Q I hq
  refine wpAny_List_spliced (thn (h pos pins s σ H _ I hq) fun us s1 ⟨xs, H1, I1, r, z, q⟩ => ⟨by rw [← r.length]; exact z, ?_⟩)
  have hf : H1 s1.heap.objs.size = none := I1.hok.fresh (Nat.le_refl _)
  refine ⟨.ref s1.heap.objs.size, upd H1 s1.heap.objs.size (.lst xs), I1.laid (t' := s1.toks) (fun b u e => Heap.get?_push_of_some _ e) (Nat.le_refl _) ?_, rfl, q _ hf⟩
  exact ⟨z, us, 0, r, Heap.get?_push_size _ rfl⟩
end

/-! ### what a def promises -/
/-- a def's promise: the bound arguments in the parameters' order, the heap, the wanted end, the wanted exception -/
abbrev Sp := List V → Hp → VK → XK → Prop
/-- how an exception lies behind a call (file 08 gives it): the callers' frames, abstract heap and state ahead of the call, the wish, the exception, the state -/
abbrev CXT := List Env → Hp → Shared → XK → Value → Shared → Prop

/-- the state at a call -/
structure Env0 (P : Program) (w : World) (K : PySem.W.Frag) (mg : Str → Option Value) (base : Heap) (A : Around) (outer : List Env) (s : Shared) (H : Hp) : Prop where
  frames : A.frames = some outer
  mod : Mod K mg base
  bs : ∀ b o, base.get? b = some o → s.heap.get? b = some o ∧ H b = none
  bsz : base.objs.size ≤ s.heap.objs.size
  funs : s.heap.FunFrames base outer
  frf : ∀ b ∈ frs outer, H b = none
  hok : HOk P w H s.heap
  bare : AllBare s.gens
/-- a call's end -/
def CE (outer : List Env) (P : Program) (w : World) (H : Hp) (s : Shared) (Q : VK) (u : Value) (s' : Shared) : Prop :=
  ∃ v H', s'.os = s.os ∧ AllBare s'.gens ∧ Un (frs outer) [] H H' s.heap s'.heap ∧ HOk P w H' s'.heap ∧ RelV v u ∧ Q v H'
def CR (CX : CXT) (outer : List Env) (P : Program) (w : World) (H : Hp) (s : Shared) (Q : VK) (E : XK) (r : Result) (s' : Shared) : Prop :=
  match r with
  | .ok (.ret u) => CE outer P w H s Q u s'
  | .ok _ => False
  | .error e => CX outer H s E e s'
structure FnOk (P : Program) (w : World) (K : PySem.W.Frag) (mg : Str → Option Value) (base : Heap) (CX : CXT) (k : Nat) (f : Addr) (fd : FuncData) (ps : List Str) (sp : Sp) : Prop where
  len : ∀ vs H Q E, sp vs H Q E → vs.length = ps.length
  run : ∀ (A : Around) (outer : List Env) (s : Shared) (H : Hp) (args : Args) (us : List Value) (vs : List V) (Q : VK) (E : XK), Room k A → Env0 P w K mg base A outer s H → BindsTo s fd args (ps.zip us) → Vals vs us → sp vs H Q E →
    codeAny (model P w) A (.call (.ref f) args) (CR CX outer P w H s Q E) s
theorem FnOk.mono {P : Program} {w : World} {K : PySem.W.Frag} {mg : Str → Option Value} {base : Heap} {CX : CXT} {j k : Nat} {f : Addr} {fd : FuncData} {ps : List Str} {sp : Sp} (F : FnOk P w K mg base CX j f fd ps sp) (h : j ≤ k) :
    FnOk P w K mg base CX k f fd ps sp := ⟨F.len, fun A outer s H args us vs Q E hr => F.run A outer s H args us vs Q E (hr.mono h)⟩
/-- a weaker promise -/
theorem FnOk.imp {P : Program} {w : World} {K : PySem.W.Frag} {mg : Str → Option Value} {base : Heap} {CX : CXT} {k : Nat} {f : Addr} {fd : FuncData} {ps : List Str} {sp sp' : Sp} (F : FnOk P w K mg base CX k f fd ps sp)
    (h : ∀ vs H Q E, sp' vs H Q E → sp vs H Q E) : FnOk P w K mg base CX k f fd ps sp' :=
  ⟨fun vs H Q E q => F.len vs H Q E (h _ _ _ _ q), fun A outer s H args us vs Q E hr he hb hv hs => F.run A outer s H args us vs Q E hr he hb hv (h _ _ _ _ hs)⟩

theorem Env0.make {P : Program} {w : World} {K : PySem.W.Frag} {mg : Str → Option Value} {base : Heap} {A : Around} {outer : List Env} {s : Shared} {H : Hp} (e : Env0 P w K mg base A outer s H) (C : Addr) (us : List Value) (kw : List (Str × Value)) :
    Env0 P w K mg base (A.under (.builtin "type.__call__" ⟨.ref C :: us, kw⟩)) outer s H := ⟨by first | exact e.frames | (simpa [Around.under, Code.envs, Code.isFrame, pushEnvs] using e.frames), e.mod, e.bs, e.bsz, e.funs, e.frf, e.hok, e.bare⟩
theorem Env0.in1 {P : Program} {w : World} {K : PySem.W.Frag} {mg : Str → Option Value} {base : Heap} {A : Around} {outer : List Env} {s : Shared} {H : Hp} (e : Env0 P w K mg base A outer s H) :
    Env0 P w K mg base A.in1 outer s H := ⟨e.frames, e.mod, e.bs, e.bsz, e.funs, e.frf, e.hok, e.bare⟩

section
variable {X : Cx} {pins : List (Addr × Obj)} {σ : St} {H : Hp} {s s' : Shared}
/-- from a body: what a callee wants -/
theorem Inv.env0 (I : Inv X pins σ H s) : Env0 X.prog X.w X.K X.mg X.base X.A X.stack s H :=
  ⟨I.ok.frames, I.ok.mod, I.bs, Nat.le_trans I.ok.bsz I.sz, I.stack, I.stkFree, I.hok, I.bare⟩
/-- behind a call -/
theorem Inv.after {Q : VK} {u : Value} (I : Inv X pins σ H s) (h : CE X.stack X.prog X.w H s Q u s') : EP X pins σ Q u s' := by
  obtain ⟨v, H', os, bare, un, hok, r, q⟩ := h
  obtain ⟨hh, g, d, t, os'⟩ := s'
  obtain rfl : os' = s.os := os
  exact ⟨v, H', I.call (h' := hh) (g' := g) (d' := d) (t' := t) (ch := []) un hok bare (fun b z => absurd z (by simp)), r, q⟩
end

/-! ### calls -/
/-- f(..): the written arguments, then the defaults dvs; E: what is wanted of an exception -/
def tCall (sp : Sp) (dvs : List V) (E : XK) (t : TA) : TE := fun σ H Q => t σ H fun vs H1 => sp (vs ++ dvs) H1 Q E
/-- o.m(..) of an instance of the class at C -/
def tMeth (C : Addr) (m : Str) (sp : Sp) (dvs : List V) (E : XK) (ta : TE) (t : TA) : TE := fun σ H Q => ta σ H fun x H1 => ∃ a dx fs, x = .ref a ∧ H1 a = some (.ins C dx fs) ∧ fs.lookup m = none ∧
  t σ H1 fun vs H2 => sp (x :: (vs ++ dvs)) H2 Q E
/-- C(..): a new instance and its dict, then __init__ -/
def tMake (C : Addr) (sp : Sp) (dvs : List V) (E : XK) (t : TA) : TE := fun σ H Q => t σ H fun vs H1 => ∀ x dx, H1 x = none → H1 dx = none → dx ≠ x →
  sp (.ref x :: (vs ++ dvs)) (upd (upd H1 dx (.own x)) x (.ins C dx [])) (fun v H2 => v = .non ∧ Q (.ref x) H2) E

/-- how the parameters are bound: us the positional arguments, kw the keywords' values by name, ds the defaults that fill up -/
def Binds (K : PySem.W.Frag) (fd : FuncData) (ps : List Str) (ds : List Value) : Prop :=
  ∀ (s : Shared) (us : List Value), K.In s.heap → (us ++ ds).length = ps.length → BindsTo s fd ⟨us, []⟩ (ps.zip (us ++ ds))
/-- every parameter is given -/
theorem Binds.all {K : PySem.W.Frag} {fd : FuncData} {ps : List Str} (h : ∀ us : List Value, us.length = ps.length → bindArgs fd ⟨us, []⟩ = pure (ps.zip us)) : Binds K fd ps [] := fun s us _ hl => by
  rw [List.append_nil] at hl ⊢
  exact .of_eq (h us hl)

/-- an exception of a callee reaches what this body wants of exceptions -/
def Passes (CX : CXT) (X : Cx) (E : XK) : Prop := ∀ (pins : List (Addr × Obj)) (σ : St) (H : Hp) (s : Shared) (e : Value) (s' : Shared), Inv X pins σ H s → CX X.stack H s E e s' → X.xe e s'

section
variable {X : Cx} {CX : CXT} {k : Nat} {f C : Addr} {fd : FuncData} {ps : List Str} {sp : Sp} {dvs : List V} {ds : List Value} {E : XK} {x m : Str} {p pos apos : Pos} {e o : Expr} {es : List Expr} {ta : TE} {t : TA}

/-- the callee runs -/
theorem run_fn {pins : List (Addr × Obj)} {σ : St} {H : Hp} {s : Shared} {Q : VK} {us : List Value} {vs : List V} (F : FnOk X.prog X.w X.K X.mg X.base CX k f fd ps sp) (hr : Room k X.A) (hb : Binds X.K fd ps ds) (hd : Vals dvs ds) (hx : Passes CX X E)
    (I : Inv X pins σ H s) (r : Vals vs us) (h : sp (vs ++ dvs) H Q E) : wpAny (model X.prog X.w) X.A (call (.ref f) us) (EP X pins σ Q) X.xe s := by
  have r2 : Vals (vs ++ dvs) (us ++ ds) := r.append hd
  have hl : (us ++ ds).length = ps.length := by rw [← r2.length]; exact F.len _ _ _ _ h
  refine wpAny_call (codeAny_mono (F.run X.A X.stack s H ⟨us, []⟩ (us ++ ds) (vs ++ dvs) Q E hr I.env0 (hb s us I.kIn hl) r2 h) fun r s' hq => ?_)
  cases r with
  | error e => exact hx pins σ H s e s' I hq
  | ok fl =>
    cases fl with
    | ret u => exact I.after hq
    | next => exact False.elim hq
    | brk => exact False.elim hq
    | cont => exact False.elim hq

theorem pe_call (F : FnOk X.prog X.w X.K X.mg X.base CX k f fd ps sp) (hr : Room k X.A) (hg : Gl X x) (hm : X.mg x = some (.ref f)) (hk : PySem.W.keepIn X.K (.ref f) = true) (hb : Binds X.K fd ps ds) (hd : Vals dvs ds) (hx : Passes CX X E)
    (ha : PA X (e :: es) t) (hdb : (x == ("__debug__" : Str)) = false := by decide) (he : starEach (e :: es) X.env = (false, eval e X.env) :: starEach es X.env := by rfl) (hpl : (backTo pos (starEach es X.env)).any (·.1) = false := by rfl) :
    PE X (.Call (.Name x p) (e :: es) [] pos) (tCall sp dvs E t) := by
  intro pins s σ H Q I h
  refine wpAny_Call_Name_kw (ld_glob I hg hm ?_ hdb)
  refine PySem.W.callWith_K (h₀ := X.base) I.ok.mod.kin hk (thn (ha pos pins s σ H _ I h) fun us s1 ⟨vs, H1, I1, r, q⟩ => ⟨I1.kIn, ?_⟩) he hpl
  exact run_fn F hr hb hd hx I1 r q
theorem pe_call0 (F : FnOk X.prog X.w X.K X.mg X.base CX k f fd ps sp) (hr : Room k X.A) (hg : Gl X x) (hm : X.mg x = some (.ref f)) (hk : PySem.W.keepIn X.K (.ref f) = true) (hb : Binds X.K fd ps ds) (hd : Vals dvs ds) (hx : Passes CX X E)
    (hdb : (x == ("__debug__" : Str)) = false := by decide) : PE X (.Call (.Name x p) [] [] pos) (tCall sp dvs E tNil) := by
  intro pins s σ H Q I h
  refine wpAny_Call_Name_kw (ld_glob I hg hm ?_ hdb)
  exact PySem.W.callWith_K0 I.kIn hk (run_fn (us := []) F hr hb hd hx I .nil h)

/-- o.m(e, ..) -/
theorem pe_meth {pl : Sem Bool} (he : PE X o ta) (c : Cls X.K C) (hm : Meth X.K C m f) (F : FnOk X.prog X.w X.K X.mg X.base CX k f fd ps sp) (hr : Room k X.A) (hb : Binds X.K fd ps ds) (hd : Vals dvs ds) (hx : Passes CX X E) (ha : PA X (e :: es) t)
    (hst : starEach (e :: es) X.env = (false, eval e X.env) :: starEach es X.env := by rfl) (hpl : (backTo pos (starEach es X.env)).any (·.1) = false := by rfl)
    (ht : eval (.Call (.Attribute o m apos) (e :: es) [] pos) X.env = (do
      let ov ← eval o X.env
      standAt apos.atName
      let (f, first) ← holding [ov] (getMethod ov m pl)
      callWith pos f first (backTo pos (starEach (e :: es) X.env)) (backToKw pos (keywordEach [] X.env))) := by rfl) :
    PE X (.Call (.Attribute o m apos) (e :: es) [] pos) (tMeth C m sp dvs E ta t) := by
  intro pins s σ H Q I h
  refine PySem.W.methodCall_KW (pl := pl) (thn (he pins s σ H _ I h) fun u s1 ⟨x, H1, I1, rx, a, dx, fs, ex, ea, l, q⟩ => ?_) ht
  subst ex
  obtain rfl : u = Value.ref a := rx
  refine getmeth_ok I1 ea c hm l ?_
  refine PySem.W.callWith_K (first := [.ref a]) (h₀ := X.base) I.ok.mod.kin hm.kp (thn (ha pos pins s1 σ H1 _ I1 q) fun us s2 ⟨vs, H2, I2, r, q2⟩ => ⟨I2.kIn, ?_⟩) hst hpl
  exact run_fn (us := .ref a :: us) (vs := .ref a :: vs) F hr hb hd hx I2 (.cons rfl r) q2
/-- o.m() -/
theorem pe_meth0 {pl : Sem Bool} (he : PE X o ta) (c : Cls X.K C) (hm : Meth X.K C m f) (F : FnOk X.prog X.w X.K X.mg X.base CX k f fd ps sp) (hr : Room k X.A) (hb : Binds X.K fd ps ds) (hd : Vals dvs ds) (hx : Passes CX X E)
    (ht : eval (.Call (.Attribute o m apos) [] [] pos) X.env = (do
      let ov ← eval o X.env
      standAt apos.atName
      let (f, first) ← holding [ov] (getMethod ov m pl)
      callWith pos f first (backTo pos (starEach [] X.env)) (backToKw pos (keywordEach [] X.env))) := by rfl) :
    PE X (.Call (.Attribute o m apos) [] [] pos) (tMeth C m sp dvs E ta tNil) := by
  intro pins s σ H Q I h
  refine PySem.W.methodCall_KW (pl := pl) (thn (he pins s σ H _ I h) fun u s1 ⟨x, H1, I1, rx, a, dx, fs, ex, ea, l, q⟩ => ?_) ht
  subst ex
  obtain rfl : u = Value.ref a := rx
  refine getmeth_ok I1 ea c hm l ?_
  exact PySem.W.callWith_K0 (first := [.ref a]) I1.kIn hm.kp (run_fn (us := [.ref a]) (vs := [.ref a]) F hr hb hd hx I1 (.cons rfl .nil) q)

/-- what a class must have to be made -/
structure Mk (K : PySem.W.Frag) (C f : Addr) : Prop where
  makes : PySem.W.makesIn K C = true
  init : PySem.W.findIn K (.ref C) "__init__" = some (some (.ref f))
  fn : PySem.W.isFn K (.ref f) = true
  kp : PySem.W.keepIn K (.ref C) = true

theorem run_make {pins : List (Addr × Obj)} {σ : St} {H : Hp} {s : Shared} {Q : VK} {us : List Value} {vs : List V} (M : Mk X.K C f) (F : FnOk X.prog X.w X.K X.mg X.base CX k f fd ps sp) (hr : Room (k + 1) X.A) (hb : Binds X.K fd ps ds) (hd : Vals dvs ds)
    (hx : Passes CX X E) (I : Inv X pins σ H s) (r : Vals vs us)
    (h : ∀ x dx, H x = none → H dx = none → dx ≠ x → sp (.ref x :: (vs ++ dvs)) (upd (upd H dx (.own x)) x (.ins C dx [])) (fun v H2 => v = .non ∧ Q (.ref x) H2) E) :
    wpAny (model X.prog X.w) X.A (call (.ref C) us) (EP X pins σ Q) X.xe s := by
  have hq := h (s.heap.objs.size + 1) s.heap.objs.size (I.hok.fresh (Nat.le_succ _)) (I.hok.fresh (Nat.le_refl _)) (Nat.ne_of_lt (Nat.lt_succ_self _))
  have I2 := Inv.made (C := C) I
  have r2 : Vals (V.ref (s.heap.objs.size + 1) :: (vs ++ dvs)) (Value.ref (s.heap.objs.size + 1) :: (us ++ ds)) := .cons rfl (r.append hd)
  have hl : (Value.ref (s.heap.objs.size + 1) :: us ++ ds).length = ps.length := by
    have e := r2.length
    rw [F.len _ _ _ _ hq] at e
    exact e.symm
  refine wpAny_call (make_map (f := f) I.kIn M.makes M.init (beq_iff_eq.mp M.fn) (codeAny_mono (F.run _ X.stack _ _ ⟨Value.ref (s.heap.objs.size + 1) :: us, []⟩ (Value.ref (s.heap.objs.size + 1) :: (us ++ ds)) _ _ E (hr.make C us [])
    (I2.env0.make C us []) (hb _ (Value.ref (s.heap.objs.size + 1) :: us) I2.kIn hl) r2 hq) fun r s' hq' => ?_))
  cases r with
  | error e => exact hx pins σ _ _ e s' I2 hq'
  | ok fl =>
    cases fl with
    | ret u =>
      obtain ⟨v, H', I3, rv, ev, q3⟩ := I2.after hq'
      subst ev
      exact ⟨rv, ⟨V.ref (s.heap.objs.size + 1), H', I3, rfl, q3⟩⟩
    | next => exact False.elim hq'
    | brk => exact False.elim hq'
    | cont => exact False.elim hq'
theorem pe_make (M : Mk X.K C f) (F : FnOk X.prog X.w X.K X.mg X.base CX k f fd ps sp) (hr : Room (k + 1) X.A) (hg : Gl X x) (hm : X.mg x = some (.ref C)) (hb : Binds X.K fd ps ds) (hd : Vals dvs ds) (hx : Passes CX X E)
    (ha : PA X (e :: es) t) (hdb : (x == ("__debug__" : Str)) = false := by decide) (he : starEach (e :: es) X.env = (false, eval e X.env) :: starEach es X.env := by rfl) (hpl : (backTo pos (starEach es X.env)).any (·.1) = false := by rfl) :
    PE X (.Call (.Name x p) (e :: es) [] pos) (tMake C sp dvs E t) := by
  intro pins s σ H Q I h
  refine wpAny_Call_Name_kw (ld_glob I hg hm ?_ hdb)
  refine PySem.W.callWith_K (h₀ := X.base) I.ok.mod.kin M.kp (thn (ha pos pins s σ H _ I h) fun us s1 ⟨vs, H1, I1, r, q⟩ => ⟨I1.kIn, ?_⟩) he hpl
  exact run_make M F hr hb hd hx I1 r q
theorem pe_make0 (M : Mk X.K C f) (F : FnOk X.prog X.w X.K X.mg X.base CX k f fd ps sp) (hr : Room (k + 1) X.A) (hg : Gl X x) (hm : X.mg x = some (.ref C)) (hb : Binds X.K fd ps ds) (hd : Vals dvs ds) (hx : Passes CX X E)
    (hdb : (x == ("__debug__" : Str)) = false := by decide) : PE X (.Call (.Name x p) [] [] pos) (tMake C sp dvs E tNil) := by
  intro pins s σ H Q I h
  refine wpAny_Call_Name_kw (ld_glob I hg hm ?_ hdb)
  exact PySem.W.callWith_K0 I.kIn M.kp (run_make (us := []) M F hr hb hd hx I .nil h)
end

/-! ### keywords -/
/-- the values of the keywords, from the left -/
def PK (X : Cx) (kws : List Keyword) (t : TA) : Prop :=
  ∀ (pos : Pos) (pins : List (Addr × Obj)) (s : Shared) (σ : St) (H : Hp) (Q : List V → Hp → Prop), Inv X pins σ H s → t σ H Q → wpAny (model X.prog X.w) X.A (evalAll ((backToKw pos (keywordEach kws X.env)).map (·.2))) (AP X pins σ Q) X.xe s
section
variable {X : Cx} {CX : CXT} {k : Nat} {f C : Addr} {fd : FuncData} {ps ks : List Str} {sp : Sp} {E : XK} {x m : Str} {p pos apos kpos : Pos} {e o : Expr} {es : List Expr} {kws : List Keyword} {te ta : TE} {t tk : TA} {nm : Option Str}
theorem pk_nil : PK X [] tNil := fun _ _ _ _ H Q I h => wpAny_evalAll_nil ⟨[], H, I, .nil, h⟩
theorem pk_cons (ha : PE X e te) (hr : PK X kws t) : PK X (⟨nm, e, kpos⟩ :: kws) (tCons te t) := by
  intro pos pins s σ H Q I h
  show wpAny _ _ (evalAll ((do let v ← eval e X.env; standAt pos; pure v) :: (backToKw pos (keywordEach kws X.env)).map (·.2))) _ _ s
  refine wpAny_evalAll_cons (wpAny_bind (thn (ha pins s σ H _ I h) fun u s1 ⟨x, H1, I1, r1, q1⟩ => wpAny_bind (wpAny_standAt (wpAny_pure ?_))))
  exact thn (hr pos pins s1 σ H1 _ I1 q1) fun us s2 ⟨xs, H2, I2, r2, q2⟩ => ⟨x :: xs, H2, I2, .cons r1 r2, q2⟩

/-- how a call with keywords binds: g puts the positional values us and the keywords' values ws (names ks) in the parameters' order, defaults among them -/
structure KBinds (K : PySem.W.Frag) (fd : FuncData) (ps ks : List Str) (g : List Value → List Value → List Value) (gV : List V → List V → List V) : Prop where
  to : ∀ (s : Shared) (us ws : List Value), K.In s.heap → (g us ws).length = ps.length → BindsTo s fd ⟨us, ks.zip ws⟩ (ps.zip (g us ws))
  rel : ∀ {vs : List V} {us : List Value} {zs : List V} {ws : List Value}, Vals vs us → Vals zs ws → Vals (gV vs zs) (g us ws)
def tCallK (sp : Sp) (gV : List V → List V → List V) (E : XK) (t tk : TA) : TE := fun σ H Q => t σ H fun vs H1 => tk σ H1 fun zs H2 => sp (gV vs zs) H2 Q E
variable {g : List Value → List Value → List Value} {gV : List V → List V → List V}
theorem run_fnk {pins : List (Addr × Obj)} {σ : St} {H : Hp} {s : Shared} {Q : VK} {us ws : List Value} {vs zs : List V} (F : FnOk X.prog X.w X.K X.mg X.base CX k f fd ps sp) (hr : Room k X.A) (hb : KBinds X.K fd ps ks g gV) (hx : Passes CX X E)
    (I : Inv X pins σ H s) (r : Vals vs us) (rz : Vals zs ws) (h : sp (gV vs zs) H Q E) : wpAny (model X.prog X.w) X.A (call (.ref f) us (ks.zip ws)) (EP X pins σ Q) X.xe s := by
  have r2 := hb.rel r rz
  have hl : (g us ws).length = ps.length := by rw [← r2.length]; exact F.len _ _ _ _ h
  refine wpAny_call (codeAny_mono (F.run X.A X.stack s H ⟨us, ks.zip ws⟩ (g us ws) (gV vs zs) Q E hr I.env0 (hb.to s us ws I.kIn hl) r2 h) fun r s' hq => ?_)
  cases r with
  | error e => exact hx pins σ H s e s' I hq
  | ok fl =>
    cases fl with
    | ret u => exact I.after hq
    | next => exact False.elim hq
    | brk => exact False.elim hq
    | cont => exact False.elim hq
/-- f(e, .., k = v, ..) -/
theorem pe_callK (F : FnOk X.prog X.w X.K X.mg X.base CX k f fd ps sp) (hr : Room k X.A) (hg : Gl X x) (hm : X.mg x = some (.ref f)) (hk : PySem.W.keepIn X.K (.ref f) = true) (hb : KBinds X.K fd ps ks g gV) (hx : Passes CX X E)
    (ha : PA X (e :: es) t) (hkw : PK X kws tk) (hall : (backToKw pos (keywordEach kws X.env)).all (·.1.isSome) = true := by rfl) (hks : (backToKw pos (keywordEach kws X.env)).filterMap (·.1) = ks := by rfl)
    (hdb : (x == ("__debug__" : Str)) = false := by decide) (he : starEach (e :: es) X.env = (false, eval e X.env) :: starEach es X.env := by rfl)
    (hpl : ((backTo pos (starEach (e :: es) X.env)).any (·.1) || (backToKw pos (keywordEach kws X.env)).any (·.1.isNone)) = false := by rfl) :
    PE X (.Call (.Name x p) (e :: es) kws pos) (tCallK sp gV E t tk) := by
  intro pins s σ H Q I h
  refine wpAny_Call_Name_kw (ld_glob I hg hm ?_ hdb)
  refine PySem.W.callWith_KW (h₀ := X.base) I.ok.mod.kin hk hall (thn (ha pos pins s σ H _ I h) fun us s1 ⟨vs, H1, I1, r, q⟩ => ?_) hpl he
  refine thn (hkw pos pins s1 σ H1 _ I1 q) fun ws s2 ⟨zs, H2, I2, rz, q2⟩ => ⟨I2.kIn, ?_⟩
  rw [hks]
  exact run_fnk F hr hb hx I2 r rz q2
end

/-! ### a def's body keeps its promise -/
/-- names: the parameters first -/
structure FnScope (N P : List Str) (sc : Scope) : Prop where
  kind : sc.kind = .function
  co : sc.isCoroutine = false
  gen : sc.isGenerator = false
  nd : N.Nodup
  pre : N.take P.length = P
  par : ∀ x ∈ P, sc.names.lookup x = some .local ∨ sc.names.lookup x = some .cell
  nofree : ∀ y ∈ sc.names, y.2 ≠ .free

theorem bindL_out {kindOf : Str → Option NameKind} {x : Str} : ∀ {binds : List (Str × Value)} {m : Str → Option Value}, (∀ v, (x, v) ∉ binds) → bindL kindOf binds m x = m x
  | [], _, _ => rfl
  | (n, v) :: r, m, h => by
    unfold bindL
    rw [bindL_out fun w hw => h w (List.mem_cons_of_mem _ hw)]
    split
    · have : x ≠ n := by rintro rfl; exact h v List.mem_cons_self
      simp [this]
    · rfl
theorem bindC_out {kindOf : Str → Option NameKind} {x : Str} : ∀ {binds : List (Str × Value)} {m : Str → Option Value}, (∀ v, (x, v) ∉ binds) → bindC kindOf binds m x = m x
  | [], _, _ => rfl
  | (n, v) :: r, m, h => by
    unfold bindC
    rw [bindC_out fun w hw => h w (List.mem_cons_of_mem _ hw)]
    split
    · rfl
    · have : x ≠ n := by rintro rfl; exact h v List.mem_cons_self
      simp [this]
theorem bindL_get {kindOf : Str → Option NameKind} {x : Str} {v : Value} : ∀ {P : List Str} {vs : List Value} {i : Nat} {m : Str → Option Value}, P.Nodup → P[i]? = some x → vs[i]? = some v → kindOf x = some .local →
    bindL kindOf (P.zip vs) m x = some v
  | [], _, _, _, _, h, _, _ => by simp at h
  | _ :: _, [], _, _, _, _, h, _ => by simp at h
  | p :: P, w :: vs, 0, m, nd, h1, h2, hk => by
    simp at h1 h2; subst h1; subst h2
    show bindL kindOf ((p, w) :: P.zip vs) m p = _
    unfold bindL
    rw [bindL_out fun v hv => (List.nodup_cons.mp nd).1 (List.of_mem_zip hv).1, if_pos hk]
    simp
  | p :: P, w :: vs, i + 1, m, nd, h1, h2, hk => by
    show bindL kindOf ((p, w) :: P.zip vs) m x = _
    unfold bindL
    exact bindL_get (i := i) (List.nodup_cons.mp nd).2 (by simpa using h1) (by simpa using h2) hk
theorem bindC_get {kindOf : Str → Option NameKind} {x : Str} {v : Value} : ∀ {P : List Str} {vs : List Value} {i : Nat} {m : Str → Option Value}, P.Nodup → P[i]? = some x → vs[i]? = some v → kindOf x ≠ some .local →
    bindC kindOf (P.zip vs) m x = some v
  | [], _, _, _, _, h, _, _ => by simp at h
  | _ :: _, [], _, _, _, _, h, _ => by simp at h
  | p :: P, w :: vs, 0, m, nd, h1, h2, hk => by
    simp at h1 h2; subst h1; subst h2
    show bindC kindOf ((p, w) :: P.zip vs) m p = _
    unfold bindC
    rw [bindC_out fun v hv => (List.nodup_cons.mp nd).1 (List.of_mem_zip hv).1, if_neg hk]
    simp
  | p :: P, w :: vs, i + 1, m, nd, h1, h2, hk => by
    show bindC kindOf ((p, w) :: P.zip vs) m x = _
    unfold bindC
    exact bindC_get (i := i) (List.nodup_cons.mp nd).2 (by simpa using h1) (by simpa using h2) hk

/-- the names' values at the entry -/
def start (N : List Str) (vs : List V) : St := vs.map some ++ List.replicate (N.length - vs.length) none

/-- the context of a def's body, at its entry; an exception leaves the frame, then lies as CX says -/
def cxOf (CX : CXT) (P : Program) (w : World) (K : PySem.W.Frag) (mg : Str → Option Value) (base : Heap) (N : List Str) (qual : Str) (scope : Scope) (f : Addr) (cd : Value) (A : Around) (outer : List Env) (s : Shared) (H : Hp) (E : XK) : Cx where
  prog := P
  w := w
  K := K
  mg := mg
  base := base
  A := A.deeper (envOfC qual scope s.heap.objs.size f cd)
  N := N
  s₀ := s
  H₀ := H
  env := envOfC qual scope s.heap.objs.size f cd
  outer := outer
  stack := envOfC qual scope s.heap.objs.size f cd :: outer
  ex := []
  calm := true
  fn := fun _ => true
  pn := []
  xe := fun e s' => wpAny (model P w) (A.deeper (envOfC qual scope s.heap.objs.size f cd)) (leaving (envOfC qual scope s.heap.objs.size f cd) e) (fun _ s'' => CX outer H s E e s'') (fun e' s'' => CX outer H s E e' s'') s'

theorem cell_has {sc : Scope} {n : Nat} {x : Str} (h : sc.names.lookup x = some .cell) : ∃ c, (cellsFrom n sc.names []).lookup x = some c := by
  have q := PySem.W.cellsFrom_some sc.names n [] (.inl h)
  exact Option.isSome_iff_exists.mp q

theorem inv_start {CX : CXT} {P : Program} {w : World} {K : PySem.W.Frag} {mg : Str → Option Value} {base : Heap} {N ps : List Str} {qual : Str} {scope : Scope} {f : Addr} {cd : Value} {A : Around} {outer : List Env} {s s1 : Shared} {H : Hp} {E : XK} {us : List Value} {vs : List V}
    (S : FnScope N ps scope) (hd : A.handled = none) (e0 : Env0 P w K mg base A outer s H) (hl : vs.length = ps.length) (r : Vals vs us)
    (x : InCallC s s.heap.objs.size (bindL (envOfC qual scope s.heap.objs.size f cd).kindOf (ps.zip us) fun _ => none) (cellsFrom (s.heap.objs.size + 1) scope.names []) (bindC (envOfC qual scope s.heap.objs.size f cd).kindOf (ps.zip us) fun _ => none) s1) :
    Inv (cxOf CX P w K mg base N qual scope f cd A outer s H E) [] (start N vs) H s1 := by
  have hpl : ps.length ≤ N.length := by have := congrArg List.length S.pre; rw [List.length_take] at this; omega
  obtain ⟨h1, tk, rfl, hk⟩ := x.done
  have noA : ∀ b : Addr, b ∉ (cxOf CX P w K mg base N qual scope f cd A outer s H E).ex := fun b z => absurd (show b ∈ ([] : List Addr) from z) (by simp)
  refine ⟨⟨e0.mod, S.kind, rfl, rfl, Nat.le_refl _, fun y z c h1 h2 => ?_, fun y hy => ?_, fun y c _ h => ?_, fun _ => hd, Around.frames_deeper e0.frames, .inr ⟨rfl, rfl⟩, fun b z => absurd z (noA b), e0.bs, e0.bsz, fun b _ _ => noA b, fun b z => absurd z (noA b), e0.funs, e0.frf⟩,
    rfl, e0.bare, Un.kept hk, ⟨_, x.toInCall.ns, fun i y v h1 h2 h3 => ?_⟩, fun y c h => ⟨_, x.cell y c h⟩, e0.hok.fresh (Nat.le_refl _), fun y c h => ?_, fun p hp => absurd (show p ∈ ([] : List (Addr × Obj)) from hp) (by simp), e0.hok.kept hk, ?_⟩
  · exact name_of_addr x.apart (PySem.mem_of_lookup h1) (PySem.mem_of_lookup h2)
  · have hy : scope.names.lookup y = some .cell ∨ scope.names.lookup y = some .free := hy
    rcases hy with hy | hy
    · exact cell_has hy
    · exact absurd rfl (S.nofree _ (PySem.mem_of_lookup hy))
  · exact Nat.le_of_lt (x.above y c (PySem.mem_of_lookup h))
  · have hi : i < vs.length := by
      unfold start at h2
      by_cases hi : i < vs.length
      · exact hi
      · rw [List.getElem?_append_right (by simpa using hi)] at h2
        rw [List.getElem?_replicate] at h2
        split at h2 <;> cases h2
    have ha : vs[i]? = some v := by
      unfold start at h2
      rw [List.getElem?_append_left (by simpa using hi), List.getElem?_map] at h2
      cases e : vs[i]? with
      | none => rw [e] at h2; cases h2
      | some a => rw [e] at h2; cases h2; rfl
    obtain ⟨u, hu, rv⟩ := r.get ha
    have hp : ps[i]? = some y := by
      rw [← S.pre, List.getElem?_take_of_lt (by omega)]; exact h1
    have ndP : ps.Nodup := by rw [← S.pre]; exact S.nd.sublist (List.take_sublist _ _)
    refine ⟨u, rv, ?_⟩
    rcases S.par y (List.mem_of_getElem? hp) with k | k
    · exact .inl ⟨k, bindL_get ndP hp hu k⟩
    · obtain ⟨c, e⟩ := cell_has (n := s.heap.objs.size + 1) k
      refine .inr ⟨.inl k, c, e, ?_⟩
      have q := x.cell y c e
      rw [bindC_get ndP hp hu (by show scope.names.lookup y ≠ _; rw [k]; decide)] at q
      exact q
  · exact e0.hok.fresh (Nat.le_of_lt (x.above y c (PySem.mem_of_lookup h)))
  · unfold start
    show _ = N.length
    rw [List.length_append, List.length_map, List.length_replicate]
    omega

/-- THE RULE: a def (or a method) of the text, by its body. The body's reading t is chosen for each entry; it is run at the parameters' values -/
theorem fn_of {CX : CXT} {P : Program} {w : World} {K : PySem.W.Frag} {mg : Str → Option Value} {base : Heap} {k : Nat} {f : Addr} {name qual : Str} {params : Arguments} {body : List Stmt} {scope : Scope} {dV kV doc pm cdv ct oc : Value} {an od : Option Addr}
    {osl : Array (Option Value)} {N ps : List Str} {sp : Sp} (lk : K.lookup f = some ⟨oc, od, .func (PySem.W.fnOf name qual params body scope dV kV doc pm an cdv ct), osl⟩) (hcd : PySem.W.codeIn K cdv qual = true) (S : FnScope N ps scope)
    (len : ∀ vs H Q E, sp vs H Q E → vs.length = ps.length)
    (hbody : ∀ (A : Around) (outer : List Env) (s : Shared) (H : Hp) (vs : List V) (Q : VK) (E : XK), Room k (A.deeper (envOfC qual scope s.heap.objs.size f cdv)) → sp vs H Q E →
      ∃ t, PSs (cxOf CX P w K mg base N qual scope f cdv A outer s H E) body t ∧ t { nx := fun _ H' => Q .non H', rt := Q } (start N vs) H) :
    FnOk P w K mg base CX (k + 1) f (PySem.W.fnOf name qual params body scope dV kV doc pm an cdv ct) ps sp := by
  refine ⟨len, fun A outer s H args us vs Q E hr e0 hb r hsp => ?_⟩
  have hl := len _ _ _ _ hsp
  have KX : K.In s.heap := e0.mod.kin.keeps fun b o e => (e0.bs b o e).1
  have lim : s.heap.NoLimit := e0.mod.nolimit.keeps fun b o e => (e0.bs b o e).1
  have hkind : ∀ y ∈ ps.zip us, scope.names.lookup y.1 = some .local ∨ (scope.names.lookup y.1 = some .cell ∧ ((cellsFrom (s.heap.objs.size + 1) scope.names []).lookup y.1).isSome = true) := fun ⟨n, v⟩ hy => by
    rcases S.par n (List.of_mem_zip hy).1 with q | q
    · exact .inl q
    · exact .inr ⟨q, PySem.W.cellsFrom_some _ _ _ (.inl q)⟩
  refine codeAny_call_function hr.depth (KX _ _ lk) rfl S.co S.gen rfl (PySem.W.codeRec_of KX hcd) (hb _ _ _ _ ?_)
  refine wpAny_newFunctionEnv_cells S.kind hkind fun env he s1 x => ?_
  subst he
  refine ⟨lim.keeps x.toInCall.keep, codeAny_func ?_⟩
  obtain ⟨t, ht, hq⟩ := hbody A outer s H vs Q E (hr.deeper _) hsp
  have I : Inv (cxOf CX P w K mg base N qual scope f cdv A outer s H E) [] (start N vs) H s1 := inv_start S hr.hd e0 hl r x
  refine wpAny_mono (ht [] s1 (start N vs) H _ I hq) (fun fl s' hs => ?_) fun e s' hs => hs
  have fin : ∀ {σ' : St} {H' : Hp} {v : V} {u : Value}, Inv (cxOf CX P w K mg base N qual scope f cdv A outer s H E) [] σ' H' s' → RelV v u → Q v H' → CE outer P w H s Q u s' :=
    fun {σ' H' v u} J rv q => ⟨v, H', J.os, J.bare, J.base, J.hok, rv, q⟩
  cases fl with
  | ret u =>
    obtain ⟨v, σ', H', J, rv, q⟩ := hs
    exact fin J rv q
  | next =>
    obtain ⟨σ', H', J, q⟩ := hs
    exact fin (v := V.non) (u := Value.none) J rfl q
  | brk =>
    obtain ⟨_, _, _, q⟩ := hs
    exact False.elim q
  | cont =>
    obtain ⟨_, _, _, q⟩ := hs
    exact False.elim q
end L2

namespace L2
open PySem PySem.Spec PyProof.Rows
section
variable {X : Cx} {x : Str} {p pos : Pos} {e : Expr} {es : List Expr} {t : TA} {id T : String} {r : List V → Hp → VK → Prop}

def tCB (r : List V → Hp → VK → Prop) (t : TA) : TE := fun σ H Q => t σ H fun vs H1 => r vs H1 Q
/-- f(e, ..), f a built-in function -/
theorem pe_callB (hc : CallR X (.builtin id) r) (hg : Gl X x) (hm : X.mg x = none) (hv : bootBuiltins x = some (.builtin id)) (ha : PA X (e :: es) t) (hn : x ≠ "__name__" := by decide) (hdb : (x == ("__debug__" : Str)) = false := by decide)
    (he : starEach (e :: es) X.env = (false, eval e X.env) :: starEach es X.env := by rfl) (hpl : (backTo pos (starEach es X.env)).any (·.1) = false := by rfl) : PE X (.Call (.Name x p) (e :: es) [] pos) (tCB r t) := by
  intro pins s σ H Q I h
  refine wpAny_Call_Name_kw (ld_blt I hg hm hv ?_ hn hdb)
  exact PyProof.Rows.callWith_builtin1 (thn (ha pos pins s σ H _ I h) fun us s1 ⟨vs, H1, I1, r1, q1⟩ => hc pins s1 σ H1 vs us Q I1 r1 q1) he hpl
/-- T(e, ..), T a built-in type -/
theorem pe_callTy (hc : CallR X (.type T) r) (hg : Gl X x) (hm : X.mg x = none) (hv : bootBuiltins x = some (.type T)) (ha : PA X (e :: es) t) (hn : x ≠ "__name__" := by decide) (hdb : (x == ("__debug__" : Str)) = false := by decide)
    (he : starEach (e :: es) X.env = (false, eval e X.env) :: starEach es X.env := by rfl) (hpl : (backTo pos (starEach es X.env)).any (·.1) = false := by rfl) : PE X (.Call (.Name x p) (e :: es) [] pos) (tCB r t) := by
  intro pins s σ H Q I h
  refine wpAny_Call_Name_kw (ld_blt I hg hm hv ?_ hn hdb)
  exact PyProof.Rows.callWith_type1 (thn (ha pos pins s σ H _ I h) fun us s1 ⟨vs, H1, I1, r1, q1⟩ => hc pins s1 σ H1 vs us Q I1 r1 q1) he hpl
/-- T() -/
theorem pe_callTy0 (hc : CallR X (.type T) r) (hg : Gl X x) (hm : X.mg x = none) (hv : bootBuiltins x = some (.type T)) (hn : x ≠ "__name__" := by decide) (hdb : (x == ("__debug__" : Str)) = false := by decide) :
    PE X (.Call (.Name x p) [] [] pos) (tCB r tNil) := by
  intro pins s σ H Q I h
  refine wpAny_Call_Name_kw (ld_blt I hg hm hv ?_ hn hdb)
  exact PyProof.Rows.callWith_type0 (hc pins s σ H [] [] Q I .nil h)
end
end L2

namespace HT
open PySem PyProof.Rows

/-- t < u of tuples of ints -/
def lexLt : List Int → List Int → Bool
  | [], [] => false
  | [], _ :: _ => true
  | _ :: _, [] => false
  | x :: xs, y :: ys => if x = y then lexLt xs ys else decide (x < y)
theorem lexLt_cons (x y : Int) (xs ys : List Int) : lexLt (x :: xs) (y :: ys) = if x = y then lexLt xs ys else decide (x < y) := rfl
theorem lexLt_nil_nil : lexLt [] [] = false := rfl
theorem lexLt_nil_cons (y : Int) (ys : List Int) : lexLt [] (y :: ys) = true := rfl
theorem lexLt_cons_nil (x : Int) (xs : List Int) : lexLt (x :: xs) [] = false := rfl

theorem eqAt_int (A : Around) (s : Shared) (a : Int) (t : Tok) (c : Int) (u : Tok) : ∃ e, SeqAt.EqAt A s (.int a t) (.int c u) e ∧ (e = true ↔ a = c) :=
  ⟨(a == c), SeqAt.EqAt.int_int a t c u, by simp⟩
theorem rcLt_int (A : Around) (s : Shared) (a : Int) (t : Tok) (c : Int) (u : Tok) (prog : Program) (w : World) (E : Value → Shared → Prop) (Q : Value → Shared → Prop) (h : Q (.bool (decide (a < c))) s) :
    wpAny (model prog w) A (richCompare .Lt (.int a t) (.int c u)) Q E s :=
  (PyProof.Rows.lt_int h : wpAny (model prog w) A (compareOp .Lt (.int a t) (.int c u)) Q E s)

section
open PySem.SeqAt
open PySem.AutoSeq1 (wpAny_loadPart')
open PySem.MeetsSeq PySem.MeetsSeq2 PySem.MeetsSeq3

theorem tuple_lt_ints (l b : Addr) (items items2 : Array Value) (n n2 : Nat) (dd dd2 : Option Addr) (sl sl2 : Array (Option Value)) (ns ms : List Int) (hi : IntsAre items.toList ns) (hj : IntsAre items2.toList ms) :
    Meets (Builtin.«tuple.__lt__» ⟨[.ref l, .ref b], []⟩)
      (fun _ R s => s.heap.get? l = some { cls := .type "tuple", dict := dd, data := .seq items n, slots := sl } ∧ s.heap.get? b = some { cls := .type "tuple", dict := dd2, data := .seq items2 n2, slots := sl2 } ∧
        R (.ok (.ret (.bool (lexLt ns ms)))) s) :=
  .of_wp fun prog w A R s h => by
    obtain ⟨hp, g, d, tk, os⟩ := s; obtain ⟨hl, hb, h⟩ := h
    have f2 := AutoSeq1.sub_tuple_tuple
    have z1 : items.size = ns.length := by rw [← hi.length]; simp
    have z2 : items2.size = ms.length := by rw [← hj.length]; simp
    wp_walk using wpAny_loadPart' hl, wpAny_loadPart' hb, wpAny_forIn_list _ (fun rest b s' => b.1 = none ∧ s' = ⟨hp, g, d, tk, os⟩ ∧ ∃ (vs ws : List Value) (ns' ms' : List Int), rest = vs.zip ws ∧
      IntsAre vs ns' ∧ IntsAre ws ms' ∧ ns'.length + items2.size = ms'.length + items.size ∧ R (.ok (.ret (.bool (lexLt ns' ms')))) ⟨hp, g, d, tk, os⟩) _
    case turn =>
      rintro ⟨y, x⟩ rest b s' ⟨hb', rfl, vs, ws, ns', ms', hz, hvi, hwi, hlen, hR⟩
      cases hvi with
      | nil => rw [List.zip_nil_left] at hz; cases hz
      | cons a t hvi' =>
        cases hwi with
        | nil => rw [List.zip_nil_right] at hz; cases hz
        | cons c u hwi' =>
          rw [List.zip_cons_cons] at hz
          injection hz with hyx hrest
          injection hyx with hy hx
          subst hy hx
          rw [lexLt_cons] at hR
          simp only [List.length_cons] at hlen
          obtain ⟨e, he, hiff⟩ := eqAt_int A.in1 ⟨hp, g, d, tk, os⟩ a t c u
          refine wpAny_bind (he prog w _ _ ?_)
          cases e with
          | true =>
            rw [if_pos (hiff.mp rfl)] at hR
            wp_walk
            exact ⟨rfl, rfl, _, _, _, _, hrest, hvi', hwi', by omega, hR⟩
          | false =>
            rw [if_neg (fun q => absurd (hiff.mpr q) Bool.false_ne_true)] at hR
            have hri := rcLt_int A.in1 ⟨hp, g, d, tk, os⟩ a t c u prog w
            wp_walk using hri
            exact ⟨_, rfl, by simpa using hR⟩
    case fin =>
      rintro ⟨b1, b2⟩ s' ⟨hb', rfl, vs, ws, ns', ms', hz, hvi, hwi, hlen, hR⟩
      simp only at hb'
      subst hb'
      have hv : lexLt ns' ms' = decide (items.size < items2.size) := by
        cases hvi with
        | nil =>
          cases hwi with
          | nil =>
            simp only [List.length_nil] at hlen
            rw [lexLt_nil_nil]
            exact (decide_eq_false (by omega)).symm
          | cons c u hw =>
            simp only [List.length_nil, List.length_cons] at hlen
            rw [lexLt_nil_cons]
            exact (decide_eq_true (by omega)).symm
        | cons a t hv =>
          cases hwi with
          | nil =>
            simp only [List.length_nil, List.length_cons] at hlen
            rw [lexLt_cons_nil]
            exact (decide_eq_false (by omega)).symm
          | cons c u hw =>
            rw [List.zip_cons_cons] at hz
            cases hz
      rw [hv] at hR
      wp_walk
      exact ⟨_, rfl, by simpa [Builtin.Tuple.tupleCompareSizes] using hR⟩
    case h =>
      exact ⟨rfl, rfl, items.toList, items2.toList, ns, ms, rfl, hi, hj, by omega, h⟩
end

section
variable {prog : Program} {w : World} {A : Around} {E : Value → Shared → Prop} {s : Shared}

theorem lt_tupInts {l b : Addr} {items items2 : Array Value} {ns ms : List Int} {Q : Value → Shared → Prop} (hl : IsTup s.heap l items) (hb : IsTup s.heap b items2) (hi : IntsAre items.toList ns) (hj : IntsAre items2.toList ms)
    (hu : A.units < cLine) (h : Q (.bool (lexLt ns ms)) s) : wpAny (model prog w) A (compareOp .Lt (.ref l) (.ref b)) Q E s := by
  obtain ⟨⟨cls, dd, data, sl⟩, ho, hc, n, hd⟩ := id hl
  obtain ⟨⟨cls2, dd2, data2, sl2⟩, ho2, hc2, n2, hd2⟩ := id hb
  simp only at hc hd hc2 hd2
  subst hc hd hc2 hd2
  exact richCompare_meets_room (op := .Lt) ⟨_, ho, rfl⟩ ⟨_, ho2, rfl⟩ PySem.F.slot_tuple_lt PySem.F.entry_tuple_lt (PySem.F.args_tuple_lt_2 _ _) (tuple_lt_ints l b items items2 n n2 dd dd2 sl sl2 ns ms hi hj)
    ⟨ho, ho2, show Value.bool (lexLt ns ms) ≠ Value.notImplemented ∧ Q (.bool (lexLt ns ms)) s from ⟨(fun x => nomatch x), h⟩⟩ hu

/-- t + u, t not empty -/
theorem cat_tup {t b : Addr} {vs ws : List Value} {Q : Value → Shared → Prop} (ht : IsTup s.heap t vs.toArray) (hb : IsTup s.heap b ws.toArray) (hv : vs ≠ [])
    (h1 : ws = [] → Q (.ref t) s) (h2 : ws ≠ [] → Q (.ref s.heap.objs.size) { s with heap := s.heap.push { cls := .type "tuple", data := .seq (vs ++ ws).toArray } })
    (hsz : vs.length + ws.length ≤ sizeLine) : wpAny (model prog w) A (binaryOp .Add (.ref t) (.ref b)) Q E s := by
  obtain ⟨⟨cls, dd, data, sl⟩, ho, hc, n, hd⟩ := id ht
  obtain ⟨⟨cls2, dd2, data2, sl2⟩, ho2, hc2, n2, hd2⟩ := id hb
  simp only at hc hd hc2 hd2
  subst hc hd hc2 hd2
  have e : vs.toArray ++ ws.toArray = (vs ++ ws).toArray := by simp
  by_cases hw : ws = []
  · exact concat_meets ⟨_, ho, rfl⟩ ⟨_, ho2, rfl⟩ noFill_tuple_add seq_tuple_add PySem.F.slot_tuple_add PySem.F.entry_tuple_add (PySem.F.args_tuple_add_2 _ _)
      (tuple_addW1 t b vs.toArray ws.toArray n n2 dd dd2 sl sl2 (by simpa using hv) (by simp [hw])) ⟨ho, ho2, h1 hw⟩
  · refine concat_meets ⟨_, ho, rfl⟩ ⟨_, ho2, rfl⟩ noFill_tuple_add seq_tuple_add PySem.F.slot_tuple_add PySem.F.entry_tuple_add (PySem.F.args_tuple_add_2 _ _)
      (tuple_addW2 t b vs.toArray ws.toArray n n2 dd dd2 sl sl2 (by simpa using hv) (by simpa using hw) (by rw [List.size_toArray, List.size_toArray]; exact hsz)) ⟨ho, ho2, ?_⟩
    rw [e]
    exact h2 hw

/-! ### t[a:b], not the whole -/
/-- a slice's bound as a place among n (d where it is left out) -/
def sIx (n d : Nat) : Option Int → Nat
  | none => d
  | some v => if v < 0 then (v + (n : Int)).toNat else min v.toNat n
theorem sIx_none (n d : Nat) : sIx n d none = d := rfl
theorem sIx_nat (n d k : Nat) : sIx n d (some (k : Int)) = min k n := by
  show (if (k : Int) < 0 then ((k : Int) + (n : Int)).toNat else min (k : Int).toNat n) = min k n
  rw [if_neg (by omega), Int.toNat_natCast]
theorem sIx_le (n d : Nat) (hd : d ≤ n) (o : Option Int) : sIx n d o ≤ n := by
  cases o with
  | none => exact hd
  | some v =>
    show (if v < 0 then (v + (n : Int)).toNat else min v.toNat n) ≤ n
    by_cases hv : v < 0
    · rw [if_pos hv]; omega
    · rw [if_neg hv]; exact Nat.min_le_right _ _
theorem clip_eq (v : Int) (n d : Nat) : (if v < 0 then max (v + (n : Int)) 0 else min v (n : Int)) = ((sIx n d (some v) : Nat) : Int) := by
  show (if v < 0 then max (v + (n : Int)) 0 else min v (n : Int)) = (((if v < 0 then (v + (n : Int)).toNat else min v.toNat n) : Nat) : Int)
  by_cases hv : v < 0
  · simp only [if_pos hv]; omega
  · simp only [if_neg hv]; omega
theorem adjust_gen (lo hi : Option Int) (n : Nat) : Builtin.Slice.sliceAdjust lo hi 1 (n : Int) = (((sIx n 0 lo : Nat) : Int), ((sIx n n hi : Nat) : Int)) := by
  have h1 : ¬ ((1 : Int) < 0) := by omega
  unfold Builtin.Slice.sliceAdjust
  simp only [h1, if_false]
  refine Prod.ext ?_ ?_
  · cases lo with
    | none => rfl
    | some v => exact clip_eq v n 0
  · cases hi with
    | none => rfl
    | some v => exact clip_eq v n n
theorem places_gen (i j : Nat) : Builtin.Slice.slicePlaces (i : Int) (j : Int) 1 = j - i := by
  unfold Builtin.Slice.slicePlaces
  have h1 : (1 : Int) > 0 := by omega
  simp only [h1, if_true, Int.ediv_one]
  split <;> omega
theorem slicePart_ {v : Value} {o : Option Int} {Q : Option Int → Shared → Prop} (p : IsPart v o) (h : Q o s) : wpAny (model prog w) A (Builtin.Slice.slicePartIndex v) Q E s := by
  cases p with
  | none => exact slicePart_none h
  | int i t => exact slicePart_int h
theorem sliceApplied_gen {sl : Addr} {vl vu : Value} {lo hi : Option Int} {n : Nat} {Q : Int × Int × Nat → Shared → Prop} (hs : s.heap.IsSliceOf sl vl vu .none) (pl : IsPart vl lo) (pu : IsPart vu hi)
    (h : Q (((sIx n 0 lo : Nat) : Int), 1, sIx n n hi - sIx n 0 lo) s) : wpAny (model prog w) A (Builtin.Slice.sliceApplied (.ref sl) (pure (n : Int))) Q E s := by
  obtain ⟨os, hos, hcs, hds⟩ := id hs
  unfold Builtin.Slice.sliceApplied Builtin.Slice.sliceFields
  refine wpAny_bind (wpAny_bind (wpAny_field hos hds (x := vl) rfl (wpAny_bind (wpAny_field hos hds (x := vu) rfl (wpAny_bind (wpAny_field hos hds (x := .none) rfl (wpAny_pure ?_)))))))
  refine wpAny_bind (slicePart_none ?_)
  show wpAny _ _ (if ((1 : Int) == 0) = true then _ else _) _ _ s
  rw [if_neg (by decide)]
  refine wpAny_bind (slicePart_ pl (wpAny_bind (slicePart_ pu (wpAny_bind (wpAny_pure ?_)))))
  show wpAny _ _ (match Builtin.Slice.sliceAdjust lo hi 1 (n : Int) with | (lo, hi) => pure (lo, (1 : Int), Builtin.Slice.slicePlaces lo hi 1)) _ _ s
  rw [adjust_gen lo hi n]
  show wpAny _ _ (pure (((sIx n 0 lo : Nat) : Int), (1 : Int), Builtin.Slice.slicePlaces ((sIx n 0 lo : Nat) : Int) ((sIx n n hi : Nat) : Int) 1)) _ _ s
  rw [places_gen]
  exact wpAny_pure h
theorem pick_gen (xs : Array Value) (i k : Nat) : ((List.range k).filterMap fun (m : Nat) => xs[((i : Int) + (m : Int) * 1).toNat]?).toArray = ((xs.toList.drop i).take k).toArray := by
  have e : (fun (m : Nat) => xs[((i : Int) + (m : Int) * 1).toNat]?) = fun m => xs[i + m]? := by
    funext m
    have : ((i : Int) + (m : Int) * 1).toNat = i + m := by omega
    rw [this]
  rw [e]
  have := pick_run xs i k
  rw [List.filterMap_map] at this
  have e2 : ((fun x => xs[x]?) ∘ fun x => i + x) = fun m => xs[i + m]? := rfl
  rw [e2] at this
  rw [this]

theorem getItem_tuple_cut {t sl : Addr} {items : Array Value} {vl vu : Value} {lo hi : Option Int} {Q : Value → Shared → Prop} (ht : IsTup s.heap t items) (hs : s.heap.IsSliceOf sl vl vu .none) (pl : IsPart vl lo) (pu : IsPart vu hi)
    (hw : ¬ (sIx items.size 0 lo = 0 ∧ sIx items.size items.size hi = items.size))
    (h : Q (.ref s.heap.objs.size) { s with heap := s.heap.push { cls := .type "tuple", data := .seq ((items.toList.drop (sIx items.size 0 lo)).take (sIx items.size items.size hi - sIx items.size 0 lo)).toArray } })
    (hsz : items.size ≤ sizeLine) : wpAny (model prog w) A (getItem (.ref t) (.ref sl)) Q E s := by
  have htake : sizeOk (.seq ((items.toList.drop (sIx items.size 0 lo)).take (sIx items.size items.size hi - sIx items.size 0 lo)).toArray) := by
    show ((items.toList.drop (sIx items.size 0 lo)).take (sIx items.size items.size hi - sIx items.size 0 lo)).toArray.size ≤ sizeLine
    rw [List.size_toArray, List.length_take, List.length_drop, Array.length_toList]
    omega
  have hj : sIx items.size items.size hi ≤ items.size := sIx_le _ _ (Nat.le_refl _) hi
  obtain ⟨os, hos, hcs, hds⟩ := id hs
  have hTs : s.TypeIs (.ref sl) "slice" := ⟨os, hos, hcs⟩
  unfold getItem
  try with_reducible refine wpAny_holding ?_
  first | refine wpAny_bind (wpAny_pure ?_) | skip
  refine wpAny_bind (wpAny_sequenceKey ht.typeIs (by decide) ?_)
  refine wpAny_bind (wpAny_callSpecial?_slot (name := Str.ofString "__getitem__") ht.typeIs PyProof.Rows.slot_tuple_getitem
    (wpAny_call_entry PyProof.Rows.slot_tuple_getitem ht.typeIs entry_tuple_getitem ?_ (args_tuple_getitem _ _)))
  show wpAny _ _ (Builtin.Tuple.tupleItemsOf (.ref t) >>= _) _ _ s
  refine wpAny_bind (tupleItemsOf_ ht ?_)
  refine wpAny_bind (wpAny_typeOf hTs ?_)
  rw [if_pos (by decide)]
  refine wpAny_bind (sliceApplied_gen hs pl pu ?_)
  have hno : ¬ ((((sIx items.size 0 lo : Nat) : Int) == 0 && (1 : Int) == 1 && (sIx items.size items.size hi - sIx items.size 0 lo) == items.size) = true) := by
    intro q
    rw [Bool.and_eq_true, Bool.and_eq_true] at q
    have q1 : ((sIx items.size 0 lo : Nat) : Int) = 0 := eq_of_beq q.1.1
    have q2 : sIx items.size items.size hi - sIx items.size 0 lo = items.size := eq_of_beq q.2
    exact hw ⟨by omega, by omega⟩
  show wpAny _ _ (if (((sIx items.size 0 lo : Nat) : Int) == 0 && (1 : Int) == 1 && (sIx items.size items.size hi - sIx items.size 0 lo) == items.size) = true then _ else _) _ _ s
  rw [if_neg hno, pick_gen]
  first
    | exact wpAny_bind (m := Builtin.Tuple.tupleExact _) (wpAny_newObj_type (wpAny_pure ⟨_, rfl, wpAny_pure h⟩) htake)
    | exact wpAny_bind (m := Builtin.Tuple.tupleExact _) (wpAny_newObj_type (wpAny_bind (wpAny_pure (wpAny_pure ⟨_, rfl, wpAny_pure h⟩))) htake)
    | exact wpAny_bind (wpAny_bind (m := Builtin.Tuple.tupleExact _) (wpAny_newObj_type (wpAny_pure (wpAny_pure ⟨_, rfl, wpAny_pure h⟩)) htake))
    | exact wpAny_bind (wpAny_bind (m := Builtin.Tuple.tupleExact _) (wpAny_newObj_type (wpAny_pure ⟨_, rfl, wpAny_pure h⟩) htake))
end
end HT

namespace L2
open PySem PySem.Spec PyProof.Rows

/-! ### the parts of a slice -/
abbrev TO := St → Hp → (Option Int → Hp → Prop) → Prop
/-- a slice's part (left out, or an int) -/
def PO (X : Cx) (e : Option Expr) (t : TO) : Prop :=
  ∀ (pins : List (Addr × Obj)) (s : Shared) (σ : St) (H : Hp) (Q : Option Int → Hp → Prop), Inv X pins σ H s → t σ H Q →
    wpAny (model X.prog X.w) X.A (evalPart e X.env) (fun u s' => ∃ o H', Inv X pins σ H' s' ∧ IsPart u o ∧ Q o H') X.xe s
def tNoPart : TO := fun _ H Q => Q none H
def tPart (t : TE) : TO := fun σ H Q => t σ H fun x H1 => ∃ i, x = .int i ∧ Q (some i) H1

theorem intsAre_of {ns : List Int} : ∀ {us : List Value}, Vals (ns.map V.int) us → IntsAre us ns := by
  induction ns with
  | nil => intro us r; rw [List.map_nil] at r; cases r; exact .nil
  | cons n ns ih =>
    intro us r
    rw [List.map_cons] at r
    cases r with
    | cons r1 r2 =>
      obtain ⟨t, e⟩ := r1
      subst e
      exact .cons n t (ih r2)

section
variable {X : Cx} {e : Expr} {te : TE} {lo hi : Option Expr} {tl th : TO} {pos p2 : Pos}

theorem po_none : PO X none tNoPart := by
  intro pins s σ H Q I h
  rw [evalPart_none]
  exact wpAny_pure ⟨none, H, I, .none, h⟩
theorem po_some (h : PE X e te) : PO X (some e) (tPart te) := by
  intro pins s σ H Q I hw
  rw [evalPart_some]
  refine thn (h pins s σ H _ I hw) fun u s1 ⟨x, H1, I1, r1, q1⟩ => ?_
  obtain ⟨i, rfl, q⟩ := q1
  obtain ⟨t, rfl⟩ := r1
  exact ⟨some i, H1, I1, .int i t, q⟩

/-- what a slice of a value is, by values: the slice object stands at sl -/
def SlR (X : Cx) (r : V → Option Int → Option Int → Hp → VK → Prop) : Prop :=
  ∀ (pins : List (Addr × Obj)) (s : Shared) (σ : St) (H : Hp) (x : V) (v vl vu : Value) (lo hi : Option Int) (sl : Addr) (Q : VK), Inv X pins σ H s → RelV x v → s.heap.IsSliceOf sl vl vu .none → IsPart vl lo → IsPart vu hi → r x lo hi H Q →
    ∃ T id, typeLookup (.type T) "__getitem__" = pure (some (.builtin id)) ∧ s.TypeIs v T ∧ wpAny (model X.prog X.w) X.A (getItem v (.ref sl)) (EP X pins σ Q) X.xe s
theorem SlR.or {r r' : V → Option Int → Option Int → Hp → VK → Prop} (h : SlR X r) (h' : SlR X r') : SlR X (fun x lo hi H Q => r x lo hi H Q ∨ r' x lo hi H Q) := by
  intro pins s σ H x v vl vu lo hi sl Q I rx hs pl pu q
  rcases q with q | q
  · exact h pins s σ H x v vl vu lo hi sl Q I rx hs pl pu q
  · exact h' pins s σ H x v vl vu lo hi sl Q I rx hs pl pu q
def tSl (r : V → Option Int → Option Int → Hp → VK → Prop) (te : TE) (tl th : TO) : TE := fun σ H Q => te σ H fun x H1 => tl σ H1 fun l H2 => th σ H2 fun u H3 => r x l u H3 Q
/-- a[lo:hi], any a -/
theorem pe_slice {r : V → Option Int → Option Int → Hp → VK → Prop} (hr : SlR X r) (he : PE X e te) (hl : PO X lo tl) (hu : PO X hi th) : PE X (.Subscript e (.Slice lo hi none p2) pos) (tSl r te tl th) := by
  intro pins s σ H Q I h
  refine Subscript_ (thn (he pins s σ H _ I h) fun v s1 ⟨x, H1, I1, r1, q1⟩ => ?_)
  refine wpAny_Slice (thn (hl pins s1 σ H1 _ I1 q1) fun vl s2 ⟨l, H2, I2, pl, q2⟩ => thn (hu pins s2 σ H2 _ I2 q2) fun vu s3 ⟨u, H3, I3, pu, q3⟩ => ?_)
  rw [evalPart_none]
  refine wpAny_pure ?_
  have I4 : Inv X pins σ H3 { s3 with heap := s3.heap.push { cls := .type "slice", data := .fields #[vl, vu, .none] } } := I3.kept (t' := s3.toks) fun b ob q => Heap.get?_push_of_some _ q
  obtain ⟨T, id, hT, ht, hg⟩ := hr pins { s3 with heap := s3.heap.push { cls := .type "slice", data := .fields #[vl, vu, .none] } } σ H3 x v vl vu l u s3.heap.objs.size Q I4 r1 (Heap.IsSliceOf.new ..) pl pu q3
  show wpAny (model X.prog X.w) X.A (subscriptTail e (.Slice lo hi none p2) v (.ref s3.heap.objs.size)) (EP X pins σ Q) X.xe { s3 with heap := s3.heap.push { cls := .type "slice", data := .fields #[vl, vu, .none] } }
  exact tail_any (ops := [.ref s3.heap.objs.size, v]) ht hT hg (by with_unfolding_all rfl)

/-- the items of xs[lo:hi] -/
def cutV (xs : List V) (lo hi : Option Int) : List V := (xs.drop (HT.sIx xs.length 0 lo)).take (HT.sIx xs.length xs.length hi - HT.sIx xs.length 0 lo)
theorem cutV_length (xs : List V) (lo hi : Option Int) : (cutV xs lo hi).length ≤ xs.length := by
  unfold cutV
  rw [List.length_take, List.length_drop]
  omega
/-- t[lo:hi], not the whole of it (the whole would be t itself) -/
def rSlT (K : PySem.W.Frag) : V → Option Int → Option Int → Hp → VK → Prop := fun x lo hi H Q => ∃ a xs, x = .ref a ∧ SqT K H a xs ∧
  ¬ (HT.sIx xs.length 0 lo = 0 ∧ HT.sIx xs.length xs.length hi = xs.length) ∧ ∀ p, H p = none → Q (.ref p) (upd H p (.tup (cutV xs lo hi)))
theorem sl_tup : SlR X (rSlT X.K) := by
  intro pins s σ H x v vl vu lo hi sl Q I rx hs pl pu h
  obtain ⟨a, xs, rfl, hx, hw, q⟩ := h
  cases rx
  obtain ⟨its, r, ht, hz⟩ := I.tuple hx
  have hlen : its.toArray.size = xs.length := by rw [List.size_toArray]; exact r.length.symm
  refine ⟨"tuple", _, PyProof.Rows.slot_tuple_getitem.lookup, ht.typeIs, ?_⟩
  refine HT.getItem_tuple_cut ht hs pl pu (by rw [hlen]; exact hw) ?_ (by rw [hlen]; exact hz)
  rw [hlen]
  refine ⟨.ref s.heap.objs.size, _, I.laid (t' := s.toks) (o := .tup (cutV xs lo hi)) (fun b ob q => Heap.get?_push_of_some _ q) (Nat.le_refl _) ?_, rfl, q _ (I.hok.fresh (Nat.le_refl _))⟩
  exact ⟨Nat.le_trans (cutV_length xs lo hi) hz, _, (r.drop (HT.sIx xs.length 0 lo)).take (HT.sIx xs.length xs.length hi - HT.sIx xs.length 0 lo), IsTup.new _ _⟩

/-! ### t < u, t + u -/
def rLtT (K : PySem.W.Frag) : R2 := fun x y H Q => ∃ a b ns ms, x = .ref a ∧ y = .ref b ∧ SqT K H a (ns.map V.int) ∧ SqT K H b (ms.map V.int) ∧ Q (.bl (HT.lexLt ns ms)) H
theorem op_ltT (hu : X.A.units < cLine) : OpR X (compareOp .Lt) (rLtT X.K) := by
  intro pins s σ H x y v u Q I rx ry h
  obtain ⟨a, b, ns, ms, rfl, rfl, ha, hb, q⟩ := h
  cases rx
  cases ry
  obtain ⟨its, r1, p1, _⟩ := I.tuple ha
  obtain ⟨its2, r2, p2, _⟩ := I.tuple hb
  have i1 : IntsAre its.toArray.toList ns := intsAre_of r1
  have i2 : IntsAre its2.toArray.toList ms := intsAre_of r2
  exact HT.lt_tupInts p1 p2 i1 i2 hu ⟨.bl (HT.lexLt ns ms), H, I, rfl, q⟩
/-- t + u, t not empty: u empty gives t itself -/
def rCatT (K : PySem.W.Frag) : R2 := fun x y H Q => ∃ a b xs ys, x = .ref a ∧ y = .ref b ∧ SqT K H a xs ∧ SqT K H b ys ∧ xs ≠ [] ∧ xs.length + ys.length ≤ sizeLine ∧
  (ys = [] → Q (.ref a) H) ∧ (ys ≠ [] → ∀ p, H p = none → Q (.ref p) (upd H p (.tup (xs ++ ys))))
theorem Vals.nil_iff {xs : List V} {us : List Value} (r : Vals xs us) : us = [] ↔ xs = [] := by
  cases r with
  | nil => simp
  | cons _ _ => simp
theorem op_catT : OpR X (binaryOp .Add) (rCatT X.K) := by
  intro pins s σ H x y v u Q I rx ry h
  obtain ⟨a, b, xs, ys, rfl, rfl, ha, hb, hx, hz, q1, q2⟩ := h
  cases rx
  cases ry
  obtain ⟨its, r1, p1, _⟩ := I.tuple ha
  obtain ⟨its2, r2, p2, _⟩ := I.tuple hb
  refine HT.cat_tup p1 p2 (fun z => hx (r1.nil_iff.mp z)) (fun z => ⟨.ref a, H, I, rfl, q1 (r2.nil_iff.mp z)⟩) (fun z => ?_) (by rw [← r1.length, ← r2.length]; exact hz)
  refine ⟨.ref s.heap.objs.size, _, I.laid (t' := s.toks) (o := .tup (xs ++ ys)) (fun b ob q => Heap.get?_push_of_some _ q) (Nat.le_refl _) ?_, rfl, q2 (fun w => z (r2.nil_iff.mpr w)) _ (I.hok.fresh (Nat.le_refl _))⟩
  exact ⟨by rw [List.length_append]; exact hz, _, r1.append r2, IsTup.new _ _⟩
/-- tuple(t) -/
theorem call_tupleT : CallR X (.type "tuple") (fun xs H Q => ∃ a ys, xs = [.ref a] ∧ SqT X.K H a ys ∧ Q (.ref a) H) := by
  intro pins s σ H xs us Q I r h
  obtain ⟨a, ys, rfl, ha, q⟩ := h
  obtain ⟨u, rfl, ru⟩ := vals1 r
  cases ru
  obtain ⟨its, _, p1, _⟩ := I.tuple ha
  exact call_tuple_same (items := its.toArray) p1 ⟨.ref a, H, I, rfl, q⟩
end
end L2

namespace L2
open PySem PySem.Spec PyProof.Rows

/-! ### places -/
/-- the place that an index of any sign means -/
def ixN (n : Nat) (i : Int) : Option Nat := if 0 ≤ i then (if i < n then some i.toNat else none) else if -(n : Int) ≤ i then some (i + n).toNat else none
def atI {α : Type} (xs : List α) (i : Int) : Option α := (ixN xs.length i).bind fun j => xs[j]?
theorem ixN_seq {n : Nat} {i : Int} {j : Nat} (h : ixN n i = some j) : seqIndex? i n = some j ∧ j < n ∧ -(n : Int) ≤ i ∧ i < n := by
  unfold ixN at h
  by_cases h0 : 0 ≤ i
  · rw [if_pos h0] at h
    by_cases h1 : i < n
    · rw [if_pos h1] at h
      have e : i.toNat = j := Option.some.inj h
      exact ⟨by rw [seqIndex_of h0 h1, e], by omega, by omega, h1⟩
    · rw [if_neg h1] at h; cases h
  · rw [if_neg h0] at h
    by_cases h1 : -(n : Int) ≤ i
    · rw [if_pos h1] at h
      have e : (i + n).toNat = j := Option.some.inj h
      exact ⟨by rw [seqIndex_neg (by omega) h1, e], by omega, h1, by omega⟩
    · rw [if_neg h1] at h; cases h
theorem atI_get {α : Type} {xs : List α} {i : Int} {v : α} (h : atI xs i = some v) : ∃ j, seqIndex? i xs.length = some j ∧ xs[j]? = some v ∧ j < xs.length ∧ -(xs.length : Int) ≤ i ∧ i < xs.length := by
  unfold atI at h
  cases e : ixN xs.length i with
  | none => rw [e] at h; cases h
  | some j =>
    rw [e] at h
    obtain ⟨h1, h2, h3, h4⟩ := ixN_seq e
    exact ⟨j, h1, h, h2, h3, h4⟩
theorem atI_nat {α : Type} {xs : List α} {j : Nat} {v : α} (h : xs[j]? = some v) : atI xs (j : Int) = some v := by
  have hj : j < xs.length := (List.getElem?_eq_some_iff.mp h).1
  have e : ixN xs.length (j : Int) = some j := by
    unfold ixN
    rw [if_pos (by omega), if_pos (by omega)]; simp
  unfold atI; rw [e]; exact h
theorem atI_last {α : Type} (xs : List α) (v : α) : atI (xs ++ [v]) (-1) = some v := by
  have hl : (xs ++ [v]).length = xs.length + 1 := by simp
  have e : ixN (xs ++ [v]).length (-1) = some xs.length := by
    unfold ixN
    rw [hl, if_neg (by decide), if_pos (by omega)]
    congr 1
    omega
  unfold atI
  rw [e]
  show (xs ++ [v])[xs.length]? = some v
  simp

/-! ### what may be subscripted -/
/-- what stands as an index of a plain subscript -/
def PlainIx (b : Expr) : Prop := ∀ o i, subscripted b false o i = operate [o, i] (getItem o i)
/-- a subscript by values -/
def IxR (X : Cx) (r : R2) : Prop :=
  ∀ (value slice : Expr) (pins : List (Addr × Obj)) (s : Shared) (σ : St) (H : Hp) (x y : V) (v u : Value) (Q : VK), Inv X pins σ H s → RelV x v → RelV y u → r x y H Q →
    subscripted slice false v u = operate [v, u] (getItem v u) → wpAny (model X.prog X.w) X.A (subscriptTail value slice v u) (EP X pins σ Q) X.xe s
/-- a call of a builtin's method by values: the receiver, the arguments -/
def MtR (X : Cx) (id : String) (r : V → List V → Hp → VK → Prop) : Prop :=
  ∀ (pins : List (Addr × Obj)) (s : Shared) (σ : St) (H : Hp) (x : V) (xs : List V) (v : Value) (us : List Value) (Q : VK), Inv X pins σ H s → RelV x v → Vals xs us → r x xs H Q →
    wpAny (model X.prog X.w) X.A (call (.builtin id) (v :: us)) (EP X pins σ Q) X.xe s
section
variable {X : Cx} {a b : Expr} {ta tb : TE} {pos : Pos}
theorem IxR.or {r r' : R2} (h : IxR X r) (h' : IxR X r') : IxR X (fun x y H Q => r x y H Q ∨ r' x y H Q) := by
  intro value slice pins s σ H x y v u Q I rx ry q hs
  rcases q with q | q
  · exact h value slice pins s σ H x y v u Q I rx ry q hs
  · exact h' value slice pins s σ H x y v u Q I rx ry q hs
theorem MtR.or {id : String} {r r' : V → List V → Hp → VK → Prop} (h : MtR X id r) (h' : MtR X id r') : MtR X id (fun x xs H Q => r x xs H Q ∨ r' x xs H Q) := by
  intro pins s σ H x xs v us Q I rx rs q
  rcases q with q | q
  · exact h pins s σ H x xs v us Q I rx rs q
  · exact h' pins s σ H x xs v us Q I rx rs q
/-- a[b] -/
theorem pe_ix {r : R2} (hr : IxR X r) (ha : PE X a ta) (hb : PE X b tb) (hs : PlainIx b) : PE X (.Subscript a b pos) (tOp r ta tb) := by
  intro pins s σ H Q I h
  exact Subscript_ (binT ha hb I h fun v u s2 x y H2 I2 rx ry q => hr a b pins s2 σ H2 x y v u Q I2 rx ry q (hs _ _))

def rIxL (K : PySem.W.Frag) : R2 := fun x y H Q => ∃ p xs i v, x = .ref p ∧ y = .int i ∧ SqL K H p xs ∧ atI xs i = some v ∧ Q v H
def rIxT (K : PySem.W.Frag) : R2 := fun x y H Q => ∃ p xs i v, x = .ref p ∧ y = .int i ∧ SqT K H p xs ∧ atI xs i = some v ∧ Q v H
def rIxS : R2 := fun x y H Q => ∃ z i c, x = .str z ∧ y = .int i ∧ z.length ≤ sizeLine ∧ atI z.cps.toList i = some c ∧ Q (.str ⟨#[c]⟩) H
theorem ix_list : IxR X (rIxL X.K) := by
  intro value slice pins s σ H x y v u Q I rx ry h hs
  obtain ⟨p, xs, i, z, rfl, rfl, hq, he, q⟩ := h
  cases rx
  obtain ⟨t, rfl⟩ := ry
  obtain ⟨its, r, pl, hz⟩ := I.list hq
  obtain ⟨j, h1, h2, h3, h4, h5⟩ := atI_get he
  obtain ⟨w, ew, rw'⟩ := r.get h2
  have hl := r.length
  have hn := line63
  have fin : EP X pins σ Q w s := ⟨z, H, I, rw', q⟩
  by_cases h0 : 0 ≤ i
  · have hj : i.toNat = j := by
      rw [seqIndex_of h0 h5] at h1
      exact Option.some.inj h1
    exact item_listR pl.isList h0 (by omega) (by rw [hj]; simpa using ew) fin hs
  · have hj : (i + (its.toArray.size : Int)).toNat = j := by
      rw [seqIndex_neg (by omega) h4] at h1
      rw [List.size_toArray, ← hl]
      exact Option.some.inj h1
    exact subscriptTail_builtinR (x := w) pl.isList.typeIs slot_list_getitem.lookup
      (wpAny_getItem_list_neg (Q := fun r s' => r = w ∧ EP X pins σ Q r s') pl.isList (by omega) (by rw [List.size_toArray] <;> omega) (by omega) (by rw [hj]; simpa using ew) ⟨rfl, fin⟩) hs
theorem ix_tup : IxR X (rIxT X.K) := by
  intro value slice pins s σ H x y v u Q I rx ry h hs
  obtain ⟨p, xs, i, z, rfl, rfl, hq, he, q⟩ := h
  cases rx
  obtain ⟨t, rfl⟩ := ry
  obtain ⟨its, r, pl, hz⟩ := I.tuple hq
  obtain ⟨j, h1, h2, h3, h4, h5⟩ := atI_get he
  obtain ⟨w, ew, rw'⟩ := r.get h2
  have hl := r.length
  have hn := line63
  have fin : EP X pins σ Q w s := ⟨z, H, I, rw', q⟩
  exact subscriptTail_builtinR (x := w) pl.typeIs slot_tuple_getitem.lookup
    (getItem_tuple (j := j) (Q := fun r s' => r = w ∧ EP X pins σ Q r s') pl (by omega) (by omega) (by rw [List.size_toArray, ← hl]; exact h1) (by simpa using ew) ⟨rfl, fin⟩) hs
theorem ix_str : IxR X rIxS := by
  intro value slice pins s σ H x y v u Q I rx ry h hs
  obtain ⟨z, i, c, rfl, rfl, hz, he, q⟩ := h
  obtain ⟨t, rfl⟩ := rx
  obtain ⟨t', rfl⟩ := ry
  obtain ⟨j, h1, h2, h3, h4, h5⟩ := atI_get he
  have hl : z.cps.toList.length = z.length := by simp [Str.length]
  rw [hl] at h1 h4 h5
  have hn := line63
  exact tail_any (typeIs_str s z t) slot_str_getitem.lookup (getItem_str (c := c) (by
    have e1 : decide (i < -(2 ^ 63 : Int)) = false := decide_eq_false (by omega)
    have e2 : decide (i ≥ 2 ^ 63) = false := decide_eq_false (by omega)
    rw [e1, e2, Bool.or_false]) (by rw [h1]; simpa using h2) ⟨.str ⟨#[c]⟩, H, I.tok _, ⟨_, rfl⟩, q⟩) hs
/-- list, tuple or str -/
def rIx (K : PySem.W.Frag) : R2 := fun x y H Q => rIxL K x y H Q ∨ rIxT K x y H Q ∨ rIxS x y H Q
theorem ix_seq : IxR X (rIx X.K) := ix_list.or (ix_tup.or ix_str)

/-! ### xs[i] = v, any sign -/
/-- the list's object behind a store -/
theorem mapSeq_set (its : List Value) (n j : Nat) (u : Value) : Obj.mapSeq (·.setIfInBounds j u) { cls := .type "list", data := .seq its.toArray n } = { cls := .type "list", data := .seq (its.set j u).toArray n } := by
  simp [Obj.mapSeq]
theorem Inv.lst {pins : List (Addr × Obj)} {σ : St} {H : Hp} {s : Shared} {p : Addr} {xs : List V} (I : Inv X pins σ H s) (h : H p = some (.lst xs)) :
    ∃ (its : List Value) (n : Nat), Vals xs its ∧ s.heap.get? p = some { cls := .type "list", data := .seq its.toArray n } ∧ xs.length ≤ sizeLine := by
  obtain ⟨z, its, n, r, e⟩ := I.hok p _ h
  exact ⟨its, n, r, e, z⟩
/-- the list at p is written by an update of its object -/
theorem Inv.lstUpd {pins : List (Addr × Obj)} {σ : St} {H : Hp} {s : Shared} {p : Addr} {xs ys : List V} {its its' : List Value} {n n' : Nat} {f : Obj → Obj} (I : Inv X pins σ H s) (h : H p = some (.lst xs))
    (ho : s.heap.get? p = some { cls := .type "list", data := .seq its.toArray n }) (hf : f { cls := .type "list", data := .seq its.toArray n } = { cls := .type "list", data := .seq its'.toArray n' }) (r : Vals ys its') (hz : ys.length ≤ sizeLine) (t : Nat) :
    Inv X pins σ (upd H p (.lst ys)) { s with heap := s.heap.update p f, toks := t } := by
  have e : (s.heap.update p f).get? p = some { cls := .type "list", data := .seq its'.toArray n' } := by
    rw [Heap.get?_update_self f ho (by rw [hf] <;> rfl), hf]
  refine I.write (x := p) (e := p) (by rw [h]; trivial) (.inl rfl) (fun b u hb q => (Heap.get?_update_other _ _ (Ne.symm hb)).trans q) ⟨_, e⟩ ?_
  exact ⟨hz, its', n', r, e⟩
def rSetL : V → V → V → Hp → (Hp → Prop) → Prop := fun o i v H Q => ∃ p xs k j, o = .ref p ∧ i = .int k ∧ H p = some (.lst xs) ∧ ixN xs.length k = some j ∧ Q (upd H p (.lst (xs.set j v)))
theorem set_list : PSet X rSetL := by
  intro pins s σ H o i v ov iv u Q I ro ri rv h
  obtain ⟨p, xs, k, j, rfl, rfl, hp, hj, q⟩ := h
  cases ro
  obtain ⟨t, rfl⟩ := ri
  obtain ⟨its, n, r, ho, hz⟩ := I.lst hp
  obtain ⟨h1, h2, h3, h4⟩ := ixN_seq hj
  have hl := r.length
  have hn := line63
  have I' : Inv X pins σ (upd H p (.lst (xs.set j v))) { s with heap := s.heap.update p (Obj.mapSeq (·.setIfInBounds j u)) } :=
    I.lstUpd hp ho (mapSeq_set its n j u) (r.set rv j) (by rw [List.length_set]; exact hz) s.toks
  by_cases h0 : 0 ≤ k
  · have hk : k.toNat = j := by
      rw [seqIndex_of h0 h4] at h1
      exact Option.some.inj h1
    exact PySem.W.ki_setAt ho h0 (by omega) (by rw [List.size_toArray, ← hl]; exact h4) (by rw [hk]; exact ⟨_, I', q⟩)
  · have hk : (k + (its.toArray.size : Int)).toNat = j := by
      rw [seqIndex_neg (by omega) h3] at h1
      rw [List.size_toArray, ← hl]
      exact Option.some.inj h1
    exact PySem.W.ki_setBack ho (by omega) (by rw [List.size_toArray, ← hl]; exact h3) (by omega) (by rw [hk]; exact ⟨_, I', q⟩)

/-! ### slices -/
theorem slice_bounds (lo hi : Option Int) (n : Nat) : (sliceBounds lo hi none n).1 = ((HT.sIx n 0 lo : Nat) : Int) ∧ (sliceBounds lo hi none n).2.1 = ((HT.sIx n n hi : Nat) : Int) ∧ (sliceBounds lo hi none n).2.2 = 1 := by
  refine ⟨?_, ?_, rfl⟩
  · cases lo with
    | none => simp [sliceBounds, HT.sIx]
    | some i =>
      simp only [sliceBounds, HT.sIx, Option.getD_none, show (1 : Int) > 0 by decide, if_true]
      by_cases h : i < 0
      · simp only [h, if_true] <;> omega
      · simp only [h, if_false] <;> omega
  · cases hi with
    | none => simp [sliceBounds, HT.sIx]
    | some i =>
      simp only [sliceBounds, HT.sIx, Option.getD_none, show (1 : Int) > 0 by decide, if_true]
      by_cases h : i < 0
      · simp only [h, if_true] <;> omega
      · simp only [h, if_false] <;> omega
theorem slicePick_cut (its : List Value) (lo hi : Option Int) : slicePick its.toArray lo hi none = ((its.drop (HT.sIx its.length 0 lo)).take (HT.sIx its.length its.length hi - HT.sIx its.length 0 lo)).toArray := by
  obtain ⟨h1, h2, h3⟩ := slice_bounds lo hi its.toArray.size
  unfold slicePick
  rw [h1, h2, h3]
  simp only [sliceRange_one, pick_run, List.size_toArray] <;> rfl
/-- xs[lo:hi] of a list: a new list -/
def rSlL (K : PySem.W.Frag) : V → Option Int → Option Int → Hp → VK → Prop := fun x lo hi H Q => ∃ a xs, x = .ref a ∧ SqL K H a xs ∧ ∀ p, H p = none → Q (.ref p) (upd H p (.lst (cutV xs lo hi)))
theorem sl_list : SlR X (rSlL X.K) := by
  intro pins s σ H x v vl vu lo hi sl Q I rx hs pl pu h
  obtain ⟨a, xs, rfl, hx, q⟩ := h
  cases rx
  obtain ⟨its, r, ht, hz⟩ := I.list hx
  have hlen := r.length
  refine ⟨"list", _, slot_list_getitem.lookup, ht.isList.typeIs, ?_⟩
  refine wpAny_getItem_list_slice ht.isList hs pl pu .none (by simp) ?_ (by rw [List.size_toArray] <;> omega)
  rw [slicePick_cut, ← hlen]
  refine ⟨.ref s.heap.objs.size, _, I.laid (t' := s.toks) (o := .lst (cutV xs lo hi)) (fun b ob q => Heap.get?_push_of_some _ q) (Nat.le_refl _) ?_, rfl, q _ (I.hok.fresh (Nat.le_refl _))⟩
  exact ⟨Nat.le_trans (cutV_length xs lo hi) hz, _, 0, (r.drop (HT.sIx xs.length 0 lo)).take (HT.sIx xs.length xs.length hi - HT.sIx xs.length 0 lo), Heap.get?_push_size _ rfl⟩

/-! ### in, not in: flat items -/
def flatV : V → Bool
  | .non => true
  | .bl _ => true
  | .int _ => true
  | .str _ => true
  | _ => false
/-- == of flat values -/
def eqV : V → V → Bool
  | .non, .non => true
  | .bl a, .bl b => a == b
  | .bl a, .int b => (if a then 1 else 0) == b
  | .int a, .bl b => a == (if b then 1 else 0)
  | .int a, .int b => a == b
  | .str a, .str b => a == b
  | _, _ => false
theorem eqAt_V {A : Around} {s : Shared} {y x : V} {u v : Value} (ry : RelV y u) (rx : RelV x v) (fy : flatV y = true) (fx : flatV x = true) : SeqAt.EqAt A s u v (eqV y x) := by
  cases y with
  | non =>
    cases ry
    cases x with
    | non => cases rx; exact SeqAt.EqAt.same _
    | bl b => cases rx; exact SeqAt.EqAt.none_bool b
    | int b => obtain ⟨t, rfl⟩ := rx; exact SeqAt.EqAt.none_int b t
    | str b => obtain ⟨t, rfl⟩ := rx; exact SeqAt.EqAt.none_str b t
    | _ => exact absurd (show false = true from fx) Bool.false_ne_true
  | bl a =>
    cases ry
    cases x with
    | non => cases rx; exact SeqAt.EqAt.bool_none a
    | bl b => cases rx; exact SeqAt.EqAt.bool_bool a b
    | int b => obtain ⟨t, rfl⟩ := rx; exact SeqAt.EqAt.bool_int a b t
    | str b => obtain ⟨t, rfl⟩ := rx; exact SeqAt.EqAt.bool_str a b t
    | _ => exact absurd (show false = true from fx) Bool.false_ne_true
  | int a =>
    obtain ⟨t', rfl⟩ := ry
    cases x with
    | non => cases rx; exact SeqAt.EqAt.int_none a t'
    | bl b => cases rx; exact SeqAt.EqAt.int_bool a t' b
    | int b => obtain ⟨t, rfl⟩ := rx; exact SeqAt.EqAt.int_int a t' b t
    | str b => obtain ⟨t, rfl⟩ := rx; exact SeqAt.EqAt.int_str a t' b t
    | _ => exact absurd (show false = true from fx) Bool.false_ne_true
  | str a =>
    obtain ⟨t', rfl⟩ := ry
    cases x with
    | non => cases rx; exact SeqAt.EqAt.str_none a t'
    | bl b => cases rx; exact SeqAt.EqAt.str_bool a t' b
    | int b => obtain ⟨t, rfl⟩ := rx; exact SeqAt.EqAt.str_int a t' b t
    | str b => obtain ⟨t, rfl⟩ := rx; exact SeqAt.EqAt.str_str a t' b t
    | _ => exact absurd (show false = true from fx) Bool.false_ne_true
  | _ => exact absurd (show false = true from fy) Bool.false_ne_true
/-- the items' answers, read off the values (a value's own answer does not lean on its token) -/
def eqU (x : V) (u : Value) : Bool := match u with
  | .none => eqV .non x
  | .bool b => eqV (.bl b) x
  | .int i _ => eqV (.int i) x
  | .str z _ => eqV (.str z) x
  | _ => false
theorem eqU_of {x y : V} {u : Value} (r : RelV y u) (f : flatV y = true) : eqU x u = eqV y x := by
  cases y with
  | non => cases r; rfl
  | bl b => cases r; rfl
  | int i => obtain ⟨t, rfl⟩ := r; rfl
  | str z => obtain ⟨t, rfl⟩ := r; rfl
  | _ => exact absurd (show false = true from f) Bool.false_ne_true
theorem any_eqU {x : V} : ∀ {xs : List V} {us : List Value}, Vals xs us → xs.all flatV = true → us.any (eqU x) = xs.any fun y => eqV y x
  | _, _, .nil, _ => rfl
  | y :: xs, u :: us, .cons r t, f => by
    rw [List.all_cons, Bool.and_eq_true] at f
    rw [List.any_cons, List.any_cons, eqU_of r f.1, any_eqU t f.2]
theorem mem_eqAt {A : Around} {s : Shared} {x : V} {v : Value} (rx : RelV x v) (fx : flatV x = true) : ∀ {xs : List V} {us : List Value}, Vals xs us → xs.all flatV = true → ∀ u ∈ us, SeqAt.EqAt A s u v (eqU x u)
  | _, _, .nil, _ => fun u hu => by cases hu
  | y :: xs, u :: us, .cons r t, f => fun u' hu => by
    rw [List.all_cons, Bool.and_eq_true] at f
    rcases List.mem_cons.mp hu with rfl | hu
    · rw [eqU_of r f.1]; exact eqAt_V r rx f.1 fx
    · exact mem_eqAt rx fx t f.2 u' hu
def inV (x : V) (xs : List V) : Bool := xs.any fun y => eqV y x
/-- x in a list or tuple of flat items -/
def rIn (K : PySem.W.Frag) (neg : Bool) : R2 := fun x y H Q => ∃ p xs, y = .ref p ∧ (SqL K H p xs ∨ SqT K H p xs) ∧ flatV x = true ∧ xs.all flatV = true ∧ Q (.bl (if neg then !inV x xs else inV x xs)) H
theorem op_in_seq : OpR X (compareOp .In) (rIn X.K false) := by
  intro pins s σ H x y v u Q I rx ry h
  obtain ⟨p, xs, rfl, hq, fx, fs, q⟩ := h
  cases ry
  rcases hq with hq | hq
  · obtain ⟨its, r, pl, hz⟩ := I.list hq
    refine SeqAt.in_listAt (eqU x) pl.isList (fun w hw => mem_eqAt rx fx r fs w (by simpa using hw)) ⟨.bl _, H, I, rfl, ?_⟩
    rw [show its.toArray.any (eqU x) = its.any (eqU x) by simp, any_eqU r fs]
    exact q
  · obtain ⟨its, r, pl, hz⟩ := I.tuple hq
    refine SeqAt.in_tupleAt (eqU x) pl (fun w hw => mem_eqAt rx fx r fs w (by simpa using hw)) ⟨.bl _, H, I, rfl, ?_⟩
    rw [show its.toArray.any (eqU x) = its.any (eqU x) by simp, any_eqU r fs]
    exact q
theorem op_notIn_seq : OpR X (compareOp .NotIn) (rIn X.K true) := by
  intro pins s σ H x y v u Q I rx ry h
  obtain ⟨p, xs, rfl, hq, fx, fs, q⟩ := h
  cases ry
  rcases hq with hq | hq
  · obtain ⟨its, r, pl, hz⟩ := I.list hq
    refine SeqAt.notIn_listAt (eqU x) pl.isList (fun w hw => mem_eqAt rx fx r fs w (by simpa using hw)) ⟨.bl _, H, I, rfl, ?_⟩
    rw [show its.toArray.any (eqU x) = its.any (eqU x) by simp, any_eqU r fs]
    exact q
  · obtain ⟨its, r, pl, hz⟩ := I.tuple hq
    refine SeqAt.notIn_tupleAt (eqU x) pl (fun w hw => mem_eqAt rx fx r fs w (by simpa using hw)) ⟨.bl _, H, I, rfl, ?_⟩
    rw [show its.toArray.any (eqU x) = its.any (eqU x) by simp, any_eqU r fs]
    exact q
theorem op_notIn_str : OpR X (compareOp .NotIn) (fun x y H Q => ∃ i j, x = .str i ∧ y = .str j ∧ Q (.bl (!(!(Builtin.Str.occurrences j i 0 j.length 1).isEmpty))) H) := by
  intro pins s σ H x y v u Q I rx ry h
  obtain ⟨i, j, rfl, rfl, q⟩ := h
  obtain ⟨t, rfl⟩ := rx
  obtain ⟨t', rfl⟩ := ry
  exact notIn_str ⟨.bl _, H, I, rfl, q⟩

/-! ### len, list(x), tuple(x) of any list or tuple that is read -/
theorem call_len_seq : CallR X (.builtin "len") (fun xs H Q => ∃ p ys, xs = [.ref p] ∧ (SqL X.K H p ys ∨ SqT X.K H p ys) ∧ Q (.int ys.length) H) := by
  intro pins s σ H xs us Q I r h
  obtain ⟨p, ys, rfl, hq, q⟩ := h
  obtain ⟨u, rfl, rx⟩ := vals1 r
  cases rx
  have hn := line63
  rcases hq with hq | hq
  · obtain ⟨its, r', pl, hz⟩ := I.list hq
    have hlen := r'.length
    exact Calls.call_len_list pl.isList (by simp only [List.size_toArray] <;> omega) ⟨.int ys.length, H, I.tok _, ⟨s.toks + 1, by rw [List.size_toArray, hlen]⟩, q⟩
  · obtain ⟨its, r', pl, hz⟩ := I.tuple hq
    have hlen := r'.length
    exact len_tuple pl (by simp only [List.size_toArray] <;> omega) ⟨.int ys.length, H, I.tok _, ⟨s.toks + 1, by rw [List.size_toArray, hlen]⟩, q⟩
theorem call_len_str : CallR X (.builtin "len") (fun xs H Q => ∃ z, xs = [.str z] ∧ z.length ≤ sizeLine ∧ Q (.int z.length) H) := by
  intro pins s σ H xs us Q I r h
  obtain ⟨z, rfl, hz, q⟩ := h
  obtain ⟨u, rfl, t, rfl⟩ := vals1 r
  have hn := line63
  exact len_str (by omega) ⟨.int z.length, H, I.tok _, ⟨_, rfl⟩, q⟩
theorem CallR.or {f : Value} {r r' : List V → Hp → VK → Prop} (h : CallR X f r) (h' : CallR X f r') : CallR X f (fun xs H Q => r xs H Q ∨ r' xs H Q) := by
  intro pins s σ H xs us Q I rs q
  rcases q with q | q
  · exact h pins s σ H xs us Q I rs q
  · exact h' pins s σ H xs us Q I rs q
theorem call_list_of : CallR X (.type "list") (fun xs H Q => ∃ p ys, xs = [.ref p] ∧ (SqL X.K H p ys ∨ SqT X.K H p ys) ∧ ∀ l, H l = none → Q (.ref l) (upd H l (.lst ys))) := by
  intro pins s σ H xs us Q I r h
  obtain ⟨p, ys, rfl, hq, q⟩ := h
  obtain ⟨u, rfl, rx⟩ := vals1 r
  cases rx
  have fin : ∀ (its : List Value), Vals ys its → ys.length ≤ sizeLine → ∀ (h' : Heap) (c' : Nat), (∀ b o', s.heap.get? b = some o' → h'.get? b = some o') →
      h'.get? s.heap.objs.size = some { cls := .type "list", dict := none, data := .seq its.toArray c', slots := #[] } → EP X pins σ Q (.ref s.heap.objs.size) { s with heap := h' } := fun its r' hz h' c' kp e =>
    ⟨.ref s.heap.objs.size, _, I.laid (t' := s.toks) kp (Nat.le_refl _) (show ObjOk X.prog X.w _ h' _ (.lst ys) from ⟨hz, its, c', r', e⟩), rfl, q _ (I.hok.fresh (Nat.le_refl _))⟩
  rcases hq with hq | hq
  · obtain ⟨its, r', pl, hz⟩ := I.list hq
    have hlen := r'.length
    obtain ⟨o, ho, hc, n, hd⟩ := pl.isList
    exact call_list_seq p (.inl rfl) ho hc hd (fun h' c' kp e => fin its r' hz h' c' kp e) (by simp only [List.size_toArray] <;> omega)
  · obtain ⟨its, r', pl, hz⟩ := I.tuple hq
    have hlen := r'.length
    obtain ⟨o, ho, hc, n, hd⟩ := pl
    exact call_list_seq p (.inr rfl) ho hc hd (fun h' c' kp e => fin its r' hz h' c' kp e) (by simp only [List.size_toArray] <;> omega)
theorem call_tuple_of : CallR X (.type "tuple") (fun xs H Q => ∃ p ys, xs = [.ref p] ∧ ((SqL X.K H p ys ∧ ∀ l, H l = none → Q (.ref l) (upd H l (.tup ys))) ∨ (SqT X.K H p ys ∧ Q (.ref p) H))) := by
  intro pins s σ H xs us Q I r h
  obtain ⟨p, ys, rfl, h⟩ := h
  obtain ⟨u, rfl, rx⟩ := vals1 r
  cases rx
  rcases h with ⟨hq, q⟩ | ⟨hq, q⟩
  · obtain ⟨its, r', pl, hz⟩ := I.list hq
    have hlen := r'.length
    refine call_tuple_list pl.isList (fun h' kp => ?_) (by simp only [List.size_toArray] <;> omega)
    have I1 : Inv X pins σ H { s with heap := h' } := I.kept (t' := s.toks) kp
    have I2 : Inv X pins σ (upd H h'.objs.size (.tup ys)) { s with heap := h'.push { cls := .type "tuple", data := .seq its.toArray } } :=
      I1.laid (t' := s.toks) (fun b o e => Heap.get?_push_of_some _ e) (Nat.le_refl _) (show ObjOk X.prog X.w _ _ _ (.tup ys) from ⟨hz, its, r', IsTup.new _ _⟩)
    exact ⟨.ref h'.objs.size, _, I2, rfl, q _ (I1.hok.fresh (Nat.le_refl _))⟩
  · obtain ⟨its, r', pl, hz⟩ := I.tuple hq
    exact call_tuple_same pl ⟨.ref p, H, I, rfl, q⟩

/-! ### the call of a builtin's method: o.m(..) -/
/-- the value is of that builtin type -/
def tyV (K : PySem.W.Frag) (T : String) (x : V) (H : Hp) : Prop := match x with
  | .str _ => T = "str"
  | .int _ => T = "int"
  | .ref p => (T = "list" ∧ ∃ xs, SqL K H p xs) ∨ (T = "tuple" ∧ ∃ o, K.lookup p = some o ∧ o.cls = .type "tuple" ∧ o.dict = none) ∨
      (T = "dict" ∧ ((∃ kvs, H p = some (.dK kvs)) ∨ ∃ kvs, H p = some (.dT kvs))) ∨ (T = "set" ∧ ∃ S n, H p = some (.set S n))
  | _ => False
theorem tyV_is {pins : List (Addr × Obj)} {σ : St} {H : Hp} {s : Shared} {T : String} {x : V} {v : Value} (I : Inv X pins σ H s) (r : RelV x v) (ty : tyV X.K T x H) :
    s.TypeIs v T ∧ ∀ a, v = .ref a → ∃ ob, s.heap.get? a = some ob ∧ ob.dict = none := by
  cases x with
  | str z =>
    obtain ⟨t, rfl⟩ := r
    cases (show T = "str" from ty)
    exact ⟨typeIs_str s z t, fun _ e => nomatch e⟩
  | int i =>
    obtain ⟨t, rfl⟩ := r
    cases (show T = "int" from ty)
    exact ⟨typeIs_int s i t, fun _ e => nomatch e⟩
  | ref p =>
    cases r
    rcases ty with ⟨rfl, xs, hq⟩ | ⟨rfl, o, hk, hc, hd⟩ | ⟨rfl, hk⟩ | ⟨rfl, S, n, hk⟩
    · obtain ⟨its, _, pl, _⟩ := I.list hq
      refine ⟨pl.isList.typeIs, fun a e => ?_⟩
      cases e
      obtain ⟨o, n, e, c, hd, _⟩ := pl
      exact ⟨o, e, hd⟩
    · refine ⟨⟨o, I.kIn p o hk, hc⟩, fun a e => ?_⟩
      cases e
      exact ⟨o, I.kIn _ o hk, hd⟩
    · have z : ∃ o, s.heap.get? p = some o ∧ o.ExactDict := by
        rcases hk with ⟨kvs, hk⟩ | ⟨kvs, hk⟩
        · obtain ⟨_, _, _, _, o, _, _, e, ex, _⟩ := I.hok p _ hk
          exact ⟨o, e, ex⟩
        · obtain ⟨_, _, _, _, o, _, _, e, ex, _⟩ := I.hok p _ hk
          exact ⟨o, e, ex⟩
      obtain ⟨o, e, ex⟩ := z
      refine ⟨⟨o, e, ex.1⟩, fun a e2 => ?_⟩
      cases e2
      exact ⟨o, e, ex.2.1⟩
    · obtain ⟨o, _, _, _, e, ex, _⟩ := I.hok p _ hk
      refine ⟨⟨o, e, ex.1⟩, fun a e2 => ?_⟩
      cases e2
      exact ⟨o, e, ex.2.1⟩
  | _ => exact False.elim ty
def tBM0 (K : PySem.W.Frag) (T : String) (r : V → List V → Hp → VK → Prop) (to : TE) : TE := fun σ H Q => to σ H fun x H1 => tyV K T x H1 ∧ r x [] H1 Q
def tBM (K : PySem.W.Frag) (T : String) (r : V → List V → Hp → VK → Prop) (to : TE) (t : TA) : TE := fun σ H Q => to σ H fun x H1 => tyV K T x H1 ∧ t σ H1 fun xs H2 => r x xs H2 Q
variable {o e : Expr} {es : List Expr} {to : TE} {t : TA} {name : Str} {apos cpos : Pos} {T id : String} {r : V → List V → Hp → VK → Prop}
theorem pe_bm0 (pa : PlainAttrs T) (slot : Slot T name id) (hty : typeOf (.builtin id) = pure (.type "method_descriptor")) (hm : MtR X id r) (ho : PE X o to)
    (hbase : attributeBase o name X.env (eval o X.env) = eval o X.env := by rfl) (hline : (apos.endLine == cpos.line) = true := by rfl) : PE X (.Call (.Attribute o name apos) [] [] cpos) (tBM0 X.K T r to) := by
  intro pins s σ H Q I h
  refine wpAny_Call_method0_late hbase hline (thn (ho pins s σ H _ I h) fun v s1 ⟨x, H1, I1, r1, ty, q1⟩ => ?_)
  obtain ⟨h1, h2⟩ := tyV_is I1 r1 ty
  exact ⟨T, id, pa, slot, hty, h1, h2, Calls.callWith_builtin rfl (PySem.evalArgs_none (hm pins s1 σ H1 x [] v [] Q I1 r1 .nil q1))⟩
theorem pe_bm (pa : PlainAttrs T) (slot : Slot T name id) (hty : typeOf (.builtin id) = pure (.type "method_descriptor")) (hm : MtR X id r) (ho : PE X o to) (ha : PA X (e :: es) t)
    (hbase : attributeBase o name X.env (eval o X.env) = eval o X.env := by rfl)
    (hfew : ((backTo cpos (starEach (e :: es) X.env)).all (fun x => !x.1) && (backToKw cpos (keywordEach [] X.env)).all (fun x => x.1.isSome)
      && decide ((e :: es).length + ([] : List Keyword).length + (if ([] : List Keyword).isEmpty then 0 else 1) < 30)) = true := by rfl)
    (hline : (apos.endLine == cpos.line) = true := by rfl) (hs : starEach (e :: es) X.env = (false, eval e X.env) :: starEach es X.env := by rfl) (hplain : (backTo cpos (starEach es X.env)).any (·.1) = false := by rfl) :
    PE X (.Call (.Attribute o name apos) (e :: es) [] cpos) (tBM X.K T r to t) := by
  intro pins s σ H Q I h
  refine wpAny_Call_method_late hbase hfew hline rfl (thn (ho pins s σ H _ I h) fun v s1 ⟨x, H1, I1, r1, ty, q1⟩ => ?_)
  obtain ⟨h1, h2⟩ := tyV_is I1 r1 ty
  refine ⟨T, id, pa, slot, hty, h1, h2, ?_⟩
  have hA := ha cpos pins s1 σ H1 _ I1 q1
  rw [hs] at hA ⊢
  refine Calls.callWith_builtin (by show (false || (backTo cpos (starEach es X.env)).any (·.1)) = false; rw [hplain] <;> rfl) (Calls.evalArgs_plain ?_)
  exact thn hA fun us s2 ⟨vs, H2, I2, r2, q2⟩ => hm pins s2 σ H2 x vs v us Q I2 r1 r2 q2
/- xs.append(e), list.index on a module's tuple .. are MtR facts of 06m -/
end
end L2

namespace L2
open PySem PySem.Spec PyProof.Rows

def MtM (X : Cx) (id : String) (r : V → List V → Hp → VK → Prop) : Prop :=
  ∀ (pins : List (Addr × Obj)) (s : Shared) (σ : St) (H : Hp) (x : V) (xs : List V) (v : Value) (us : List Value) (Q : VK), Inv X pins σ H s → RelV x v → Vals xs us → r x xs H Q →
    wpAny (model X.prog X.w) X.A (call (.builtin id) (v :: us)) (EP X pins σ Q) X.xe s

/-! ### lists of values -/
theorem Vals.one : ∀ {x : V} {us : List Value}, Vals [x] us → ∃ u, us = [u] ∧ RelV x u
  | _, _, .cons r .nil => ⟨_, rfl, r⟩
theorem Vals.two : ∀ {x y : V} {us : List Value}, Vals [x, y] us → ∃ u v, us = [u, v] ∧ RelV x u ∧ RelV y v
  | _, _, _, .cons r (.cons q .nil) => ⟨_, _, rfl, r, q⟩
theorem Vals.zero : ∀ {us : List Value}, Vals [] us → us = []
  | _, .nil => rfl
theorem Vals.dropLast {xs : List V} {us : List Value} (h : Vals xs us) : Vals xs.dropLast us.dropLast := by
  induction h with
  | nil => exact .nil
  | cons r t ih =>
    cases t with
    | nil => exact .nil
    | cons q t' => exact .cons r ih
theorem Vals.eraseIdx : ∀ {xs : List V} {us : List Value} (i : Nat), Vals xs us → Vals (xs.eraseIdx i) (us.eraseIdx i)
  | _, _, _, .nil => .nil
  | _, _, 0, .cons _ t => t
  | _, _, i + 1, .cons r t => .cons r (Vals.eraseIdx i t)
theorem Vals.reverse {xs : List V} {us : List Value} (h : Vals xs us) : Vals xs.reverse us.reverse := by
  induction h with
  | nil => exact .nil
  | cons r t ih => rw [List.reverse_cons, List.reverse_cons]; exact Vals.append ih (.cons r .nil)
theorem Vals.rep {xs : List V} {us : List Value} (h : Vals xs us) : ∀ k : Nat, Vals (List.replicate k xs).flatten (List.replicate k us).flatten
  | 0 => .nil
  | k + 1 => by
    rw [List.replicate_succ, List.replicate_succ, List.flatten_cons, List.flatten_cons]
    exact Vals.append h (Vals.rep h k)
theorem erase_last {α : Type} (l : List α) : l.eraseIdx (l.length - 1) = l.dropLast := by
  induction l with
  | nil => rfl
  | cons a r ih =>
    cases r with
    | nil => rfl
    | cons b r =>
      have e : (a :: b :: r).length - 1 = ((b :: r).length - 1) + 1 := by
        have h1 : (a :: b :: r).length = r.length + 2 := rfl
        have h2 : (b :: r).length = r.length + 1 := rfl
        omega
      rw [e, List.eraseIdx_cons_succ, ih]
      all_goals rfl
theorem len_erase {α : Type} : ∀ (l : List α) (i : Nat), (l.eraseIdx i).length ≤ l.length
  | [], _ => Nat.le_refl _
  | _ :: _, 0 => Nat.le_succ _
  | _ :: r, i + 1 => Nat.succ_le_succ (len_erase r i)
theorem foldl_rep (its : List Value) : ∀ (k : Nat) (acc : List Value),
    List.foldl (fun x1 x2 => x1 ++ x2) acc.toArray (List.replicate k its.toArray) = (acc ++ (List.replicate k its).flatten).toArray
  | 0, acc => by simp
  | k + 1, acc => by
    have e : acc.toArray ++ its.toArray = (acc ++ its).toArray := by simp
    have e2 : (acc ++ its) ++ (List.replicate k its).flatten = acc ++ (List.replicate (k + 1) its).flatten := by
      rw [List.replicate_succ, List.flatten_cons, List.append_assoc]
    rw [← e2, ← foldl_rep its k (acc ++ its), ← e, List.replicate_succ, List.foldl_cons]

section
variable {X : Cx} {pins : List (Addr × Obj)} {σ : St} {H : Hp} {s : Shared} {l b : Addr} {xs ys zs : List V}

/-! ### the two steps: a tracked list is rewritten, a new list is laid -/
theorem Inv.lset {its its' : List Value} {n : Nat} {f : Array Value → Array Value} {t' : Nat} (I : Inv X pins σ H s) (hH : H l = some (.lst xs))
    (e : s.heap.get? l = some { cls := .type "list", data := .seq its.toArray n }) (hf : f its.toArray = its'.toArray) (hv : Vals ys its') (hz : ys.length ≤ sizeLine) :
    Inv X pins σ (upd H l (.lst ys)) { s with heap := s.heap.update l (Obj.mapSeq f), toks := t' } := by
  have q := PySem.IsL.update e f
  rw [hf] at q
  refine I.write (x := l) (e := l) (by rw [hH]; exact trivial) (.inl rfl) (fun b' u hb hu => (Heap.get?_update_other s.heap (Obj.mapSeq f) (Ne.symm hb)).trans hu) ⟨_, q⟩ ?_
  exact ⟨hz, its', _, hv, q⟩
theorem Inv.lnew {its : List Value} {t' : Nat} (I : Inv X pins σ H s) (hv : Vals ys its) (hz : ys.length ≤ sizeLine) :
    Inv X pins σ (upd H s.heap.objs.size (.lst ys)) { s with heap := s.heap.push { cls := .type "list", data := .seq its.toArray }, toks := t' } :=
  I.laid (fun _ _ q => Heap.get?_push_of_some _ q) (Nat.le_refl _) ⟨hz, its, 0, hv, Heap.get?_push_size _ rfl⟩
theorem Inv.fresh (I : Inv X pins σ H s) : H s.heap.objs.size = none := I.hok.fresh (Nat.le_refl _)
theorem Inv.lstM (I : Inv X pins σ H s) (hH : H l = some (.lst xs)) : xs.length ≤ sizeLine ∧ ∃ (its : List Value) (n : Nat), Vals xs its ∧ xs.length = its.length ∧ s.heap.get? l = some { cls := .type "list", data := .seq its.toArray n } := by
  obtain ⟨z, its, n, r, e⟩ := I.hok l _ hH
  exact ⟨z, its, n, r, r.length, e⟩

theorem notLongL {n : Nat} (h : n ≤ sizeLine) : Builtin.List.listTooLong n = false := by
  unfold Builtin.List.listTooLong
  exact decide_eq_false (by omega)
end

section
variable {X : Cx}

/-! ### methods -/
def rAppend : V → List V → Hp → VK → Prop := fun x vs H Q => ∃ l xs y, x = .ref l ∧ vs = [y] ∧ H l = some (.lst xs) ∧ xs.length < sizeLine ∧ Q .non (upd H l (.lst (xs ++ [y])))
theorem mt_append : MtM X "list.append" rAppend := by
  intro pins s σ H x vs v us Q I rx rv h
  obtain ⟨l, xs, y, rfl, rfl, hH, hz, q⟩ := h
  cases rx
  obtain ⟨u, rfl, ru⟩ := rv.one
  obtain ⟨z, its, n, r, hl, e⟩ := I.lstM hH
  refine call_meets F.slot_list_append ⟨_, e, rfl⟩ F.entry_list_append (F.args_list_append_2 _ _) (PySem.list_append l its.toArray n u (by rw [List.size_toArray]; omega)) ⟨e, ?_⟩
  refine ⟨.non, _, I.lset (its' := its ++ [u]) hH e (by simp) (r.append (.cons ru .nil)) ?_, rfl, q⟩
  rw [List.length_append, List.length_singleton]
  omega

def rExtend : V → List V → Hp → VK → Prop := fun x vs H Q => ∃ l b xs zs, x = .ref l ∧ vs = [.ref b] ∧ H l = some (.lst xs) ∧ H b = some (.lst zs) ∧ xs.length + zs.length ≤ sizeLine ∧ Q .non (upd H l (.lst (xs ++ zs)))
theorem mt_extend : MtM X "list.extend" rExtend := by
  intro pins s σ H x vs v us Q I rx rv h
  obtain ⟨l, b, xs, zs, rfl, rfl, hH, hB, hz, q⟩ := h
  cases rx
  obtain ⟨u, rfl, ru⟩ := rv.one
  cases ru
  obtain ⟨z, its, n, r, hl, e⟩ := I.lstM hH
  obtain ⟨z2, its2, n2, r2, hl2, e2⟩ := I.lstM hB
  have hsz : its.toArray.size + its2.toArray.size ≤ sizeLine := by rw [List.size_toArray, List.size_toArray]; omega
  have hlong : ¬ (!its.toArray.isEmpty && Builtin.List.listTooLong (its.toArray.size + its2.toArray.size)) = true := by
    rw [notLongL hsz, Bool.and_false]
    exact Bool.false_ne_true
  refine call_meets F.slot_list_extend ⟨_, e, rfl⟩ F.entry_list_extend (F.args_list_extend_2 _ _)
    (AutoSeq1.list_extend_list_list_0 l its.toArray n b its2.toArray n2 hlong (by rw [List.size_toArray]; omega) (by omega)) ⟨e, e2, ?_⟩
  refine ⟨.non, _, I.lset (its' := its ++ its2) hH e (by simp) (r.append r2) ?_, rfl, q⟩
  rw [List.length_append]
  omega

def rPop : V → List V → Hp → VK → Prop := fun x vs H Q => ∃ l xs y, x = .ref l ∧ vs = [] ∧ H l = some (.lst xs) ∧ xs[xs.length - 1]? = some y ∧ Q y (upd H l (.lst xs.dropLast))
theorem mt_pop : MtM X "list.pop" rPop := by
  intro pins s σ H x vs v us Q I rx rv h
  obtain ⟨l, xs, y, rfl, rfl, hH, hy, q⟩ := h
  cases rx
  have hus := rv.zero
  subst hus
  obtain ⟨z, its, n, r, hl, e⟩ := I.lstM hH
  obtain ⟨u, hu, ru⟩ := r.get hy
  have hy' : its.toArray[its.toArray.size - 1]? = some u := by
    show its.toArray[its.length - 1]? = some u
    rw [← Array.getElem?_toList, ← hl]
    exact hu
  refine call_meets F.slot_list_pop ⟨_, e, rfl⟩ F.entry_list_pop (F.args_list_pop_1 _) (MeetsSeq.list_pop_last l its.toArray n u hy' (by rw [List.size_toArray]; omega)) ⟨e, ?_⟩
  refine ⟨y, _, I.lset (its' := its.dropLast) hH e ?_ r.dropLast ?_, ru, q⟩
  · show its.toArray.eraseIdxIfInBounds (its.toArray.size - 1) = its.dropLast.toArray
    rw [List.size_toArray, List.eraseIdxIfInBounds_toArray, erase_last]
  · rw [List.length_dropLast]
    omega

def rPopAt : V → List V → Hp → VK → Prop := fun x vs H Q => ∃ l xs i k y, x = .ref l ∧ vs = [.int i] ∧ H l = some (.lst xs) ∧ -(2 ^ 63) ≤ i ∧ i < 2 ^ 63 ∧ seqIndex? i xs.length = some k ∧ xs[k]? = some y ∧ Q y (upd H l (.lst (xs.eraseIdx k)))
theorem mt_popAt : MtM X "list.pop" rPopAt := by
  intro pins s σ H x vs v us Q I rx rv h
  obtain ⟨l, xs, i, k, y, rfl, rfl, hH, h1, h2, hk, hy, q⟩ := h
  cases rx
  obtain ⟨u, rfl, ru⟩ := rv.one
  obtain ⟨t, rfl⟩ := ru
  obtain ⟨z, its, n, r, hl, e⟩ := I.lstM hH
  obtain ⟨w, hw, rw'⟩ := r.get hy
  refine call_meets F.slot_list_pop ⟨_, e, rfl⟩ F.entry_list_pop (F.args_list_pop_2 _ _)
    (MeetsSeq.list_pop_at l its.toArray n i t k w (fitsIndex_both h1 h2) (by rw [List.size_toArray, ← hl]; exact hk) (by rw [← Array.getElem?_toList]; exact hw) (by rw [List.size_toArray]; omega)) ⟨e, ?_⟩
  refine ⟨y, _, I.lset (its' := its.eraseIdx k) hH e ?_ (r.eraseIdx k) ?_, rw', q⟩
  · show its.toArray.eraseIdxIfInBounds k = (its.eraseIdx k).toArray
    rw [List.eraseIdxIfInBounds_toArray]
  · have := len_erase xs k
    omega

def rReverse : V → List V → Hp → VK → Prop := fun x vs H Q => ∃ l xs, x = .ref l ∧ vs = [] ∧ H l = some (.lst xs) ∧ Q .non (upd H l (.lst xs.reverse))
theorem mt_reverse : MtM X "list.reverse" rReverse := by
  intro pins s σ H x vs v us Q I rx rv h
  obtain ⟨l, xs, rfl, rfl, hH, q⟩ := h
  cases rx
  have hus := rv.zero
  subst hus
  obtain ⟨z, its, n, r, hl, e⟩ := I.lstM hH
  refine call_meets F.slot_list_reverse ⟨_, e, rfl⟩ F.entry_list_reverse (F.args_list_reverse_1 _) (AutoSeq1.list_reverse_list_0 l its.toArray n (by rw [List.size_toArray]; omega)) ⟨e, ?_⟩
  refine ⟨.non, _, I.lset (its' := its.reverse) hH e (by simp) r.reverse ?_, rfl, q⟩
  rw [List.length_reverse]
  omega

def rClear : V → List V → Hp → VK → Prop := fun x vs H Q => ∃ l xs, x = .ref l ∧ vs = [] ∧ H l = some (.lst xs) ∧ Q .non (upd H l (.lst []))
theorem mt_clear : MtM X "list.clear" rClear := by
  intro pins s σ H x vs v us Q I rx rv h
  obtain ⟨l, xs, rfl, rfl, hH, q⟩ := h
  cases rx
  have hus := rv.zero
  subst hus
  obtain ⟨z, its, n, r, hl, e⟩ := I.lstM hH
  refine call_meets F.slot_list_clear ⟨_, e, rfl⟩ F.entry_list_clear (F.args_list_clear_1 _) (AutoSeq1.list_clear_list_0 l its.toArray n (by rw [List.size_toArray]; omega)) ⟨e, ?_⟩
  exact ⟨.non, _, I.lset (its' := []) (ys := []) hH e rfl .nil (Nat.zero_le _), rfl, q⟩

/-! ### list + list, list += list, list * int -/
def rCat : R2 := fun x y H Q => ∃ l b xs zs, x = .ref l ∧ y = .ref b ∧ H l = some (.lst xs) ∧ H b = some (.lst zs) ∧ xs.length + zs.length ≤ sizeLine ∧ ∀ p, H p = none → Q (.ref p) (upd H p (.lst (xs ++ zs)))
theorem op_cat : OpR X (binaryOp .Add) rCat := by
  intro pins s σ H x y v u Q I rx ry h
  obtain ⟨l, b, xs, zs, rfl, rfl, hH, hB, hz, q⟩ := h
  cases rx
  cases ry
  obtain ⟨z, its, n, r, hl, e⟩ := I.lstM hH
  obtain ⟨z2, its2, n2, r2, hl2, e2⟩ := I.lstM hB
  refine PySem.P.add_list e e2 ?_ (by rw [List.size_toArray, List.size_toArray]; omega)
  have ea : its.toArray ++ its2.toArray = (its ++ its2).toArray := by simp
  rw [ea]
  exact ⟨.ref _, _, I.lnew (t' := s.toks) (r.append r2) (by rw [List.length_append]; omega), rfl, q _ I.fresh⟩
/-- a list times an int (a negative one is nothing) -/
def rRep : R2 := fun x y H Q => ∃ l k xs, x = .ref l ∧ y = .int k ∧ H l = some (.lst xs) ∧ -(2 ^ 63) ≤ k ∧ k < 2 ^ 63 ∧ xs.length * k.toNat ≤ sizeLine ∧
  ∀ p, H p = none → Q (.ref p) (upd H p (.lst (List.replicate k.toNat xs).flatten))
theorem len_rep {α : Type} (xs : List α) (k : Nat) : (List.replicate k xs).flatten.length = k * xs.length := by
  induction k with
  | zero => simp
  | succ k ih => rw [List.replicate_succ, List.flatten_cons, List.length_append, ih, Nat.succ_mul, Nat.add_comm]
theorem op_rep : OpR X (binaryOp .Mult) rRep := by
  intro pins s σ H x y v u Q I rx ry h
  obtain ⟨l, k, xs, rfl, rfl, hH, h1, h2, hz, q⟩ := h
  cases rx
  obtain ⟨t, rfl⟩ := ry
  obtain ⟨z, its, n, r, hl, e⟩ := I.lstM hH
  have hlen : its.toArray.size * k.toNat ≤ sizeLine := by rw [List.size_toArray, ← hl]; exact hz
  have hcap : ¬ its.toArray.size * k.toNat > (2 ^ 63 - 1) / 8 := by
    have : (sizeLine : Nat) ≤ (2 ^ 63 - 1) / 8 := by decide
    omega
  have hfit : ¬ (!Builtin.List.listFitsIndex k) = true := by
    rw [fitsIndex_both h1 h2]
    exact Bool.false_ne_true
  have hlong : ¬ Builtin.List.listTooLong (its.toArray.size * k.toNat) = true := by
    rw [notLongL hlen]
    exact Bool.false_ne_true
  have hnew : List.foldl (fun x1 x2 => x1 ++ x2) #[] (List.replicate (if its.toArray.isEmpty = true then 0 else k.toNat) its.toArray) = (List.replicate k.toNat its).flatten.toArray := by
    have f0 : ∀ m : Nat, List.foldl (fun x1 x2 => x1 ++ x2) #[] (List.replicate m its.toArray) = (List.replicate m its).flatten.toArray := fun m => by
      have := foldl_rep its m []
      rw [List.nil_append] at this
      exact this
    rw [f0]
    cases its with
    | nil => simp
    | cons a r' => rw [if_neg (by simp)]
  refine wpAny_binaryOp_repeat_ref (T := "list") (U := "int") (by decide) ⟨_, e, rfl⟩ (fun s' => typeIs_int s' k t) noFill_list_mul F.fills_int_mul F.slot_int_rmul repeat_list F.slot_int_index.lookup
    (call_meets F.slot_int_rmul (typeIs_int s k t) F.entry_int_rmul (F.args_int_rmul_2 _ _) (int___rmul___int_list k t l its.toArray n)
      ⟨e, rfl, ⟨_, e, rfl⟩, call_meets F.slot_list_mul ⟨_, e, rfl⟩ F.entry_list_mul (F.args_list_mul_2 _ _) (AutoListH.list___mul___list_int_3 l its.toArray n k t hfit hcap hlong) ⟨e, ?_⟩⟩)
  rw [hnew]
  exact ⟨.ref _, _, I.lnew (t' := s.toks) (r.rep k.toNat) (by rw [len_rep, Nat.mul_comm]; exact hz), rfl, q _ I.fresh⟩

/-! ### del xs[i] -/
theorem del_list {pins : List (Addr × Obj)} {s : Shared} {σ : St} {H : Hp} {l : Addr} {xs : List V} {i : Int} {t : Tok} {k : Nat} {Q : Unit → Shared → Prop} (I : Inv X pins σ H s) (hH : H l = some (.lst xs))
    (h1 : -(2 ^ 63) ≤ i) (h2 : i < 2 ^ 63) (hk : seqIndex? i xs.length = some k) (h : ∀ s', Inv X pins σ (upd H l (.lst (xs.eraseIdx k))) s' → Q () s') :
    wpAny (model X.prog X.w) X.A (delItem (.ref l) (.int i t)) Q X.xe s := by
  obtain ⟨z, its, n, r, hl, e⟩ := I.lstM hH
  refine PySem.P.delItem_list (k := k) e (fitsIndex_both h1 h2) (by rw [List.size_toArray, ← hl]; exact hk) (h _ ?_) (by rw [List.size_toArray]; omega)
  refine I.lset (its' := its.eraseIdx k) (t' := s.toks) hH e ?_ (r.eraseIdx k) ?_
  · show its.toArray.eraseIdxIfInBounds k = (its.eraseIdx k).toArray
    rw [List.eraseIdxIfInBounds_toArray]
  · have := len_erase xs k
    omega
end

/-! ### xs[a:b] = ys -/
section
variable {prog : Program} {w : World} {A : Around} {E : Value → Shared → Prop} {s : Shared}
theorem splice_eq (its its2 : List Value) (a c : Nat) : its.toArray.extract 0 a ++ its2.toArray ++ its.toArray.extract c its.toArray.size = (its.take a ++ its2 ++ its.drop c).toArray := by
  apply Array.toList_inj.mp
  first
    | (simp
       exact List.take_of_length_le (by simp))
    | simp [List.take_of_length_le]
    | simp
theorem bounds_run {a c n : Nat} (hac : a ≤ c) (hc : c ≤ n) : sliceBounds (some (a : Int)) (some (c : Int)) none n = ((a : Int), (c : Int), 1) := by
  simp only [sliceBounds, Option.getD_none]
  have h1 : ¬ ((a : Int) < 0) := by omega
  have h2 : ¬ ((c : Int) < 0) := by omega
  simp only [h1, h2, if_false, show (1 : Int) > 0 by decide, if_true]
  congr 1
  · omega
  · congr 1; omega
set_option maxRecDepth 100000 in
/-- list.__setitem__ with a slice of step one and another list -/
theorem setItem_slice {l b sl : Addr} {items new : Array Value} {n n2 : Nat} {vl vu : Value} {a c : Nat} {Q : Unit → Shared → Prop}
    (e : s.heap.get? l = some { cls := .type "list", data := .seq items n }) (e2 : s.heap.get? b = some { cls := .type "list", data := .seq new n2 }) (hne : l ≠ b)
    (hs : s.heap.IsSliceOf sl vl vu .none) (pl : IsPart vl (some (a : Int))) (pu : IsPart vu (some (c : Int))) (hac : a ≤ c) (hc : c ≤ items.size)
    (hsz : items.size + new.size ≤ sizeLine) (h : Q () { s with heap := s.heap.update l (Obj.mapSeq fun xs => xs.extract 0 a ++ new ++ xs.extract c xs.size) }) :
    wpAny (model prog w) A (setItem (.ref l) (.ref sl) (.ref b)) Q E s := by
  have hl : s.heap.IsList l items := PySem.IsL.isList e
  have hb : s.heap.IsList b new := PySem.IsL.isList e2
  obtain ⟨os, hos, hcs, hds⟩ := id hs
  have hTs : s.TypeIs (.ref sl) "slice" := ⟨os, hos, hcs⟩
  have hstep : ¬ ((rawPart none == rawInt 0) = true) := Bool.false_ne_true
  have hsame : Builtin.List.listSameRef (.ref l) (.ref b) = false := by
    unfold Builtin.List.listSameRef
    exact beq_eq_false_iff_ne.mpr hne
  have hmax : (max (a : Int) (c : Int)).toNat = c := by omega
  have hz' : ((fun xs : Array Value => xs.extract 0 a ++ new ++ xs.extract c xs.size) items).size ≤ sizeLine + 1 := by
    simp only [Array.size_append, Array.size_extract]
    omega
  unfold setItem
  try with_reducible refine wpAny_holding ?_
  first | refine wpAny_bind (wpAny_pure ?_) | skip
  refine wpAny_bind (wpAny_sequenceKey hl.typeIs (by decide) ?_)
  refine wpAny_bind (wpAny_callSpecial?_slot (name := Str.ofString "__setitem__") hl.typeIs slot_list_setitem
    (wpAny_call_entry slot_list_setitem hl.typeIs entry_list_setitem ?_ (args_list_setitem _ _ _)))
  show wpAny _ _ (Builtin.List.listSubscript? (.ref sl) >>= _) _ _ s
  refine wpAny_bind ?_
  unfold Builtin.List.listSubscript?
  refine wpAny_bind (wpAny_specialOf hTs slice_no_index ?_)
  simp only [Option.isNone_none, if_true]
  refine wpAny_pure ?_
  show wpAny _ _ (typeOf (.ref sl) >>= _) _ _ s
  refine wpAny_bind (wpAny_typeOf hTs ?_)
  first
    | rw [if_neg (by decide)]
    | refine PySem.W.KFB.if_not (by decide) ?_
  rw [listSliceParts_eq]
  refine wpAny_bind (wpAny_bind (wpAny_field hos hds (x := .none) rfl (wpAny_bind (wpAny_listPart .none ?_))))
  rw [if_neg hstep]
  refine wpAny_bind (wpAny_field hos hds (x := vl) rfl (wpAny_bind (wpAny_listPart pl ?_)))
  refine wpAny_bind (wpAny_field hos hds (x := vu) rfl (wpAny_bind (wpAny_listPart pu (wpAny_pure ?_))))
  first
    | simp only [hsame, Bool.false_eq_true, if_false]
    | refine PySem.W.KFB.if_not hsame ?_
    | (dsimp only
       rw [if_neg (by rw [hsame]; exact Bool.false_ne_true)])
  refine wpAny_bind (m := Builtin.List.listAllItems (.ref b) "must assign iterable to extended slice") ?_
  unfold Builtin.List.listAllItems
  refine wpAny_bind (wpAny_typeOf hb.typeIs ?_)
  first
    | refine PySem.W.KFB.if_so (by decide) ?_
    | rw [if_pos (by decide)]
    | simp only [beq_self_eq_true, Bool.true_or, if_true]
  unfold Builtin.List.listItems
  refine wpAny_bind (wpAny_seqItems e2 rfl (wpAny_pure ?_))
  refine wpAny_bind (wpAny_bind (wpAny_seqItems e rfl (wpAny_pure ?_)))
  refine wpAny_bind (wpAny_of_eq ((sliceIndices_raw (some (a : Int)) (some (c : Int)) none items.size (by simp)).trans (congrArg (pure : Int × Int × Int → Sem (Int × Int × Int)) (bounds_run hac hc))) ?_)
  show wpAny _ _ (if ((1 : Int) == 1) = true then _ else _) _ _ s
  rw [if_pos (by decide)]
  refine wpAny_bind (wpAny_rule ?_)
  first
    | simp only [notLongL hsz, Bool.false_eq_true, if_false]
    | refine PySem.W.KFB.if_not (notLongL hsz) ?_
  first | refine wpAny_bind (wpAny_pure ?_) | skip
  show wpAny _ _ (updateSeq l (fun xs => xs.extract 0 ((a : Int)).toNat ++ new ++ xs.extract (max (a : Int) (c : Int)).toNat xs.size) >>= _) _ _ s
  rw [hmax, Int.toNat_natCast]
  refine wpAny_bind (wpAny_updateSeq (hz := Nat.le_trans (Nat.le_add_right _ _) hsz) (_hz' := hz') e rfl ?_)
  refine wpAny_bind (wpAny_letGo ?_)
  first
    | exact wpAny_bind (wpAny_pure (wpAny_pure ⟨.none, rfl, wpAny_pure h⟩))
    | exact wpAny_pure ⟨.none, rfl, wpAny_pure h⟩
end

section
variable {X : Cx}
/-- xs[a:c] = ys of another list, at the value level: sl is the slice object that was just made -/
theorem set_slice {pins : List (Addr × Obj)} {s : Shared} {σ : St} {H : Hp} {l b sl : Addr} {xs ys : List V} {a c : Int} {vl vu : Value} {Q : Unit → Shared → Prop} (I : Inv X pins σ H s)
    (hH : H l = some (.lst xs)) (hB : H b = some (.lst ys)) (hne : l ≠ b) (hs : s.heap.IsSliceOf sl vl vu .none) (ra : RelV (.int a) vl) (rc : RelV (.int c) vu) (h0 : 0 ≤ a) (hac : a ≤ c) (hc : c ≤ xs.length)
    (hz : xs.length + ys.length ≤ sizeLine) (h : ∀ s', Inv X pins σ (upd H l (.lst (xs.take a.toNat ++ ys ++ xs.drop c.toNat))) s' → Q () s') :
    wpAny (model X.prog X.w) X.A (setItem (.ref l) (.ref sl) (.ref b)) Q X.xe s := by
  obtain ⟨ta, rfl⟩ := ra
  obtain ⟨tc, rfl⟩ := rc
  obtain ⟨z, its, n, r, hl, e⟩ := I.lstM hH
  obtain ⟨z2, its2, n2, r2, hl2, e2⟩ := I.lstM hB
  obtain ⟨a', rfl⟩ := Int.eq_ofNat_of_zero_le h0
  obtain ⟨c', rfl⟩ := Int.eq_ofNat_of_zero_le (Int.le_trans h0 hac)
  simp only [Int.toNat_natCast] at h
  refine setItem_slice (a := a') (c := c') e e2 hne hs (.int _ _) (.int _ _) (by omega) (by rw [List.size_toArray]; omega) (by rw [List.size_toArray, List.size_toArray]; omega) (h _ ?_)
  refine I.lset (its' := its.take a' ++ its2 ++ its.drop c') (t' := s.toks) hH e ?_ (Vals.append (Vals.append (r.take _) r2) (r.drop _)) ?_
  · exact splice_eq its its2 a' c'
  · rw [List.length_append, List.length_append, List.length_take, List.length_drop]
    omega
end
end L2

namespace Att
open PySem PySem.W PySem.Calls PyProof.Rows

/-! ### the script -/
theorem ints_of_wellAll {P : Params} {h : Heap} : ∀ (ns : List Int) (vs : List Value), WellAll P h vs (ns.map WData.int) → IntsAre vs ns := by
  intro ns
  induction ns with
  | nil =>
    intro vs w
    rw [List.map_nil] at w
    cases w
    exact .nil
  | cons n ns ih =>
    intro vs w
    rw [List.map_cons] at w
    cases w with
    | cons a b =>
      cases a
      exact .cons _ _ (ih _ b)

theorem script_of {l : OpenLaw} {n : Nat} (hn : l.most = some n) {P : Params} {h : Heap} {args : List WData} {vals : List Value}
    (hpre : l.row.toRowW.claim.pre args = true) (hwl : WellAll P h vals args) :
    ∃ a vs ns, vals = [Value.ref a] ∧ args = [WData.list (ns.map WData.int)] ∧ h.get? a = some { cls := .type "list", data := .seq vs.toArray } ∧ IntsAre vs ns ∧ ns.length ≤ n := by
  have hsh : WShape.hasAll [] args [.list .int] = true := (pre_splitW hpre).1
  have hc : l.pre.holds [] { args := args } = true := (pre_splitW hpre).2
  obtain ⟨d, r, rfl, h1, h2⟩ := hasAllW_cons hsh
  obtain rfl := hasAllW_nil h2
  obtain ⟨xs, rfl, h3⟩ := hasW_list h1
  obtain ⟨ns, rfl⟩ := items_int h3
  have hlen : ns.length ≤ n := by
    unfold OpenLaw.pre at hc
    have h4 : (WTm.not (.lt (.lit (.int (n : Int))) (.len (.arg 0)))).holds [] { args := [.list (ns.map .int)] } = true := by
      have h4 := (holds_andW hc).1
      rw [hn] at h4
      exact h4
    have h5 := condW_of h4 (w_not (w_lt w_lit (w_len_list (w_arg rfl))))
    rw [List.length_map] at h5
    refine Nat.le_of_not_lt fun q => ?_
    have q' : (n : Int) < ((ns.length : Nat) : Int) := by omega
    first
      | (rw [decide_eq_true q'] at h5; exact absurd h5 (by decide))
      | (simp at h5; omega)
  cases hwl with
  | cons w1 w2 =>
    cases w2
    cases w1 with
    | list ho hall => exact ⟨_, _, ns, rfl, rfl, ho, ints_of_wellAll ns _ hall, hlen⟩

theorem post_true (l : OpenLaw) (args : List WData) : l.row.toRowW.claim.post args (.bool true) args = true :=
  postW_of (r := l.row.toRowW) (X := (true == true))
    (show WShape.has [] (.bool true) .bool = true by first | rfl | decide | simp [WShape.has, WShape.arms, WShape.armsAll])
    (show (WTm.eq .res (.lit (.bool true))).value [] { args := args, res := some (.bool true), after := args } = some (.bool (true == true)) from w_eq_bool (w_res rfl) w_lit) rfl

/-! ### the attachment: holds_open's last premise (the goal 'hc' behind k_head) from a wpAny of the law's body -/
theorem attach {l : OpenLaw} {n : Nat} {q : Program} {loose : List Str} {XP : (Str → Option Value) → Heap → Prop} {YP : World → Heap → Prop} {d : DefRec} {x : Str}
    (hn : l.most = some n) (hdf : d.params.defaults = [])
    (hbind : ∀ pm cd doc v : Value, bindArgs (docDef d.name d.params d.body d.scope pm cd doc) ⟨[v], []⟩ = pure [(x, v)])
    (hx : d.scope.names.lookup x = some .local ∨ d.scope.names.lookup x = some .cell)
    (hk : d.scope.kind = .function) (hco : d.scope.isCoroutine = false) (hgen : d.scope.isGenerator = false)
    (body : ∀ (w : World) (s₀ s₁ s : Shared) (mg mb : Str → Option Value) (fa : Addr) (o : Obj) (pm cd doc : Value) (a : Addr) (vs : List Value) (ns : List Int),
      Ground q loose [] XP w s₀ mg mb s₁.heap → YP w s₁.heap →
      s₁.heap.get? fa = some o → o.data = .func (docDef d.name d.params d.body d.scope pm cd doc) → s₁.heap.CodeRec cd d.name → mg d.name = some (.ref fa) →
      s₁.heap.get? a = some { cls := .type "list", data := .seq vs.toArray } → IntsAre vs ns → ns.length ≤ n →
      s.gens = #[] → s.os = s₁.os →
      Fr s₁.heap s₁.heap.objs.size s.heap (bindL (envOfC d.name d.scope s₁.heap.objs.size fa cd).kindOf [(x, .ref a)] fun _ => none) →
      Cl s₁.heap.objs.size (cellsFrom (s₁.heap.objs.size + 1) d.scope.names []) s.heap (bindC (envOfC d.name d.scope s₁.heap.objs.size fa cd).kindOf [(x, .ref a)] fun _ => none) →
      wpAny (model l.prog w) (callerA.deeper (envOfC d.name d.scope s₁.heap.objs.size fa cd)) (execs d.body (envOfC d.name d.scope s₁.heap.objs.size fa cd))
        (fun f s' => f = .ret (.bool true) ∧ OldK s₁.heap s'.heap ∧ s'.os = s₁.os ∧ AllBare s'.gens) (fun _ _ => False) s) :
    WalkO q loose XP YP l.row.toRowW d [] (fun f vs => PySem.call f vs) := by
  intro w s₀ s₁ mg mb G Y fa o pm cd doc dV kV ho hd hcd hD hmg hg args vals as hpre hlay hrd hwl hlo
  obtain rfl : dV = .none := Dflts.none hD hdf
  obtain rfl : kV = .none := Dflts.noKw hD
  obtain ⟨a, vs, ns, rfl, rfl, hobj, hints, hlen⟩ := script_of hn hpre hwl
  refine enter_call ?_
  refine call_cells_ret (o := o) (by rw [depth_caller]; decide) ho (fd_plain hd) G.T.nolimit hcd (hbind pm cd doc (.ref a)) (fun y hy => ?_) (fun h₁ tk F X => ?_) hco hgen hk
  · obtain rfl : y = (x, Value.ref a) := List.mem_singleton.mp hy
    rcases hx with e | e
    · exact .inl e
    · exact .inr ⟨e, cellsFrom_some _ _ _ (.inl e)⟩
  · refine wpAny_mono (body w s₀ s₁ { s₁ with heap := h₁, toks := tk } mg mb fa o pm cd doc a vs ns G Y ho (fd_plain hd) hcd hmg hobj hints hlen hg rfl F X) (fun f s' hq => ?_) (fun _ _ hq => hq)
    obtain ⟨rfl, h2, h3, h4⟩ := hq
    exact ⟨.inl ⟨.bool true, .bool true, [], rfl, fun _ => rfl, .bool true, post_true l _, fun _ => ⟨List.Pairwise.nil, fun _ hm => (nomatch hm)⟩⟩, h2, h3, h4⟩

/-- the same from a codeAny of the CALL (for a layer whose function contracts speak of calls) -/
theorem attach_call {l : OpenLaw} {n : Nat} {q : Program} {loose : List Str} {XP : (Str → Option Value) → Heap → Prop} {YP : World → Heap → Prop} {d : DefRec}
    (hn : l.most = some n) (hdf : d.params.defaults = [])
    (call : ∀ (w : World) (s₀ s₁ : Shared) (mg mb : Str → Option Value) (fa : Addr) (o : Obj) (pm cd doc : Value) (a : Addr) (vs : List Value) (ns : List Int),
      Ground q loose [] XP w s₀ mg mb s₁.heap → YP w s₁.heap →
      s₁.heap.get? fa = some o → o.data = .func (docDef d.name d.params d.body d.scope pm cd doc) → s₁.heap.CodeRec cd d.name → mg d.name = some (.ref fa) →
      s₁.heap.get? a = some { cls := .type "list", data := .seq vs.toArray } → IntsAre vs ns → ns.length ≤ n → s₁.gens = #[] →
      codeAny (model l.prog w) callerA (.call (.ref fa) ⟨[.ref a], []⟩) (fun r s' => r = .ok (.ret (.bool true)) ∧ OldK s₁.heap s'.heap ∧ s'.os = s₁.os ∧ AllBare s'.gens) s₁) :
    WalkO q loose XP YP l.row.toRowW d [] (fun f vs => PySem.call f vs) := by
  intro w s₀ s₁ mg mb G Y fa o pm cd doc dV kV ho hd hcd hD hmg hg args vals as hpre hlay hrd hwl hlo
  obtain rfl : dV = .none := Dflts.none hD hdf
  obtain rfl : kV = .none := Dflts.noKw hD
  obtain ⟨a, vs, ns, rfl, rfl, hobj, hints, hlen⟩ := script_of hn hpre hwl
  refine enter_call (codeAny_mono (call w s₀ s₁ mg mb fa o pm cd doc a vs ns G Y ho (fd_plain hd) hcd hmg hobj hints hlen hg) fun r s' hq => ?_)
  obtain ⟨rfl, h2, h3, h4⟩ := hq
  exact ⟨.inl ⟨.bool true, .bool true, [], rfl, fun _ => rfl, .bool true, post_true l _, fun _ => ⟨List.Pairwise.nil, fun _ hm => (nomatch hm)⟩⟩, h2, h3, h4⟩

/-- the same where the top left finished generators (o_head chose holds_openN): nothing may have changed at all and no generator may be left -/
theorem attachN {l : OpenLaw} {n : Nat} {q : Program} {loose : List Str} {XP : (Str → Option Value) → Heap → Prop} {YP : World → Heap → Prop} {d : DefRec} {x : Str}
    (hn : l.most = some n) (hdf : d.params.defaults = [])
    (hbind : ∀ pm cd doc v : Value, bindArgs (docDef d.name d.params d.body d.scope pm cd doc) ⟨[v], []⟩ = pure [(x, v)])
    (hx : d.scope.names.lookup x = some .local ∨ d.scope.names.lookup x = some .cell)
    (hk : d.scope.kind = .function) (hco : d.scope.isCoroutine = false) (hgen : d.scope.isGenerator = false)
    (body : ∀ (w : World) (s₀ s₁ s : Shared) (mg mb : Str → Option Value) (fa : Addr) (o : Obj) (pm cd doc : Value) (a : Addr) (vs : List Value) (ns : List Int),
      Ground q loose [] XP w s₀ mg mb s₁.heap → YP w s₁.heap →
      s₁.heap.get? fa = some o → o.data = .func (docDef d.name d.params d.body d.scope pm cd doc) → s₁.heap.CodeRec cd d.name → mg d.name = some (.ref fa) →
      s₁.heap.get? a = some { cls := .type "list", data := .seq vs.toArray } → IntsAre vs ns → ns.length ≤ n →
      s.gens = #[] → s.os = s₁.os →
      Fr s₁.heap s₁.heap.objs.size s.heap (bindL (envOfC d.name d.scope s₁.heap.objs.size fa cd).kindOf [(x, .ref a)] fun _ => none) →
      Cl s₁.heap.objs.size (cellsFrom (s₁.heap.objs.size + 1) d.scope.names []) s.heap (bindC (envOfC d.name d.scope s₁.heap.objs.size fa cd).kindOf [(x, .ref a)] fun _ => none) →
      wpAny (model l.prog w) (callerA.deeper (envOfC d.name d.scope s₁.heap.objs.size fa cd)) (execs d.body (envOfC d.name d.scope s₁.heap.objs.size fa cd))
        (fun f s' => f = .ret (.bool true) ∧ (∀ b o, s₁.heap.get? b = some o → s'.heap.get? b = some o) ∧ s'.os = s₁.os ∧ s'.gens = #[]) (fun _ _ => False) s) :
    WalkN q loose XP YP l.row.toRowW d [] (fun f vs => PySem.call f vs) := by
  intro w s₀ s₁ mg mb G Y fa o pm cd doc dV kV ho hd hcd hD hmg hg args vals as hpre hlay hrd hwl hlo
  obtain rfl : dV = .none := Dflts.none hD hdf
  obtain rfl : kV = .none := Dflts.noKw hD
  obtain ⟨a, vs, ns, rfl, rfl, hobj, hints, hlen⟩ := script_of hn hpre hwl
  refine enter_callW ?_
  refine call_cells_ret (o := o) (by rw [depth_caller]; decide) ho (fd_plain hd) G.T.nolimit hcd (hbind pm cd doc (.ref a)) (fun y hy => ?_) (fun h₁ tk F X => ?_) hco hgen hk
  · obtain rfl : y = (x, Value.ref a) := List.mem_singleton.mp hy
    rcases hx with e | e
    · exact .inl e
    · exact .inr ⟨e, cellsFrom_some _ _ _ (.inl e)⟩
  · refine wpAny_mono (body w s₀ s₁ { s₁ with heap := h₁, toks := tk } mg mb fa o pm cd doc a vs ns G Y ho (fd_plain hd) hcd hmg hobj hints hlen hg rfl F X) (fun f s' hq => ?_) (fun _ _ hq => hq)
    obtain ⟨rfl, h2, h3, h4⟩ := hq
    exact ⟨.inl ⟨.bool true, .bool true, [], rfl, fun _ => rfl, .bool true, post_true l _, fun _ => ⟨List.Pairwise.nil, fun _ hm => (nomatch hm)⟩⟩, h2, h3, h4⟩

/-! ### rules over ANY heap (no ledger) from facts about the written part K: the library's own take a ledger (News) for what they write -/
section
variable {prog : Program} {w : World} {A : Around} {E : Value → Shared → Prop} {s : Shared} {K : Frag}

/-- a def of the module, or a method (qual 'C.m'), entered: the frame is the next address; cells behind it -/
theorem call_fn {R : Result → Shared → Prop} {name qual : Str} {params : Arguments} {body : List Stmt} {scope : Scope} {dV kV doc pm cdv ct oc : Value} {an od : Option Addr} {osl : Array (Option Value)} {f : Addr} {args : Args} {binds : List (Str × Value)}
    (X : K.In s.heap) (hlim : s.heap.NoLimit) (ho : K.lookup f = some ⟨oc, od, .func (fnOf name qual params body scope dV kV doc pm an cdv ct), osl⟩) (hcd : codeIn K cdv qual = true) (hroom : A.depth < recursionLimit)
    (hbind : BindsTo s (fnOf name qual params body scope dV kV doc pm an cdv ct) args binds)
    (hkind : (binds.all fun y => scope.names.lookup y.1 == some .local || scope.names.lookup y.1 == some .cell) = true)
    (h : ∀ s₁, InCallC s s.heap.objs.size (bindL (envOfC qual scope s.heap.objs.size f cdv).kindOf binds fun _ => none) (cellsFrom (s.heap.objs.size + 1) scope.names [])
        (bindC (envOfC qual scope s.heap.objs.size f cdv).kindOf binds fun _ => none) s₁ →
      wpAny (model prog w) (A.deeper (envOfC qual scope s.heap.objs.size f cdv)) (execs body (envOfC qual scope s.heap.objs.size f cdv))
        (fun fl s' => R (.ok (.ret (match fl with | .ret v => v | _ => .none))) s')
        (fun e s' => wpAny (model prog w) (A.deeper (envOfC qual scope s.heap.objs.size f cdv)) (leaving (envOfC qual scope s.heap.objs.size f cdv) e) (fun _ s'' => R (.error e) s'') (fun e' s'' => R (.error e') s'') s') s₁)
    (hco : scope.isCoroutine = false) (hgen : scope.isGenerator = false) (hk : scope.kind = .function) : codeAny (model prog w) A (.call (.ref f) args) R s := by
  refine codeAny_call_function hroom (X _ _ ho) rfl hco hgen rfl (codeRec_of X hcd) (hbind _ _ _ _ ?_)
  refine wpAny_newFunctionEnv_cells hk (kindsX hkind _) fun env he s₁ x => ?_
  subst he
  exact ⟨hlim.keeps x.toInCall.keep, codeAny_func (h s₁ x)⟩

/-- C(..): dict at size, instance at size + 1, then __init__ -/
theorem make_obj {R : Result → Shared → Prop} {C fI : Addr} {rest : List Value} {kw : List (Str × Value)}
    (X : K.In s.heap) (hm : makesIn K C = true) (hi : findIn K (.ref C) "__init__" = some (some (.ref fI))) (hf : isFn K (.ref fI) = true)
    (h : codeAny (model prog w) (A.under (.builtin "type.__call__" ⟨.ref C :: rest, kw⟩)) (.call (.ref fI) ⟨.ref (s.heap.objs.size + 1) :: rest, kw⟩) (InitBack (s.heap.objs.size + 1) R)
      { s with heap := (s.heap.push emptyDict).push (instObj C s.heap.objs.size) }) : codeAny (model prog w) A (.call (.ref C) ⟨rest, kw⟩) R s := by
  obtain ⟨hh, g, d, t, os⟩ := s
  exact make_core (makes_of X hm) (looks_findIn X hi) (fun self => bind_fn X self (beq_iff_eq.mp hf)) (.inl rfl) h

/-- x.name where the instance's dict holds the name and the class does not -/
theorem get_field {x C : Addr} {ox : Obj} {es : List DictEntry} {n : Nat} {name : Str} {expr : Bool} {v : Value} {Q : Value → Shared → Prop}
    (X : K.In s.heap) (I : PySem.W.InstAt s.heap x ox C (some (dictOf es n))) (hg : plainGet K C name = true) (hh : hasDictIn K C = true) (ha : findIn K (.ref C) name = some none)
    (hl : getL name es = some (some v)) (hv : handedIn v = true) (h : Q v { s with toks := s.toks + 1 }) : wpAny (model prog w) A (getAttr (.ref x) name expr) Q E s :=
  get_value X I (plainGet_of hg).1 (findObj_own hh ha rfl hl) hv h

/-- x.m(..): the method found in the class -/
theorem get_method {x C f : Addr} {ox : Obj} {es : List DictEntry} {n : Nat} {name : Str} {pl : Sem Bool} {Q : Value × List Value → Shared → Prop}
    (X : K.In s.heap) (I : PySem.W.InstAt s.heap x ox C (some (dictOf es n))) (hg : plainGet K C name = true) (hf : findIn K (.ref C) name = some (some (.ref f))) (ht : isFn K (.ref f) = true)
    (hl : getL name es = some none) (h : Q (.ref f, [.ref x]) s) : wpAny (model prog w) A (getMethod (.ref x) name pl) Q E s :=
  method_fn X I (plainGet_of hg).1 (plainGet_of hg).2 hf (beq_iff_eq.mp ht) (by show (lookIn name (dictOf es n)).map _ = _; rw [lookIn_dict, hl]; rfl) h

/-! the whole heap as the ledger: makes every rule that writes through a ledger a rule over any heap -/
def noObjs (h : Heap) : Heap := { h with objs := #[] }
theorem noObjs_get (h : Heap) (b : Addr) : (noObjs h).get? b = none := by
  cases e : (noObjs h).get? b with
  | none => rfl
  | some o => exact absurd (Heap.lt_size e) (Nat.not_lt_zero _)
def ledger (h : Heap) (L d : Addr) : List (Addr × Obj) := (List.range h.objs.size).filterMap fun a => if a = L ∨ a = d then none else (h.get? a).map fun o => (a, o)
theorem mem_ledger {h : Heap} {L d a : Addr} {o : Obj} : (a, o) ∈ ledger h L d ↔ a ≠ L ∧ a ≠ d ∧ h.get? a = some o := by
  unfold ledger
  rw [List.mem_filterMap]
  constructor
  · rintro ⟨b, _, e⟩
    split at e
    · cases e
    · rename_i hb
      obtain ⟨o', ho, e'⟩ := Option.map_eq_some_iff.mp e
      cases e'
      exact ⟨fun q => hb (.inl q), fun q => hb (.inr q), ho⟩
  · rintro ⟨n1, n2, ho⟩
    refine ⟨a, List.mem_range.mpr (Heap.lt_size ho), ?_⟩
    rw [if_neg (show ¬ (a = L ∨ a = d) from fun q => q.elim n1 n2), ho] <;> rfl
theorem news_ledger {h : Heap} {L d : Addr} {od : Obj} (hne : d ≠ L) (ho : h.get? d = some od) : News (noObjs h) L h ([] ++ (d, od) :: ledger h L d) := by
  rintro ⟨a, o⟩ hp
  rcases List.mem_cons.mp hp with e | hp
  · cases e
    exact ⟨ho, hne, noObjs_get _ _⟩
  · obtain ⟨n1, n2, e⟩ := mem_ledger.mp hp
    exact ⟨e, n1, noObjs_get _ _⟩
theorem fr_all {h : Heap} {L : Addr} {m : Str → Option Value} (n : h.Ns L m) : Fr (noObjs h) L h m :=
  ⟨n, fun b o e => (by rw [noObjs_get] at e; cases e), Nat.zero_le _⟩
/-- Upd of the head entry (for append_K, setItem_K ..) -/
theorem upd_ledger {h : Heap} {L d : Addr} {o o' : Obj} : Upd d o o' ((d, o) :: ledger h L d) ((d, o') :: ledger h L d) :=
  .head fun ⟨_, _⟩ hp => (mem_ledger.mp hp).2.1

/-- x.name = v over any heap: L is any namespace of the heap (the frame's, say): its map stays, its object is not told; all else but the dict stays -/
theorem set_field {x C dx L : Addr} {ox : Obj} {m : Str → Option Value} {es es' : List DictEntry} {n n' : Nat} {name : Str} {v : Value} {Q : Unit → Shared → Prop}
    (X : K.In s.heap) (I : PySem.W.InstAt s.heap x ox C (some (dictOf es n))) (hd : ox.dict = some dx) (hL : s.heap.Ns L m) (hne : dx ≠ L)
    (hs : findIn K (.ref C) "__setattr__" = some (some (.builtin "object.__setattr__"))) (hp : plainOver K C = true) (ht : takerIn K C name = some none) (hh : hasDictIn K C = true) (hl : (getL name es).isSome = true)
    (e : (putL name (PyData.keyHash w.params name) (.str name (s.toks + 1)) v es, putN name es n) = (es', n')) (hz : es'.length ≤ 1000)
    (h : ∀ h' : Heap, h'.Ns L m → h'.get? dx = some (dictOf es' n') → (∀ b o, b ≠ dx → b ≠ L → s.heap.get? b = some o → h'.get? b = some o) → Q () { s with heap := h', toks := s.toks + 2 }) :
    wpAny (model prog w) A (setAttr (.ref x) name v) Q E s := by
  obtain ⟨e1, e2⟩ := Prod.mk.inj e
  have hdx : s.heap.get? dx = some (dictOf es n) := by
    have := I.dict
    rw [hd] at this
    exact this
  refine set_plain X I hs (osa_dict (s := { s with toks := s.toks + 1 }) (h₀ := noObjs s.heap) (L := L) (m := m) (od := dictOf es n) (od' := dictOf es' n') (es := es') (n := n') (pre := []) (post := ledger s.heap L dx)
    (fr_all hL) (news_ledger hne hdx) X I hd hp ht hh hl (fun _ q => nomatch q) (fun ⟨_, _⟩ q => (mem_ledger.mp q).2.1) (by rw [putName_dict, e1, e2]) rfl hz fun h' F' N' => ?_)
  exact h h' F'.ns (N'.get (List.Mem.head _)) fun b o n1 n2 ho => N'.get (List.Mem.tail _ (mem_ledger.mpr ⟨n2, n1, ho⟩))
end
end Att

namespace L2
open PySem PySem.Spec PyProof.Rows

theorem vals_ints : ∀ {vs : List Value} {ns : List Int}, IntsAre vs ns → Vals (ns.map V.int) vs
  | _, _, .nil => .nil
  | _, _, .cons n t h => .cons ⟨t, rfl⟩ (vals_ints h)

/-- nothing is tracked but the script, known to the object (or it is an object of the module) -/
def Only (H : Hp) : Prop := ∀ b, H b = none ∨ ∃ o xs, H b = some (.frz o (.lst xs))

/-- THE HEAD: the law's promise, at the heap behind the top. F, the promise of the law's def, may use that base is part of the heap (so K.In base, base.Ns mainGlobals mg stand in Mod) -/
theorem law_call {P : Program} {w : World} {K : PySem.W.Frag} {mg mb : Str → Option Value} {CX : CXT} {k : Nat} {fa a : Addr} {fd : FuncData} {x : Str} {sp : Sp} {s₁ : Shared} {vs : List Value} {ns : List Int}
    (KX : K.In s₁.heap) (hns : s₁.heap.Ns mainGlobals mg) (hb : s₁.heap.Ns builtinsNs mb) (hbb : ∀ x : Str, x ≠ "__name__" → mb x = bootBuiltins x) (hlim : s₁.heap.NoLimit) (hg : s₁.gens = #[])
    (ha : s₁.heap.get? a = some { cls := .type "list", data := .seq vs.toArray }) (hi : IntsAre vs ns) (hl : ns.length ≤ sizeLine) (hr : Room k callerA)
    (F : ∀ base : Heap, K.In base → base.Ns mainGlobals mg → FnOk P w K mg base CX k fa fd [x] sp) (hbind : ∀ (s : Shared) (u : Value), BindsTo s fd ⟨[u], []⟩ [(x, u)])
    (hsp : ∀ H : Hp, Only H → SqL K H a (ns.map V.int) → sp [.ref a] H (fun v _ => v = .bl true) fun _ _ _ => False)
    (hCX : ∀ H e s', CX [] H s₁ (fun _ _ _ => False) e s' → False) :
    codeAny (model P w) callerA (.call (.ref fa) ⟨[.ref a], []⟩) (fun r s' => r = .ok (.ret (.bool true)) ∧ OldK s₁.heap s'.heap ∧ s'.os = s₁.os ∧ AllBare s'.gens) s₁ := by
  have rv := vals_ints hi
  have lenV := hi.length
  -- from an abstract heap in which nothing but the script may be tracked
  have core : ∀ H : Hp, Only H → SqL K H a (ns.map V.int) → HOk P w H s₁.heap → (∀ b, H b ≠ none → b = a) → (H a ≠ none → K.lookup a = none) →
      codeAny (model P w) callerA (.call (.ref fa) ⟨[.ref a], []⟩) (fun r s' => r = .ok (.ret (.bool true)) ∧ OldK s₁.heap s'.heap ∧ s'.os = s₁.os ∧ AllBare s'.gens) s₁ := by
    intro H hO hS hok hA hK
    have base_of : ∀ {b : Addr} {o : Obj}, s₁.heap.get? b = some o → H b = none → (hidT s₁.heap H).get? b = some o := fun e n => hidT_get e n
    have noA : ∀ {b : Addr} {o : Obj} {es : Array DictEntry} {ep : Nat}, s₁.heap.get? b = some o → o.data = .dict es ep → H b = none := fun {b o es ep} e d => by
      cases q : H b with
      | none => rfl
      | some u =>
        have e' : b = a := hA b (by rw [q]; simp)
        subst e'
        rw [ha] at e; cases e
        have d' : Data.seq vs.toArray _ = Data.dict es ep := d
        cases d'
    have nsK : ∀ {b : Addr} {m : Str → Option Value}, s₁.heap.Ns b m → (hidT s₁.heap H).Ns b m := fun {b m} ⟨o, es, ep, e, d, r⟩ => ⟨o, es, ep, base_of e (noA e d), d, r⟩
    have hKb : K.In (hidT s₁.heap H) := fun b o e => base_of (KX b o e) (by
      cases q : H b with
      | none => rfl
      | some u =>
        have e' : b = a := hA b (by rw [q]; simp)
        subst e'
        rw [hK (by rw [q]; simp)] at e; cases e)
    have hM : Mod K mg (hidT s₁.heap H) := ⟨hKb, nsK hns, ⟨mb, nsK hb, hbb⟩, let ⟨mc, h1, h2⟩ := hlim; ⟨mc, nsK h1, h2⟩⟩
    have e0 : Env0 P w K mg (hidT s₁.heap H) callerA [] s₁ H := ⟨rfl, hM, fun b o e => of_hidT e, Nat.le_of_eq (hidT_size _ _), trivial, fun b hb => absurd (show b ∈ ([] : List Addr) from hb) (by simp), hok, .of_eq hg⟩
    refine codeAny_mono ((F _ hKb (nsK hns)).run callerA [] s₁ H ⟨[.ref a], []⟩ [.ref a] [.ref a] _ _ hr e0 (hbind s₁ (.ref a)) (.cons rfl .nil) (hsp H hO hS)) fun r s' h => ?_
    cases r with
    | error e => exact (hCX H e s' h).elim
    | ok fl =>
      cases fl with
      | next => exact False.elim h
      | brk => exact False.elim h
      | cont => exact False.elim h
      | ret u =>
        obtain ⟨v, H', os, bare, un, hok', r', q⟩ := h
        have q' : v = .bl true := q
        subst q'
        obtain rfl : u = Value.bool true := r'
        refine ⟨rfl, OldK.of_keep fun b o e => ?_, os, bare⟩
        cases q : H b with
        | none => exact un.keep b o e q (by intro z; exact absurd (show b ∈ ([] : List Addr) from z) (by simp)) (by simp)
        | some u =>
          rcases hO b with z | ⟨ob, xs, z⟩
          · rw [q] at z; cases z
          · have z2 := un.frzs b ob _ z
            obtain ⟨e1, _⟩ := hok b _ z
            obtain ⟨e2, _⟩ := hok' b _ z2
            rw [e] at e1; cases e1
            exact e2
  cases hk : K.lookup a with
  | some o =>
    -- the script is one of the module's own objects
    have e := KX a o hk
    rw [ha] at e
    cases e
    refine core (fun _ => none) (fun _ => .inl rfl) (.inr ⟨_, vs.toArray, _, hk, rfl, rfl, rfl, by rw [List.size_toArray, lenV]; exact hl, by simpa using rv⟩) (fun b u z => by have z' : (none : Option HO) = some u := z; cases z') (fun b z => absurd rfl z) fun z => absurd rfl z
  | none =>
    refine core (fun b => if b = a then some (.frz { cls := .type "list", data := .seq vs.toArray } (.lst (ns.map V.int))) else none) (fun b => ?_) (.inl (.inr ⟨{ cls := .type "list", data := .seq vs.toArray }, if_pos rfl⟩)) (fun b u z => ?_) (fun b z => ?_) fun _ => hk
    · by_cases hb : b = a
      · exact .inr ⟨_, _, if_pos hb⟩
      · exact .inl (if_neg hb)
    · by_cases hb : b = a
      · have z' := (if_pos hb).symm.trans z
        cases z'
        subst hb
        exact ⟨ha, by rw [List.length_map]; exact hl, vs, _, rv, ha⟩
      · have z' := (if_neg hb).symm.trans z
        cases z'
    · by_cases hb : b = a
      · exact hb
      · exact absurd (if_neg hb) z
end L2

namespace L2
open PySem PySem.Spec PyProof.Rows

abbrev KOf {K : PySem.W.Frag} {h : Heap} (_ : K.In h) : PySem.W.Frag := K

/-- the goal that k_head leaves (case hc), from the law's promise. F gives the function object fd (K's own) once, then the promise over every base -/
theorem walk_of {l : PySem.W.OpenLaw} {n k : Nat} {q : Program} {loose : List Str} {XP : (Str → Option Value) → Heap → Prop} {YP : World → Heap → Prop} {d : DefRec} {K : Params → PySem.W.Frag} {CX : World → CXT} {sp : World → Sp} {x : Str}
    (hn : l.most = some n) (hn2 : n ≤ sizeLine) (hdf : d.params.defaults = []) (hr : Room k callerA)
    (hY : ∀ (w : World) (h : Heap), YP w h → (K w.params).In h)
    (F : ∀ (w : World) (mg : Str → Option Value) (fa : Addr) (h : Heap), (K w.params).In h → h.Ns mainGlobals mg → mg d.name = some (.ref fa) →
      ∃ fd : FuncData, (∀ (s : Shared) (u : Value), BindsTo s fd ⟨[u], []⟩ [(x, u)]) ∧
        ∀ base : Heap, (K w.params).In base → base.Ns mainGlobals mg → FnOk l.prog w (K w.params) mg base (CX w) k fa fd [x] (sp w))
    (hsp : ∀ (w : World) (H : Hp) (a : Addr) (ns : List Int), ns.length ≤ n → Only H → SqL (K w.params) H a (ns.map V.int) → sp w [.ref a] H (fun v _ => v = .bl true) fun _ _ _ => False)
    (hCX : ∀ (w : World) (H : Hp) (s : Shared) (e : Value) (s' : Shared), CX w [] H s (fun _ _ _ => False) e s' → False) :
    PySem.W.WalkO q loose XP YP l.row.toRowW d [] (fun f vs => PySem.call f vs) := by
  refine Att.attach_call hn hdf fun w s₀ s₁ mg mb fa o pm cd doc a vs ns G Y ho hd hcd hmg hobj hints hlen hg => ?_
  have KX := hY w _ Y
  obtain ⟨fd, hb, hF⟩ := F w mg fa _ KX G.T.g hmg
  exact law_call KX G.T.g G.T.b G.T.builtins G.T.nolimit hg hobj hints (Nat.le_trans hlen hn2) hr hF hb (fun H hO hS => hsp w H a ns hlen hO hS) fun H e s' => hCX w H s₁ e s'
/-- the same where the promise hangs on the written part alone: (sp := My.sp_law), no hole under a binder -/
theorem walk_ofK {l : PySem.W.OpenLaw} {n k : Nat} {q : Program} {loose : List Str} {XP : (Str → Option Value) → Heap → Prop} {YP : World → Heap → Prop} {d : DefRec} {K : Params → PySem.W.Frag} {CX : CXT} {sp : PySem.W.Frag → Sp} {x : Str}
    (hn : l.most = some n) (hn2 : n ≤ sizeLine) (hdf : d.params.defaults = []) (hr : Room k callerA)
    (hY : ∀ (w : World) (h : Heap), YP w h → (K w.params).In h)
    (F : ∀ (w : World) (mg : Str → Option Value) (fa : Addr) (h : Heap), (K w.params).In h → h.Ns mainGlobals mg → mg d.name = some (.ref fa) →
      ∃ fd : FuncData, (∀ (s : Shared) (u : Value), BindsTo s fd ⟨[u], []⟩ [(x, u)]) ∧
        ∀ base : Heap, (K w.params).In base → base.Ns mainGlobals mg → FnOk l.prog w (K w.params) mg base CX k fa fd [x] (sp (K w.params)))
    (hsp : ∀ (K : PySem.W.Frag) (H : Hp) (a : Addr) (ns : List Int), ns.length ≤ n → Only H → SqL K H a (ns.map V.int) → sp K [.ref a] H (fun v _ => v = .bl true) fun _ _ _ => False)
    (hCX : ∀ (H : Hp) (s : Shared) (e : Value) (s' : Shared), CX [] H s (fun _ _ _ => False) e s' → False) :
    PySem.W.WalkO q loose XP YP l.row.toRowW d [] (fun f vs => PySem.call f vs) :=
  walk_of (K := K) (CX := fun _ => CX) (sp := fun w => sp (K w.params)) hn hn2 hdf hr hY F (fun w H a ns h1 h2 h3 => hsp (K w.params) H a ns h1 h2 h3) fun _ H s e s' => hCX H s e s'
end L2

/- THE LAST THEOREM (shape; LID, My.* are yours):
   My.Adr: a structure of the addresses that your layer names (classes, functions); My.Txt K t: a structure (Prop) of the equations over K;
   My.txt_mk : {K} {implicit addresses ..} (e1 : nsIn K mainGlobals "law" = some (some (.ref f))) (e2 : K.lookup f = some ⟨oc, od, .func (fnOf "law" "law" params body scope dV kV doc pm an cdv ct), sl⟩) (e3 : codeIn K cdv "law" = true) .. : ∃ t, My.Txt K t

set_option maxRecDepth 100000 in
set_option maxHeartbeats 0 in
theorem PySem.Challenge.cw_LID_holds : PySem.Challenge.rw_LID.Holds := by
  w_on; o_law; k_head; (case hw => w_witness2)
  k_fill
  refine L2.walk_of (l := PySem.Challenge.rw_LID) (n := 63) (k := 40) (x := "script") (CX := fun w => ..) (sp := fun _ => My.sp_law) rfl (by decide) rfl ⟨rfl, by decide, by decide⟩ (fun w h Y => PySem.W.kIn_of Y) ?F ?S ?C
  case F =>
    intro w mg fa h KX G hmg
    have T : ∃ t, My.Txt (L2.KOf KX) t := by
      dsimp only [L2.KOf]                          -- K must stand as «<heap const> w.params» for k_is
      refine' My.txt_mk ?e1 ?e2 ?e3 ..
      (case e1 => PySem.W.k_is)                    -- in the order: a name -> its address -> its object -> its parts
      (case e2 => PySem.W.k_is)
      ..
    obtain ⟨t, T⟩ := T
    have e0 := hmg.symm.trans (PySem.W.mg_of KX G T.law)
    cases e0                                       -- fa is the law's own address
    exact ⟨_, fun s u => .of_eq rfl, fun base kb nb => My.law_fn T kb nb⟩     -- if «.of_eq rfl» comes too early: refine' ⟨_, ?b, fun base kb nb => My.law_fn T kb nb⟩; exact fun s u => .of_eq rfl
  case S => exact fun w H a ns hl hO hS => ..
  case C => exact ..
(the tactic k_is has no namespace: write k_is) -/

/-! SHORT WORDS over the layer: a def of the text, its body, what a loop and a test want. -/
namespace L2
open PySem PySem.Spec PyProof.Rows

/-! ### the text by places -/
/-- the j-th statement of a class's body -/
def inClass (s : Stmt) (j : Nat) : Stmt := match s with
  | .ClassDef _ _ _ body _ _ _ _ _ _ _ => body.getD j (.Pass ⟨0, 0, 0, 0⟩)
  | _ => .Pass ⟨0, 0, 0, 0⟩
def defArgs (s : Stmt) : Arguments := match s with
  | .FunctionDef _ a _ _ _ _ _ _ _ _ => a
  | _ => { posonlyargs := [], args := [], vararg := none, kwonlyargs := [], kw_defaults := [], kwarg := none, defaults := [] }
def defBody (s : Stmt) : List Stmt := match s with
  | .FunctionDef _ _ b _ _ _ _ _ _ _ => b
  | _ => []
def defScope (s : Stmt) : Scope := match s with
  | .FunctionDef _ _ _ _ _ _ sc _ _ _ => sc
  | _ => { kind := .function, names := [], isGenerator := false, isCoroutine := false }

/-! ### no exception leaves a def -/
abbrev CX0 : CXT := fun _ _ _ _ _ _ => False
abbrev E0 : XK := fun _ _ _ => False
theorem pass0 {X : Cx} : Passes CX0 X E0 := fun _ _ _ _ _ _ _ h => h.elim

/-! ### a def (or method) of the text as it stands behind the top -/
structure Fun (K : PySem.W.Frag) (x qual : Str) (st : Stmt) (f : Addr) (fd : FuncData) : Prop where
  ex : ∃ (oc : Value) (od : Option Addr) (kV doc pm : Value) (an : Option Addr) (cdv ct : Value) (osl : Array (Option Value)),
    fd = PySem.W.fnOf x qual (defArgs st) (defBody st) (defScope st) .none kV doc pm an cdv ct ∧ K.lookup f = some ⟨oc, od, .func fd, osl⟩ ∧ PySem.W.codeIn K cdv qual = true
  kp : PySem.W.keepIn K (.ref f) = true
section
variable {P : Program} {w : World} {K : PySem.W.Frag} {mg : Str → Option Value} {base : Heap}
/-- THE RULE for a def: its body as a term of rules, and the reading of that term -/
theorem Fun.ok {x qual : Str} {st : Stmt} {f : Addr} {fd : FuncData} {N ps : List Str} {k : Nat} {sp : Sp} (F : Fun K x qual st f fd) (S : FnScope N ps (defScope st)) (len : ∀ vs H Q E, sp vs H Q E → vs.length = ps.length)
    (hbody : ∀ (cdv : Value) (A : Around) (outer : List Env) (s : Shared) (H : Hp) (vs : List V) (Q : VK) (E : XK), Room k (A.deeper (envOfC qual (defScope st) s.heap.objs.size f cdv)) → sp vs H Q E →
      ∃ t, PSs (cxOf CX0 P w K mg base N qual (defScope st) f cdv A outer s H E).nox (defBody st) t ∧ t { nx := fun _ H' => Q .non H', rt := Q } (start N vs) H) : FnOk P w K mg base CX0 (k + 1) f fd ps sp := by
  obtain ⟨oc, od, kV, doc, pm, an, cdv, ct, osl, rfl, lk, hcd⟩ := F.ex
  refine fn_of lk hcd S len fun A outer s H vs Q E hr hsp => ?_
  obtain ⟨t, h, q⟩ := hbody cdv A outer s H vs Q E hr hsp
  exact ⟨t, h.nox, q⟩
/-- how its arguments bind (no defaults): h is «fun _ _ _ _ _ _ us hl => match us, hl with | [_, _], _ => rfl», one _ a parameter -/
theorem Fun.binds {x qual : Str} {st : Stmt} {f : Addr} {fd : FuncData} {ps : List Str} (F : Fun K x qual st f fd)
    (h : ∀ (kV doc pm : Value) (an : Option Addr) (cdv ct : Value) (us : List Value), us.length = ps.length → bindArgs (PySem.W.fnOf x qual (defArgs st) (defBody st) (defScope st) .none kV doc pm an cdv ct) ⟨us, []⟩ = pure (ps.zip us)) : Binds K fd ps [] := by
  obtain ⟨oc, od, kV, doc, pm, an, cdv, ct, osl, rfl, lk, hcd⟩ := F.ex
  exact .all (h kV doc pm an cdv ct)
theorem fun_mk {x qual : Str} {st : Stmt} {f : Addr} {oc : Value} {od an : Option Addr} {osl : Array (Option Value)} {kV doc pm cdv ct : Value} (l : K.lookup f = some ⟨oc, od, .func (PySem.W.fnOf x qual (defArgs st) (defBody st) (defScope st) .none kV doc pm an cdv ct), osl⟩)
    (c : PySem.W.codeIn K cdv qual = true) (k : PySem.W.keepIn K (.ref f) = true) : Fun K x qual st f (PySem.W.fnOf x qual (defArgs st) (defBody st) (defScope st) .none kV doc pm an cdv ct) := ⟨⟨oc, od, kV, doc, pm, an, cdv, ct, osl, rfl, l, c⟩, k⟩
end
theorem hu_of {A : Around} {k : Nat} (hr : Room k A) : A.units + 1 < cLine := Nat.lt_of_le_of_lt (Nat.add_le_add_left (by decide : 1 ≤ 64) _) hr.units
theorem small1000 {n : Nat} (h : n ≤ 1000) : n < sizeLine := Nat.lt_of_le_of_lt h (by decide)

/-! ### expressions in short: the name that stands in the i-th slot -/
section
variable {X : Cx}
theorem pv (i : Nat) {x : Str} {pos : Pos} (hN : X.N[i]? = some x := by rfl) (hv : Vis X.env.scope x := by first | exact Or.inl rfl | exact Or.inr (Or.inl rfl) | exact Or.inr (Or.inr rfl)) (hd : (x == ("__debug__" : Str)) = false := by decide)
    (hcd : (x == ("__classdict__" : Str)) = false := by decide) : PE X (.Name x pos) (tVar i) := pe_var hN hv hd hcd
end

/-! ### tests -/
theorem iteF {A B : Prop} (h : B) : if false = true then A else B := by
  rw [if_neg Bool.false_ne_true]
  exact h
theorem iteT {A B : Prop} (h : A) : if true = true then A else B := by
  rw [if_pos rfl]
  exact h
theorem ite2 {c A B : Prop} [Decidable c] (h1 : c → A) (h2 : ¬ c → B) : if c then A else B := by
  by_cases h : c
  · rw [if_pos h]
    exact h1 h
  · rw [if_neg h]
    exact h2 h
theorem iteNS {c A B : Prop} [Decidable c] (hc : c) (h : B) : if (!decide c) = true then A else B := by
  rw [decide_eq_true hc]
  exact iteF h

/-! ### heaps -/
/-- all that was tracked is as it was -/
def Same (H H' : Hp) : Prop := ∀ b o, H b = some o → H' b = some o
theorem Same.refl (H : Hp) : Same H H := fun _ _ h => h
theorem Same.trans {H H1 H2 : Hp} (a : Same H H1) (b : Same H1 H2) : Same H H2 := fun c o h => b c o (a c o h)
theorem Same.free {H H' : Hp} (e : Same H H') {l : Addr} (h : H' l = Option.none) : H l = Option.none := by
  cases q : H l with
  | none => rfl
  | some o =>
    rw [e l o q] at h
    cases h
theorem Same.seq {K : PySem.W.Frag} {H H' : Hp} {a : Addr} {xs : List V} (e : Same H H') (h : SqL K H a xs) : SqL K H' a xs := by
  rcases h with (h | ⟨o, h⟩) | h
  · exact .inl (.inl (e _ _ h))
  · exact .inl (.inr ⟨o, e _ _ h⟩)
  · exact .inr h

end L2

set_option maxHeartbeats 4000000
namespace L2
open PySem
def closOf (env : Env) : List (Str × NameKind) → List (Str × Addr) → List (Str × Addr)
  | [], cs => cs
  | (n, k) :: r, cs => if (k == .free) = true then closOf env r ((n, (env.cells.lookup n).getD 0) :: cs) else closOf env r cs
theorem closureFor_of {sc : Scope} {env : Env} (h : ∀ n, (n, NameKind.free) ∈ sc.names → ∃ c, env.cells.lookup n = some c) : closureFor sc env = pure (closOf env sc.names []) := by
  simp only [closureFor]
  generalize sc.names = l at h
  generalize ([] : List (Str × Addr)) = cs
  induction l generalizing cs with
  | nil => rfl
  | cons x r ih =>
    obtain ⟨n, k⟩ := x
    have hr : ∀ n, (n, NameKind.free) ∈ r → ∃ c, env.cells.lookup n = some c := fun n hn => h n (List.mem_cons_of_mem _ hn)
    rw [List.forIn_cons, closOf]
    by_cases hk : (k == NameKind.free) = true
    · have hk' : k = .free := by cases k <;> first | rfl | exact absurd hk (by decide)
      subst hk'
      obtain ⟨c, hc⟩ := h n List.mem_cons_self
      have e : cellOf env n = pure c := by unfold cellOf; rw [hc]
      simp only [e]
      rw [if_pos hk, if_pos hk, hc]
      exact ih hr _
    · rw [if_neg hk, if_neg hk]
      exact ih hr _
theorem closOf_lookup {env : Env} {x : Str} {c : Addr} : ∀ (l : List (Str × NameKind)) (cs : List (Str × Addr)), (∀ n, (n, NameKind.free) ∈ l → ∃ c, env.cells.lookup n = some c) → (∀ y d, cs.lookup y = some d → env.cells.lookup y = some d) →
    (closOf env l cs).lookup x = some c → env.cells.lookup x = some c
  | [], cs, _, hc, e => hc x c e
  | (n, k) :: r, cs, h, hc, e => by
    have hr : ∀ n, (n, NameKind.free) ∈ r → ∃ c, env.cells.lookup n = some c := fun n hn => h n (List.mem_cons_of_mem _ hn)
    rw [closOf] at e
    split at e
    · rename_i hk
      have hk' : k = .free := by cases k <;> first | rfl | exact absurd hk (by decide)
      subst hk'
      obtain ⟨c', hc'⟩ := h n List.mem_cons_self
      refine closOf_lookup r _ hr (fun y d hy => ?_) e
      rw [List.lookup_cons] at hy
      split at hy
      · rename_i hyn
        have : y = n := eq_of_beq hyn
        subst this
        rw [hc'] at hy
        rw [hc']; exact hy
      · exact hc y d hy
    · exact closOf_lookup r cs hr hc e
theorem closOf_has {env : Env} {x : Str} : ∀ (l : List (Str × NameKind)) (cs : List (Str × Addr)), ((x, NameKind.free) ∈ l ∨ ∃ d, cs.lookup x = some d) → ∃ d, (closOf env l cs).lookup x = some d
  | [], cs, h => by
    rcases h with h | h
    · cases h
    · exact h
  | (n, k) :: r, cs, h => by
    rw [closOf]
    split
    · rename_i hk
      refine closOf_has r _ ?_
      by_cases hx : x = n
      · subst hx; exact .inr ⟨_, by rw [List.lookup_cons]; simp; rfl⟩
      · rcases h with h | ⟨d, h⟩
        · rcases List.mem_cons.mp h with e | e
          · exact absurd (congrArg Prod.fst e) hx
          · exact .inl e
        · refine .inr ⟨d, ?_⟩
          rw [List.lookup_cons]
          have : (x == n) = false := by simpa using hx
          rw [this]; exact h
    · rename_i hk
      refine closOf_has r _ ?_
      rcases h with h | h
      · rcases List.mem_cons.mp h with e | e
        · have : k = .free := (congrArg Prod.snd e).symm
          subst this
          exact absurd rfl hk
        · exact .inl e
      · exact .inr h

theorem relabel_of {env : Env} {x : Str} {k' : NameKind} : ∀ {names : List (Str × NameKind)}, (names.map fun (n, k) => if (k == NameKind.free && env.scope.kind == .function && env.kindOf n == some .cell) then (n, NameKind.cell) else (n, k)).lookup x = some k' →
    ∃ k, names.lookup x = some k ∧ (k' = k ∨ (k = .free ∧ k' = .cell))
  | [], h => by simp at h
  | (n, k) :: r, h => by
    have ih := @relabel_of env x k' r
    have h' : List.lookup x ((if (k == NameKind.free && env.scope.kind == .function && env.kindOf n == some .cell) = true then (n, NameKind.cell) else (n, k)) :: (r.map fun (n, k) => if (k == NameKind.free && env.scope.kind == .function && env.kindOf n == some .cell) then (n, NameKind.cell) else (n, k))) = some k' := h
    cases hx : x == n with
    | true =>
      refine ⟨k, by rw [List.lookup_cons, hx], ?_⟩
      by_cases hc : (k == NameKind.free && env.scope.kind == .function && env.kindOf n == some .cell) = true
      · rw [if_pos hc, List.lookup_cons, hx] at h'
        have hk : (k == NameKind.free) = true := by
          rw [Bool.and_eq_true, Bool.and_eq_true] at hc
          exact hc.1.1
        exact .inr ⟨eq_of_beq hk, (Option.some.inj h').symm⟩
      · rw [if_neg hc, List.lookup_cons, hx] at h'
        exact .inl (Option.some.inj h').symm
    | false =>
      rw [List.lookup_cons, hx]
      by_cases hc : (k == NameKind.free && env.scope.kind == .function && env.kindOf n == some .cell) = true
      · rw [if_pos hc, List.lookup_cons, hx] at h'; exact ih h'
      · rw [if_neg hc, List.lookup_cons, hx] at h'; exact ih h'
theorem relabel_cell {env : Env} {x : Str} (hf : env.scope.kind = .function) (hx : env.kindOf x = some .cell) : ∀ {names : List (Str × NameKind)}, names.lookup x = some .free →
    (names.map fun (n, k) => if (k == NameKind.free && env.scope.kind == .function && env.kindOf n == some .cell) then (n, NameKind.cell) else (n, k)).lookup x = some .cell
  | [], h => by simp at h
  | (n, k) :: r, h => by
    have ih := @relabel_cell env x hf hx r
    show List.lookup x ((if (k == NameKind.free && env.scope.kind == .function && env.kindOf n == some .cell) = true then (n, NameKind.cell) else (n, k)) :: (r.map fun (n, k) => if (k == NameKind.free && env.scope.kind == .function && env.kindOf n == some .cell) then (n, NameKind.cell) else (n, k))) = some .cell
    cases hxn : x == n with
    | true =>
      rw [List.lookup_cons, hxn] at h
      have hk : k = .free := Option.some.inj h
      have hn : n = x := (eq_of_beq hxn).symm
      subst hk hn
      rw [if_pos (by rw [hf, hx]; decide), List.lookup_cons, hxn]
    | false =>
      rw [List.lookup_cons, hxn] at h
      by_cases hc : (k == NameKind.free && env.scope.kind == .function && env.kindOf n == some .cell) = true
      · rw [if_pos hc, List.lookup_cons, hxn]; exact ih h
      · rw [if_neg hc, List.lookup_cons, hxn]; exact ih h
/-- what is asked of a comprehension's names: NX, sX: the names and scope of the frame around; N, pick: the block's slots, and where those of the frame around stand there -/
def compOk (NX : List Str) (sX sc : Scope) (N : List Str) (pick : List (Option Nat)) : Bool :=
  decide (sc.kind = .function) && (sc.names.all fun y => decide (y.2 ≠ .cell)) && (sc.names.all fun y => decide (y.2 ≠ .local) || decide (sc.names.lookup y.1 = some .local)) &&
  (sc.names.all fun y => decide (y.2 ≠ .free) || decide (sX.names.lookup y.1 = some .cell)) && decide (pick.length = N.length) &&
  ((List.range N.length).all fun i => match pick[i]?, N[i]? with
    | some (some j), some x => decide (NX[j]? = some x) && decide (sc.names.lookup x = some .free) && decide (sX.names.lookup x = some .cell)
    | _, _ => true)
structure CompSc (NX : List Str) (sX sc : Scope) (N : List Str) (pick : List (Option Nat)) : Prop where
  kind : sc.kind = .function
  nocell : ∀ y ∈ sc.names, y.2 ≠ .cell
  names : ∀ y ∈ sc.names, y.2 = .local → sc.names.lookup y.1 = some .local
  free : ∀ n, (n, NameKind.free) ∈ sc.names → sX.names.lookup n = some .cell
  len : pick.length = N.length
  pk : ∀ (i j : Nat) (x : Str), pick[i]? = some (some j) → N[i]? = some x → NX[j]? = some x ∧ sc.names.lookup x = some .free ∧ sX.names.lookup x = some .cell
theorem compSc_of {NX : List Str} {sX sc : Scope} {N : List Str} {pick : List (Option Nat)} (h : compOk NX sX sc N pick = true) : CompSc NX sX sc N pick := by
  unfold compOk at h
  rw [Bool.and_eq_true, Bool.and_eq_true, Bool.and_eq_true, Bool.and_eq_true, Bool.and_eq_true] at h
  obtain ⟨⟨⟨⟨⟨h1, h2⟩, h3⟩, h4⟩, h5⟩, h6⟩ := h
  rw [List.all_eq_true] at h2 h3 h4 h6
  refine ⟨of_decide_eq_true h1, fun y hy => of_decide_eq_true (h2 y hy), fun y hy hl => ?_, fun n hn => ?_, of_decide_eq_true h5, fun i j x e1 e2 => ?_⟩
  · have q := h3 y hy
    rw [Bool.or_eq_true] at q
    rcases q with q | q
    · exact absurd hl (of_decide_eq_true q)
    · exact of_decide_eq_true q
  · have q := h4 _ hn
    rw [Bool.or_eq_true] at q
    rcases q with q | q
    · exact absurd rfl (of_decide_eq_true q)
    · exact of_decide_eq_true q
  · have q := h6 i (List.mem_range.mpr (List.getElem?_eq_some_iff.mp e2).1)
    rw [e1, e2] at q
    have q' : (decide (NX[j]? = some x) && decide (sc.names.lookup x = some .free) && decide (sX.names.lookup x = some .cell)) = true := q
    rw [Bool.and_eq_true, Bool.and_eq_true] at q'
    exact ⟨of_decide_eq_true q'.1.1, of_decide_eq_true q'.1.2, of_decide_eq_true q'.2⟩

section
variable {prog : Program} {w : World} {A : Around} {E : Value → Shared → Prop} {R : Result → Shared → Prop} {s : Shared}
theorem compLoop_any {elt target iter : Expr} {ifs : List Expr} {scope : Scope} {pos : Pos} {it acc : Value} {env : Env} (I : Nat → Shared → Prop)
    (turn : ∀ n s, I n s → wpAny (model prog w) A (pyNext it) (fun r s₁ => match r with
      | none => R (.ok .next) s₁
      | some v => wpAny (model prog w) A (letOwnedTupleGo target it v) (fun _ s₀ => wpAny (model prog w) A (assign target env v) (fun _ s₂ =>
          wpAny (model prog w) A (forIn ifs true fun c r => if r = true then do let ok ← isTrue c env (eval c env); pure (ForInStep.yield ok) else pure (ForInStep.yield r)) (fun ok s₃ =>
            if ok = true then wpAny (model prog w) A (eval elt env) (fun x s₄ =>
              wpAny (model prog w) A (call (.builtin "list.append") [acc, x]) (fun _ s₅ => ∃ m, m < n ∧ I m s₅) (notedBy (model prog w) A env fun e s' => R (.error e) s') s₄) (notedBy (model prog w) A env fun e s' => R (.error e) s') s₃
            else ∃ m, m < n ∧ I m s₃) (notedBy (model prog w) A env fun e s' => R (.error e) s') s₂) (notedBy (model prog w) A env fun e s' => R (.error e) s') s₀) (notedBy (model prog w) A env fun e s' => R (.error e) s') s₁) (notedBy (model prog w) A env fun e s' => R (.error e) s') s)
    (n : Nat) (h : I n s) :
    codeAny (model prog w) A (.compLoop (.ListComp elt [⟨target, iter, ifs, 0⟩] scope pos) 0 it acc env) R s := by
  refine codeAny_loop rfl I (fun n s hI => ?_) n h
  show wpAny _ A ((compTurn (.ListComp elt [⟨target, iter, ifs, 0⟩] scope pos) 0 it acc env).onRaise (fun x => do noteFrame x env; theTreesLotGoes x)) _ _ s
  refine wpAny_noted ?_
  rw [compTurn_list]
  refine wpAny_bind (wpAny_standAt (wpAny_bind (wpAny_mono (turn n s hI) (fun r s₁ h₁ => ?_) fun _ _ h' => h')))
  cases r with
  | none => exact wpAny_pure h₁
  | some v =>
    refine wpAny_bind (wpAny_mono h₁ (fun _ s₀ h₀ => ?_) fun _ _ h' => h')
    refine wpAny_bind (wpAny_mono h₀ (fun _ s₂ h₂ => wpAny_bind (wpAny_mono h₂ (fun ok s₃ h₃ => ?_) fun _ _ h' => h')) fun _ _ h' => h')
    cases ok with
    | false => exact wpAny_pure ⟨rfl, h₃⟩
    | true =>
      exact wpAny_bind (wpAny_bind (wpAny_mono h₃ (fun x s₄ h₄ => wpAny_bind (wpAny_mono h₄ (fun _ s₅ h₅ => wpAny_pure (wpAny_pure ⟨rfl, h₅⟩)) fun _ _ h' => h')) fun _ _ h' => h'))
end
end L2

namespace L2
open PySem PySem.Spec PyProof.Rows
/-! ### an object that is there, tracked from here on -/
theorem Inv.track {X : Cx} {pins : List (Addr × Obj)} {σ : St} {H : Hp} {s : Shared} {a : Addr} {o : HO} (I : Inv X pins σ H s) (hn : H a = none) (hL : a ≠ X.env.locals) (h1 : X.s₀.heap.objs.size ≤ a)
    (h2 : ∀ x c, X.env.cells.lookup x = some c → c ≠ a) (h3 : ∀ p ∈ X.pn ++ pins, p.1 ≠ a) (new : ObjOk X.prog X.w (upd H a o) s.heap a o) : Inv X pins σ (upd H a o) s := by
  have ne : ∀ b u, H b = some u → b ≠ a := fun b u e => ne_of_none e hn
  have old : ∀ b ob, X.s₀.heap.get? b = some ob → b ≠ a := fun b ob e z => by
    subst z; exact absurd (Nat.lt_of_lt_of_le (Heap.lt_size e) h1) (Nat.lt_irrefl _)
  refine ⟨I.ok, I.os, I.bare, ⟨I.base.keep, I.base.slot, fun b ob e n hx => ?_, I.base.there, fun b xs e => ?_, fun b ob u e => ?_, fun b ps e => ?_⟩, I.loc, I.cell, ?_, fun x c e => ?_, fun p hp => ?_, fun b u e => ?_, I.len⟩
  · rw [upd_ne (old b ob e)]; exact I.base.free b ob e n hx
  · have q := I.base.tups b xs e; rw [upd_ne (ne b _ q)]; exact q
  · have q := I.base.frzs b ob u e; rw [upd_ne (ne b _ q)]; exact q
  · obtain ⟨more, q⟩ := I.base.tbls b ps e; exact ⟨more, by rw [upd_ne (ne b _ q)]; exact q⟩
  · rw [upd_ne (Ne.symm hL)]; exact I.free
  · rw [upd_ne (h2 x c e)]; exact I.freeC x c e
  · obtain ⟨e, n, ne', nf, d⟩ := I.pin p hp
    exact ⟨e, by rw [upd_ne (h3 p hp)]; exact n, ne', nf, d⟩
  · by_cases hb : b = a
    · subst hb; rw [upd_same] at e; cases e; exact new
    · rw [upd_ne hb] at e
      exact (I.hok b u e).stay (fun _ _ _ q => q) (fun c q => by rw [upd_ne (ne c _ q)]; exact q) fun c xs q => by rw [upd_ne (ne c _ q)]; exact q

/-! ### a comprehension's block -/
def Cx.blk (X : Cx) (sc : Scope) (N : List Str) (C : Addr) (s₀ : Shared) (H₀ : Hp) (ex : List Addr) : Cx :=
  { X with N := N, s₀ := s₀, H₀ := H₀, env := compEnvC sc (closOf X.env sc.names []) C X.env, outer := X.stack, ex := ex, fn := fun _ => false, pn := [], xe := fun _ _ => False }
def pickS (pick : List (Option Nat)) (σ : St) : St := pick.map fun o => match o with
  | none => none
  | some j => match σ[j]? with
    | some (some v) => some v
    | _ => none
theorem pickS_get {pick : List (Option Nat)} {σ : St} {i : Nat} {v : V} (h : (pickS pick σ)[i]? = some (some v)) : ∃ j, pick[i]? = some (some j) ∧ σ[j]? = some (some v) := by
  unfold pickS at h
  rw [List.getElem?_map] at h
  cases e : pick[i]? with
  | none => rw [e] at h; cases h
  | some o =>
    rw [e] at h
    cases o with
    | none => cases h
    | some j =>
      refine ⟨j, rfl, ?_⟩
      have h' : (match σ[j]? with | some (some v) => some v | _ => none) = some v := Option.some.inj h
      cases e2 : σ[j]? with
      | none => rw [e2] at h'; cases h'
      | some o2 =>
        rw [e2] at h'
        cases o2 with
        | none => cases h'
        | some v' => cases h'; rfl
section
variable {X : Cx} {pins : List (Addr × Obj)} {σ : St} {H : Hp} {s₂ : Shared} {NX N : List Str} {sX sc : Scope} {pick : List (Option Nat)} {fp : List Addr}
theorem blk_cell (I : Inv X pins σ H s₂) (ck : CompSc NX sX sc N pick) (hX : X.env.scope = sX) {x : Str} {c : Addr} (e : (closOf X.env sc.names []).lookup x = some c) : X.env.cells.lookup x = some c :=
  closOf_lookup sc.names [] (fun n hn => I.ok.has n (.inl (by show X.env.scope.names.lookup n = _; rw [hX]; exact ck.free n hn))) (fun _ _ h => by simp at h) e
theorem blk_clos (I : Inv X pins σ H s₂) (ck : CompSc NX sX sc N pick) (hX : X.env.scope = sX) : closureFor sc X.env = pure (closOf X.env sc.names []) :=
  closureFor_of fun n hn => I.ok.has n (.inl (by show X.env.scope.names.lookup n = _; rw [hX]; exact ck.free n hn))
theorem blk_fp (I : Inv X pins σ H s₂) (ck : CompSc NX sX sc N pick) (hX : X.env.scope = sX) {C D : Addr} {od : Obj} {H' : Hp} (hC : s₂.heap.objs.size ≤ C) (hD : s₂.heap.objs.size ≤ D) (hf : ∀ b ∈ fp, FpOk X pins H b) (hfl : ∀ b ∈ fp, b < s₂.heap.objs.size) (hn : ∀ b ∈ fp, H' b = none) :
    ∀ b ∈ fp, FpOk (X.blk sc N C s₂ H fp) [(D, od)] H' b := fun b hb => by
  obtain ⟨f0, f1, f2, f3, f4, f5⟩ := hf b hb
  have hlt := hfl b hb
  refine ⟨hn b hb, Nat.ne_of_lt (Nat.lt_of_lt_of_le hlt hC), fun z => ?_, .inl hb, fun x c e => f4 x c (blk_cell I ck hX e), fun p hp => ?_⟩
  · rcases List.mem_cons.mp (I.stkSub b z) with e | e
    · exact f1 e
    · exact f2 e
  · have hp' : p ∈ [(D, od)] := hp
    rw [List.mem_singleton] at hp'
    subst hp'
    exact Nat.ne_of_gt (Nat.lt_of_lt_of_le hlt hD)
theorem blk_inv (I : Inv X pins σ H s₂) (ck : CompSc NX sX sc N pick) (hN : X.N = NX) (hX : X.env.scope = sX) (hf : ∀ b ∈ fp, FpOk X pins H b) (hfl : ∀ b ∈ fp, b < s₂.heap.objs.size) {h₁ : Heap} {C D : Addr} {od : Obj} {m : Str → Option Value} {tk : Nat}
    (old : ∀ b o, s₂.heap.get? b = some o → h₁.get? b = some o) (hD : s₂.heap.objs.size ≤ D) (hC : s₂.heap.objs.size ≤ C) (hDC : D ≠ C) (hod : h₁.get? D = some od) (hodc : ∀ v, od.data ≠ .cell v) (ns : h₁.Ns C m) :
    Inv (X.blk sc N C s₂ H fp) [(D, od)] (pickS pick σ) H { s₂ with heap := h₁, toks := tk } := by
  have kX : X.env.scope.kind = .function := I.ok.kind
  have noStk : ∀ b, s₂.heap.objs.size ≤ b → b ∉ frs X.stack := fun b hb z => by
    rcases List.mem_cons.mp (I.stkSub b z) with e | e
    · exact absurd (Nat.lt_of_lt_of_le I.lt (by rw [← e]; exact hb)) (Nat.lt_irrefl _)
    · exact I.nofs hb e
  have ok : (X.blk sc N C s₂ H fp).Ok := by
    refine ⟨I.ok.mod, ck.kind, I.ok.glob, I.ok.blt, hC, fun x y c h1 h2 => ?_, fun x hx => ?_, fun x c h _ => ?_, I.ok.hd, I.ok.frames, .inl rfl, fun b hb => ?_, I.bs, Nat.le_trans I.ok.bsz I.sz, fun b o e hb => ?_, fun b hb z => ?_, I.stack, I.stkFree⟩
    · exact I.ok.inj x y c (blk_cell I ck hX h1) (blk_cell I ck hX h2)
    · have hx' : (relabel sc X.env).names.lookup x = some .cell ∨ (relabel sc X.env).names.lookup x = some .free := hx
      refine closOf_has sc.names [] (.inl ?_)
      rcases hx' with h | h
      · obtain ⟨k, h1, h2⟩ := relabel_of h
        rcases h2 with h2 | ⟨h2, _⟩
        · exact absurd h2.symm (ck.nocell _ (PySem.mem_of_lookup h1))
        · rw [h2] at h1; exact PySem.mem_of_lookup h1
      · obtain ⟨k, h1, h2⟩ := relabel_of h
        rcases h2 with h2 | ⟨_, h2⟩
        · rw [← h2] at h1; exact PySem.mem_of_lookup h1
        · cases h2
    · cases h
    · have hlt := hfl b hb
      exact ⟨Nat.ne_of_lt (Nat.lt_of_lt_of_le hlt hC), fun x c e => (hf b hb).2.2.2.2.1 x c (blk_cell I ck hX e)⟩
    · rcases (hf b hb).2.2.2.1 with z | z
      · exact I.ok.noex b o e z
      · exact absurd (Nat.lt_of_lt_of_le (Heap.lt_size e) (Nat.le_trans I.ok.bsz z)) (Nat.lt_irrefl _)
    · rcases List.mem_cons.mp (I.stkSub b z) with e | e
      · exact (hf b hb).2.1 e
      · exact (hf b hb).2.2.1 e
  refine ⟨ok, rfl, I.bare, Un.kept old, ⟨m, ns, fun i x v h1 h2 h3 => ?_⟩, fun x c e => ?_, I.hok.fresh hC, fun x c e => I.freeC x c (blk_cell I ck hX e), fun p hp => ?_, I.hok.kept old, ?_⟩
  · obtain ⟨j, hp, hσ⟩ := pickS_get h2
    obtain ⟨hNX, hfr, hcl⟩ := ck.pk i j x hp h1
    have kx : X.env.kindOf x = some .cell := by show X.env.scope.names.lookup x = _; rw [hX]; exact hcl
    obtain ⟨mX, _, hl⟩ := I.loc
    obtain ⟨u, r, l⟩ := hl j x v (by rw [hN]; exact hNX) hσ (.inr (.inl kx))
    refine ⟨u, r, .inr ⟨.inl (relabel_cell kX kx hfr), ?_⟩⟩
    rcases l with ⟨k, _⟩ | ⟨_, c, e, z⟩
    · rw [kx] at k; cases k
    · obtain ⟨d, hd⟩ := closOf_has (env := X.env) (x := x) sc.names [] (.inl (PySem.mem_of_lookup hfr))
      have hd' := blk_cell I ck hX hd
      rw [e] at hd'; cases hd'
      obtain ⟨o, ho, hc⟩ := z
      exact ⟨c, hd, o, old _ _ ho, hc⟩
  · obtain ⟨v, o, ho, hc⟩ := I.cell x c (blk_cell I ck hX e)
    exact ⟨v, o, old _ _ ho, hc⟩
  · have hp' : p ∈ [(D, od)] := hp
    rw [List.mem_singleton] at hp'
    subst hp'
    exact ⟨hod, I.hok.fresh hD, hDC, noStk D hD, hodc⟩
  · unfold pickS
    rw [List.length_map]
    exact ck.len
end

/-- a comprehension's tests -/
def PIfs (X : Cx) (ifs : List Expr) (t : TT) : Prop :=
  ∀ (pins : List (Addr × Obj)) (s : Shared) (σ : St) (H : Hp) (Q : Bool → Hp → Prop), Inv X pins σ H s → t σ H Q →
    wpAny (model X.prog X.w) X.A (forIn ifs true fun c r => if r = true then do let ok ← isTrue c X.env (eval c X.env); pure (ForInStep.yield ok) else pure (ForInStep.yield r)) (TP X pins σ Q) X.xe s
def tYes : TT := fun _ H Q => Q true H
theorem pifs_nil {X : Cx} : PIfs X [] tYes := fun _ _ _ H _ I h => wpAny_tests_nil ⟨H, I, h⟩
theorem pifs_one {X : Cx} {c : Expr} {t : TT} (h : PT X c t) : PIfs X [c] t := fun pins s σ H Q I q => wpAny_tests_one (h pins s σ H Q I q)

/-- [elt for tg in iter if ifs]: W, the invariant by the turn, a measure, what is made so far, the block's slots and the heap -/
def tComp (wi : TI) (pick : List (Option Nat)) (g : TG) (ti : TT) (te : TE) : TE := fun σ H Q => wi σ H fun J H1 => ∃ W : Nat → Nat → List V → St → Hp → Prop, (∃ m, W 0 m [] (pickS pick σ) H1) ∧ ∀ i m ys σ' H', W i m ys σ' H' → ys.length ≤ sizeLine ∧
  ((J.stop i H' ∧ ∀ p, H' p = none → Q (.ref p) (upd H' p (.lst ys))) ∨
   (J.go i H' ∧ ∃ N : List V → St → Hp → Prop, (∀ zs τ L, N zs τ L → ∃ m', m' < m ∧ W (i + 1) m' zs τ L) ∧ ∀ x H2, J.yld i H' x H2 → g x σ' H2 fun σ3 H3 => ti σ3 H3 fun b H4 => if b = true then te σ3 H4 fun v H5 => N (ys ++ [v]) σ3 H5 else N ys σ3 H4))

section
variable {X : Cx} {tg iter elt : Expr} {ifs : List Expr} {NX N : List Str} {sX sc : Scope} {pick : List (Option Nat)} {wi : TI} {g : TG} {ti : TT} {te : TE} {pos : Pos}
theorem comp_block {pins : List (Addr × Obj)} {σ : St} {H : Hp} {s₂ : Shared} {it : Addr} {fp : List Addr} {tn : Nat → Heap → Prop} {J : It} {Qv : V → Hp → Prop} {E : Value → Shared → Prop} {RR : Value → Addr → Result → Shared → Prop}
    (ck : CompSc NX sX sc N pick) (hN : X.N = NX) (hX : X.env.scope = sX) (hc : X.calm = true)
    (hg : ∀ C s₀ H₀ ex, PG (X.blk sc N C s₀ H₀ ex) tg g) (hifs : ∀ C s₀ H₀ ex, PIfs (X.blk sc N C s₀ H₀ ex) ifs ti) (he : ∀ C s₀ H₀ ex, PE (X.blk sc N C s₀ H₀ ex) elt te)
    (I : Inv X pins σ H s₂) (T : Turn X.prog X.w X.K tg J fp it tn) (st : tn 0 s₂.heap) (hf : ∀ b ∈ fp, FpOk X pins H b)
    (hW : ∃ W : Nat → Nat → List V → St → Hp → Prop, (∃ m, W 0 m [] (pickS pick σ) H) ∧ ∀ i m ys σ' H', W i m ys σ' H' → ys.length ≤ sizeLine ∧
      ((J.stop i H' ∧ ∀ p, H' p = none → Qv (.ref p) (upd H' p (.lst ys))) ∨
       (J.go i H' ∧ ∃ N : List V → St → Hp → Prop, (∀ zs τ L, N zs τ L → ∃ m', m' < m ∧ W (i + 1) m' zs τ L) ∧ ∀ x H2, J.yld i H' x H2 → g x σ' H2 fun σ3 H3 => ti σ3 H3 fun b H4 => if b = true then te σ3 H4 fun v H5 => N (ys ++ [v]) σ3 H5 else N ys σ3 H4)))
    (fin : ∀ (D C : Addr) (s' : Shared) (H' : Hp) (ys : List V) (m : Str → Option Value), D ≠ C → s₂.heap.objs.size ≤ C → H' C = none → s'.heap.Ns C m → Inv X pins σ (upd H' D (.lst ys)) s' → Qv (.ref D) (upd H' D (.lst ys)) → RR (.ref D) C (.ok .next) s') :
    wpAny (model X.prog X.w) X.A (newList []) (fun acc s₃ => wpAny (model X.prog X.w) X.A (newFunctionEnv sc X.env.globals (closOf X.env sc.names []) [] X.env.qual none .none (some X.env)) (fun cenv s₄ =>
      codeAny (model X.prog X.w) X.A (.compStart (.ListComp elt [⟨tg, iter, ifs, 0⟩] sc pos) 0 (.ref it) acc { cenv with scope := relabel sc X.env }) (RR acc cenv.locals) s₄) E s₃) E s₂ := by
  obtain ⟨W, ⟨m0, w0⟩, turn⟩ := hW
  refine wpAny_newObj_type (wpAny_newFunctionEnv ck.nocell (by intro y hy; simp at hy) (fun h₁ hns₁ hsb₁ => ?_) ck.kind)
  dsimp only at hns₁ hsb₁ ⊢
  generalize hH2 : s₂.heap.push { cls := .type "list", dict := none, data := .seq ([] : List Value).toArray } = H2 at hns₁ hsb₁ ⊢
  have hC : H2.objs.size = s₂.heap.objs.size + 1 := by rw [← hH2, Heap.size_push]
  have hDC : s₂.heap.objs.size ≠ H2.objs.size := by rw [hC]; exact Nat.ne_of_lt (Nat.lt_succ_self _)
  have hCle : s₂.heap.objs.size ≤ H2.objs.size := by rw [hC]; exact Nat.le_succ _
  have old : ∀ b o, s₂.heap.get? b = some o → h₁.get? b = some o := fun b o e =>
    hsb₁.extBut b o (Nat.ne_of_lt (Nat.lt_of_lt_of_le (Heap.lt_size e) hCle)) (Heap.get?_push_of_some _ (hH2 ▸ Heap.get?_push_of_some _ e))
  have hacc : h₁.get? s₂.heap.objs.size = some { cls := .type "list", data := .seq ([] : List Value).toArray } := hsb₁.extBut _ _ hDC (Heap.get?_push_of_some _ (hH2 ▸ Heap.get?_push_size _ rfl))
  have hfl : ∀ b ∈ fp, b < s₂.heap.objs.size := fun b hb => by
    obtain ⟨o, e, _⟩ := T.obj 0 _ st b hb
    exact Heap.lt_size e
  have st₁ : tn 0 h₁ := T.keep 0 _ _ st fun b _ o e => old b o e
  generalize hDd : s₂.heap.objs.size = D at *
  generalize hCc : H2.objs.size = C at *
  have loop : ∀ s₃ : Shared, s₃ = { s₂ with heap := h₁, toks := s₂.toks + ([] : List (Str × Value)).length } →
      codeAny (model X.prog X.w) X.A (.compLoop (.ListComp elt [⟨tg, iter, ifs, 0⟩] sc pos) 0 (.ref it) (.ref D) (X.blk sc N C s₂ H fp).env) (RR (.ref D) C) s₃ := by
    rintro s₃ rfl
    have I0 : Inv (X.blk sc N C s₂ H fp) [(D, { cls := .type "list", data := .seq ([] : List Value).toArray })] (pickS pick σ) H { s₂ with heap := h₁, toks := s₂.toks + ([] : List (Str × Value)).length } :=
      blk_inv I ck hN hX hf (fun b hb => by rw [hDd]; exact hfl b hb) old (Nat.le_of_eq hDd) (by rw [hDd]; exact hCle) hDC hacc (fun v z => by cases z) hns₁
    have fpk : ∀ {od : Obj} {H' : Hp}, (∀ b ∈ fp, H' b = none) → ∀ b ∈ fp, FpOk (X.blk sc N C s₂ H fp) [(D, od)] H' b := fun {od H'} hn =>
      blk_fp I ck hX (by rw [hDd]; exact hCle) (Nat.le_of_eq hDd) hf (fun b hb => by rw [hDd]; exact hfl b hb) hn
    refine compLoop_any (fun n s' => ∃ (i : Nat) (ys : List V) (its : List Value) (c : Nat) (σ' : St) (H' : Hp), Inv (X.blk sc N C s₂ H fp) [(D, { cls := .type "list", data := .seq its.toArray c })] σ' H' s' ∧ Vals ys its ∧ tn i s'.heap ∧ (∀ b ∈ fp, H' b = none) ∧ W i n ys σ' H') ?_ m0
      ⟨0, [], [], 0, pickS pick σ, H, I0, .nil, st₁, fun b hb => (hf b hb).1, w0⟩
    rintro n s' ⟨i, ys, its, c, σ', H', I', rv, st', fr, w⟩
    obtain ⟨hlen, tw⟩ := turn i n ys σ' H' w
    rcases tw with ⟨stop, qn⟩ | ⟨go, Nx, hNx, step⟩
    · refine thn (T.done (X.blk sc N C s₂ H fp) rfl rfl rfl hc i _ s' σ' H' _ I' (fpk fr) st' stop) fun r s4 ⟨hr, I4⟩ => ?_
      subst hr
      obtain ⟨m, hn, _⟩ := I4.loc
      obtain ⟨p1, p2, p3, p4, _⟩ := I4.pin (D, _) (List.mem_append_right _ (List.mem_singleton.mpr rfl))
      have Jx : Inv X pins σ H' s4 := I.call' (ch := fp) I4.os I4.base I4.hok I4.bare fun b hb => ⟨(hf b hb).2.2.2.1, (hf b hb).2.1, (hf b hb).2.2.2.2.1, (hf b hb).2.2.2.2.2⟩
      obtain ⟨k0, k1, k2, k3, k4, k5⟩ := I.fpOk (H' := H') (b := D) (Nat.le_of_eq hDd) p2
      have Jt : Inv X pins σ (upd H' D (.lst ys)) s4 := Jx.track p2 k1 (by rw [← hDd]; exact I.sz) k4 k5 ⟨hlen, its, c, rv, p1⟩
      exact fin D C s4 H' ys m hDC hCle I4.free hn Jt (qn D p2)
    · refine thn (T.item (X.blk sc N C s₂ H fp) rfl rfl rfl hc i _ s' σ' H' _ I' (fpk fr) st' go) fun r s4 ⟨u, hr, h4⟩ => ?_
      subst hr
      refine thn h4 fun _ s5 ⟨x, H5, I5, r5, y5, st5, fr5⟩ => ?_
      have I5' := I5.pinned (fpk fr5) (T.obj _ _ st5)
      refine wpAny_mono (hg C s₂ H fp _ s5 σ' H5 x u _ I5' r5 (step x H5 y5)) (fun _ s6 ⟨σ6, H6, I6, q6⟩ => ?_) fun _ _ z => False.elim z
      refine wpAny_mono (hifs C s₂ H fp _ s6 σ6 H6 _ I6 q6) (fun b s7 ⟨H7, I7, q7⟩ => ?_) fun _ _ z => False.elim z
      -- what the pins say behind any step
      have keeps : ∀ {σ' : St} {H' : Hp} {s' : Shared}, Inv (X.blk sc N C s₂ H fp) ([(D, { cls := .type "list", data := .seq its.toArray c })] ++ pinsAt fp s5.heap) σ' H' s' →
          (∀ b ∈ fp, ∀ o, s5.heap.get? b = some o → s'.heap.get? b = some o) ∧ (∀ b ∈ fp, H' b = none) := fun {σ' H' s'} Iz =>
        ⟨fun b hb o e => (Iz.pin (b, o) (List.mem_append_right _ (List.mem_append_right _ (mem_pinsAt hb e)))).1, fun b hb => by
          obtain ⟨o, e, d⟩ := T.obj _ _ st5 b hb
          exact (Iz.pin (b, o) (List.mem_append_right _ (List.mem_append_right _ (mem_pinsAt hb e)))).2.1⟩
      cases b with
      | false =>
        rw [if_neg Bool.false_ne_true] at q7 ⊢
        obtain ⟨m', hm, w7⟩ := hNx _ _ _ q7
        obtain ⟨k1, k2⟩ := keeps I7
        exact ⟨m', hm, i + 1, ys, its, c, σ6, H7, I7.unpinned, rv, T.keep _ _ _ st5 k1, k2, w7⟩
      | true =>
        rw [if_pos rfl] at q7 ⊢
        refine wpAny_mono (he C s₂ H fp _ s7 σ6 H7 _ I7 q7) (fun y s8 ⟨v, H8, I8, r8, q8⟩ => ?_) fun _ _ z => False.elim z
        obtain ⟨m', hm, w8⟩ := hNx _ _ _ q8
        obtain ⟨k1, k2⟩ := keeps I8
        obtain ⟨p1, p2, p3, p4, p5⟩ := I8.pin (D, _) (List.mem_append_right _ (List.mem_append_left _ (List.mem_singleton.mpr rfl)))
        have hsz : its.toArray.size ≤ sizeLine := by
          rw [List.size_toArray, ← rv.length]; exact hlen
        refine wpAny_list_append_plain (hsz := hsz) ⟨c, p1⟩ fun h₉ ⟨c9, e9⟩ hs₉ => ?_
        have J0 : Inv (X.blk sc N C s₂ H fp) [] σ6 H8 s8 := I8.pins_of fun p hp => absurd hp (by simp)
        have J1 : Inv (X.blk sc N C s₂ H fp) [] σ6 H8 { s8 with heap := h₉ } := J0.turned (t' := s8.toks) (it := D) (fun b o hb e => hs₉.extBut b o hb e) p2 p3 (.inr (Nat.le_of_eq hDd)) (fun x c' e z => by
          obtain ⟨v', o', ho', _⟩ := I.cell x c' (blk_cell I ck hX e)
          have := Heap.lt_size ho'
          rw [hDd, z] at this
          exact absurd this (Nat.lt_irrefl _)) (fun p hp => absurd hp (by intro z; cases z))
        have eArr : its.toArray.push y = (its ++ [y]).toArray := by simp
        rw [eArr] at e9
        refine ⟨m', hm, i + 1, ys ++ [v], its ++ [y], c9, σ6, H8, J1.pins_of fun p hp => ?_, rv.append (.cons r8 .nil), T.keep _ _ _ st5 fun b hb o e => hs₉.extBut b o (Nat.ne_of_lt (hfl b hb)) (k1 b hb o e), k2, w8⟩
        rw [List.mem_singleton] at hp
        subst hp
        exact ⟨e9, p2, p3, p4, fun v z => by cases z⟩
  exact codeAny_compStart_list (loop _ rfl) (T.self X.A 0 _ _ _ st₁ (loop _ rfl))

theorem pe_comp (ck : compOk NX sX sc N pick = true) (hN : X.N = NX) (hX : X.env.scope = sX) (hc : X.calm = true) (hi : PI X tg iter wi)
    (hg : ∀ C s₀ H₀ ex, PG (X.blk sc N C s₀ H₀ ex) tg g) (hifs : ∀ C s₀ H₀ ex, PIfs (X.blk sc N C s₀ H₀ ex) ifs ti) (he : ∀ C s₀ H₀ ex, PE (X.blk sc N C s₀ H₀ ex) elt te)
    (hs : ∀ x, foldedSetIterable iter X.env x = pure x := by intro _; rfl) : PE X (.ListComp elt [⟨tg, iter, ifs, 0⟩] sc pos) (tComp wi pick g ti te) := by
  intro pins s σ H Q I h
  have ck := compSc_of ck
  rw [eval_ListComp]
  refine wpAny_comprehension_free (use := none) (cl := closOf X.env sc.names []) rfl hs (blk_clos I ck hX) ck.kind ck.names (thn (hi pins s σ H _ I h) fun v s1 h1 => thn h1 fun itv s2 h2 => ?_)
  obtain ⟨it, fp, tn, J, H2, e, I2, T, st2, f2, hW⟩ := h2
  subst e
  refine comp_block (Qv := Q) (RR := fun acc C => compPost (model X.prog X.w) X.A X.xe none (EP X pins σ Q) acc C) ck hN hX hc hg hifs he I2 T st2 f2 hW ?_
  intro D C s' H' ys m hDC hC hCn ns Jt q
  refine ⟨m, ns, fun h' hs' => ?_⟩
  obtain ⟨k0, k1, k2, k3, k4, k5⟩ := I2.fpOk (H' := upd H' D (.lst ys)) (b := C) hC (by rw [upd_ne (Ne.symm hDC)]; exact hCn)
  exact ⟨.ref D, _, Jt.turned (t' := s'.toks) (it := C) (fun b o hb e => hs'.extBut b o hb e) k0 k1 k3 k4 k5, rfl, q⟩

/-- name = [..]: the name is stored ahead of the block's own names' going -/
theorem ps_setC {i : Nat} {x : Str} {px spos : Pos} (hNd : X.N.Nodup) (hi' : X.N[i]? = some x) (hx : X.env.scope.names.lookup x = some .local) (ck : compOk NX sX sc N pick = true) (hN : X.N = NX) (hX : X.env.scope = sX) (hc : X.calm = true) (hi : PI X tg iter wi)
    (hg : ∀ C s₀ H₀ ex, PG (X.blk sc N C s₀ H₀ ex) tg g) (hifs : ∀ C s₀ H₀ ex, PIfs (X.blk sc N C s₀ H₀ ex) ifs ti) (he : ∀ C s₀ H₀ ex, PE (X.blk sc N C s₀ H₀ ex) elt te)
    (hsw : swapsWith (.ListComp elt [⟨tg, iter, ifs, 0⟩] sc pos) (some (.Name x px)) spos.line X.env = pure true := by rfl)
    (hs : ∀ x, foldedSetIterable iter X.env x = pure x := by intro _; rfl) : PS X (.Assign [.Name x px] (.ListComp elt [⟨tg, iter, ifs, 0⟩] sc pos) spos) (tAsg (tComp wi pick g ti te) (gName i)) := by
  intro pins s σ H D I h
  have ck := compSc_of ck
  rw [exec_Assign_Name_used _ _ _ _ hsw]
  refine wpAny_bind (wpAny_standAt (wpAny_bind ?_))
  show wpAny _ X.A (do let _ ← comprehension (.ListComp elt [⟨tg, iter, ifs, 0⟩] sc pos) sc X.env _ (newList []) false (eval iter X.env) (some (assign (.Name x px) X.env))) _ _ s
  refine wpAny_bind (wpAny_mono (wpAny_comprehension_free (use := some (assign (.Name x px) X.env)) (cl := closOf X.env sc.names []) (Q := fun _ s' => SP X pins D .next s') rfl hs (blk_clos I ck hX) ck.kind ck.names
    (thn (hi pins s σ H _ I h) fun v s1 h1 => thn h1 fun itv s2 h2 => ?_)) (fun _ s' q => ?_) fun _ _ z => z)
  · obtain ⟨it, fp, tn, J, H2, e, I2, T, st2, f2, hW⟩ := h2
    subst e
    refine comp_block (Qv := fun v H' => D.nx (σ.set i (some v)) H') (RR := fun acc C => compPost (model X.prog X.w) X.A X.xe (some (assign (.Name x px) X.env)) (fun _ s' => SP X pins D .next s') acc C) ck hN hX hc hg hifs he I2 T st2 f2 hW ?_
    intro D' C s' H' ys m hDC hC hCn ns Jt q
    refine wpAny_assign_Name (store_ok2 (v := .ref D') Jt hNd hi' (.inl hx) rfl (fun s'' J' ⟨a, sb, ha⟩ => ?_) (.inr hx))
    obtain ⟨k0, k1, k2, k3, k4, k5⟩ := I2.fpOk (H' := upd H' D' (.lst ys)) (b := C) hC (by rw [upd_ne (Ne.symm hDC)]; exact hCn)
    have hCa : C ≠ a := by
      rcases ha with z | z
      · rw [z]; exact k1
      · exact fun e => k4 x a z e.symm
    refine ⟨m, ns.sameBut sb hCa, fun h' hs' => ?_⟩
    exact ⟨_, _, J'.turned (t' := s''.toks) (it := C) (fun b o hb e => hs'.extBut b o hb e) k0 k1 k3 k4 k5, q⟩
  · first
      | exact wpAny_pure (wpAny_pure q)
      | exact wpAny_pure q
end

/-! ### the forms one uses -/
section
variable {g : TG} {ti : TT} {te : TE} {Q : VK} {σ : St} {H : Hp}
/-- over a list that the block leaves as it is -/
theorem comp_list {K : PySem.W.Frag} {a : Addr} {xs : List V} (Pv : Nat → List V → St → Hp → Prop) (h0 : Pv 0 [] σ H) (hl : ∀ i ys σ H, i ≤ xs.length → Pv i ys σ H → SqL K H a xs ∧ ys.length ≤ sizeLine)
    (hs : ∀ i x ys σ H, xs[i]? = some x → Pv i ys σ H → g x σ H fun σ3 H3 => ti σ3 H3 fun b H4 => if b = true then te σ3 H4 fun v H5 => Pv (i + 1) (ys ++ [v]) σ3 H5 else Pv (i + 1) ys σ3 H4)
    (hd : ∀ ys σ H, Pv xs.length ys σ H → ∀ p, H p = none → Q (.ref p) (upd H p (.lst ys))) :
    ∃ W : Nat → Nat → List V → St → Hp → Prop, (∃ m, W 0 m [] σ H) ∧ ∀ i m ys σ' H', W i m ys σ' H' → ys.length ≤ sizeLine ∧
      (((Itl K a).stop i H' ∧ ∀ p, H' p = none → Q (.ref p) (upd H' p (.lst ys))) ∨
       ((Itl K a).go i H' ∧ ∃ N : List V → St → Hp → Prop, (∀ zs τ L, N zs τ L → ∃ m', m' < m ∧ W (i + 1) m' zs τ L) ∧ ∀ x H2, (Itl K a).yld i H' x H2 → g x σ' H2 fun σ3 H3 => ti σ3 H3 fun b H4 => if b = true then te σ3 H4 fun v H5 => N (ys ++ [v]) σ3 H5 else N ys σ3 H4)) := by
  refine ⟨fun i m ys σ H => m = xs.length - i ∧ i ≤ xs.length ∧ Pv i ys σ H, ⟨xs.length, by simp, Nat.zero_le _, h0⟩, ?_⟩
  rintro i m ys σ H ⟨rfl, hi, p⟩
  obtain ⟨q, hz⟩ := hl i ys σ H hi p
  refine ⟨hz, ?_⟩
  by_cases hlt : i < xs.length
  · refine .inr ⟨⟨xs, xs[i], q, by simp [hlt]⟩, Pv (i + 1), fun zs σ' H' p' => ⟨xs.length - (i + 1), by omega, rfl, hlt, p'⟩, fun x H' y => ?_⟩
    obtain ⟨e, y⟩ := y
    subst e
    exact hs i x ys σ _ (y xs q) p
  · have e : i = xs.length := by omega
    subst e
    exact .inl ⟨⟨xs, q, Nat.le_refl _⟩, hd ys σ H p⟩
/-- over a range -/
theorem comp_range {lo : Int} {n : Nat} (Pv : Nat → List V → St → Hp → Prop) (h0 : Pv 0 [] σ H) (hl : ∀ i ys σ H, i ≤ n → Pv i ys σ H → ys.length ≤ sizeLine)
    (hs : ∀ i ys σ H, i < n → Pv i ys σ H → g (.int (lo + i)) σ H fun σ3 H3 => ti σ3 H3 fun b H4 => if b = true then te σ3 H4 fun v H5 => Pv (i + 1) (ys ++ [v]) σ3 H5 else Pv (i + 1) ys σ3 H4)
    (hd : ∀ ys σ H, Pv n ys σ H → ∀ p, H p = none → Q (.ref p) (upd H p (.lst ys))) :
    ∃ W : Nat → Nat → List V → St → Hp → Prop, (∃ m, W 0 m [] σ H) ∧ ∀ i m ys σ' H', W i m ys σ' H' → ys.length ≤ sizeLine ∧
      (((Itr lo n).stop i H' ∧ ∀ p, H' p = none → Q (.ref p) (upd H' p (.lst ys))) ∨
       ((Itr lo n).go i H' ∧ ∃ N : List V → St → Hp → Prop, (∀ zs τ L, N zs τ L → ∃ m', m' < m ∧ W (i + 1) m' zs τ L) ∧ ∀ x H2, (Itr lo n).yld i H' x H2 → g x σ' H2 fun σ3 H3 => ti σ3 H3 fun b H4 => if b = true then te σ3 H4 fun v H5 => N (ys ++ [v]) σ3 H5 else N ys σ3 H4)) := by
  refine ⟨fun i m ys σ H => m = n - i ∧ i ≤ n ∧ Pv i ys σ H, ⟨n, by simp, Nat.zero_le _, h0⟩, ?_⟩
  rintro i m ys σ H ⟨rfl, hi, p⟩
  refine ⟨hl i ys σ H hi p, ?_⟩
  by_cases hlt : i < n
  · refine .inr ⟨hlt, Pv (i + 1), fun zs σ' H' p' => ⟨n - (i + 1), by omega, rfl, hlt, p'⟩, fun x H' y => ?_⟩
    obtain ⟨e, y⟩ := y
    subst e y
    exact hs i ys σ _ hlt p
  · have e : i = n := by omega
    subst e
    exact .inl ⟨Nat.le_refl _, hd ys σ H p⟩
end

end L2

namespace L2
open PySem PySem.Spec PyProof.Rows
/-! ### for over range(a, b, c), c a written positive number -/
def ItrS (lo st : Int) (n : Nat) : It := ⟨fun i _ => i < n, fun i H x H' => H' = H ∧ x = .int (lo + i * st), fun i _ => n ≤ i⟩
theorem turn_rangeS {P : Program} {w : World} {K : PySem.W.Frag} {tg : Expr} (it : Addr) (lo st : Int) (n : Nat) : Turn P w K tg (ItrS lo st n) [it] it (fun i h => IsRangeIter h it (lo + (i : Nat) * st) ((n : Int) - (i : Nat)) st) where
  mem := by simp
  obj := fun i h q b hb => by
    have e : b = it := by simpa using hb
    subst e
    exact ⟨_, q, fun v z => by
      have z' : Data.fields _ = Data.cell v := z
      cases z'⟩
  keep := fun i h h' q k => k it (by simp) _ q
  item := by
    intro X hP hw hK hc i pins s σ H E I hf q hg
    subst hP hw hK
    obtain ⟨f0, f1, f2, f3, f4, f5⟩ := hf it (by simp)
    have W := Walks.range (prog := X.prog) (w := X.w) (I.ok.hd hc) it lo st n
    refine W.item i s _ _ hg q fun v h' tk hv st' kk => ?_
    obtain ⟨t, rfl⟩ := hv
    have I1 : Inv X pins σ H { s with heap := h', toks := tk } := I.turned (fun b o hb e => kk b o (by simpa using hb) e) f0 f1 f3 f4 f5
    exact ⟨_, rfl, go_of (s := { s with heap := h', toks := tk }) (n := "range_iterator") st' rfl rfl (by decide) ⟨.int (lo + i * st), H, I1, ⟨t, rfl⟩, ⟨rfl, rfl⟩, st', fun b hb => (hf b hb).1⟩⟩
  done := by
    intro X hP hw hK hc i pins s σ H E I hf q hg
    subst hP hw hK
    obtain ⟨f0, f1, f2, f3, f4, f5⟩ := hf it (by simp)
    exact wpAny_pyNext_range_end (I.ok.hd hc) q (by have : n ≤ i := hg; omega) fun h' eb => ⟨rfl, I.turned (t' := s.toks) (fun b o hb e => eb b o hb e) f0 f1 f3 f4 f5⟩
  self := fun _ _ _ _ _ q h => wpAny_pyIter_rangeiter q h
section
variable {X : Cx} {tg : Expr}
/-- range(0, j, c) -/
def iRng3 (ta : TA) : TI := fun σ H R => ta σ H fun vs H1 => ∃ j c : Int, vs = [.int 0, .int j, .int c] ∧ (0 ≤ j ∧ j ≤ 16777216 ∧ 1 ≤ c ∧ c ≤ 1000000) ∧ R (ItrS 0 c ((j + c - 1) / c).toNat) H1
theorem small_step {j c : Int} (h0 : 0 ≤ j) (h1 : j ≤ 16777216) (h2 : 1 ≤ c) (h3 : c ≤ 1000000) : Builtin.Range.small 0 j c = true := by
  have e := rangeSize_pos (len := j) (c := c) h2 h0
  have hb : 0 ≤ (j + c - 1) / c := Int.ediv_nonneg (by omega) (by omega)
  have hb2 : (j + c - 1) / c ≤ j + c - 1 := by
    have : (j + c - 1) / c ≤ (j + c - 1) := Int.ediv_le_self _ (by omega)
    exact this
  unfold Builtin.Range.small
  rw [e]
  generalize (j + c - 1) / c = d at *
  simp only [Builtin.Range.rangeFitsLong, Bool.and_eq_true, Bool.or_eq_true, decide_eq_true_eq, beq_iff_eq, show c > 0 by omega, if_true]
  omega
theorem pi_range3 {a b c : Expr} {ta : TA} {p pos : Pos} (hg : Gl X "range") (hm : X.mg "range" = none) (ha : PA X [a, b, c] ta) (hs : starEach [a, b, c] X.env = [(false, eval a X.env), (false, eval b X.env), (false, eval c X.env)] := by rfl)
    (hs2 : starEach [b, c] X.env = [(false, eval b X.env), (false, eval c X.env)] := by rfl) :
    PI X tg (.Call (.Name "range" p) [a, b, c] [] pos) (iRng3 ta) := by
  intro pins s σ H R I h
  refine Call_ (ld_blt I hg hm boot_range (PyProof.Rows.callWith_type1 (thn (ha pos pins s σ H _ I h) fun us s1 ⟨vs, H1, I1, r1, q1⟩ => ?_) (by rw [hs, hs2]) (by rw [hs2]; rfl)))
  obtain ⟨j, c', e, ⟨q1, q2, q3, q4⟩, q⟩ := q1
  subst e
  cases r1 with
  | cons r rr =>
    cases rr with
    | cons r' rr =>
      cases rr with
      | cons r'' rr =>
        cases rr
        obtain ⟨t, rfl⟩ := r
        obtain ⟨t', rfl⟩ := r'
        obtain ⟨t'', rfl⟩ := r''
        refine call_range_3 (by omega) ?_ (Or.inl (PyProof.noPylong_small (by omega)))
        refine wpAny_pyIter_range (IsRange.new ..) (small_step q1 q2 q3 q4) ?_
        have I2 : Inv X pins σ H1 { s1 with heap := s1.heap.push { cls := .type "range", data := .fields #[.int 0 t, .int j t', .int c' t''] }, toks := s1.toks } := I1.kept fun b o e => Heap.get?_push_of_some _ e
        have hsize : Builtin.Range.rangeSize 0 j c' = ((((j + c' - 1) / c').toNat : Nat) : Int) := by
          rw [rangeSize_pos q3 q1]
          have := Int.ediv_nonneg (a := j + c' - 1) (b := c') (by omega) (by omega)
          omega
        refine ⟨_, [_], _, _, H1, rfl, I2.kept (t' := s1.toks) fun b o e => Heap.get?_push_of_some _ e, turn_rangeS _ 0 c' ((j + c' - 1) / c').toNat, ?_, fun b hb => ?_, q⟩
        · show IsRangeIter _ _ ((0 : Int) + ((0 : Nat) : Int) * c') ((((j + c' - 1) / c').toNat : Int) - ((0 : Nat) : Int)) c'
          have e1 : (0 : Int) + ((0 : Nat) : Int) * c' = 0 := by simp
          have e2 : (((((j + c' - 1) / c').toNat : Nat) : Int) - ((0 : Nat) : Int)) = Builtin.Range.rangeSize 0 j c' := by rw [hsize]; omega
          rw [e1, e2]
          exact Heap.get?_push_size _ rfl
        · have e := List.mem_singleton.mp hb
          subst e
          exact I2.fpOk (Nat.le_refl _) (I2.hok.fresh (Nat.le_refl _))
theorem for_rangeS {lo st : Int} {n : Nat} {g : TG} {tb : TS} {D : Ends} {σ : St} {H : Hp} (Pv : Nat → St → Hp → Prop) (h0 : Pv 0 σ H)
    (hs : ∀ i σ H, i < n → Pv i σ H → g (.int (lo + i * st)) σ H fun σ2 H2 => tb { D with nx := Pv (i + 1), ct := Pv (i + 1), bk := D.nx } σ2 H2) (hd : ∀ σ H, Pv n σ H → D.nx σ H) :
    ∃ W : Nat → Nat → St → Hp → Prop, (∃ m, W 0 m σ H) ∧ ∀ i m σ H, W i m σ H →
      ((ItrS lo st n).stop i H ∧ D.nx σ H) ∨ ((ItrS lo st n).go i H ∧ ∃ N : St → Hp → Prop, (∀ σ' H', N σ' H' → ∃ m', m' < m ∧ W (i + 1) m' σ' H') ∧ ∀ x H', (ItrS lo st n).yld i H x H' → g x σ H' fun σ2 H2 => tb { D with nx := N, ct := N, bk := D.nx } σ2 H2) := by
  refine ⟨fun i m σ H => m = n - i ∧ i ≤ n ∧ Pv i σ H, ⟨n, by simp, Nat.zero_le _, h0⟩, ?_⟩
  rintro i m σ H ⟨rfl, hi, p⟩
  by_cases hlt : i < n
  · refine .inr ⟨hlt, Pv (i + 1), fun σ' H' p' => ⟨n - (i + 1), by omega, rfl, hlt, p'⟩, fun x H' y => ?_⟩
    obtain ⟨e, y⟩ := y
    subst e y
    exact hs i σ _ hlt p
  · have e : i = n := by omega
    subst e
    exact .inl ⟨Nat.le_refl _, hd σ H p⟩
end

/-! ### for over enumerate(a list) -/
def Ite (K : PySem.W.Frag) (a : Addr) : It :=
  ⟨fun i H => ∃ xs x, SqL K H a xs ∧ xs[i]? = some x, fun i H x H' => ∃ (T : Addr) (y : V), H T = none ∧ x = .ref T ∧ H' = upd H T (.tup [.int i, y]) ∧ ∀ xs, SqL K H a xs → xs[i]? = some y, fun i H => ∃ xs, SqL K H a xs ∧ xs.length ≤ i⟩
theorem turn_enum {P : Program} {w : World} {K : PySem.W.Frag} {es : List Expr} {k : Nat} {tp : Pos} (a e it : Addr) (hei : e ≠ it) : Turn P w K (.Tuple es k tp) (Ite K a) [e, it] e (fun i h => (∃ old, IsEnum h e it i old) ∧ h.IsListIter it a i) where
  mem := by simp
  obj := fun i h q b hb => by
    obtain ⟨⟨old, he⟩, o, ho, c, d⟩ := q
    have hb' : b = e ∨ b = it := by simpa using hb
    rcases hb' with z | z
    · subst z
      exact ⟨_, he, fun v z => by
        have z' : Data.fields _ = Data.cell v := z
        cases z'⟩
    · subst z
      exact ⟨o, ho, fun v z => by rw [d] at z; cases z⟩
  keep := fun i h h' q kk => ⟨let ⟨old, he⟩ := q.1; ⟨old, kk e (by simp) _ he⟩, q.2.at fun o x => kk it (by simp) o x⟩
  item := by
    intro X hP hw hK hc i pins s σ H E I hf q hg
    subst hP hw hK
    obtain ⟨xs, x, hq, hx⟩ := hg
    obtain ⟨its, rv, p, hz⟩ := I.list hq
    obtain ⟨u, hu, ru⟩ := rv.get hx
    obtain ⟨⟨old, he⟩, hit⟩ := q
    obtain ⟨f0, f1, f2, f3, f4, f5⟩ := hf e (by simp)
    obtain ⟨g0, g1, g2, g3, g4, g5⟩ := hf it (by simp)
    refine wpAny_pyNext_enum_item he hit p.isList (x := u) (by simpa using hu) hei fun h' ho hit' hT hsz hk => ?_
    refine ⟨_, rfl, wpAny_letOwnedTupleGo_enum ho fun h2 he2 hs2 => ?_⟩
    have helt : e < s.heap.objs.size := Heap.lt_size he
    -- both records have turned, the tuple is new
    have k2 : ∀ b o, b ≠ e → b ≠ it → s.heap.get? b = some o → h2.get? b = some o := fun b o b1 b2 q => hs2.extBut b o b1 (hk b o b1 b2 q)
    have hT2 : h2.get? s.heap.objs.size = some { cls := .type "tuple", data := .seq #[.int i s.toks, u] } := hs2.extBut _ _ (Nat.ne_of_gt helt) hT
    have fn : H s.heap.objs.size = none := I.hok.fresh (Nat.le_refl _)
    have I1 : Inv X pins σ (upd H s.heap.objs.size (.tup [.int i, x])) { s with heap := h2, toks := s.toks + 1 } := by
      obtain ⟨m, ⟨oL, es, ep, hoL, rL⟩, _⟩ := id I.loc
      refine I.step (g' := s.gens) (d' := s.drawn) (ch := [e, it]) (fun b hb => ?_) (fun b o _ _ hcx q _ => k2 b o (fun z => hcx (by simp [z])) (fun z => hcx (by simp [z])) q)
        (fun b o _ _ hcx q _ => ⟨o.slots, k2 b o (fun z => hcx (by simp [z])) (fun z => hcx (by simp [z])) q⟩) (fun b o _ q n => ?_) (fun b o hcx q => ⟨o, k2 b o (fun z => hcx (by simp [z])) (fun z => hcx (by simp [z])) q⟩)
        (fun b ys q => by rw [upd_ne (ne_of_none q fn)]; exact q) (fun b o u q => by rw [upd_ne (ne_of_none q fn)]; exact q) (fun b ps q => ⟨#[], by rw [upd_ne (ne_of_none q fn), q]; simp⟩) (fun m' hm => ?_) (fun b v q => ?_) I.bare
      · have hb' : b = e ∨ b = it := by simpa using hb
        rcases hb' with z | z
        · subst z; exact ⟨f3, f1, f4, f5⟩
        · subst z; exact ⟨g3, g1, g4, g5⟩
      · rw [upd_ne (Nat.ne_of_lt (Heap.lt_size q))]; exact n
      · obtain ⟨o', es', ep', ho', r'⟩ := hm
        exact ⟨o', es', ep', k2 _ _ (Ne.symm f1) (Ne.symm g1) ho', r'⟩
      · by_cases hb : b = s.heap.objs.size
        · subst hb
          rw [upd_same] at q
          cases q
          exact ⟨by show 2 ≤ sizeLine; decide, [.int i s.toks, u], .cons ⟨_, rfl⟩ (.cons ru .nil), _, hT2, rfl, _, rfl⟩
        · rw [upd_ne hb] at q
          refine (I.hok b v q).stay (fun c w hcx r => k2 c w ?_ ?_ r) (fun c r => by rw [upd_ne (ne_of_none r fn)]; exact r) fun c ys r => by rw [upd_ne (ne_of_none r fn)]; exact r
          · intro z; subst z
            rcases hcx with z | z
            · rw [← z, f0] at q; cases q
            · rw [f0] at z; cases z
          · intro z; subst z
            rcases hcx with z | z
            · rw [← z, g0] at q; cases q
            · rw [g0] at z; cases z
    refine ⟨.ref s.heap.objs.size, _, I1, rfl, ⟨_, x, fn, rfl, rfl, fun ys hy => by rw [I.list_inj hy hq]; exact hx⟩, ⟨⟨_, by simpa using he2⟩, hit'.at fun o y => (hs2.2 it hei.symm).trans y⟩, fun b hb => ?_⟩
    have hb' : b = e ∨ b = it := by simpa using hb
    rcases hb' with z | z
    · subst z; rw [upd_ne (Nat.ne_of_lt helt)]; exact f0
    · subst z
      obtain ⟨o, ho', _⟩ := hit
      rw [upd_ne (Nat.ne_of_lt (Heap.lt_size ho'))]; exact g0
  done := by
    intro X hP hw hK hc i pins s σ H E I hf q hg
    subst hP hw hK
    obtain ⟨xs, hq, hx⟩ := hg
    obtain ⟨its, rv, p, hz⟩ := I.list hq
    obtain ⟨⟨old, he⟩, hit⟩ := q
    obtain ⟨g0, g1, g2, g3, g4, g5⟩ := hf it (by simp)
    have hl := rv.length
    exact wpAny_pyNext_enum_end (I.ok.hd hc) he hit p.isList (by simp; omega) fun h' eb => ⟨rfl, I.turned (t' := s.toks) (fun b o hb e => eb b o hb e) g0 g1 g3 g4 g5⟩
  self := fun _ _ _ _ _ q h => let ⟨⟨_, he⟩, _⟩ := q; wpAny_pyIter_enum he h
section
variable {X : Cx} {es : List Expr} {k : Nat} {tp : Pos}
def iEnum (K : PySem.W.Frag) (ta : TA) : TI := fun σ H R => ta σ H fun vs H1 => ∃ a, vs = [.ref a] ∧ (∃ xs, SqL K H1 a xs) ∧ R (Ite K a) H1
theorem boot_enum : bootBuiltins "enumerate" = some (.type "enumerate") := by decide +kernel
theorem pi_enum {a : Expr} {ta : TA} {p pos : Pos} (hg : Gl X "enumerate") (hm : X.mg "enumerate" = none) (ha : PA X [a] ta) (hs : starEach [a] X.env = [(false, eval a X.env)] := by rfl) :
    PI X (.Tuple es k tp) (.Call (.Name "enumerate" p) [a] [] pos) (iEnum X.K ta) := by
  intro pins s σ H R I h
  refine Call_ (ld_blt I hg hm boot_enum (PyProof.Rows.callWith_type1 (thn (ha pos pins s σ H _ I h) fun us s1 ⟨vs, H1, I1, r1, q1⟩ => ?_) hs rfl))
  obtain ⟨a', e, ⟨xs, hq⟩, q⟩ := q1
  subst e
  obtain ⟨u, rfl, ru⟩ := vals1 r1
  cases ru
  obtain ⟨its, rv, pl, hz⟩ := I1.list hq
  refine call_enumerate_list pl.isList fun h' he hit hsz kp => ?_
  refine wpAny_pyIter_enum he ?_
  have I2 : Inv X pins σ H1 { s1 with heap := h' } := I1.kept (t' := s1.toks) kp
  refine ⟨s1.heap.objs.size + 1, [s1.heap.objs.size + 1, s1.heap.objs.size], _, _, H1, rfl, I2, turn_enum a' _ _ (Nat.succ_ne_self _), ⟨⟨_, he⟩, hit⟩, fun b hb => ?_, q⟩
  have hb' : b = s1.heap.objs.size + 1 ∨ b = s1.heap.objs.size := by simpa using hb
  rcases hb' with z | z
  · subst z; exact I1.fpOk (Nat.le_succ _) (I1.hok.fresh (Nat.le_succ _))
  · subst z; exact I1.fpOk (Nat.le_refl _) (I1.hok.fresh (Nat.le_refl _))
theorem for_enum {K : PySem.W.Frag} {a : Addr} {xs : List V} {g : TG} {tb : TS} {D : Ends} {σ : St} {H : Hp} (Pv : Nat → St → Hp → Prop) (h0 : Pv 0 σ H) (hl : ∀ i σ H, i ≤ xs.length → Pv i σ H → SqL K H a xs)
    (hs : ∀ (i : Nat) y T σ H, xs[i]? = some y → Pv i σ H → H T = none → g (.ref T) σ (upd H T (.tup [.int i, y])) fun σ2 H2 => tb { D with nx := Pv (i + 1), ct := Pv (i + 1), bk := D.nx } σ2 H2) (hd : ∀ σ H, Pv xs.length σ H → D.nx σ H) :
    ∃ W : Nat → Nat → St → Hp → Prop, (∃ m, W 0 m σ H) ∧ ∀ i m σ H, W i m σ H →
      ((Ite K a).stop i H ∧ D.nx σ H) ∨ ((Ite K a).go i H ∧ ∃ N : St → Hp → Prop, (∀ σ' H', N σ' H' → ∃ m', m' < m ∧ W (i + 1) m' σ' H') ∧ ∀ x H', (Ite K a).yld i H x H' → g x σ H' fun σ2 H2 => tb { D with nx := N, ct := N, bk := D.nx } σ2 H2) := by
  refine ⟨fun i m σ H => m = xs.length - i ∧ i ≤ xs.length ∧ Pv i σ H, ⟨xs.length, by simp, Nat.zero_le _, h0⟩, ?_⟩
  rintro i m σ H ⟨rfl, hi, p⟩
  have q := hl i σ H hi p
  by_cases hlt : i < xs.length
  · refine .inr ⟨⟨xs, xs[i], q, by simp [hlt]⟩, Pv (i + 1), fun σ' H' p' => ⟨xs.length - (i + 1), by omega, rfl, hlt, p'⟩, fun x H' y => ?_⟩
    obtain ⟨T, y, hT, e1, e2, e3⟩ := y
    subst e1 e2
    exact hs i y T σ H (e3 xs q) p hT
  · have e : i = xs.length := by omega
    subst e
    exact .inl ⟨⟨xs, q, Nat.le_refl _⟩, hd σ H p⟩
end

/-! ### max of a list of ints -/
section
variable {X : Cx}
theorem call_maxL (hc : X.calm = true) : CallR X (.builtin "max") (fun xs H Q => ∃ p ns, xs = [.ref p] ∧ SqL X.K H p (ns.map V.int) ∧ ns ≠ [] ∧ ∀ M, M ∈ ns → (∀ a ∈ ns, a ≤ M) → Q (.int M) H) := by
  intro pins s σ H xs us Q I r h
  obtain ⟨p, ns, rfl, hq, hne, q⟩ := h
  obtain ⟨u, rfl, ru⟩ := vals1 r
  cases ru
  obtain ⟨its, rv, pl, hz⟩ := I.list hq
  have hi : IntsAre its ns := intsAre_of rv
  obtain ⟨zs, e⟩ := hi.allInts.items
  have hns : ns = zs.toList.map (·.1) := by rw [← hi.numsOf, ← nums_intItems, ← e]
  have hsz : 0 < zs.size := by
    have h3 : 0 < ns.length := List.length_pos_iff.mpr hne
    rw [hns, List.length_map, Array.length_toList] at h3; exact h3
  have hl := pl.isList
  rw [e] at hl
  refine max_intList (I.ok.hd hc) hl hsz fun v h' tk hv hk => ?_
  obtain ⟨t, rfl⟩ := intItems_at hv
  obtain ⟨h1, h2⟩ := argBest_gt (numAt zs) (zs.size - 1)
  refine ⟨.int _, H, I.kept hk, ⟨t, rfl⟩, q _ ?_ fun a ha => ?_⟩
  · rw [hns, numAt_eq]; exact getD_mem (by rw [List.length_map, Array.length_toList]; omega)
  · rw [hns] at ha
    obtain ⟨j, hj, rfl⟩ := mem_getD ha
    rw [List.length_map, Array.length_toList] at hj
    rw [← numAt_eq]; exact h2 j (by omega)
end

/-! ### data all the way down -/
inductive DV where
  | non | bl (b : Bool) | int (i : Int) | str (x : Str) | lst (ds : List DV) | tup (ds : List DV)
mutual
def Deep (K : PySem.W.Frag) (H : Hp) : DV → V → Prop
  | .non, v => v = .non
  | .bl b, v => v = .bl b
  | .int i, v => v = .int i
  | .str x, v => v = .str x
  | .lst ds, v => ∃ a xs, v = .ref a ∧ SqL K H a xs ∧ Deeps K H ds xs
  | .tup ds, v => ∃ a xs, v = .ref a ∧ SqT K H a xs ∧ Deeps K H ds xs
def Deeps (K : PySem.W.Frag) (H : Hp) : List DV → List V → Prop
  | [], xs => xs = []
  | d :: ds, xs => ∃ y ys, xs = y :: ys ∧ Deep K H d y ∧ Deeps K H ds ys
end
theorem Deeps.length {K : PySem.W.Frag} {H : Hp} : ∀ {ds : List DV} {xs : List V}, Deeps K H ds xs → xs.length = ds.length
  | [], xs, h => by rw [Deeps] at h; subst h; rfl
  | d :: ds, xs, h => by rw [Deeps] at h; obtain ⟨y, ys, rfl, _, h⟩ := h; rw [List.length_cons, List.length_cons, Deeps.length h]
mutual
def dep : DV → Nat
  | .lst ds => deps ds + 1
  | .tup ds => deps ds + 1
  | _ => 0
def deps : List DV → Nat
  | [] => 0
  | d :: ds => max (dep d) (deps ds)
end
def stays {K : PySem.W.Frag} {H H' : Hp} : Prop := (∀ a xs, SqL K H a xs → SqL K H' a xs) ∧ ∀ a xs, SqT K H a xs → SqT K H' a xs
theorem Same.tup {K : PySem.W.Frag} {H H' : Hp} {a : Addr} {xs : List V} (e : Same H H') (h : SqT K H a xs) : SqT K H' a xs := by
  rcases h with (h | ⟨o, h⟩) | h
  · exact .inl (.inl (e _ _ h))
  · exact .inl (.inr ⟨o, e _ _ h⟩)
  · exact .inr h
mutual
theorem Deep.same {K : PySem.W.Frag} {H H' : Hp} (e : Same H H') : ∀ (d : DV) (v : V), Deep K H d v → Deep K H' d v
  | .non, v, h => by rw [Deep] at h ⊢; exact h
  | .bl b, v, h => by rw [Deep] at h ⊢; exact h
  | .int i, v, h => by rw [Deep] at h ⊢; exact h
  | .str x, v, h => by rw [Deep] at h ⊢; exact h
  | .lst ds, v, h => by rw [Deep] at h ⊢; obtain ⟨a, xs, r, q, t⟩ := h; exact ⟨a, xs, r, e.seq q, Deeps.same e ds xs t⟩
  | .tup ds, v, h => by rw [Deep] at h ⊢; obtain ⟨a, xs, r, q, t⟩ := h; exact ⟨a, xs, r, e.tup q, Deeps.same e ds xs t⟩
theorem Deeps.same {K : PySem.W.Frag} {H H' : Hp} (e : Same H H') : ∀ (ds : List DV) (xs : List V), Deeps K H ds xs → Deeps K H' ds xs
  | [], xs, h => by rw [Deeps] at h ⊢; exact h
  | d :: ds, xs, h => by rw [Deeps] at h ⊢; obtain ⟨y, ys, r, q, t⟩ := h; exact ⟨y, ys, r, Deep.same e d y q, Deeps.same e ds ys t⟩
end
/- the same data is equal -/
theorem all_yes : ∀ l : List Nat, (l.all fun _ => true) = true
  | [] => rfl
  | _ :: r => by rw [List.all_cons, all_yes r]; rfl
mutual
theorem eqAt_deep {X : Cx} {pins : List (Addr × Obj)} {σ : St} {H : Hp} {s : Shared} (I : Inv X pins σ H s) : ∀ (d : DV) (x y : V) (u v : Value) (A : Around), Deep X.K H d x → Deep X.K H d y → RelV x u → RelV y v → A.units + dep d < cLine → SeqAt.EqAt A s u v true
  | .non, x, y, u, v, A, hx, hy, rx, ry, hu => by
    rw [Deep] at hx hy; subst hx hy; cases rx; cases ry; exact SeqAt.EqAt.same _
  | .bl b, x, y, u, v, A, hx, hy, rx, ry, hu => by
    rw [Deep] at hx hy; subst hx hy; cases rx; cases ry; exact SeqAt.EqAt.same _
  | .int i, x, y, u, v, A, hx, hy, rx, ry, hu => by
    rw [Deep] at hx hy; subst hx hy; obtain ⟨t, rfl⟩ := rx; obtain ⟨t', rfl⟩ := ry
    have := SeqAt.EqAt.int_int (A := A) (s := s) i t i t'
    simpa using this
  | .str z, x, y, u, v, A, hx, hy, rx, ry, hu => by
    rw [Deep] at hx hy; subst hx hy; obtain ⟨t, rfl⟩ := rx; obtain ⟨t', rfl⟩ := ry
    have := SeqAt.EqAt.str_str (A := A) (s := s) z t z t'
    simpa using this
  | .lst ds, x, y, u, v, A, hx, hy, rx, ry, hu => by
    rw [Deep] at hx hy
    obtain ⟨a, xs, rfl, hq, hd⟩ := hx
    obtain ⟨b, ys, rfl, hq', hd'⟩ := hy
    cases rx; cases ry
    by_cases hab : a = b
    · subst hab; exact SeqAt.EqAt.same _
    · obtain ⟨its, r, pl, hz⟩ := I.list hq
      obtain ⟨its', r', pl', hz'⟩ := I.list hq'
      have l1 := r.length; have l2 := r'.length; have l3 := hd.length; have l4 := hd'.length
      have hu' : A.units + (deps ds + 1) < cLine := hu
      have q := SeqAt.RcAt.lists (A := A) (e := fun _ => true) pl.isList pl'.isList (by simp only [List.size_toArray]; omega) (by omega) fun j h1 h2 => by
        have := eqsAt_deep I ds xs ys its its' A.in1 hd hd' r r' (by rw [Around.in1_units]; omega) j (by simpa using h1) (by simpa using h2)
        simpa using this
      refine SeqAt.EqAt.of_refs hab ?_
      rw [all_yes] at q
      exact q
  | .tup ds, x, y, u, v, A, hx, hy, rx, ry, hu => by
    rw [Deep] at hx hy
    obtain ⟨a, xs, rfl, hq, hd⟩ := hx
    obtain ⟨b, ys, rfl, hq', hd'⟩ := hy
    cases rx; cases ry
    by_cases hab : a = b
    · subst hab; exact SeqAt.EqAt.same _
    · obtain ⟨its, r, pl, hz⟩ := I.tuple hq
      obtain ⟨its', r', pl', hz'⟩ := I.tuple hq'
      have l1 := r.length; have l2 := r'.length; have l3 := hd.length; have l4 := hd'.length
      have hu' : A.units + (deps ds + 1) < cLine := hu
      have q := SeqAt.RcAt.tuples (A := A) (e := fun _ => true) pl pl' (by omega) fun j h1 h2 => by
        have := eqsAt_deep I ds xs ys its its' A.in1 hd hd' r r' (by rw [Around.in1_units]; omega) j (by simpa using h1) (by simpa using h2)
        simpa using this
      refine SeqAt.EqAt.of_refs hab ?_
      have e : its.length = its'.length := by omega
      rw [all_yes] at q
      simpa [e] using q
theorem eqsAt_deep {X : Cx} {pins : List (Addr × Obj)} {σ : St} {H : Hp} {s : Shared} (I : Inv X pins σ H s) : ∀ (ds : List DV) (xs ys : List V) (us vs : List Value) (A : Around), Deeps X.K H ds xs → Deeps X.K H ds ys → Vals xs us → Vals ys vs → A.units + deps ds < cLine →
    ∀ (j : Nat) (h1 : j < us.length) (h2 : j < vs.length), SeqAt.EqAt A s us[j] vs[j] true
  | [], xs, ys, us, vs, A, hx, hy, rx, ry, hu, j, h1, h2 => by
    rw [Deeps] at hx; subst hx; cases rx; exact absurd h1 (Nat.not_lt_zero _)
  | d :: ds, xs, ys, us, vs, A, hx, hy, rx, ry, hu, j, h1, h2 => by
    rw [Deeps] at hx hy
    obtain ⟨x, xs, rfl, dx, hx⟩ := hx
    obtain ⟨y, ys, rfl, dy, hy⟩ := hy
    cases rx with
    | cons rx rxs =>
      cases ry with
      | cons ry rys =>
        have hu' : A.units + max (dep d) (deps ds) < cLine := hu
        cases j with
        | zero => exact eqAt_deep I d x y _ _ A dx dy rx ry (by omega)
        | succ j => exact eqsAt_deep I ds xs ys _ _ A hx hy rxs rys (by omega) j (by simpa using h1) (by simpa using h2)
end
section
variable {X : Cx}
/-- the same list (or tuple) of data, handed in twice -/
theorem op_eqD {k : Nat} (hr : Room k X.A) : OpR X (compareOp .Eq) (fun x y H Q => ∃ d ds, (d = .lst ds ∨ d = .tup ds) ∧ dep d ≤ 60 ∧ Deep X.K H d x ∧ Deep X.K H d y ∧ Q (.bl true) H) := by
  intro pins s σ H x y v u Q I rx ry h
  obtain ⟨d, ds, hd, hdp, dx, dy, q⟩ := h
  have hcl : X.A.units + 64 < cLine := hr.units
  rcases hd with rfl | rfl
  · rw [Deep] at dx dy
    obtain ⟨a, xs, rfl, hq, hd⟩ := dx
    obtain ⟨b, ys, rfl, hq', hd'⟩ := dy
    cases rx; cases ry
    obtain ⟨its, r, pl, hz⟩ := I.list hq
    obtain ⟨its', r', pl', hz'⟩ := I.list hq'
    have l1 := r.length; have l2 := r'.length; have l3 := hd.length; have l4 := hd'.length
    have hdp' : deps ds + 1 ≤ 60 := hdp
    refine SeqAt.eq_listAt (e := fun _ => true) pl.isList pl'.isList (by simp only [List.size_toArray]; omega) (by omega) (fun j h1 h2 => ?_) ⟨.bl true, H, I, ?_, q⟩
    · have := eqsAt_deep I ds xs ys its its' X.A.in1 hd hd' r r' (by rw [Around.in1_units]; omega) j (by simpa using h1) (by simpa using h2)
      simpa using this
    · show Value.bool _ = Value.bool true
      rw [all_yes]
  · rw [Deep] at dx dy
    obtain ⟨a, xs, rfl, hq, hd⟩ := dx
    obtain ⟨b, ys, rfl, hq', hd'⟩ := dy
    cases rx; cases ry
    obtain ⟨its, r, pl, hz⟩ := I.tuple hq
    obtain ⟨its', r', pl', hz'⟩ := I.tuple hq'
    have l1 := r.length; have l2 := r'.length; have l3 := hd.length; have l4 := hd'.length
    have hdp' : deps ds + 1 ≤ 60 := hdp
    have e : its.length = its'.length := by omega
    refine SeqAt.eq_tupleAt (e := fun _ => true) pl pl' (by omega) (fun j h1 h2 => ?_) ⟨.bl true, H, I, ?_, q⟩
    · have := eqsAt_deep I ds xs ys its its' X.A.in1 hd hd' r r' (by rw [Around.in1_units]; omega) j (by simpa using h1) (by simpa using h2)
      simpa using this
    · show Value.bool _ = Value.bool true
      rw [all_yes]
      simp [e]
theorem op_neD {k : Nat} (hr : Room k X.A) : OpR X (compareOp .NotEq) (fun x y H Q => ∃ ds, dep (.lst ds) ≤ 60 ∧ Deep X.K H (.lst ds) x ∧ Deep X.K H (.lst ds) y ∧ Q (.bl false) H) := by
  intro pins s σ H x y v u Q I rx ry h
  obtain ⟨ds, hdp, dx, dy, q⟩ := h
  have hcl : X.A.units + 64 < cLine := hr.units
  rw [Deep] at dx dy
  obtain ⟨a, xs, rfl, hq, hd⟩ := dx
  obtain ⟨b, ys, rfl, hq', hd'⟩ := dy
  cases rx; cases ry
  obtain ⟨its, r, pl, hz⟩ := I.list hq
  obtain ⟨its', r', pl', hz'⟩ := I.list hq'
  have l1 := r.length; have l2 := r'.length; have l3 := hd.length; have l4 := hd'.length
  have hdp' : deps ds + 1 ≤ 60 := hdp
  have q2 := SeqAt.RcNeAt.lists (A := X.A) (s := s) (e := fun _ => true) pl.isList pl'.isList (by simp only [List.size_toArray]; omega) (by omega) (fun j h1 h2 => by
    have := eqsAt_deep I ds xs ys its its' X.A.in1 hd hd' r r' (by rw [Around.in1_units]; omega) j (by simpa using h1) (by simpa using h2)
    simpa using this)
  refine q2 X.prog X.w X.xe _ ⟨.bl false, H, I, ?_, q⟩
  show Value.bool _ = Value.bool false
  rw [all_yes]
  rfl
end

/-! ### lists of data: pieces, growth, frames -/
theorem Deeps.get {K : PySem.W.Frag} {H : Hp} : ∀ {ds : List DV} {xs : List V} {i : Nat} {x : V}, Deeps K H ds xs → xs[i]? = some x → ∃ d, ds[i]? = some d ∧ Deep K H d x
  | [], xs, i, x, h, e => by rw [Deeps] at h; subst h; simp at e
  | d :: ds, xs, 0, x, h, e => by
    rw [Deeps] at h; obtain ⟨y, ys, rfl, q, t⟩ := h
    simp at e; subst e; exact ⟨d, rfl, q⟩
  | d :: ds, xs, i + 1, x, h, e => by
    rw [Deeps] at h; obtain ⟨y, ys, rfl, q, t⟩ := h
    obtain ⟨d', e1, e2⟩ := Deeps.get (i := i) t (by simpa using e)
    exact ⟨d', by simpa using e1, e2⟩
theorem Deeps.get' {K : PySem.W.Frag} {H : Hp} {ds : List DV} {xs : List V} {i : Nat} {d : DV} (h : Deeps K H ds xs) (e : ds[i]? = some d) : ∃ x, xs[i]? = some x ∧ Deep K H d x := by
  have hl := h.length
  have hi : i < xs.length := by rw [hl]; exact (List.getElem?_eq_some_iff.mp e).1
  obtain ⟨d', e1, e2⟩ := h.get (List.getElem?_eq_getElem hi)
  rw [e] at e1; cases e1
  exact ⟨_, List.getElem?_eq_getElem hi, e2⟩
theorem Deeps.app {K : PySem.W.Frag} {H : Hp} : ∀ {ds es : List DV} {xs ys : List V}, Deeps K H ds xs → Deeps K H es ys → Deeps K H (ds ++ es) (xs ++ ys)
  | [], es, xs, ys, h, q => by rw [Deeps] at h; subst h; exact q
  | d :: ds, es, xs, ys, h, q => by
    rw [Deeps] at h; obtain ⟨y, zs, rfl, r, t⟩ := h
    show Deeps K H (d :: (ds ++ es)) _
    rw [Deeps]
    exact ⟨y, zs ++ ys, rfl, r, Deeps.app t q⟩
theorem Deeps.one {K : PySem.W.Frag} {H : Hp} {d : DV} {x : V} (h : Deep K H d x) : Deeps K H [d] [x] := by
  rw [Deeps]; exact ⟨x, [], rfl, h, by rw [Deeps]⟩
theorem Deeps.nil {K : PySem.W.Frag} {H : Hp} : Deeps K H [] [] := by rw [Deeps]
theorem Deeps.take {K : PySem.W.Frag} {H : Hp} : ∀ {ds : List DV} {xs : List V} (n : Nat), Deeps K H ds xs → Deeps K H (ds.take n) (xs.take n)
  | ds, xs, 0, _ => by simp [Deeps]
  | [], xs, n + 1, h => by rw [Deeps] at h; subst h; simp [Deeps]
  | d :: ds, xs, n + 1, h => by
    rw [Deeps] at h; obtain ⟨y, zs, rfl, r, t⟩ := h
    rw [List.take_succ_cons, List.take_succ_cons, Deeps]
    exact ⟨y, _, rfl, r, Deeps.take n t⟩
theorem Deeps.drop {K : PySem.W.Frag} {H : Hp} : ∀ {ds : List DV} {xs : List V} (n : Nat), Deeps K H ds xs → Deeps K H (ds.drop n) (xs.drop n)
  | ds, xs, 0, h => by simpa using h
  | [], xs, n + 1, h => by rw [Deeps] at h; subst h; simp [Deeps]
  | d :: ds, xs, n + 1, h => by
    rw [Deeps] at h; obtain ⟨y, zs, rfl, r, t⟩ := h
    rw [List.drop_succ_cons, List.drop_succ_cons]
    exact Deeps.drop n t
theorem Deeps.set {K : PySem.W.Frag} {H : Hp} {d : DV} {x : V} (q : Deep K H d x) : ∀ {ds : List DV} {xs : List V} (n : Nat), Deeps K H ds xs → Deeps K H (ds.set n d) (xs.set n x)
  | [], xs, n, h => by rw [Deeps] at h; subst h; simp [Deeps]
  | e :: ds, xs, 0, h => by
    rw [Deeps] at h; obtain ⟨y, zs, rfl, r, t⟩ := h
    rw [List.set_cons_zero, List.set_cons_zero, Deeps]
    exact ⟨x, _, rfl, q, t⟩
  | e :: ds, xs, n + 1, h => by
    rw [Deeps] at h; obtain ⟨y, zs, rfl, r, t⟩ := h
    rw [List.set_cons_succ, List.set_cons_succ, Deeps]
    exact ⟨y, _, rfl, r, Deeps.set q n t⟩
theorem Deeps.ints {K : PySem.W.Frag} {H : Hp} : ∀ (ns : List Int), Deeps K H (ns.map DV.int) (ns.map V.int)
  | [] => by simp [Deeps]
  | n :: r => by
    rw [List.map_cons, List.map_cons, Deeps]
    exact ⟨_, _, rfl, by rw [Deep], Deeps.ints r⟩
/- no list within -/
mutual
def noLst : DV → Bool
  | .lst _ => false
  | .tup ds => noLsts ds
  | _ => true
def noLsts : List DV → Bool
  | [] => true
  | d :: ds => noLst d && noLsts ds
end
theorem SqT.upd {K : PySem.W.Frag} {H : Hp} {a p : Addr} {xs ys : List V} {o : HO} (hp : H p = some (.lst ys)) (h : SqT K H a xs) : SqT K (upd H p o) a xs := by
  rcases h with (h | ⟨o', h⟩) | h
  · exact .inl (.inl (by rw [upd_ne (ne_of h hp (by intro z; cases z))]; exact h))
  · exact .inl (.inr ⟨o', by rw [upd_ne (ne_of h hp (by intro z; cases z))]; exact h⟩)
  · exact .inr h
mutual
theorem Deep.updL {K : PySem.W.Frag} {H : Hp} {p : Addr} {ys : List V} {o : HO} (hp : H p = some (.lst ys)) : ∀ (d : DV) (v : V), noLst d = true → Deep K H d v → Deep K (L2.upd H p o) d v
  | .non, v, _, h => by rw [Deep] at h ⊢; exact h
  | .bl b, v, _, h => by rw [Deep] at h ⊢; exact h
  | .int i, v, _, h => by rw [Deep] at h ⊢; exact h
  | .str x, v, _, h => by rw [Deep] at h ⊢; exact h
  | .lst ds, v, n, h => by rw [noLst] at n; cases n
  | .tup ds, v, n, h => by
    rw [noLst] at n
    rw [Deep] at h ⊢
    obtain ⟨a, xs, r, q, t⟩ := h
    exact ⟨a, xs, r, q.upd hp, Deeps.updL hp ds xs n t⟩
theorem Deeps.updL {K : PySem.W.Frag} {H : Hp} {p : Addr} {ys : List V} {o : HO} (hp : H p = some (.lst ys)) : ∀ (ds : List DV) (xs : List V), noLsts ds = true → Deeps K H ds xs → Deeps K (L2.upd H p o) ds xs
  | [], xs, _, h => by rw [Deeps] at h ⊢; exact h
  | d :: ds, xs, n, h => by
    rw [noLsts, Bool.and_eq_true] at n
    rw [Deeps] at h ⊢
    obtain ⟨y, ys, r, q, t⟩ := h
    exact ⟨y, ys, r, Deep.updL hp d y n.1 q, Deeps.updL hp ds ys n.2 t⟩
end
theorem same_new {H : Hp} {p : Addr} (h : H p = none) (o : HO) : Same H (upd H p o) := fun b u q => by rw [upd_ne (ne_of_none q h)]; exact q
theorem Same.newer {H H' : Hp} {p : Addr} (e : Same H H') (h : H p = none) (o : HO) : Same H (upd H' p o) := fun b u q => by rw [upd_ne (ne_of_none q h)]; exact e b u q
theorem small {n : Nat} (h : n ≤ 1000) : n ≤ sizeLine := Nat.le_of_lt (small1000 h)
theorem atI_of {α : Type} {xs : List α} {k : Int} (h0 : 0 ≤ k) (h : k < (xs.length : Int)) : ∃ v, atI xs k = some v ∧ xs[k.toNat]? = some v := by
  have hk : k.toNat < xs.length := by omega
  have ek : k = ((k.toNat : Nat) : Int) := by omega
  refine ⟨xs[k.toNat], ?_, List.getElem?_eq_getElem hk⟩
  have q : atI xs ((k.toNat : Nat) : Int) = some xs[k.toNat] := atI_nat (List.getElem?_eq_getElem hk)
  rw [← ek] at q
  exact q
theorem atI_end {α : Type} {xs : List α} {v : α} (h : xs[xs.length - 1]? = some v) : atI xs (-1) = some v := by
  have hn : xs.length - 1 < xs.length := (List.getElem?_eq_some_iff.mp h).1
  unfold atI ixN
  rw [if_neg (by omega), if_pos (by omega)]
  have : ((-1 : Int) + xs.length).toNat = xs.length - 1 := by omega
  rw [this]
  exact h
theorem ixN_end {n : Nat} (h : 0 < n) : ixN n (-1) = some (n - 1) := by
  unfold ixN
  rw [if_neg (by omega), if_pos (by omega)]
  congr 1
  omega

/-! ### the rules with the written part named: in a comprehension's block -/
section
variable {X : Cx}
theorem ixL (K : PySem.W.Frag) (h : X.K = K := by rfl) : IxR X (rIxL K) := by subst h; exact ix_list
theorem ixT (K : PySem.W.Frag) (h : X.K = K := by rfl) : IxR X (rIxT K) := by subst h; exact ix_tup
theorem slL (K : PySem.W.Frag) (h : X.K = K := by rfl) : SlR X (rSlL K) := by subst h; exact sl_list
theorem lenK (K : PySem.W.Frag) (h : X.K = K := by rfl) : CallR X (.builtin "len") (fun xs H Q => ∃ p ys, xs = [.ref p] ∧ (SqL K H p ys ∨ SqT K H p ys) ∧ Q (.int ys.length) H) := by subst h; exact call_len_seq
theorem lstK (K : PySem.W.Frag) (h : X.K = K := by rfl) : CallR X (.type "list") (fun xs H Q => ∃ p ys, xs = [.ref p] ∧ (SqL K H p ys ∨ SqT K H p ys) ∧ ∀ l, H l = none → Q (.ref l) (upd H l (.lst ys))) := by subst h; exact call_list_of
theorem pgT (K : PySem.W.Frag) {es : List Expr} {k : Nat} {t : TGs} {n : Nat} {pos : Pos} (hc : X.calm = true) (h : PGs X es t) (hK : X.K = K := by rfl)
    (hn : (assignEach es X.env).length = n := by rfl) (hst : (assignEach es X.env).findIdx? (·.1) = none := by rfl) : PG X (.Tuple es k pos) (gTup K n t) := by subst hK; exact pg_tup hc h hn hst
theorem inK (K : PySem.W.Frag) (h : X.K = K := by rfl) : OpR X (compareOp .In) (rIn K false) := by subst h; exact op_in_seq
theorem notInK (K : PySem.W.Frag) (h : X.K = K := by rfl) : OpR X (compareOp .NotIn) (rIn K true) := by subst h; exact op_notIn_seq
theorem pi_listK (K : PySem.W.Frag) {tg l : Expr} {tl : TE} (hl : PE X l tl) (h : X.K = K := by rfl) : PI X tg l (iList K tl) := by subst h; exact pi_list hl
variable {o e : Expr} {es : List Expr} {to : TE} {t : TA} {name : Str} {apos cpos : Pos} {T id : String} {r : V → List V → Hp → VK → Prop}
theorem bm0K (K : PySem.W.Frag) (pa : PlainAttrs T) (slot : Slot T name id) (hty : typeOf (.builtin id) = pure (.type "method_descriptor")) (hm : MtR X id r) (ho : PE X o to) (h : X.K = K := by rfl)
    (hbase : attributeBase o name X.env (eval o X.env) = eval o X.env := by rfl) (hline : (apos.endLine == cpos.line) = true := by rfl) : PE X (.Call (.Attribute o name apos) [] [] cpos) (tBM0 K T r to) := by subst h; exact pe_bm0 pa slot hty hm ho hbase hline
theorem bmK (K : PySem.W.Frag) (pa : PlainAttrs T) (slot : Slot T name id) (hty : typeOf (.builtin id) = pure (.type "method_descriptor")) (hm : MtR X id r) (ho : PE X o to) (ha : PA X (e :: es) t) (h : X.K = K := by rfl)
    (hbase : attributeBase o name X.env (eval o X.env) = eval o X.env := by rfl)
    (hfew : ((backTo cpos (starEach (e :: es) X.env)).all (fun x => !x.1) && (backToKw cpos (keywordEach [] X.env)).all (fun x => x.1.isSome)
      && decide ((e :: es).length + ([] : List Keyword).length + (if ([] : List Keyword).isEmpty then 0 else 1) < 30)) = true := by rfl)
    (hline : (apos.endLine == cpos.line) = true := by rfl) (hs : starEach (e :: es) X.env = (false, eval e X.env) :: starEach es X.env := by rfl) (hplain : (backTo cpos (starEach es X.env)).any (·.1) = false := by rfl) :
    PE X (.Call (.Attribute o name apos) (e :: es) [] cpos) (tBM K T r to t) := by subst h; exact pe_bm pa slot hty hm ho ha hbase hfew hline hs hplain
end

/-! ### loops and comprehensions, folded: for readings by simp -/
def ForW (g : TG) (tb : TS) (D : Ends) (σ : St) (J : It) (H1 : Hp) : Prop := ∃ W : Nat → Nat → St → Hp → Prop, (∃ m, W 0 m σ H1) ∧ ∀ i m σ H, W i m σ H →
  (J.stop i H ∧ D.nx σ H) ∨ (J.go i H ∧ ∃ N : St → Hp → Prop, (∀ σ' H', N σ' H' → ∃ m', m' < m ∧ W (i + 1) m' σ' H') ∧ ∀ x H', J.yld i H x H' → g x σ H' fun σ2 H2 => tb { D with nx := N, ct := N, bk := D.nx } σ2 H2)
theorem tFor_eq (wi : TI) (g : TG) (tb : TS) (D : Ends) (σ : St) (H : Hp) : tFor wi g tb D σ H = wi σ H fun J H1 => ForW g tb D σ J H1 := rfl
def CompW (pick : List (Option Nat)) (g : TG) (ti : TT) (te : TE) (Q : VK) (σ : St) (J : It) (H1 : Hp) : Prop := ∃ W : Nat → Nat → List V → St → Hp → Prop, (∃ m, W 0 m [] (pickS pick σ) H1) ∧ ∀ i m ys σ' H', W i m ys σ' H' → ys.length ≤ sizeLine ∧
  ((J.stop i H' ∧ ∀ p, H' p = none → Q (.ref p) (upd H' p (.lst ys))) ∨
   (J.go i H' ∧ ∃ N : List V → St → Hp → Prop, (∀ zs τ L, N zs τ L → ∃ m', m' < m ∧ W (i + 1) m' zs τ L) ∧ ∀ x H2, J.yld i H' x H2 → g x σ' H2 fun σ3 H3 => ti σ3 H3 fun b H4 => if b = true then te σ3 H4 fun v H5 => N (ys ++ [v]) σ3 H5 else N ys σ3 H4))
theorem tComp_eq (wi : TI) (pick : List (Option Nat)) (g : TG) (ti : TT) (te : TE) (σ : St) (H : Hp) (Q : VK) : tComp wi pick g ti te σ H Q = wi σ H fun J H1 => CompW pick g ti te Q σ J H1 := rfl
def WhileW (c : TT) (tb : TS) (D : Ends) (σ : St) (H : Hp) : Prop := tWhile c tb D σ H
theorem tWhile_eq (c : TT) (tb : TS) (D : Ends) (σ : St) (H : Hp) : tWhile c tb D σ H = WhileW c tb D σ H := rfl

/-! ### the heap without one address -/
def hide (p : Addr) (H : Hp) : Hp := fun b => if b = p then none else H b
theorem hide_same (p : Addr) (H : Hp) : Same (hide p H) H := fun b o e => by
  unfold hide at e
  split at e
  · cases e
  · exact e
theorem hide_at (p : Addr) (H : Hp) : hide p H p = none := by unfold hide; rw [if_pos rfl]
theorem hide_ne {p b : Addr} {H : Hp} (h : b ≠ p) : hide p H b = H b := by unfold hide; rw [if_neg h]
theorem hide_upd (p : Addr) (H : Hp) (o : HO) : hide p (upd H p o) = hide p H := by
  funext b
  unfold hide
  split
  · rfl
  · rename_i h; rw [upd_ne h]
theorem hide_mono {p : Addr} {H H' : Hp} (e : Same H H') : Same (hide p H) (hide p H') := fun b o q => by
  have hb : b ≠ p := fun z => by subst z; rw [hide_at] at q; cases q
  rw [hide_ne hb] at q ⊢
  exact e b o q
theorem hide_of {p : Addr} {H H' : Hp} (e : Same H H') (h : H p = none) : Same H (hide p H') := fun b o q => by
  rw [hide_ne (ne_of_none q h)]
  exact e b o q
theorem upd_at {H : Hp} {p q : Addr} {o u : HO} (h : H q = some u) (hp : H p = none) : upd H p o q = some u := by rw [upd_ne (ne_of_none h hp)]; exact h
theorem atI_ints {ns : List Int} {k : Int} (h0 : 0 ≤ k) (h : k < (ns.length : Int)) : ∃ v, atI (ns.map V.int) k = some (.int v) := by
  obtain ⟨v, hv, hv'⟩ := atI_of (xs := ns.map V.int) h0 (by rw [List.length_map]; exact h)
  rw [List.getElem?_map] at hv'
  cases e : ns[k.toNat]? with
  | none => rw [e] at hv'; cases hv'
  | some z =>
    rw [e] at hv'
    have : v = V.int z := (Option.some.inj hv').symm
    subst this
    exact ⟨z, hv⟩
section
variable {g : TG} {ti : TT} {te : TE} {Q : VK} {σ : St} {H : Hp} {pick : List (Option Nat)} {tb : TS} {D : Ends} {K : PySem.W.Frag} {a : Addr} {xs : List V}
theorem compW_list (xs : List V) (Pv : Nat → List V → St → Hp → Prop) (h0 : Pv 0 [] (pickS pick σ) H) (hl : ∀ i ys σ H, i ≤ xs.length → Pv i ys σ H → SqL K H a xs ∧ ys.length ≤ sizeLine)
    (hs : ∀ i x ys σ H, xs[i]? = some x → Pv i ys σ H → g x σ H fun σ3 H3 => ti σ3 H3 fun b H4 => if b = true then te σ3 H4 fun v H5 => Pv (i + 1) (ys ++ [v]) σ3 H5 else Pv (i + 1) ys σ3 H4)
    (hd : ∀ ys σ H, Pv xs.length ys σ H → ∀ p, H p = none → Q (.ref p) (upd H p (.lst ys))) : CompW pick g ti te Q σ (Itl K a) H := comp_list Pv h0 hl hs hd
theorem compW_range {lo : Int} {n : Nat} (Pv : Nat → List V → St → Hp → Prop) (h0 : Pv 0 [] (pickS pick σ) H) (hl : ∀ i ys σ H, i ≤ n → Pv i ys σ H → ys.length ≤ sizeLine)
    (hs : ∀ i ys σ H, i < n → Pv i ys σ H → g (.int (lo + i)) σ H fun σ3 H3 => ti σ3 H3 fun b H4 => if b = true then te σ3 H4 fun v H5 => Pv (i + 1) (ys ++ [v]) σ3 H5 else Pv (i + 1) ys σ3 H4)
    (hd : ∀ ys σ H, Pv n ys σ H → ∀ p, H p = none → Q (.ref p) (upd H p (.lst ys))) : CompW pick g ti te Q σ (Itr lo n) H := comp_range Pv h0 hl hs hd
theorem forW_list (xs : List V) (Pv : Nat → St → Hp → Prop) (h0 : Pv 0 σ H) (hl : ∀ i σ H, i ≤ xs.length → Pv i σ H → SqL K H a xs)
    (hs : ∀ i x σ H, xs[i]? = some x → Pv i σ H → g x σ H fun σ2 H2 => tb { D with nx := Pv (i + 1), ct := Pv (i + 1), bk := D.nx } σ2 H2) (hd : ∀ σ H, Pv xs.length σ H → D.nx σ H) : ForW g tb D σ (Itl K a) H := for_list Pv h0 hl hs hd
theorem forW_enum (xs : List V) (Pv : Nat → St → Hp → Prop) (h0 : Pv 0 σ H) (hl : ∀ i σ H, i ≤ xs.length → Pv i σ H → SqL K H a xs)
    (hs : ∀ (i : Nat) y T σ H, xs[i]? = some y → Pv i σ H → H T = none → g (.ref T) σ (upd H T (.tup [.int i, y])) fun σ2 H2 => tb { D with nx := Pv (i + 1), ct := Pv (i + 1), bk := D.nx } σ2 H2) (hd : ∀ σ H, Pv xs.length σ H → D.nx σ H) : ForW g tb D σ (Ite K a) H := for_enum Pv h0 hl hs hd
theorem forW_range {lo : Int} {n : Nat} (Pv : Nat → St → Hp → Prop) (h0 : Pv 0 σ H) (hs : ∀ i σ H, i < n → Pv i σ H → g (.int (lo + i)) σ H fun σ2 H2 => tb { D with nx := Pv (i + 1), ct := Pv (i + 1), bk := D.nx } σ2 H2) (hd : ∀ σ H, Pv n σ H → D.nx σ H) :
    ForW g tb D σ (Itr lo n) H := for_range Pv h0 hs hd
theorem forW_rangeS {lo st : Int} {n : Nat} (Pv : Nat → St → Hp → Prop) (h0 : Pv 0 σ H) (hs : ∀ i σ H, i < n → Pv i σ H → g (.int (lo + i * st)) σ H fun σ2 H2 => tb { D with nx := Pv (i + 1), ct := Pv (i + 1), bk := D.nx } σ2 H2) (hd : ∀ σ H, Pv n σ H → D.nx σ H) :
    ForW g tb D σ (ItrS lo st n) H := for_rangeS Pv h0 hs hd
theorem whileW {c : TT} (Pv : St → Hp → Prop) (μ : St → Hp → Nat) (h0 : Pv σ H)
    (hs : ∀ σ H, Pv σ H → c σ H fun b H1 => if b = true then tb { D with nx := fun σ' H' => Pv σ' H' ∧ μ σ' H' < μ σ H, ct := fun σ' H' => Pv σ' H' ∧ μ σ' H' < μ σ H, bk := D.nx } σ H1 else D.nx σ H1)
    (mono : ∀ σ H Q Q', (∀ b H1, Q b H1 → Q' b H1) → c σ H Q → c σ H Q') : WhileW c tb D σ H := while_by Pv μ h0 hs mono
end
theorem Deeps.ints_eq {K : PySem.W.Frag} {H : Hp} : ∀ {ns : List Int} {xs : List V}, Deeps K H (ns.map DV.int) xs → xs = ns.map V.int
  | [], xs, h => by rw [List.map_nil, Deeps] at h; exact h
  | n :: r, xs, h => by
    rw [List.map_cons, Deeps] at h
    obtain ⟨y, ys, rfl, q, t⟩ := h
    rw [Deep] at q
    rw [q, Deeps.ints_eq t]
    rfl
theorem cutV_nat (xs : List V) {j k : Nat} (h : j ≤ k) : cutV xs (some (j : Int)) (some (k : Int)) = (xs.drop j).take (k - j) := by
  unfold cutV
  rw [HT.sIx_nat, HT.sIx_nat]
  apply List.ext_getElem?
  intro i
  rw [List.getElem?_take, List.getElem?_take, List.getElem?_drop, List.getElem?_drop]
  by_cases h1 : i < k - j
  · rw [if_pos h1]
    by_cases h2 : j + i < xs.length
    · rw [if_pos (by omega)]
      congr 1
      omega
    · rw [if_neg (by omega), List.getElem?_eq_none (by omega)]
  · rw [if_neg h1, if_neg (by omega)]
theorem deps_le {n : Nat} : ∀ {ds : List DV}, (∀ d ∈ ds, dep d ≤ n) → deps ds ≤ n
  | [], _ => by rw [deps]; exact Nat.zero_le _
  | d :: ds, h => by
    rw [deps]
    exact Nat.max_le.mpr ⟨h d List.mem_cons_self, deps_le fun e he => h e (List.mem_cons_of_mem _ he)⟩
theorem deps_ints (ns : List Int) : deps (ns.map DV.int) = 0 := Nat.le_zero.mp (deps_le fun d hd => by
  obtain ⟨n, _, rfl⟩ := List.mem_map.mp hd
  simp [dep])

end L2

namespace L2
open PySem PySem.Spec PyProof.Rows
/-! ### texts -/
abbrev Str.cs (x : Str) : List Nat := x.cps.toList
def cutL {α : Type} (xs : List α) (lo hi : Option Int) : List α := (xs.drop (HT.sIx xs.length 0 lo)).take (HT.sIx xs.length xs.length hi - HT.sIx xs.length 0 lo)
theorem cutL_nat {α : Type} (xs : List α) {j k : Nat} (h : j ≤ k) : cutL xs (some (j : Int)) (some (k : Int)) = (xs.drop j).take (k - j) := by
  unfold cutL
  rw [HT.sIx_nat, HT.sIx_nat]
  apply List.ext_getElem?
  intro i
  rw [List.getElem?_take, List.getElem?_take, List.getElem?_drop, List.getElem?_drop]
  by_cases h1 : i < k - j
  · rw [if_pos h1]
    by_cases h2 : j + i < xs.length
    · rw [if_pos (by omega)]
      congr 1
      omega
    · rw [if_neg (by omega), List.getElem?_eq_none (by omega)]
  · rw [if_neg h1, if_neg (by omega)]
theorem strIdx_gen (lo hi : Option Int) (n : Nat) : Builtin.Str.strSliceIndices lo hi 1 n = Builtin.Str.strSliceIndices (some ((HT.sIx n 0 lo : Nat) : Int)) (some ((HT.sIx n n hi : Nat) : Int)) 1 n := by
  have clipS : ∀ (v : Int) (d : Nat), max 0 (min (if v < 0 then v + (n : Int) else v) (n : Int)) = ((HT.sIx n d (some v) : Nat) : Int) := fun v d => by
    show max 0 (min (if v < 0 then v + (n : Int) else v) (n : Int)) = (((if v < 0 then (v + (n : Int)).toNat else min v.toNat n) : Nat) : Int)
    by_cases hv : v < 0
    · simp only [if_pos hv]; omega
    · simp only [if_neg hv]; omega
  have clipN : ∀ k : Nat, k ≤ n → max 0 (min (if (k : Int) < 0 then (k : Int) + (n : Int) else (k : Int)) (n : Int)) = (k : Int) := fun k hk => by
    rw [if_neg (by omega)]; omega
  have h1 : (1 : Int) > 0 := by omega
  have l1 := HT.sIx_le n 0 (Nat.zero_le _) lo
  have l2 := HT.sIx_le n n (Nat.le_refl _) hi
  unfold Builtin.Str.strSliceIndices
  simp only [h1, if_true]
  rw [clipN _ l1, clipN _ l2]
  cases lo with
  | none =>
    cases hi with
    | none => rfl
    | some u => dsimp only; rw [clipS u n]; rfl
  | some v =>
    cases hi with
    | none => dsimp only; rw [clipS v 0]; rfl
    | some u => dsimp only; rw [clipS v 0, clipS u n]
theorem sliceText_gen (x : Str) (lo hi : Option Int) : StrLaws.sliceText x lo hi = ⟨(cutL x.cps.toList lo hi).toArray⟩ := by
  have hn : x.cps.toList.length = x.length := by simp [Str.length]
  unfold cutL
  rw [hn]
  have l1 := HT.sIx_le x.length 0 (Nat.zero_le _) lo
  have l2 := HT.sIx_le x.length x.length (Nat.le_refl _) hi
  have e : StrLaws.sliceText x lo hi = StrLaws.sliceText x (some ((HT.sIx x.length 0 lo : Nat) : Int)) (some ((HT.sIx x.length x.length hi : Nat) : Int)) := by
    unfold StrLaws.sliceText
    rw [strIdx_gen]
  rw [e]
  generalize HT.sIx x.length 0 lo = a at *
  generalize HT.sIx x.length x.length hi = b at *
  by_cases hab : a ≤ b
  · exact StrLaws.sliceText_nat x hab l2
  · have e0 : b - a = 0 := by omega
    rw [e0, List.take_zero]
    have ei : Builtin.Str.strSliceIndices (some (a : Int)) (some (b : Int)) 1 x.length = [] := by
      unfold Builtin.Str.strSliceIndices
      simp only [show (1 : Int) > 0 by omega, if_true]
      rw [if_neg (by omega), if_neg (by omega)]
      have q1 : max 0 (min (a : Int) (x.length : Int)) = (a : Int) := by omega
      have q2 : max 0 (min (b : Int) (x.length : Int)) = (b : Int) := by omega
      rw [q1, q2]
      unfold sliceRange
      simp only [show (1 : Int) > 0 by omega, if_true]
      rw [if_neg (by omega)]
      rfl
    unfold StrLaws.sliceText
    rw [ei]
    split
    · rename_i h
      have hl : x.length = 0 := by simp at h; omega
      apply Str.ext'
      have : x.cps = #[] := Array.eq_empty_of_size_eq_zero (by simpa [Str.length] using hl)
      rw [this]
    · rfl
section
variable {X : Cx}
def rSlS : V → Option Int → Option Int → Hp → VK → Prop := fun x lo hi H Q => ∃ z, x = .str z ∧ z.length ≤ sizeLine ∧ Q (.str ⟨(cutL z.cps.toList lo hi).toArray⟩) H
theorem sl_str : SlR X rSlS := by
  intro pins s σ H x v vl vu lo hi sl Q I rx hs pl pu h
  obtain ⟨z, rfl, hz, q⟩ := h
  obtain ⟨t, rfl⟩ := rx
  refine ⟨"str", _, F.slot_str_getitem.lookup, typeIs_str _ _ _, ?_⟩
  obtain ⟨o, ho, hc, hd⟩ := hs
  obtain ⟨l, hl, el⟩ : ∃ l : Option (Int × Tok), vl = partValue l ∧ l.map (·.1) = lo := by
    cases pl with
    | none => exact ⟨none, rfl, rfl⟩
    | int i t => exact ⟨some (i, t), rfl, rfl⟩
  obtain ⟨u, hu, eu⟩ : ∃ l : Option (Int × Tok), vu = partValue l ∧ l.map (·.1) = hi := by
    cases pu with
    | none => exact ⟨none, rfl, rfl⟩
    | int i t => exact ⟨some (i, t), rfl, rfl⟩
  subst hl hu el eu
  refine wpAny_getItem_str_slice (l := l) (u := u) (st := none) ⟨o, ho, hc, hd⟩ rfl ?_
  have e := sliceText_gen z (l.map (·.1)) (u.map (·.1))
  unfold sliceMade
  refine post_val_or_made (fun _ => ?_) fun t' k => ⟨.str ⟨(cutL z.cps.toList (l.map (·.1)) (u.map (·.1))).toArray⟩, H, I.tok _, ⟨t', ?_⟩, q⟩
  · rename_i hno
    have e2 : StrLaws.sliceText z (l.map (·.1)) (u.map (·.1)) = ⟨((slicePicked z l u none).filterMap (z.cps[·]?)).toArray⟩ := by
      unfold StrLaws.sliceText
      exact if_neg hno
    rw [← e2, e]
    show (cutL z.cps.toList (l.map (·.1)) (u.map (·.1))).toArray.size ≤ sizeLine
    rw [List.size_toArray]
    unfold cutL
    rw [List.length_take, List.length_drop]
    have : z.cps.toList.length = z.length := by simp [Str.length]
    omega
  · rw [← e]
    rfl
/-- x <= y of texts -/
theorem op_le_str : OpR X (compareOp .LtE) (fun x y H Q => ∃ i j, x = .str i ∧ y = .str j ∧ Q (.bl (!decide (j.cps.toList < i.cps.toList))) H) := by
  intro pins s σ H x y v u Q I rx ry h
  obtain ⟨i, j, rfl, rfl, q⟩ := h
  obtain ⟨t, rfl⟩ := rx
  obtain ⟨t', rfl⟩ := ry
  exact PySem.P.le_str ⟨.bl _, H, I, rfl, q⟩
def rLower : V → List V → Hp → VK → Prop := fun x vs H Q => ∃ z, x = .str z ∧ vs = [] ∧ z.length ≤ 1000000 ∧ (∀ c ∈ z.cps.toList, c < 128) ∧ Q (.str ⟨z.cps.map lo1⟩) H
theorem mt_lower : MtM X "str.lower" rLower := by
  intro pins s σ H x vs v us Q I rx rv h
  obtain ⟨z, rfl, rfl, hz, hA, q⟩ := h
  obtain ⟨t, rfl⟩ := rx
  cases rv
  have e := lower_ascii hA
  have hl : (Txt.lower z).length = z.length := by rw [e]; simp [Str.length]
  have hfit : Builtin.Str.tooLong (Txt.lower z).length = false := by
    rw [hl]
    unfold Builtin.Str.tooLong
    have := sizeLine_eq
    exact decide_eq_false (by omega)
  refine call_gives F.slot_str_lower (typeIs_str _ _ _) F.entry_str_lower (F.args_str_lower_1 _) (gives_str_lower z t hfit) ⟨?_, ⟨.str ⟨z.cps.map lo1⟩, H, I.tok _, ⟨_, by rw [← e]; rfl⟩, q⟩⟩
  exact fit_le hfit
/-- x.index(y), y one sign that is there -/
def rIndex : V → List V → Hp → VK → Prop := fun x vs H Q => ∃ z c, x = .str z ∧ vs = [.str ⟨#[c]⟩] ∧ c ∈ z.cps.toList ∧ Q (.int (Txt.find z ⟨#[c]⟩)) H
theorem mt_index (hc : X.calm = true) : MtM X "str.index" rIndex := by
  intro pins s σ H x vs v us Q I rx rv h
  obtain ⟨z, c, rfl, rfl, hm, q⟩ := h
  obtain ⟨t, rfl⟩ := rx
  obtain ⟨u, rfl, t', rfl⟩ := rv.one
  have hf := StrLaws.found_one z c
  rw [decide_eq_true hm] at hf
  have hne : (Builtin.Str.occurrences z ⟨#[c]⟩ 0 z.length 1).isEmpty = false := by
    cases e : (Builtin.Str.occurrences z ⟨#[c]⟩ 0 z.length 1).isEmpty with
    | false => rfl
    | true => rw [e] at hf; cases hf
  refine index_or (I.ok.hd hc) (fun _ h => ?_) fun _ _ => ⟨.int _, H, I.tok _, ⟨_, rfl⟩, q⟩
  rw [hne] at h
  cases h
/-- isinstance(x, T) -/
theorem call_isi (K : PySem.W.Frag) (hK : X.K = K := by rfl) : CallR X (.builtin "isinstance") (fun xs H Q => ∃ x T t b, xs = [x, .ty T] ∧ TyOf K H x t ∧ PySem.W.kitOne K t (.type T) = some b ∧ Q (.bl b) H) := by
  subst hK
  intro pins s σ H xs us Q I r h
  obtain ⟨x, T, t, b, rfl, ty, e, q⟩ := h
  obtain ⟨u, v, rfl, ru, rv⟩ := vals2 r
  cases rv
  exact isinst_ok I ru ty e fun tk => ⟨.bl b, H, I.tok _, rfl, q⟩
/-- a list against the empty one -/
theorem op_eqE (K : PySem.W.Frag) {k : Nat} (hr : Room k X.A) (hK : X.K = K := by rfl) : OpR X (compareOp .Eq) (fun x y H Q => ∃ p xs q, x = .ref p ∧ y = .ref q ∧ SqL K H p xs ∧ SqL K H q [] ∧ Q (.bl xs.isEmpty) H) := by
  subst hK
  intro pins s σ H x y v u Q I rx ry h
  obtain ⟨p, xs, q, rfl, rfl, hp, hq, k⟩ := h
  cases rx; cases ry
  have hcl : X.A.units + 64 < cLine := hr.units
  obtain ⟨its, r, pl, hz⟩ := I.list hp
  obtain ⟨its', r', pl', hz'⟩ := I.list hq
  cases r'
  cases r with
  | nil => exact SeqAt.eq_listAt (e := fun _ => true) pl.isList pl'.isList rfl (by omega) (fun j h1 h2 => absurd h1 (by simp)) ⟨.bl true, H, I, rfl, k⟩
  | cons r0 rs => exact SeqAt.eq_list_lengthsAt pl.isList pl'.isList (by simp) (by omega) ⟨.bl false, H, I, rfl, k⟩
theorem op_neE (K : PySem.W.Frag) {k : Nat} (hr : Room k X.A) (hK : X.K = K := by rfl) : OpR X (compareOp .NotEq) (fun x y H Q => ∃ p xs q, x = .ref p ∧ y = .ref q ∧ SqL K H p xs ∧ SqL K H q [] ∧ Q (.bl (!xs.isEmpty)) H) := by
  subst hK
  intro pins s σ H x y v u Q I rx ry h
  obtain ⟨p, xs, q, rfl, rfl, hp, hq, k⟩ := h
  cases rx; cases ry
  have hcl : X.A.units + 64 < cLine := hr.units
  obtain ⟨its, r, pl, hz⟩ := I.list hp
  obtain ⟨its', r', pl', hz'⟩ := I.list hq
  cases r'
  cases r with
  | nil => exact SeqAt.RcNeAt.lists (A := X.A) (s := s) (e := fun _ => true) pl.isList pl'.isList rfl (by omega) (fun j h1 h2 => absurd h1 (by simp)) X.prog X.w X.xe _ ⟨.bl false, H, I, rfl, k⟩
  | cons r0 rs => exact SeqAt.RcNeAt.lists_lengths (A := X.A) (s := s) pl.isList pl'.isList (by simp) (by omega) X.prog X.w X.xe _ ⟨.bl true, H, I, rfl, k⟩
/-- // by a greater number -/
def CDivB (_ j : Int) : Prop := 0 < j ∧ j < 2 ^ 62
theorem op_fdivB : OpR X (binaryOp .FloorDiv) (rI CDivB fun i j => .int (i / j)) := opI fun i j _ _ _ _ _ hc q => by
  have h0 := hc.1
  have h1 := hc.2
  refine floordiv_int (by omega) ?_ (.inl (PyProof.noPylong_of_log2 ?_))
  · rw [Int.fdiv_eq_ediv_of_nonneg _ (by omega)]; exact q
  · have : j.natAbs < 2 ^ 62 := by omega
    have := (Nat.log2_lt (by omega)).mpr this
    omega
end

end L2

namespace L2
open PySem PySem.Spec PyProof.Rows

/-! ### strict data: every list and tuple is tracked -/
mutual
def DeepT (H : Hp) : DV → V → Prop
  | .non, v => v = .non
  | .bl b, v => v = .bl b
  | .int i, v => v = .int i
  | .str x, v => v = .str x
  | .lst ds, v => ∃ a xs, v = .ref a ∧ H a = some (.lst xs) ∧ DeepTs H ds xs
  | .tup ds, v => ∃ a xs, v = .ref a ∧ H a = some (.tup xs) ∧ DeepTs H ds xs
def DeepTs (H : Hp) : List DV → List V → Prop
  | [], xs => xs = []
  | d :: ds, xs => ∃ y ys, xs = y :: ys ∧ DeepT H d y ∧ DeepTs H ds ys
end
mutual
theorem DeepT.deep {K : PySem.W.Frag} {H : Hp} : ∀ (d : DV) (v : V), DeepT H d v → Deep K H d v
  | .non, v, h => by rw [DeepT] at h; rw [Deep]; exact h
  | .bl b, v, h => by rw [DeepT] at h; rw [Deep]; exact h
  | .int i, v, h => by rw [DeepT] at h; rw [Deep]; exact h
  | .str x, v, h => by rw [DeepT] at h; rw [Deep]; exact h
  | .lst ds, v, h => by rw [DeepT] at h; rw [Deep]; obtain ⟨a, xs, r, q, t⟩ := h; exact ⟨a, xs, r, SqL.of q, DeepTs.deep ds xs t⟩
  | .tup ds, v, h => by rw [DeepT] at h; rw [Deep]; obtain ⟨a, xs, r, q, t⟩ := h; exact ⟨a, xs, r, SqT.of q, DeepTs.deep ds xs t⟩
theorem DeepTs.deep {K : PySem.W.Frag} {H : Hp} : ∀ (ds : List DV) (xs : List V), DeepTs H ds xs → Deeps K H ds xs
  | [], xs, h => by rw [DeepTs] at h; rw [Deeps]; exact h
  | d :: ds, xs, h => by rw [DeepTs] at h; rw [Deeps]; obtain ⟨y, ys, r, q, t⟩ := h; exact ⟨y, ys, r, DeepT.deep d y q, DeepTs.deep ds ys t⟩
end
theorem DeepTs.length {H : Hp} : ∀ {ds : List DV} {xs : List V}, DeepTs H ds xs → xs.length = ds.length
  | [], xs, h => by rw [DeepTs] at h; subst h; rfl
  | d :: ds, xs, h => by rw [DeepTs] at h; obtain ⟨y, ys, rfl, _, h⟩ := h; rw [List.length_cons, List.length_cons, DeepTs.length h]
mutual
theorem DeepT.same {H H' : Hp} (e : Same H H') : ∀ (d : DV) (v : V), DeepT H d v → DeepT H' d v
  | .non, v, h => by rw [DeepT] at h ⊢; exact h
  | .bl b, v, h => by rw [DeepT] at h ⊢; exact h
  | .int i, v, h => by rw [DeepT] at h ⊢; exact h
  | .str x, v, h => by rw [DeepT] at h ⊢; exact h
  | .lst ds, v, h => by rw [DeepT] at h ⊢; obtain ⟨a, xs, r, q, t⟩ := h; exact ⟨a, xs, r, e _ _ q, DeepTs.same e ds xs t⟩
  | .tup ds, v, h => by rw [DeepT] at h ⊢; obtain ⟨a, xs, r, q, t⟩ := h; exact ⟨a, xs, r, e _ _ q, DeepTs.same e ds xs t⟩
theorem DeepTs.same {H H' : Hp} (e : Same H H') : ∀ (ds : List DV) (xs : List V), DeepTs H ds xs → DeepTs H' ds xs
  | [], xs, h => by rw [DeepTs] at h ⊢; exact h
  | d :: ds, xs, h => by rw [DeepTs] at h ⊢; obtain ⟨y, ys, r, q, t⟩ := h; exact ⟨y, ys, r, DeepT.same e d y q, DeepTs.same e ds ys t⟩
end
theorem DeepTs.get {H : Hp} : ∀ {ds : List DV} {xs : List V} {i : Nat} {x : V}, DeepTs H ds xs → xs[i]? = some x → ∃ d, ds[i]? = some d ∧ DeepT H d x
  | [], xs, i, x, h, e => by rw [DeepTs] at h; subst h; simp at e
  | d :: ds, xs, 0, x, h, e => by
    rw [DeepTs] at h; obtain ⟨y, ys, rfl, q, t⟩ := h
    simp at e; subst e; exact ⟨d, rfl, q⟩
  | d :: ds, xs, i + 1, x, h, e => by
    rw [DeepTs] at h; obtain ⟨y, ys, rfl, q, t⟩ := h
    obtain ⟨d', e1, e2⟩ := DeepTs.get (i := i) t (by simpa using e)
    exact ⟨d', by simpa using e1, e2⟩
theorem DeepTs.get' {H : Hp} {ds : List DV} {xs : List V} {i : Nat} {d : DV} (h : DeepTs H ds xs) (e : ds[i]? = some d) : ∃ x, xs[i]? = some x ∧ DeepT H d x := by
  have hl := h.length
  have hi : i < xs.length := by rw [hl]; exact (List.getElem?_eq_some_iff.mp e).1
  obtain ⟨d', e1, e2⟩ := h.get (List.getElem?_eq_getElem hi)
  rw [e] at e1; cases e1
  exact ⟨_, List.getElem?_eq_getElem hi, e2⟩
theorem DeepTs.app {H : Hp} : ∀ {ds es : List DV} {xs ys : List V}, DeepTs H ds xs → DeepTs H es ys → DeepTs H (ds ++ es) (xs ++ ys)
  | [], es, xs, ys, h, q => by rw [DeepTs] at h; subst h; exact q
  | d :: ds, es, xs, ys, h, q => by
    rw [DeepTs] at h; obtain ⟨y, zs, rfl, r, t⟩ := h
    show DeepTs H (d :: (ds ++ es)) _
    rw [DeepTs]
    exact ⟨y, zs ++ ys, rfl, r, DeepTs.app t q⟩
theorem DeepTs.one {H : Hp} {d : DV} {x : V} (h : DeepT H d x) : DeepTs H [d] [x] := by
  rw [DeepTs]; exact ⟨x, [], rfl, h, by rw [DeepTs]⟩
theorem DeepTs.nil {H : Hp} : DeepTs H [] [] := by rw [DeepTs]
theorem DeepTs.take {H : Hp} : ∀ {ds : List DV} {xs : List V} (n : Nat), DeepTs H ds xs → DeepTs H (ds.take n) (xs.take n)
  | ds, xs, 0, _ => by simp [DeepTs]
  | [], xs, n + 1, h => by rw [DeepTs] at h; subst h; simp [DeepTs]
  | d :: ds, xs, n + 1, h => by
    rw [DeepTs] at h; obtain ⟨y, zs, rfl, r, t⟩ := h
    rw [List.take_succ_cons, List.take_succ_cons, DeepTs]
    exact ⟨y, _, rfl, r, DeepTs.take n t⟩
theorem DeepTs.drop {H : Hp} : ∀ {ds : List DV} {xs : List V} (n : Nat), DeepTs H ds xs → DeepTs H (ds.drop n) (xs.drop n)
  | ds, xs, 0, h => by simpa using h
  | [], xs, n + 1, h => by rw [DeepTs] at h; subst h; simp [DeepTs]
  | d :: ds, xs, n + 1, h => by
    rw [DeepTs] at h; obtain ⟨y, zs, rfl, r, t⟩ := h
    rw [List.drop_succ_cons, List.drop_succ_cons]
    exact DeepTs.drop n t
theorem DeepTs.set {H : Hp} {d : DV} {x : V} (q : DeepT H d x) : ∀ {ds : List DV} {xs : List V} (n : Nat), DeepTs H ds xs → DeepTs H (ds.set n d) (xs.set n x)
  | [], xs, n, h => by rw [DeepTs] at h; subst h; simp [DeepTs]
  | e :: ds, xs, 0, h => by
    rw [DeepTs] at h; obtain ⟨y, zs, rfl, r, t⟩ := h
    rw [List.set_cons_zero, List.set_cons_zero, DeepTs]
    exact ⟨x, _, rfl, q, t⟩
  | e :: ds, xs, n + 1, h => by
    rw [DeepTs] at h; obtain ⟨y, zs, rfl, r, t⟩ := h
    rw [List.set_cons_succ, List.set_cons_succ, DeepTs]
    exact ⟨y, _, rfl, r, DeepTs.set q n t⟩
theorem DeepTs.ints {H : Hp} : ∀ (ns : List Int), DeepTs H (ns.map DV.int) (ns.map V.int)
  | [] => by simp [DeepTs]
  | n :: r => by
    rw [List.map_cons, List.map_cons, DeepTs]
    exact ⟨_, _, rfl, by rw [DeepT], DeepTs.ints r⟩

theorem whileW2 {c : TT} {tb : TS} {D : Ends} {σ : St} {H : Hp} (Pv : St → Hp → Prop) (μ : St → Hp → Nat) (h0 : Pv σ H)
    (hs : ∀ σ H, Pv σ H → c σ H fun b H1 => if b = true then ∃ N : St → Hp → Prop, (∀ σ' H', N σ' H' → ∃ m', m' < μ σ H ∧ m' = μ σ' H' ∧ Pv σ' H') ∧ tb { D with nx := N, ct := N, bk := D.nx } σ H1 else D.nx σ H1) : WhileW c tb D σ H :=
  ⟨fun m σ H => m = μ σ H ∧ Pv σ H, ⟨_, rfl, h0⟩, fun m σ H ⟨e, p⟩ => by subst e; exact hs σ H p⟩
theorem int_of_map {ns : List Int} {i : Nat} {x : V} (h : (ns.map V.int)[i]? = some x) : ∃ z, x = .int z ∧ ns[i]? = some z := by
  rw [List.getElem?_map] at h
  cases e : ns[i]? with
  | none => rw [e] at h; cases h
  | some z => rw [e] at h; exact ⟨z, (Option.some.inj h).symm, rfl⟩
theorem ixN_of {n : Nat} {k : Int} (h0 : 0 ≤ k) (h : k < n) : ixN n k = some k.toNat := by
  unfold ixN
  rw [if_pos h0, if_pos h]

end L2

namespace L2
open PySem PySem.Spec PyProof.Rows
/-! ### over the signs of a text -/
def Its (z : Str) : It := ⟨fun i _ => i < z.length, fun i H x H' => H' = H ∧ ∃ c, z.cps.toList[i]? = some c ∧ x = .str ⟨#[c]⟩, fun i _ => z.length ≤ i⟩
theorem turn_strA {P : Program} {w : World} {K : PySem.W.Frag} {tg : Expr} (it : Addr) (z : Str) (t : Tok) : Turn P w K tg (Its z) [it] it (fun i h => h.IsStrIter it "str_ascii_iterator" z t i) where
  mem := by simp
  obj := fun i h st b hb => by
    have e : b = it := by simpa using hb
    subst e
    obtain ⟨o, e, c, d⟩ := st
    exact ⟨o, e, fun v z => by rw [d] at z; cases z⟩
  keep := fun i h h' st k => let ⟨o, ho, r⟩ := st; ⟨o, k it (by simp) o ho, r⟩
  item := by
    intro X hP hw hK hc i pins s σ H E I hf st hg
    subst hP hw hK
    obtain ⟨f0, f1, f2, f3, f4, f5⟩ := hf it (by simp)
    have hi : i < z.cps.size := hg
    refine wpAny_pyNext_ascii_item st (c := z.cps[i]) (by simp [hi]) fun h' st' sb => ?_
    have I1 : Inv X pins σ H { s with heap := h', toks := s.toks + 1 } := I.turned (t' := s.toks + 1) (fun b o hb e => (sb.2 b hb).trans e) f0 f1 f3 f4 f5
    obtain ⟨o, e, c, d⟩ := id st'
    exact ⟨_, rfl, go_of (s := { s with heap := h', toks := s.toks + 1 }) e c d (by decide) ⟨.str ⟨#[z.cps[i]]⟩, H, I1, ⟨_, rfl⟩, ⟨rfl, z.cps[i], by simp [hi], rfl⟩, st', fun b hb => (hf b hb).1⟩⟩
  done := by
    intro X hP hw hK hc i pins s σ H E I hf st hg
    subst hP hw hK
    obtain ⟨f0, f1, f2, f3, f4, f5⟩ := hf it (by simp)
    have hi : z.cps.size ≤ i := hg
    exact wpAny_pyNext_ascii_end (I.ok.hd hc) st (by simp [hi]) fun h' eb => ⟨rfl, I.turned (t' := s.toks) (fun b o hb e => eb b o hb e) f0 f1 f3 f4 f5⟩
  self := fun _ _ _ _ _ st h => wpAny_pyIter_striter_ascii st h
theorem turn_strW {P : Program} {w : World} {K : PySem.W.Frag} {tg : Expr} (it : Addr) (z : Str) (t : Tok) : Turn P w K tg (Its z) [it] it (fun i h => h.IsStrIter it "str_iterator" z t i) where
  mem := by simp
  obj := fun i h st b hb => by
    have e : b = it := by simpa using hb
    subst e
    obtain ⟨o, e, c, d⟩ := st
    exact ⟨o, e, fun v z => by rw [d] at z; cases z⟩
  keep := fun i h h' st k => let ⟨o, ho, r⟩ := st; ⟨o, k it (by simp) o ho, r⟩
  item := by
    intro X hP hw hK hc i pins s σ H E I hf st hg
    subst hP hw hK
    obtain ⟨f0, f1, f2, f3, f4, f5⟩ := hf it (by simp)
    have hi : i < z.cps.size := hg
    refine wpAny_pyNext_wide_item st (c := z.cps[i]) (by simp [hi]) fun h' st' sb => ?_
    have I1 : Inv X pins σ H { s with heap := h', toks := s.toks + 1 } := I.turned (t' := s.toks + 1) (fun b o hb e => (sb.2 b hb).trans e) f0 f1 f3 f4 f5
    obtain ⟨o, e, c, d⟩ := id st'
    exact ⟨_, rfl, go_of (s := { s with heap := h', toks := s.toks + 1 }) e c d (by decide) ⟨.str ⟨#[z.cps[i]]⟩, H, I1, ⟨_, rfl⟩, ⟨rfl, z.cps[i], by simp [hi], rfl⟩, st', fun b hb => (hf b hb).1⟩⟩
  done := by
    intro X hP hw hK hc i pins s σ H E I hf st hg
    subst hP hw hK
    obtain ⟨f0, f1, f2, f3, f4, f5⟩ := hf it (by simp)
    have hi : z.cps.size ≤ i := hg
    exact wpAny_pyNext_wide_end (I.ok.hd hc) st (by simp [hi]) fun h' eb => ⟨rfl, I.turned (t' := s.toks) (fun b o hb e => eb b o hb e) f0 f1 f3 f4 f5⟩
  self := fun _ _ _ _ _ st h => wpAny_pyIter_striter_wide st h
def iStr (tl : TE) : TI := fun σ H R => tl σ H fun x H1 => ∃ z, x = .str z ∧ R (Its z) H1
theorem pi_str {X : Cx} {tg l : Expr} {tl : TE} (hl : PE X l tl) : PI X tg l (iStr tl) := by
  intro pins s σ H R I h
  refine thn (hl pins s σ H _ I h) fun v s1 ⟨x, H1, I1, r1, q1⟩ => ?_
  obtain ⟨z, e, q⟩ := q1
  subst e
  obtain ⟨t, rfl⟩ := r1
  have fp : ∀ b ∈ [s1.heap.objs.size], FpOk X pins H1 b := fun b hb => by
    have e : b = s1.heap.objs.size := by simpa using hb
    subst e
    exact I1.fpOk (Nat.le_refl _) (I1.hok.fresh (Nat.le_refl _))
  cases ha : z.cps.all (· < 128)
  · exact wpAny_pyIter_wide ha ⟨s1.heap.objs.size, [s1.heap.objs.size], _, _, H1, rfl, I1.kept (t' := s1.toks) fun b o e => Heap.get?_push_of_some _ e, turn_strW _ z t, ⟨_, Heap.get?_push_size _ rfl, rfl, rfl⟩, fp, q⟩
  · exact wpAny_pyIter_ascii ha ⟨s1.heap.objs.size, [s1.heap.objs.size], _, _, H1, rfl, I1.kept (t' := s1.toks) fun b o e => Heap.get?_push_of_some _ e, turn_strA _ z t, ⟨_, Heap.get?_push_size _ rfl, rfl, rfl⟩, fp, q⟩
section
variable {g : TG} {ti : TT} {te : TE} {Q : VK} {σ : St} {H : Hp} {pick : List (Option Nat)}
theorem compW_str {z : Str} (Pv : Nat → List V → St → Hp → Prop) (h0 : Pv 0 [] (pickS pick σ) H) (hl : ∀ i ys σ H, i ≤ z.length → Pv i ys σ H → ys.length ≤ sizeLine)
    (hs : ∀ i c ys σ H, z.cps.toList[i]? = some c → Pv i ys σ H → g (.str ⟨#[c]⟩) σ H fun σ3 H3 => ti σ3 H3 fun b H4 => if b = true then te σ3 H4 fun v H5 => Pv (i + 1) (ys ++ [v]) σ3 H5 else Pv (i + 1) ys σ3 H4)
    (hd : ∀ ys σ H, Pv z.length ys σ H → ∀ p, H p = none → Q (.ref p) (upd H p (.lst ys))) : CompW pick g ti te Q σ (Its z) H := by
  refine ⟨fun i m ys σ H => m = z.length - i ∧ i ≤ z.length ∧ Pv i ys σ H, ⟨z.length, by simp, Nat.zero_le _, h0⟩, ?_⟩
  rintro i m ys σ H ⟨rfl, hi, p⟩
  refine ⟨hl i ys σ H hi p, ?_⟩
  by_cases hlt : i < z.length
  · refine .inr ⟨hlt, Pv (i + 1), fun zs σ' H' p' => ⟨z.length - (i + 1), by omega, rfl, hlt, p'⟩, fun x H' y => ?_⟩
    obtain ⟨e, c, hc, y⟩ := y
    subst e y
    exact hs i c ys σ _ hc p
  · have e : i = z.length := by omega
    subst e
    exact .inl ⟨Nat.le_refl _, hd ys σ H p⟩
theorem forW_str {tb : TS} {D : Ends} {z : Str} (Pv : Nat → St → Hp → Prop) (h0 : Pv 0 σ H)
    (hs : ∀ i c σ H, z.cps.toList[i]? = some c → Pv i σ H → g (.str ⟨#[c]⟩) σ H fun σ2 H2 => tb { D with nx := Pv (i + 1), ct := Pv (i + 1), bk := D.nx } σ2 H2) (hd : ∀ σ H, Pv z.length σ H → D.nx σ H) : ForW g tb D σ (Its z) H := by
  refine ⟨fun i m σ H => m = z.length - i ∧ i ≤ z.length ∧ Pv i σ H, ⟨z.length, by simp, Nat.zero_le _, h0⟩, ?_⟩
  rintro i m σ H ⟨rfl, hi, p⟩
  by_cases hlt : i < z.length
  · refine .inr ⟨hlt, Pv (i + 1), fun σ' H' p' => ⟨z.length - (i + 1), by omega, rfl, hlt, p'⟩, fun x H' y => ?_⟩
    obtain ⟨e, c, hc, y⟩ := y
    subst e y
    exact hs i c σ _ hc p
  · have e : i = z.length := by omega
    subst e
    exact .inl ⟨Nat.le_refl _, hd σ H p⟩
end
section
variable {X : Cx}
theorem op_eqDK (K : PySem.W.Frag) {k : Nat} (hr : Room k X.A) (hK : X.K = K := by rfl) : OpR X (compareOp .Eq) (fun x y H Q => ∃ d ds, (d = .lst ds ∨ d = .tup ds) ∧ dep d ≤ 60 ∧ Deep K H d x ∧ Deep K H d y ∧ Q (.bl true) H) := by subst hK; exact op_eqD hr
end

end L2

namespace L2
open PySem PySem.Spec PyProof.Rows
/-! ### exceptions -/
/-- an exception at e: its class, its dict, the head of its traceback -/
def XObj (h : Heap) (e : Addr) (C : Value) (dx : Option Addr) (tb : Value) : Prop := ∃ (oe : Obj) (vs : Array Value), h.get? e = some oe ∧ oe.cls = C ∧ oe.dict = dx ∧ oe.data = .fields vs ∧ vs[1]? = some tb
/-- a traceback's entry whose flight says fl -/
def TbAt (h : Heap) (T : Addr) (fl : Value) : Prop := ∃ (o : Obj) (ts : Array Value), h.get? T = some o ∧ o.data = .fields ts ∧ ts[3]? = some fl
/-- no head, or an entry that is not in flight -/
def TbOk (h : Heap) (tb : Value) : Prop := tb = .none ∨ ∃ T, tb = .ref T ∧ TbAt h T .none
/-- but e, the head and the frames' slots all stays -/
def KeptX (fr : List Addr) (e : Addr) (tb : Value) (h h' : Heap) : Prop :=
  ∀ b o, h.get? b = some o → b ≠ e → tb ≠ .ref b → ∃ sl, h'.get? b = some { o with slots := sl } ∧ (b ∉ fr → sl = o.slots)
theorem KeptX.there {fr : List Addr} {e : Addr} {tb : Value} {h h' : Heap} (k : KeptX fr e tb h h') {b : Addr} {o : Obj} (q : h.get? b = some o) (n : b ≠ e) (n' : tb ≠ .ref b) (f : b ∉ fr) : h'.get? b = some o := by
  obtain ⟨sl, x, y⟩ := k b o q n n'
  rw [x, y f]
section
variable {M : Model} {A : Around} {E : Value → Shared → Prop} {s : Shared} {base : Heap} {env : Env} {outer : List Env} {L e : Addr} {C : Value} {dx : Option Addr} {tb : Value} {Q : Unit → Shared → Prop}
theorem entry_x {hadNext : Bool} {hdv : Value} (hfr : A.frames = some (env :: outer)) (hl : s.heap.FunFrames base (env :: outer)) (hf : env.frame = some L) (x : XObj s.heap e C dx tb)
    (q : ∀ h' T, s.heap.objs.size ≤ T → XObj h' e C dx (.ref T) → TbAt h' T (rawInt L) → KeptX (frs (env :: outer)) e .none s.heap h' → Q () { s with heap := h' }) :
    wpAny M A (do let a ← frameOf env; let pl ← entryPlaceOf L hadNext; let b ← EntryCells.newEntry hdv a .none (rawInt L) .none pl; setField (.ref e) 1 b) Q E s := by
  obtain ⟨oe, vs, he, hc, hd, hv, h1⟩ := x
  have h1s : 1 < vs.size := (Array.getElem?_eq_some_iff.mp h1).1
  refine wpAny_bind (wpAny_frameOf_fun hfr hl hf fun g1 so => wpAny_bind (wpAny_entryPlaceOf fun pl ip => ?_))
  obtain ⟨sz, oth, all⟩ := so
  obtain ⟨sle, he1⟩ := all e oe he
  unfold EntryCells.newEntry newFields
  refine wpAny_bind (wpAny_newObj_type ?_ (ip.sizeOk5 _ _ _ _ _))
  dsimp only
  have hlt : e < g1.objs.size := Heap.lt_size he1
  refine wpAny_setField (Heap.get?_push_of_some _ he1) (show ({ oe with slots := sle } : Obj).data = .fields vs from hv) h1s (q _ g1.objs.size (Nat.le_of_eq sz.symm) ?_ ?_ fun b o hb hbe _ => ?_)
  · refine ⟨_, _, Heap.get?_update_self _ (Heap.get?_push_of_some _ he1) (Obj.isFreed_of_fields (Obj.data_mapFields (show ({ oe with slots := sle } : Obj).data = .fields vs from hv) _)), ?_, ?_, Obj.data_mapFields (show ({ oe with slots := sle } : Obj).data = .fields vs from hv) _, by simp [h1s]⟩
    · rw [Obj.cls_mapFields]; exact hc
    · unfold Obj.mapFields
      rw [show ({ oe with slots := sle } : Obj).data = .fields vs from hv]
      exact hd
  · refine ⟨_, _, (Heap.get?_update_other _ _ (Nat.ne_of_lt hlt)).trans (Heap.get?_push_size _ rfl), rfl, ?_⟩
    first
      | (simp; done)
      | (rcases ip with rfl | ⟨_, _, _, _, _, _, _, rfl⟩ <;> simp)
  · obtain ⟨sl, k⟩ := all b o hb
    refine ⟨sl, (Heap.get?_update_other _ _ (Ne.symm hbe)).trans (Heap.get?_push_of_some _ k), fun nf => ?_⟩
    have k2 := (oth b nf).trans hb
    rw [k] at k2
    exact congrArg Obj.slots (Option.some.inj k2)
end
section
variable {M : Model} {A : Around} {E : Value → Shared → Prop} {s : Shared} {base : Heap} {env : Env} {outer : List Env} {L e : Addr} {C : Value} {dx : Option Addr} {tb : Value} {Q : Unit → Shared → Prop}
theorem upd_tb {h : Heap} {T : Addr} {o : Obj} {ts : Array Value} {v : Value} (hT : h.get? T = some o) (hd : o.data = .fields ts) (n : 3 < ts.size) : (∀ b, b ≠ T → (h.update T (Obj.mapFields (·.setIfInBounds 3 v))).get? b = h.get? b) ∧ TbAt (h.update T (Obj.mapFields (·.setIfInBounds 3 v))) T v :=
  ⟨fun b hb => Heap.get?_update_other _ _ (Ne.symm hb), _, _, Heap.get?_update_self _ hT (Obj.isFreed_of_fields (Obj.data_mapFields hd _)), Obj.data_mapFields hd _, by simp [n]⟩
/-- the exception is noted in the frame that runs -/
theorem note_x (hfr : A.frames = some (env :: outer)) (hl : s.heap.FunFrames base (env :: outer)) (hf : env.frame = some L) (x : XObj s.heap e C dx tb) (t : TbOk s.heap tb) (hte : tb ≠ .ref e)
    (q : ∀ h' T, s.heap.objs.size ≤ T → XObj h' e C dx (.ref T) → TbAt h' T (rawInt L) → KeptX (frs (env :: outer)) e tb s.heap h' → Q () { s with heap := h' }) : wpAny M A (noteFrame (.ref e) env) Q E s := by
  obtain ⟨oe, vs, he, hc, hd, hv, h1⟩ := id x
  unfold noteFrame
  simp only [hf]
  refine wpAny_bind (wpAny_field he hv h1 ?_)
  rcases t with rfl | ⟨T0, rfl, oT, ts, hT, hdT, h3⟩
  · rw [if_neg (by decide)]
    exact entry_x hfr hl hf x q
  · have n3 : 3 < ts.size := (Array.getElem?_eq_some_iff.mp h3).1
    have eT : e ≠ T0 := fun z => hte (by rw [z])
    rw [if_pos (by simp)]
    refine wpAny_bind (wpAny_field hT hdT h3 ?_)
    rw [if_neg (by simp [rawInt])]
    obtain ⟨oth, _⟩ := upd_tb (v := Value.none) hT hdT n3
    refine wpAny_bind (wpAny_setField hT hdT n3 (entry_x (base := base) hfr ?_ hf ⟨oe, vs, (oth e eT).trans he, hc, hd, hv, h1⟩ fun h' T hs xo tt k => ?_))
    · refine hl.of_keeps fun b o hb nf => ⟨o, (oth b fun z => ?_).trans hb, rfl⟩
      subst z
      rw [hT] at hb
      cases hb
      exact nf ts hdT
    · refine q h' T ?_ xo tt fun b o hb hbe hbt => k b o ((oth b fun z => hbt (by rw [z])).trans hb) hbe (by simp)
      have : (s.heap.update T0 (Obj.mapFields (·.setIfInBounds 3 Value.none))).objs.size = s.heap.objs.size := Heap.size_after_update ..
      rw [← this]
      exact hs
/-- its flight is over -/
theorem flight_x {T : Addr} {fl : Value} (x : XObj s.heap e C dx (.ref T)) (t : TbAt s.heap T fl) (hTe : T ≠ e)
    (q : ∀ h', XObj h' e C dx (.ref T) → TbAt h' T .none → h'.objs.size = s.heap.objs.size → (∀ b, b ≠ T → h'.get? b = s.heap.get? b) → Q () { s with heap := h' }) : wpAny M A (setFlight (.ref e) none) Q E s := by
  obtain ⟨oe, vs, he, hc, hd, hv, h1⟩ := x
  obtain ⟨oT, ts, hT, hdT, h3⟩ := t
  have n3 : 3 < ts.size := (Array.getElem?_eq_some_iff.mp h3).1
  obtain ⟨oth, tt⟩ := upd_tb (v := Value.none) hT hdT n3
  unfold setFlight
  refine wpAny_bind (wpAny_field he hv h1 ?_)
  rw [if_pos (by simp)]
  exact wpAny_setField hT hdT n3 (q _ ⟨oe, vs, (oth e (Ne.symm hTe)).trans he, hc, hd, hv, h1⟩ tt (Heap.size_after_update ..) oth)
/-- it leaves the frame -/
theorem leave_x (hfr : A.frames = some (env :: outer)) (hl : s.heap.FunFrames base (env :: outer)) (hf : env.frame = some L) (x : XObj s.heap e C dx tb) (t : TbOk s.heap tb) (hte : tb ≠ .ref e)
    (q : ∀ h' T, s.heap.objs.size ≤ T → XObj h' e C dx (.ref T) → TbAt h' T .none → KeptX (frs (env :: outer)) e tb s.heap h' → Q () { s with heap := h' }) : wpAny M A (leaving env (.ref e)) Q E s := by
  unfold leaving
  have elt : e < s.heap.objs.size := let ⟨_, _, he, _⟩ := x; Heap.lt_size he
  refine wpAny_bind (note_x hfr hl hf x t hte fun h' T hs xo tt k => ?_)
  refine flight_x (s := { s with heap := h' }) xo tt (Nat.ne_of_gt (Nat.lt_of_lt_of_le elt hs)) fun h2 xo2 tt2 sz oth => q h2 T hs xo2 tt2 fun b o hb hbe hbt => ?_
  obtain ⟨sl, k1, k2⟩ := k b o hb hbe hbt
  exact ⟨sl, (oth b (Nat.ne_of_lt (Nat.lt_of_lt_of_le (Heap.lt_size hb) hs))).trans k1, k2⟩
end
/-- an exception as a tracked thing: its class, its dict -/
def XP (e : Addr) (C : Value) (dx : Option Addr) (h : Heap) : Prop := ∃ (oe : Obj) (vs : Array Value), h.get? e = some oe ∧ oe.cls = C ∧ oe.dict = dx ∧ oe.data = .fields vs ∧ 1 < vs.size
def XO (e : Addr) (C : Value) (dx : Option Addr) : HO := .ext (XP e C dx)
theorem XObj.xp {h : Heap} {e : Addr} {C : Value} {dx : Option Addr} {tb : Value} (x : XObj h e C dx tb) : XP e C dx h :=
  let ⟨oe, vs, he, hc, hd, hv, h1⟩ := x; ⟨oe, vs, he, hc, hd, hv, (Array.getElem?_eq_some_iff.mp h1).1⟩
theorem XP.obj {P : Program} {w : World} {H : Hp} {h : Heap} {e : Addr} {C : Value} {dx : Option Addr} (x : XP e C dx h) : ObjOk P w H h e (XO e C dx) := by
  obtain ⟨oe, vs, he, r⟩ := id x
  refine ⟨x, ⟨oe, he⟩, fun h1 h2 y k => ?_⟩
  obtain ⟨o1, v1, g1, r1⟩ := y
  exact ⟨o1, v1, k o1 g1, r1⟩
theorem XO.at {P : Program} {w : World} {H : Hp} {h : Heap} {e : Addr} {C : Value} {dx : Option Addr} (k : HOk P w H h) (x : H e = some (XO e C dx)) : XP e C dx h := (k e _ x).1
/-- how an exception lies behind a call: it is tracked, its traceback's head is an entry of its own -/
def CXe (P : Program) (w : World) : CXT := fun outer H s E ev s' => ∃ (e : Addr) (C : Value) (dx : Option Addr) (T : Addr) (H' : Hp), ev = .ref e ∧ s'.os = s.os ∧ AllBare s'.gens ∧ Un (frs outer) [] H H' s.heap s'.heap ∧ HOk P w H' s'.heap ∧
  s.heap.objs.size ≤ e ∧ s.heap.objs.size ≤ T ∧ T ≠ e ∧ H' e = some (XO e C dx) ∧ H' T = none ∧ XObj s'.heap e C dx (.ref T) ∧ TbAt s'.heap T .none ∧ E ev none H'
section
variable {X : Cx} {pins : List (Addr × Obj)} {σ : St} {H : Hp} {s : Shared} {e : Addr} {C : Value} {dx : Option Addr} {tb : Value}
/-- all that is tracked but e stays through a noting -/
theorem KeptX.hok {h' : Heap} (I : Inv X pins σ H s) (k : KeptX (frs X.stack) e tb s.heap h') (he : H e = some (XO e C dx)) (hn : ∀ T, tb = .ref T → H T = none) (x : XP e C dx h') : HOk X.prog X.w H h' := fun b u q => by
  by_cases hb : b = e
  · subst hb
    rw [he] at q
    cases q
    exact x.obj
  · refine (I.hok b u q).stay (fun c v hc r => ?_) (fun _ z => z) fun _ _ z => z
    have hce : c ≠ e := by
      rcases hc with z | z
      · rw [z]; exact hb
      · intro z'; rw [z', he] at z; cases z
    have hc1 : ∃ w, H c = some w := by
      rcases hc with z | z
      · exact ⟨u, by rw [z]; exact q⟩
      · exact ⟨_, z⟩
    obtain ⟨w1, hw⟩ := hc1
    refine k.there r hce (fun z => ?_) fun z => ?_
    · rw [hn c z] at hw; cases hw
    · rw [I.stkFree c z] at hw; cases hw
theorem KeptX.un {h' : Heap} (k : KeptX (frs X.stack) e tb s.heap h') (I : Inv X pins σ H s) (he : H e = some (XO e C dx)) (hx : XP e C dx h') (hex : ∀ T, tb = .ref T → T ∈ X.ex ∨ X.s₀.heap.objs.size ≤ T) : Un X.fs X.ex X.H₀ H X.s₀.heap h' := by
  have ne : ∀ b o, s.heap.get? b = some o → H b = none → b ≠ e := fun b o _ n z => by rw [z, he] at n; cases n
  have nt : ∀ b o, X.s₀.heap.get? b = some o → b ∉ X.ex → tb ≠ .ref b := fun b o q hx z => by
    rcases hex b z with r | r
    · exact hx r
    · exact absurd (Nat.lt_of_lt_of_le (Heap.lt_size q) r) (Nat.lt_irrefl _)
  have nl : ∀ b o, X.s₀.heap.get? b = some o → b ≠ X.env.locals := fun b o q => Nat.ne_of_lt (Nat.lt_of_lt_of_le (Heap.lt_size q) I.ok.above)
  refine ⟨fun b o q n hb hxx => ?_, fun b o q n hb hxx => ?_, I.base.free, fun b o q hxx => ?_, I.base.tups, I.base.frzs, I.base.tbls⟩
  · have q1 := I.base.keep b o q n hb hxx
    have n1 := I.base.free b o q n hxx
    refine k.there q1 (ne b o q1 n1) (nt b o q hxx) fun z => ?_
    rcases List.mem_cons.mp (I.stkSub b z) with r | r
    · exact nl b o q r
    · exact hb r
  · obtain ⟨sl, q1⟩ := I.base.slot b o q n hb hxx
    have n1 := I.base.free b o q n hxx
    obtain ⟨sl2, q2, _⟩ := k b _ q1 (ne b _ q1 n1) (nt b o q hxx)
    exact ⟨sl2, q2⟩
  · obtain ⟨o1, q1⟩ := I.base.there b o q hxx
    by_cases hbe : b = e
    · obtain ⟨oe, _, g, _⟩ := hx
      exact ⟨oe, by rw [hbe]; exact g⟩
    · obtain ⟨sl2, q2, _⟩ := k b _ q1 hbe (nt b o q hxx)
      exact ⟨_, q2⟩
end
section
variable {P : Program} {w : World} {K : PySem.W.Frag} {mg : Str → Option Value} {base : Heap} {N : List Str} {qual : Str} {scope : Scope} {f : Addr} {cd : Value} {A : Around} {outer : List Env} {s : Shared} {H : Hp} {E : XK}
/-- an exception at hand leaves the def -/
theorem leave_cx {pins : List (Addr × Obj)} {σ : St} {H1 : Hp} {s1 : Shared} {e : Addr} {C : Value} {dx : Option Addr} {tb : Value} (I : Inv (cxOf (CXe P w) P w K mg base N qual scope f cd A outer s H E) pins σ H1 s1)
    (he : H1 e = some (XO e C dx)) (x : XObj s1.heap e C dx tb) (t : TbOk s1.heap tb) (hte : tb ≠ .ref e) (hn : ∀ T, tb = .ref T → H1 T = none ∧ s.heap.objs.size ≤ T) (hs : s.heap.objs.size ≤ e) (q : E (.ref e) none H1) :
    (cxOf (CXe P w) P w K mg base N qual scope f cd A outer s H E).xe (.ref e) s1 := by
  have elt : e < s1.heap.objs.size := let ⟨_, _, he, _⟩ := x; Heap.lt_size he
  refine leave_x (base := base) I.ok.frames I.stack rfl x t hte fun h' T hT xo tt k => ?_
  exact ⟨e, C, dx, T, H1, rfl, I.os, I.bare, KeptX.un k I he xo.xp fun T0 z => .inr (hn T0 z).2, KeptX.hok I k he (fun T0 z => (hn T0 z).1) xo.xp, hs, Nat.le_trans I.sz hT, Nat.ne_of_gt (Nat.lt_of_lt_of_le elt hT), he, I.hok.fresh hT, xo, tt, q⟩
/-- a callee's exception is handed on -/
theorem passX : Passes (CXe P w) (cxOf (CXe P w) P w K mg base N qual scope f cd A outer s H E) E := by
  intro pins σ H1 s1 ev s' I h
  obtain ⟨e, C, dx, T, H', rfl, os, bare, un, hok, l1, l2, te, he, hT, xo, tt, q⟩ := h
  obtain ⟨hh, g, d, t, os'⟩ := s'
  obtain rfl : os' = s1.os := os
  have J := I.call (h' := hh) (g' := g) (d' := d) (t' := t) (ch := []) un hok bare (fun b z => absurd z (by simp))
  refine leave_cx J he xo (.inr ⟨T, rfl, tt⟩) (fun z => te (Value.ref.inj z)) (fun T0 z => ?_) (Nat.le_trans I.sz l1) q
  obtain rfl : T = T0 := Value.ref.inj z
  exact ⟨hT, Nat.le_trans I.sz l2⟩
/-- THE RULE for a def that may raise -/
theorem Fun.okX {x : Str} {st : Stmt} {fd : FuncData} {ps : List Str} {k : Nat} {sp : Sp} (F : Fun K x qual st f fd) (S : FnScope N ps (defScope st)) (len : ∀ vs H Q E, sp vs H Q E → vs.length = ps.length)
    (hbody : ∀ (cdv : Value) (A : Around) (outer : List Env) (s : Shared) (H : Hp) (vs : List V) (Q : VK) (E : XK), Room k (A.deeper (envOfC qual (defScope st) s.heap.objs.size f cdv)) → sp vs H Q E →
      ∃ t, PSs (cxOf (CXe P w) P w K mg base N qual (defScope st) f cdv A outer s H E) (defBody st) t ∧ t { nx := fun _ H' => Q .non H', rt := Q } (start N vs) H) : FnOk P w K mg base (CXe P w) (k + 1) f fd ps sp := by
  obtain ⟨oc, od, kV, doc, pm, an, cdv, ct, osl, rfl, lk, hcd⟩ := F.ex
  exact fn_of lk hcd S len fun A outer s H vs Q E hr hsp => hbody cdv A outer s H vs Q E hr hsp
end

end L2

namespace L2
open PySem PySem.Spec PyProof.Rows
/-! ### own exception classes: made -/
abbrev bmV : List Value := [.type "ValueError", .type "Exception", .type "BaseException", .type "object"]
abbrev xTup (vs : List Value) : Obj := { cls := .type "tuple", data := .seq vs.toArray }
abbrev xNew (C t : Addr) : Obj := { cls := .ref C, data := .fields #[.ref t, .none, .none, .none, .bool false, .none] }
section
variable {prog : Program} {w : World} {A : Around} {E : Value → Shared → Prop} {h : Heap} {g : Array GenState} {d : Drawn} {t : Nat} {os : OsState} {K : PySem.W.Frag}
variable {nm qn : Str} {C N fI : Addr} {bs bm : List Value} {hdct : Bool} {sn : List Str} {sub : List Value} {ab : Bool} {col : Option Bool} {dd : Option Addr} {k0 k1 k2 k3 k5 : Option Value}
theorem typecall_x {rest : List Value} {Q : Fin → Shared → Prop} (X : K.In h) (hC : h.get? C = some (excClassObj nm qn C N bs bm hdct sn sub ab col dd k0 k1 k2 k3 k5 "ValueError.__new__")) (T : OwnTail h bmV bm)
    (hi : PySem.W.findIn K (.ref C) "__init__" = some (some (.ref fI))) (hf : PySem.W.isFn K (.ref fI) = true) (hrest : rest.length ≤ sizeLine)
    (q : wpAny (model prog w) A (call (.ref fI) (.ref (h.objs.size + 1) :: rest)) (fun r s' => r = .none ∧ Q (.done (.ret (.ref (h.objs.size + 1)))) s') E ⟨(h.push (xTup rest)).push (xNew C h.objs.size), g, d, t, os⟩) :
    wpAny (model prog w) A (Builtin.«type.__call__» ⟨.ref C :: rest, []⟩) Q E ⟨h, g, d, t, os⟩ := by
  have V := F.excBase_ValueError
  repeat (first
    | with_reducible refine wpAny_madeBy_exc hC ?_
    | with_reducible refine wpAny_loadPart_at hC ?_
    | wp_step)
  refine codeAny_call_builtin_code (Code.quiet_builtin _ V.quiet) (wpAny_check_new_subT V T hC (codeAny_exc_new_subT V T hC ?_ hrest))
  show wpAny _ _ _ _ _ _
  have kp : ∀ b o, h.get? b = some o → ((h.push (xTup rest)).push (xNew C h.objs.size)).get? b = some o := fun b o e => Heap.get?_push_of_some _ (Heap.get?_push_of_some _ e)
  have hx : ((h.push (xTup rest)).push (xNew C h.objs.size)).get? (h.objs.size + 1) = some (xNew C h.objs.size) := by heap_get
  have self : (Value.ref C :: bm).contains (.ref C) = true := by simp
  unfold isInstance
  repeat (first
    | with_reducible refine wpAny_loadPart_at hx ?_
    | (with_reducible refine wpAny_isSubtype_exc (kp _ _ hC) ?_; rw [self])
    | wp_step)
  show wpAny _ _ (typeLookup (.ref C) _) _ _ _
  refine PySem.W.looks_findIn X hi _ _ _ _ kp ?_
  dsimp only
  refine wpAny_holding (wpAny_bind (PySem.W.bind_fn X (.ref (h.objs.size + 1)) (beq_iff_eq.mp hf) _ _ _ _ kp (wpAny_bind (wpAny_mono q (fun r s' z => ?_) fun _ _ z => z))))
  obtain ⟨rfl, z⟩ := z
  wp_walk
  exact z
/-- C(..), the class's own __init__ -/
theorem call_x {rest : List Value} {Q : Value → Shared → Prop} (X : K.In h) (hC : h.get? C = some (excClassObj nm qn C N bs bm hdct sn sub ab col dd k0 k1 k2 k3 k5 "ValueError.__new__")) (T : OwnTail h bmV bm)
    (hi : PySem.W.findIn K (.ref C) "__init__" = some (some (.ref fI))) (hf : PySem.W.isFn K (.ref fI) = true) (hrest : rest.length ≤ sizeLine)
    (q : wpAny (model prog w) (A.under (.builtin "type.__call__" ⟨.ref C :: rest, []⟩)) (call (.ref fI) (.ref (h.objs.size + 1) :: rest)) (fun r s' => r = .none ∧ Q (.ref (h.objs.size + 1)) s') E ⟨(h.push (xTup rest)).push (xNew C h.objs.size), g, d, t, os⟩) :
    wpAny (model prog w) A (call (.ref C) rest) Q E ⟨h, g, d, t, os⟩ := by
  have hT : (⟨h, g, d, t, os⟩ : Shared).TypeIs (.ref C) "type" := ⟨_, hC, rfl⟩
  have look := tc_lookup
  have bnd := tc_bind (.ref C)
  refine wpAny_call (codeAny_of_tree ?_)
  show wpAny _ _ (callAny (.ref C) _) _ _ _
  repeat (any_goals (first
    | assumption
    | with_reducible refine wpAny_loadPart_at hC ?_
    | wp_step))
  refine ⟨rfl, codeAny_call_builtin_at (Code.quiet_builtin _ (by decide +kernel)) entry_typeCall (wpAny_check_type_call_sub hC (typecall_x X hC T hi hf hrest ?_))⟩
  exact q
end
section
open PySem.W Builtin Builtin.ObjectAttr
variable {prog : Program} {w : World} {A : Around} {E : Value → Shared → Prop} {s : Shared} {K : PySem.W.Frag} {C FE x : Addr} {o : Obj} {name : Str} {v : Value} {cd : ClassData} {vs : Array Value}
theorem saStep_x {tk : Tok} {R : Result → Shared → Prop} (X : K.In s.heap) (hcd : clsIn K C = some cd) (hm : cd.mro = .ref C :: .ref FE :: bmV) (hna : findIn K (.ref C) name = some none) (I : PySem.W.InstAt s.heap x o C none)
    (q : wpAny (model prog w) A.in1 (storeInOwnDict (.ref x) (.ref C) (.str name tk) name v false) (fun fin s' => match fin with | .done f => R (.ok f) s' | .again c' => c'.quiet = true ∧ codeAny (model prog w) A c' R s') (fun e s' => R (.error e) s') s) :
    codeAny (model prog w) A (.call (.builtin "object.__setattr__") ⟨[.ref x, .str name tk, v], []⟩) R s := by
  have V := PySem.F.store_ValueError
  have isO : Looks (model prog w) s.heap (isInstance (.ref x) (.type "object")) true := I.type.andThen (looks_mroIn X (by unfold mroIn; rw [hcd, Option.bind_some, hm]; rfl))
  have mro : Looks (model prog w) s.heap (mroOf (.ref C)) cd.mro := (looks_clsIn X hcd).andThen .now
  refine codeAny_call_builtin V.slot.plain V.entry (@check_slot (model prog w) _ _ s "object.__setattr__" "object" "__setattr__" (.ref x) [.str name tk, v] [] _ V.kind V.split isO (V.args _ _ _) ?_)
  rw [osa_eq, refuse_eq]
  refine wpAny_bind (wpAny_bind (I.type.here (wpAny_bind (mro.here ?_))))
  rw [hm, refuseLoop_ref, refuseLoop_ref, V.passes]
  exact wpAny_pure (wpAny_bind (I.type.here (wpAny_bind ((looks_findIn X hna).here (wpAny_bind (wpAny_pure q))))))
theorem store_x {Q : Unit → Shared → Prop} (X : K.In s.heap) (hcd : clsIn K C = some cd) (hm : cd.mro = .ref C :: .ref FE :: bmV) (hdc : cd.hasDict = true) (hna : findIn K (.ref C) name = some none)
    (hsa : findIn K (.ref C) "__setattr__" = some (some (.builtin "object.__setattr__"))) (hx : s.heap.get? x = some o) (hc : o.cls = .ref C) (hd : o.dict = none) (hv : o.data = .fields vs)
    (q : ∀ h' tk, h'.get? x = some { o with dict := some s.heap.objs.size } → h'.Ns1 s.heap.objs.size (fun y => if y = name then some v else none) → (∀ b ob, b ≠ x → s.heap.get? b = some ob → h'.get? b = some ob) → Q () { s with heap := h', toks := tk }) :
    wpAny (model prog w) A (setAttr (.ref x) name v) Q E s := by
  have I : PySem.W.InstAt s.heap x o C none := ⟨hx, hc, by obtain ⟨_, _, dt, _⟩ := o; obtain rfl : dt = _ := hv; rfl, by rw [hd]; trivial⟩
  have V := PySem.F.store_ValueError
  unfold setAttr callSpecial? specialOf
  refine wpAny_bind (wpAny_mkText (wpAny_bind (wpAny_bind (wpAny_bind (I.type _ _ _ _ (fun _ _ z => z) (looks_findIn X hsa _ _ _ _ (fun _ _ z => z) ?_))))))
  dsimp only
  refine wpAny_holding (wpAny_bind (wpAny_of_eq (V.slot.bind _) ?_))
  dsimp only
  refine wpAny_bind (wpAny_call (saStep_x (s := { s with toks := s.toks + 1 }) X hcd hm hna I ?_))
  obtain ⟨oc, od, oda, osl⟩ := o
  dsimp only at hc hd hv
  subst hc hd hv
  refine wpAny_bind (wpAny_pure (wpAny_bind (wpAny_bind (wpAny_loadPart hx (wpAny_bind (looks_clsIn X hcd _ _ _ _ (fun _ _ z => z) ?_))))))
  rw [hdc]
  dsimp only
  rw [if_neg (by decide), if_neg (by simp [typeHasDict])]
  have xlt : x < s.heap.objs.size := Heap.lt_size hx
  have hx1 := Heap.get?_push_of_some (h := s.heap) { cls := .type "dict", data := .dict #[] } hx
  refine wpAny_bind (wpAny_alloc (wpAny_bind (wpAny_update hx1 (wpAny_pure ?_))))
  dsimp only
  have gd : ((s.heap.push { cls := .type "dict", data := .dict #[] }).update x fun o => { cls := o.cls, dict := some s.heap.objs.size, data := o.data, slots := o.slots }).get? s.heap.objs.size = some { cls := .type "dict", data := .dict #[] } :=
    (Heap.get?_update_other _ _ (Nat.ne_of_lt xlt)).trans (Heap.get?_push_size _ rfl)
  have nd : ((s.heap.push { cls := .type "dict", data := .dict #[] }).update x fun o => { cls := o.cls, dict := some s.heap.objs.size, data := o.data, slots := o.slots }).Ns s.heap.objs.size (fun _ => none) := ⟨_, #[], _, gd, rfl, fun _ z => absurd z (by simp), fun _ => rfl⟩
  unfold storeInDict newKeyGuard
  refine wpAny_bind (wpAny_pure (wpAny_bind (wpAny_nsSet1 (Heap.Ns1.of_empty nd) fun h2 n2 sb => ?_)))
  obtain ⟨oD, esD, epD, hoD, hdD, hcD⟩ := n2.count (Within.cons name v Within.nil)
  refine wpAny_bind (wpAny_lookBehind hoD (by rw [hdD]; exact pastItsLine_dict (Nat.le_trans hcD (by rw [sizeLine_eq]; simp))) (wpAny_pure (wpAny_pure (wpAny_pure (q h2 _ ?_ n2 fun b ob hbx hb => ?_)))))
  · refine (sb.2 x (Nat.ne_of_lt xlt)).trans (Heap.get?_update_self _ hx1 rfl)
  · exact (sb.2 b (Nat.ne_of_lt (Heap.lt_size hb))).trans ((Heap.get?_update_other _ _ (Ne.symm hbx)).trans (Heap.get?_push_of_some _ hb))
end
/-! ### self.f = e in an exception's own __init__ -/
/-- an exception that was not raised yet -/
def XPn (e : Addr) (C : Value) (dx : Option Addr) (h : Heap) : Prop := XObj h e C dx .none
def XN (e : Addr) (C : Value) (dx : Option Addr) : HO := .ext (XPn e C dx)
theorem XPn.obj {P : Program} {w : World} {H : Hp} {h : Heap} {e : Addr} {C : Value} {dx : Option Addr} (x : XPn e C dx h) : ObjOk P w H h e (XN e C dx) := by
  obtain ⟨oe, vs, he, r⟩ := id x
  refine ⟨x, ⟨oe, he⟩, fun h1 h2 y k => ?_⟩
  obtain ⟨o1, v1, g1, r1⟩ := y
  exact ⟨o1, v1, k o1 g1, r1⟩
theorem XN.at {P : Program} {w : World} {H : Hp} {h : Heap} {e : Addr} {C : Value} {dx : Option Addr} (k : HOk P w H h) (x : H e = some (XN e C dx)) : XObj h e C dx .none := (k e _ x).1
def strKeys (es : Array DictEntry) : Bool := es.toList.all fun e => match e.key with
  | .str _ _ => true
  | _ => false
/-- an own class C below FE below ValueError -/
structure XCls (K : PySem.W.Frag) (C FE : Addr) : Prop where
  ob : ∃ (nm qn : Str) (N : Addr) (bs : List Value) (sn : List Str) (sub : List Value) (ab : Bool) (col : Option Bool) (dd : Option Addr) (k0 k1 k2 k3 k5 : Option Value), K.lookup C = some (excClassObj nm qn C N bs (.ref FE :: bmV) true sn sub ab col dd k0 k1 k2 k3 k5 "ValueError.__new__")
  fe : ∃ (c0 : Value) (dd : Option Addr) (cd : ClassData) (sl : Array (Option Value)) (c1 : Value) (d1 : Option Addr) (es : Array DictEntry) (n : Nat) (sl1 : Array (Option Value)), K.lookup FE = some ⟨c0, dd, .cls cd, sl⟩ ∧ K.lookup cd.ns = some ⟨c1, d1, .dict es n, sl1⟩ ∧ strKeys es = true ∧ nsFind es "__init__" = none
  sa : PySem.W.findIn K (.ref C) "__setattr__" = some (some (.builtin "object.__setattr__"))
theorem XCls.cd {K : PySem.W.Frag} {C FE : Addr} (x : XCls K C FE) : ∃ cd, PySem.W.clsIn K C = some cd ∧ cd.mro = .ref C :: .ref FE :: bmV ∧ cd.hasDict = true := by
  obtain ⟨nm, qn, N, bs, sn, sub, ab, col, dd, k0, k1, k2, k3, k5, l⟩ := x.ob
  have q : PySem.W.clsIn K C = some { name := nm, bases := bs, mro := .ref C :: .ref FE :: bmV, ns := N, qualname := qn, hasDict := true, slotNames := sn, subclasses := sub, abstract := ab, collection := col, hasDel := false } := by
    unfold PySem.W.clsIn
    rw [l]
  exact ⟨_, q, rfl, rfl⟩
theorem XCls.tail {K : PySem.W.Frag} {C FE : Addr} {h : Heap} (x : XCls K C FE) (X : K.In h) : OwnTail h bmV (.ref FE :: bmV) := by
  obtain ⟨c0, dd, cd, sl, c1, d1, es, n, sl1, l1, l2, sk, ni⟩ := x.fe
  refine .own (X _ _ l1) ⟨_, es, n, X _ _ l2, rfl, fun e he => ?_, fun _ => rfl⟩ ni .base
  have z := List.all_eq_true.mp sk e (by simpa using he)
  cases ek : e.key with
  | str nm t => exact ⟨nm, t, rfl⟩
  | _ => rw [ek] at z; cases z
def tXfld (K : PySem.W.Frag) (f : Str) (ta tv : TE) : TS := fun D σ H => tv σ H fun y H1 => ta σ H1 fun x H2 => ∃ e C FE, x = .ref e ∧ H2 e = some (XN e (.ref C) none) ∧ XCls K C FE ∧ PySem.W.findIn K (.ref C) f = some none ∧
  ∀ dx, H2 dx = none → D.nx σ (upd (upd H2 e (XN e (.ref C) (some dx))) dx (.xd [(f, y)]))
theorem ps_xfld {X : Cx} {o value : Expr} {f : Str} {ta tv : TE} {pos pos' : Pos} (ha : PE X o ta) (hv : PE X value tv) (hs : swapsWith value (some (.Attribute o f pos')) pos.line X.env = pure false) : PS X (.Assign [.Attribute o f pos'] value pos) (tXfld X.K f ta tv) := by
  intro pins s σ H D I h
  refine plainObj_wpAny_Assign_Attribute (thn (hv pins s σ H _ I h) fun u s1 ⟨y, H1, I1, ry, q⟩ => thn (ha pins s1 σ H1 _ I1 q) fun ov s2 ⟨x, H2, I2, rx, e, C, FE, ex, he, xc, hna, q2⟩ => ?_) hs
  subst ex
  obtain rfl : ov = Value.ref e := rx
  obtain ⟨oe, vs, g1, g2, g3, g4, g5⟩ := XN.at I2.hok he
  obtain ⟨cd, c1, c2, c3⟩ := xc.cd
  have fr : H2 s2.heap.objs.size = none := I2.hok.fresh (Nat.le_refl _)
  have elt : e < s2.heap.objs.size := Heap.lt_size g1
  refine store_x I2.kIn c1 c2 c3 hna xc.sa g1 g2 g3 g4 fun h' tk k1 k2 k3 => ⟨σ, _, ?_, q2 _ fr⟩
  have J : Inv X pins σ (upd H2 e (XN e (.ref C) (some s2.heap.objs.size))) { s2 with heap := h', toks := tk } :=
    I2.write (x := e) (e := e) (by rw [he]; trivial) (.inl rfl) (fun b ob hb z => k3 b ob hb z) ⟨_, k1⟩ (XPn.obj ⟨_, vs, k1, g2, rfl, g4, g5⟩)
  obtain ⟨a0, a1, a2, a3, a4, a5⟩ := I2.fpOk (H' := H2) (b := s2.heap.objs.size) (Nat.le_refl _) fr
  refine J.track (by rw [upd_ne (Nat.ne_of_gt elt)]; exact fr) a1 I2.sz a4 a5 ⟨_, k2, fun g => ?_⟩
  show RelO (List.lookup g [(f, y)]) (if g = f then some u else none)
  rw [List.lookup_cons]
  by_cases z : g = f
  · subst z
    simp
    exact ry
  · rw [if_neg z, show (g == f) = false by simpa using z]
    trivial

/-! ### raise C(e) -/
theorem raise_x {M : Model} {A : Around} {E : Value → Shared → Prop} {s : Shared} {env : Env} {x : Sem Value} {Q : Flow → Shared → Prop} {nm qn : Str} {C N : Addr} {bs bm : List Value} {hdct : Bool} {sn : List Str} {sub : List Value} {ab : Bool} {col : Option Bool} {dd : Option Addr} {k0 k1 k2 k3 k5 : Option Value} {newId : String}
    (hb : bm.contains (.type "BaseException") = true) (hh : A.handled = none)
    (h : wpAny M A x (fun v s1 => ∃ (e : Addr) (oe : Obj) (vs : Array Value), v = .ref e ∧ s1.heap.get? C = some (excClassObj nm qn C N bs bm hdct sn sub ab col dd k0 k1 k2 k3 k5 newId) ∧ s1.heap.get? e = some oe ∧ oe.cls = .ref C ∧ oe.data = .fields vs ∧ vs[1]? = some .none ∧ E (.ref e) s1) E s) :
    wpAny M A (raiseStmt env (some x) none) Q E s := by
  have isB : (Value.ref C :: bm).contains (.type "BaseException") = true := by rw [List.contains_cons, hb, Bool.or_true]
  unfold raiseStmt
  refine wpAny_bind (wpAny_mono h (fun v s1 h1 => ?_) fun _ _ z => z)
  obtain ⟨e, oe, vs, rfl, hC, he, hc, hv, h0, hE⟩ := h1
  obtain ⟨hp, g, d, tk, os⟩ := s1
  obtain ⟨oc, od, oda, osl⟩ := oe
  dsimp only at hc hv
  subst hc hv
  repeat (first
    | with_reducible refine wpAny_loadPart_at he ?_
    | with_reducible refine wpAny_loadPart_at hC ?_
    | (with_reducible refine wpAny_isSubtype_exc hC ?_; rw [isB])
    | with_reducible refine wpAny_field he rfl h0 ?_
    | wp_step)
  exact wpAny_raiseNew_none hh hE

/-- what an exception's own __init__ promises that stores its one argument in f -/
def spXInit (K : PySem.W.Frag) (f : Str) : Sp := fun vs H Q _ => ∃ (e C FE : Addr) (y : V), vs = [.ref e, y] ∧ H e = some (XN e (.ref C) none) ∧ XCls K C FE ∧ PySem.W.findIn K (.ref C) f = some none ∧ ∀ dx, H dx = none → Q .non (upd (upd H e (XN e (.ref C) (some dx))) dx (.xd [(f, y)]))
def tRaise (C : Addr) (f : Str) (E : XK) (te : TA) : TS := fun _ σ H => te σ H fun vs H1 => ∃ y, vs = [y] ∧ ∀ e dx H', Same H1 H' → H1 e = none → H1 dx = none → H' e = some (XO e (.ref C) (some dx)) → H' dx = some (.xd [(f, y)]) → E (.ref e) none H'
section
variable {P : Program} {w : World} {K : PySem.W.Frag} {mg : Str → Option Value} {base : Heap} {N : List Str} {qual : Str} {scope : Scope} {f0 : Addr} {cd : Value} {A : Around} {outer : List Env} {s0 : Shared} {H0 : Hp} {E : XK}
theorem ps_raiseI {x f : Str} {C FE fI : Addr} {fd : FuncData} {ps : List Str} {k : Nat} {e1 : Expr} {te : TA} {p cpos pos : Pos} (xc : XCls K C FE) (hi : PySem.W.findIn K (.ref C) "__init__" = some (some (.ref fI))) (hf : PySem.W.isFn K (.ref fI) = true) (hk : PySem.W.keepIn K (.ref C) = true)
    (hna : PySem.W.findIn K (.ref C) f = some none) (F : FnOk P w K mg base CX0 k fI fd ps (spXInit K f)) (hr : Room (k + 1) (cxOf (CXe P w) P w K mg base N qual scope f0 cd A outer s0 H0 E).A) (hb : Binds K fd ps []) (hg : Gl (cxOf (CXe P w) P w K mg base N qual scope f0 cd A outer s0 H0 E) x) (hm : mg x = some (.ref C))
    (ha : PA (cxOf (CXe P w) P w K mg base N qual scope f0 cd A outer s0 H0 E) [e1] te) (hdb : (x == ("__debug__" : Str)) = false := by decide) (he : starEach [e1] (cxOf (CXe P w) P w K mg base N qual scope f0 cd A outer s0 H0 E).env = [(false, eval e1 (cxOf (CXe P w) P w K mg base N qual scope f0 cd A outer s0 H0 E).env)] := by rfl) :
    PS (cxOf (CXe P w) P w K mg base N qual scope f0 cd A outer s0 H0 E) (.Raise (some (.Call (.Name x p) [e1] [] cpos)) none pos) (tRaise C f E te) := by
  intro pins s σ H D I h
  obtain ⟨nm, qn, Nn, bs, sn, sub, ab, col, dd, k0, k1, k2, k3, k5, l⟩ := xc.ob
  rw [arm_exec_Raise]
  refine wpAny_bind (wpAny_standAt (raise_x (C := C) (nm := nm) (qn := qn) (N := Nn) (bs := bs) (bm := .ref FE :: bmV) (hdct := true) (sn := sn) (sub := sub) (ab := ab) (col := col) (dd := dd) (k0 := k0) (k1 := k1) (k2 := k2) (k3 := k3) (k5 := k5) (newId := "ValueError.__new__") rfl (I.ok.hd rfl) ?_))
  refine wpAny_bind (wpAny_mono (wpAny_Call_Name_kw (ld_glob I hg hm ?_ hdb)) (fun v s' z => wpAny_bind (wpAny_standAt (wpAny_pure z))) fun _ _ z => z)
  refine PySem.W.callWith_K (h₀ := base) I.ok.mod.kin hk (thn (ha cpos pins s σ H _ I h) fun us s1 ⟨vs, H1, I1, r, q⟩ => ⟨I1.kIn, ?_⟩) he rfl
  obtain ⟨y, rfl, q⟩ := q
  obtain ⟨u, rfl, ry⟩ := vals1 r
  have fr : H1 (s1.heap.objs.size + 1) = none := I1.hok.fresh (Nat.le_succ _)
  have gx : ((s1.heap.push (xTup [u])).push (xNew C s1.heap.objs.size)).get? (s1.heap.objs.size + 1) = some (xNew C s1.heap.objs.size) := by heap_get
  have Ja := I1.kept (h' := s1.heap.push (xTup [u])) (t' := s1.toks) fun b o z => Heap.get?_push_of_some _ z
  have xn : XPn (s1.heap.objs.size + 1) (.ref C) none ((s1.heap.push (xTup [u])).push (xNew C s1.heap.objs.size)) := ⟨_, _, gx, rfl, rfl, rfl, rfl⟩
  have J := Ja.laid (a := s1.heap.objs.size + 1) (o := XN (s1.heap.objs.size + 1) (.ref C) none) (h' := (s1.heap.push (xTup [u])).push (xNew C s1.heap.objs.size)) (t' := s1.toks) (fun b o z => Heap.get?_push_of_some _ z) (Nat.le_of_eq (Heap.size_push _ _)) xn.obj
  refine call_x (h := s1.heap) (g := s1.gens) (d := s1.drawn) (t := s1.toks) (os := s1.os) I1.kIn (I1.kIn _ _ l) (xc.tail I1.kIn) hi hf (by show 1 ≤ sizeLine; decide) ?_
  have sp : spXInit K f [.ref (s1.heap.objs.size + 1), y] (upd H1 (s1.heap.objs.size + 1) (XN (s1.heap.objs.size + 1) (.ref C) none))
      (fun v H2 => v = .non ∧ ∃ dx, (upd H1 (s1.heap.objs.size + 1) (XN (s1.heap.objs.size + 1) (.ref C) none)) dx = none ∧ H2 = upd (upd (upd H1 (s1.heap.objs.size + 1) (XN (s1.heap.objs.size + 1) (.ref C) none)) (s1.heap.objs.size + 1) (XN (s1.heap.objs.size + 1) (.ref C) (some dx))) dx (.xd [(f, y)])) E0 :=
    ⟨_, C, FE, y, rfl, upd_same, xc, hna, fun dx hd => ⟨rfl, dx, hd, rfl⟩⟩
  have rv : Vals [V.ref (s1.heap.objs.size + 1), y] [Value.ref (s1.heap.objs.size + 1), u] := .cons rfl (.cons ry .nil)
  have hl : ([Value.ref (s1.heap.objs.size + 1), u] ++ ([] : List Value)).length = ps.length := by
    have e := F.len _ _ _ _ sp
    rw [← e]
    rfl
  refine wpAny_call (codeAny_mono (F.run _ _ _ _ ⟨[Value.ref (s1.heap.objs.size + 1), u], []⟩ _ _ _ _ (hr.make C [u] []) (J.env0.make C [u] []) (hb _ [Value.ref (s1.heap.objs.size + 1), u] J.kIn hl) rv sp) fun r' s' hq => ?_)
  cases r' with
  | error e => exact False.elim hq
  | ok fl =>
    cases fl with
    | next => exact False.elim hq
    | brk => exact False.elim hq
    | cont => exact False.elim hq
    | ret u' =>
      obtain ⟨v, H', I3, rv', rfl, dx, hdx, rfl⟩ := J.after hq
      cases rv'
      have ned : dx ≠ s1.heap.objs.size + 1 := fun z => by rw [z, upd_same] at hdx; cases hdx
      have hd1 : H1 dx = none := by rw [upd_ne ned] at hdx; exact hdx
      have x2 := XN.at (C := .ref C) (dx := some dx) I3.hok (by rw [upd_ne (Ne.symm ned)]; exact upd_same)
      obtain ⟨oe, vs, h1, h2, h3, h4, h5⟩ := id x2
      have J4 : Inv _ pins σ (upd _ (s1.heap.objs.size + 1) (XO (s1.heap.objs.size + 1) (.ref C) (some dx))) s' :=
        I3.write (x := s1.heap.objs.size + 1) (e := s1.heap.objs.size + 1) (t' := s'.toks) (by rw [upd_ne (Ne.symm ned), upd_same]; trivial) (.inl rfl) (fun b ob _ z => z) ⟨_, h1⟩ (XP.obj x2.xp)
      refine ⟨rfl, _, oe, vs, rfl, I3.kIn _ _ l, h1, h2, h4, h5, leave_cx J4 upd_same x2 (.inl rfl) (by simp) (fun T z => by cases z) (Nat.le_trans I1.sz (Nat.le_succ _)) (q _ dx _ (fun b o z => ?_) fr hd1 upd_same (by rw [upd_ne ned]; exact upd_same))⟩
      have n1 := ne_of_none z fr
      rw [upd_ne n1, upd_ne (ne_of_none z hd1), upd_ne n1, upd_ne n1]
      exact z
end

end L2

namespace L2
open PySem PySem.Spec PyProof.Rows
/-! ### try .. except FE as n -/
structure XCatch (K : PySem.W.Frag) (FE : Addr) : Prop where
  lk : ∃ (dd : Option Addr) (cd : ClassData) (sl : Array (Option Value)), K.lookup FE = some ⟨.type "type", dd, .cls cd, sl⟩
  ba : PySem.W.mroIn K FE (.type "BaseException") = some true
theorem match_x {M : Model} {A : Around} {E : Value → Shared → Prop} {s : Shared} {K : PySem.W.Frag} {FE C e : Addr} {oe : Obj} {b : Bool} {Q : Bool → Shared → Prop} (X : K.In s.heap) (c : XCatch K FE) (hS : PySem.W.mroIn K C (.ref FE) = some b)
    (he : s.heap.get? e = some oe) (hc : oe.cls = .ref C) (q : Q b s) : wpAny M A (excMatches (.ref e) (.ref FE)) Q E s := by
  obtain ⟨dd, cd, sl, l⟩ := c.lk
  have hF := X _ _ l
  have f := tc_notTuple
  have g1 := PySem.W.looks_mroIn (M := M) X c.ba
  have g2 := PySem.W.looks_mroIn (M := M) X hS
  obtain ⟨hp, g, d, tk, os⟩ := s
  dsimp only at X hF he g1 g2
  have g1' : ∀ {A' : Around} {Q' : Bool → Shared → Prop} {E' : Value → Shared → Prop}, Q' true ⟨hp, g, d, tk, os⟩ → wpAny M A' (isSubtype (.ref FE) (.type "BaseException")) Q' E' ⟨hp, g, d, tk, os⟩ := fun z => g1 _ _ _ _ (fun _ _ z => z) z
  have g2' : ∀ {A' : Around} {Q' : Bool → Shared → Prop} {E' : Value → Shared → Prop}, Q' b ⟨hp, g, d, tk, os⟩ → wpAny M A' (isSubtype (.ref C) (.ref FE)) Q' E' ⟨hp, g, d, tk, os⟩ := fun z => g2 _ _ _ _ (fun _ _ z => z) z
  unfold excMatches isInstance isExcClass
  repeat (first
    | (with_reducible refine wpAny_loadPart_at he ?_; rw [hc])
    | with_reducible refine wpAny_loadPart_at hF ?_
    | with_reducible refine g1' ?_
    | with_reducible refine g2' ?_
    | wp_step)
  cases b with
  | true => wp_walk; exact q
  | false => wp_walk; exact q
/-- what is wanted of an exception within a try: W says it of the names, the exception, the heap -/
def xeT (X : Cx) (pins : List (Addr × Obj)) (W : St → Addr → Hp → Prop) (ev : Value) (s' : Shared) : Prop := ∃ (e : Addr) (C : Value) (dx : Option Addr) (T : Addr) (σ : St) (H' : Hp), ev = .ref e ∧ Inv X pins σ H' s' ∧ H' e = some (XO e C dx) ∧ T ≠ e ∧ FpOk X pins H' T ∧ XObj s'.heap e C dx (.ref T) ∧ TbAt s'.heap T .none ∧ W σ e H'
def Cx.tr (X : Cx) (pins : List (Addr × Obj)) (W : St → Addr → Hp → Prop) : Cx := { X with pn := X.pn ++ pins, xe := xeT X pins W }
def Cx.hn (X : Cx) (ev : Value) : Cx := { X with A := X.A.mark (some ev), calm := false, xe := fun _ _ => False }
section
variable {X : Cx} {pins pins' : List (Addr × Obj)} {σ : St} {H : Hp} {s : Shared} {W : St → Addr → Hp → Prop} {ev : Value}
theorem Inv.tr (I : Inv X pins σ H s) : Inv (X.tr pins W) [] σ H s :=
  ⟨⟨I.ok.mod, I.ok.kind, I.ok.glob, I.ok.blt, I.ok.above, I.ok.inj, I.ok.has, I.ok.cab, I.ok.hd, I.ok.frames, I.ok.stk, I.ok.exf, I.ok.bs, I.ok.bsz, I.ok.noex, I.ok.exfs, I.ok.funs, I.ok.frf⟩,
    I.os, I.bare, I.base, I.loc, I.cell, I.free, I.freeC, fun p hp => I.pin p (by rw [List.append_nil] at hp; exact hp), I.hok, I.len⟩
theorem Inv.untr (I : Inv (X.tr pins W) pins' σ H s) : Inv X pins σ H s :=
  ⟨⟨I.ok.mod, I.ok.kind, I.ok.glob, I.ok.blt, I.ok.above, I.ok.inj, I.ok.has, I.ok.cab, I.ok.hd, I.ok.frames, I.ok.stk, I.ok.exf, I.ok.bs, I.ok.bsz, I.ok.noex, I.ok.exfs, I.ok.funs, I.ok.frf⟩,
    I.os, I.bare, I.base, I.loc, I.cell, I.free, I.freeC, fun p hp => I.pin p (List.mem_append_left _ hp), I.hok, I.len⟩
theorem Inv.hn (I : Inv X pins σ H s) : Inv (X.hn ev) pins σ H s :=
  ⟨⟨I.ok.mod, I.ok.kind, I.ok.glob, I.ok.blt, I.ok.above, I.ok.inj, I.ok.has, I.ok.cab, fun z => (by cases z), I.ok.frames, I.ok.stk, I.ok.exf, I.ok.bs, I.ok.bsz, I.ok.noex, I.ok.exfs, I.ok.funs, I.ok.frf⟩,
    I.os, I.bare, I.base, I.loc, I.cell, I.free, I.freeC, I.pin, I.hok, I.len⟩
theorem Inv.unhn (hd : X.calm = true → X.A.handled = none) (I : Inv (X.hn ev) pins σ H s) : Inv X pins σ H s :=
  ⟨⟨I.ok.mod, I.ok.kind, I.ok.glob, I.ok.blt, I.ok.above, I.ok.inj, I.ok.has, I.ok.cab, hd, I.ok.frames, I.ok.stk, I.ok.exf, I.ok.bs, I.ok.bsz, I.ok.noex, I.ok.exfs, I.ok.funs, I.ok.frf⟩,
    I.os, I.bare, I.base, I.loc, I.cell, I.free, I.freeC, I.pin, I.hok, I.len⟩
end
/-- f(..) within a try -/
def tCallT (sp : Sp) (W : St → Addr → Hp → Prop) (t : TA) : TE := fun σ H Q => t σ H fun vs H1 => ∃ E : XK, sp vs H1 Q E ∧ ∀ e H', E (.ref e) none H' → W σ e H'
theorem pe_callT {X : Cx} {pins : List (Addr × Obj)} {W : St → Addr → Hp → Prop} {k : Nat} {f : Addr} {fd : FuncData} {ps : List Str} {sp : Sp} {x : Str} {p pos : Pos} {e : Expr} {es : List Expr} {t : TA} (F : FnOk X.prog X.w X.K X.mg X.base (CXe X.prog X.w) k f fd ps sp) (hr : Room k X.A) (hg : Gl X x)
    (hm : X.mg x = some (.ref f)) (hk : PySem.W.keepIn X.K (.ref f) = true) (hb : Binds X.K fd ps []) (ha : PA (X.tr pins W) (e :: es) t) (hdb : (x == ("__debug__" : Str)) = false := by decide)
    (he : starEach (e :: es) X.env = (false, eval e X.env) :: starEach es X.env := by rfl) (hpl : (backTo pos (starEach es X.env)).any (·.1) = false := by rfl) : PE (X.tr pins W) (.Call (.Name x p) (e :: es) [] pos) (tCallT sp W t) := by
  intro pins' s σ H Q I h
  refine wpAny_Call_Name_kw (ld_glob I hg hm ?_ hdb)
  refine PySem.W.callWith_K (h₀ := X.base) I.ok.mod.kin hk (thn (ha pos pins' s σ H _ I h) fun us s1 ⟨vs, H1, I1, r, q⟩ => ⟨I1.kIn, ?_⟩) he hpl
  obtain ⟨E, hsp, hW⟩ := q
  have hl : (us ++ ([] : List Value)).length = ps.length := by rw [List.append_nil, ← r.length]; exact F.len _ _ _ _ hsp
  have hb1 := hb s1 us I1.kIn hl
  rw [List.append_nil] at hb1
  refine wpAny_call (codeAny_mono (F.run X.A X.stack s1 H1 ⟨us, []⟩ us vs Q E hr I1.env0 hb1 r hsp) fun r' s' hq => ?_)
  cases r' with
  | error ev =>
    obtain ⟨e, C, dx, T, H', rfl, os, bare, un, hok, l1, l2, te, he, hT, xo, tt, qE⟩ := hq
    exact ⟨e, C, dx, T, σ, H', rfl, I1.untr.call' os un hok bare (fun b z => absurd z (by simp)), he, te, I1.untr.fpOk l2 hT, xo, tt, hW e H' qE⟩
  | ok fl =>
    cases fl with
    | ret u => exact I1.after hq
    | next => exact False.elim hq
    | brk => exact False.elim hq
    | cont => exact False.elim hq
section
variable {X : Cx} {pins : List (Addr × Obj)} {σ : St} {H : Hp} {s : Shared}
/-- a name of the frame has gone -/
theorem Inv.gone {i : Nat} {x : Str} {h' : Heap} {m : Str → Option Value} {v : Option Value} {tk : Nat} (I : Inv X pins σ H s) (hN : X.N.Nodup) (hi : X.N[i]? = some x) (hk : X.env.scope.names.lookup x = some .local) (hm : s.heap.Ns X.env.locals m)
    (hl : ∀ (j : Nat) (y : Str) (u : V), X.N[j]? = some y → σ[j]? = some (some u) → Vis X.env.scope y → ∃ z, RelV u z ∧ Look X.env s.heap m y z)
    (n' : h'.Ns X.env.locals (fun y => if y = x then v else m y)) (sb : Heap.SameBut X.env.locals s.heap h') : Inv X pins (σ.set i none) H { s with heap := h', toks := tk } := by
  have lt : ∀ b o, X.s₀.heap.get? b = some o → b ≠ X.env.locals := fun b o e => Nat.ne_of_lt (Nat.lt_of_lt_of_le (Heap.lt_size e) I.ok.above)
  obtain ⟨oL, _, _, hoL, _⟩ := id hm
  refine ⟨I.ok, I.os, I.bare, ⟨fun b o e n hb hx => (sb.2 b (lt b o e)).trans (I.base.keep b o e n hb hx), fun b o e n hb hx => ?_, I.base.free, fun b o e hx => ?_, I.base.tups, I.base.frzs, I.base.tbls⟩, ⟨_, n', fun j y u e1 e2 e3 => ?_⟩, fun y c e => ?_, I.free, I.freeC, fun p hp => ?_, fun b ob e => ?_, by simpa using I.len⟩
  · obtain ⟨sl, e1⟩ := I.base.slot b o e n hb hx
    exact ⟨sl, (sb.2 b (lt b o e)).trans e1⟩
  · obtain ⟨o', e1⟩ := I.base.there b o e hx
    exact ⟨o', (sb.2 b (lt b o e)).trans e1⟩
  · by_cases hj : j = i
    · subst hj
      rw [List.getElem?_set] at e2
      simp at e2
    · rw [List.getElem?_set_ne (Ne.symm hj)] at e2
      obtain ⟨z, r, q⟩ := hl j y u e1 e2 e3
      refine ⟨z, r, ?_⟩
      rcases q with ⟨k, e⟩ | ⟨k, c, e, w⟩
      · have ne : y ≠ x := fun e => hj (nodup_ix hN e1 (e ▸ hi))
        exact .inl ⟨k, by simp [ne, e]⟩
      · exact .inr ⟨k, c, e, w.sameBut sb (I.cne y c e)⟩
  · obtain ⟨w, z⟩ := I.cell y c e
    exact ⟨w, z.sameBut sb (I.cne y c e)⟩
  · obtain ⟨e, n, ne, nf, d⟩ := I.pin p hp
    exact ⟨(sb.2 p.1 ne).trans e, n, ne, nf, d⟩
  · refine (I.hok b ob e).stay (fun c w hc q => (sb.2 c ?_).trans q) (fun _ q => q) fun _ _ q => q
    intro z
    rcases hc with r | r
    · rw [← r, z, I.free] at e; cases e
    · rw [z, I.free] at r; cases r
/-- behind the suite: n = None; del n -/
theorem goes_x {M : Model} {A : Around} {E : Value → Shared → Prop} {i : Nat} {n : Str} {pos : Pos} {Q : Unit → Shared → Prop} (I : Inv X pins σ H s) (hN : X.N.Nodup) (hi : X.N[i]? = some n) (hk : X.env.scope.names.lookup n = some .local) (q : ∀ s', Inv X pins (σ.set i none) H s' → Q () s') :
    wpAny M A (do bindName X.env n .none; unbindBehindTheSuite X.env n pos) Q E s := by
  refine wpAny_bind (wpAny_bindName (store_ok (v := .non) (u := .none) I hN hi (.inl hk) rfl (fun s1 I1 => ?_) (.inr hk)))
  have hiσ : i < σ.length := by rw [I.len]; exact (List.getElem?_eq_some_iff.mp hi).1
  obtain ⟨m, hm, hl⟩ := id I1.loc
  obtain ⟨z, rz, lk⟩ := hl i n .non hi (List.getElem?_set_self hiσ) (.inl hk)
  have hmn : m n = some z := by
    rcases lk with ⟨_, e⟩ | ⟨k, _⟩
    · exact e
    · rcases k with k | k
      · rw [show X.env.kindOf n = some .local from hk] at k; cases k
      · rw [show X.env.kindOf n = some .local from hk] at k; cases k
  have hcls : (X.env.scope.kind == .class || (X.env.scope.kind == .module && X.env.locals != X.env.globals)) = false := by rw [I.ok.kind]; rfl
  unfold unbindBehindTheSuite
  refine wpAny_onRaise ?_
  unfold unbindName
  refine wpAny_bind (wpAny_point (wpAny_bind ?_))
  unfold deleteName
  simp only [show X.env.kindOf n = some .local from hk, hcls]
  rw [if_neg (by decide)]
  refine wpAny_bind (wpAny_nsDel_keeps hm fun h2 v n2 sb => ?_)
  rw [hmn]
  simp only [Option.isSome_some, Bool.not_true, Bool.false_eq_true, if_false]
  have K := I1.gone (tk := s1.toks) hN hi hk hm hl n2 sb
  rw [List.set_set] at K
  exact wpAny_pure (wpAny_point (q _ K))
end
def tTry (K : PySem.W.Frag) (FE : Addr) (i : Nat) (tb : (St → Addr → Hp → Prop) → TS) (th : TS) : TS := fun D σ H => ∃ W : St → Addr → Hp → Prop, tb W D σ H ∧ ∀ σ' e C dx H', W σ' e H' → H' e = some (XO e C dx) → ∃ Ca, C = .ref Ca ∧ PySem.W.mroIn K Ca (.ref FE) = some true ∧
  th { nx := fun σ2 H2 => D.nx (σ2.set i none) H2, rt := D.rt, bk := fun σ2 H2 => D.bk (σ2.set i none) H2, ct := fun σ2 H2 => D.ct (σ2.set i none) H2 } (σ'.set i (some (.ref e))) H'
/-- try: .. except FE as n: .. -/
theorem ps_tryAs {X : Cx} {body suite : List Stmt} {b0 : Stmt} {fe n : Str} {i : Nat} {FE : Addr} {tb : (St → Addr → Hp → Prop) → TS} {th : TS} {np hpos pos : Pos} (hstk : X.stack = X.env :: X.outer) (hfrm : X.env.frame = some X.env.locals)
    (hg : Gl X fe) (hm : X.mg fe = some (.ref FE)) (xc : XCatch X.K FE) (hN : X.N.Nodup) (hi : X.N[i]? = some n) (hk : X.env.scope.names.lookup n = some .local) (hb : ∀ pins W, PSs (X.tr pins W) body (tb W)) (hh : ∀ ev, PSs (X.hn ev) (b0 :: suite) th)
    (hdb : (fe == ("__debug__" : Str)) = false := by decide) : PS X (.Try body [.ExceptHandler (some (.Name fe np)) (some n) (b0 :: suite) hpos] [] [] pos) (tTry X.K FE i tb th) := by
  intro pins s σ H D I h
  obtain ⟨W, hW, hx⟩ := h
  refine wpAny_Try_except (wpAny_mono (hb pins W [] s σ H D I.tr hW) (fun f s1 z => ?_) fun ev s1 z => ?_)
  · cases f with
    | next =>
      obtain ⟨σ1, H1, I1, q⟩ := z
      exact wpAny_execs_nil ⟨σ1, H1, I1.untr, q⟩
    | brk =>
      obtain ⟨σ1, H1, I1, q⟩ := z
      exact ⟨σ1, H1, I1.untr, q⟩
    | cont =>
      obtain ⟨σ1, H1, I1, q⟩ := z
      exact ⟨σ1, H1, I1.untr, q⟩
    | ret u =>
      obtain ⟨v, σ1, H1, I1, rv, q⟩ := z
      exact ⟨v, σ1, H1, I1.untr, rv, q⟩
  · obtain ⟨e, C, dx, T, σ1, H1, rfl, J, he, te, fp, xo, tt, w1⟩ := z
    obtain ⟨f0, f1, f2, f3, f4, f5⟩ := fp
    obtain ⟨Ca, rfl, hmro, q⟩ := hx σ1 e C dx H1 w1 he
    have elt : e < s1.heap.objs.size := let ⟨_, _, z, _⟩ := xo; Heap.lt_size z
    have hst := J.stack
    rw [hstk] at hst
    refine note_x (base := X.base) (J.ok.frames.trans (congrArg some hstk)) hst hfrm xo (.inr ⟨T, rfl, tt⟩) (fun z => te (Value.ref.inj z)) fun h1 T1 hT1 xo1 tt1 k => ?_
    rw [← hstk] at k
    have un : Un (frs X.stack) [T] H1 H1 s1.heap h1 := by
      refine ⟨fun b o z n hb hx => ?_, fun b o z n hb hx => ?_, fun _ _ _ n _ => n, fun b o z hx => ?_, fun _ _ z => z, fun _ _ _ z => z, fun b ps z => ⟨#[], by rw [z]; simp⟩⟩
      · exact k.there z (fun z => by rw [z, he] at n; cases n) (fun z => hx (by simp [Value.ref.inj z])) hb
      · obtain ⟨sl, z1, _⟩ := k b o z (fun z => by rw [z, he] at n; cases n) (fun z => hx (by simp [Value.ref.inj z]))
        exact ⟨sl, z1⟩
      · by_cases hbe : b = e
        · obtain ⟨oe, _, z1, _⟩ := xo1
          exact ⟨oe, by rw [hbe]; exact z1⟩
        · obtain ⟨sl, z1, _⟩ := k b o z hbe (fun z => hx (by simp [Value.ref.inj z]))
          exact ⟨_, z1⟩
    have J1 : Inv X pins σ1 H1 { s1 with heap := h1 } := J.call (g' := s1.gens) (t' := s1.toks) (d' := s1.drawn) (ch := [T]) un (KeptX.hok J k he (fun T0 z => by obtain rfl : T = T0 := Value.ref.inj z; exact f0) xo1.xp) J.bare fun b hb => by
      obtain rfl : b = T := by simpa using hb
      exact ⟨f3, f1, f4, f5⟩
    obtain ⟨g0, g1, g2, g3, g4, g5⟩ := J.fpOk (H' := H1) hT1 (J.hok.fresh hT1)
    have neT : T1 ≠ e := Nat.ne_of_gt (Nat.lt_of_lt_of_le elt hT1)
    refine flight_x (s := { s1 with heap := h1 }) xo1 tt1 neT fun h2 xo2 tt2 sz2 oth2 => ?_
    have J2 : Inv X pins σ1 H1 { s1 with heap := h2 } := Inv.turned (s := { s1 with heap := h1 }) (h' := h2) (t' := s1.toks) (it := T1) J1 (fun b o hb z => (oth2 b hb).trans z) g0 g1 g3 g4 g5
    refine wpAny_handleBy_cons (codeAny_handlers_test ?_) (by intro z; cases z)
    refine ld_glob (X := X.hn (.ref e)) J2.hn hg hm ?_ hdb
    obtain ⟨oe, vs, z1, z2, _⟩ := id xo2
    refine match_x J2.kIn xc hmro z1 z2 ?_
    refine codeAny_handlers_suite_as ?_
    refine flight_x (s := { s1 with heap := h2 }) xo2 tt2 neT fun h3 xo3 tt3 sz3 oth3 => ?_
    have J3 : Inv X pins σ1 H1 { s1 with heap := h3 } := Inv.turned (s := { s1 with heap := h2 }) (h' := h3) (t' := s1.toks) (it := T1) J2 (fun b o hb z => (oth3 b hb).trans z) g0 g1 g3 g4 g5
    refine store_ok (v := .ref e) J3 hN hi (.inl hk) rfl (fun s4 J4 => ?_) (.inr hk)
    refine wpAny_mono (hh (.ref e) pins s4 _ H1 _ J4.hn q) (fun f s5 z => ?_) fun _ _ z => False.elim z
    cases f with
    | next =>
      obtain ⟨σ5, H5, I5, q5⟩ := z
      exact goes_x (I5.unhn J.ok.hd) hN hi hk fun s6 J6 => ⟨_, _, J6, q5⟩
    | brk =>
      obtain ⟨σ5, H5, I5, q5⟩ := z
      exact goes_x (I5.unhn J.ok.hd) hN hi hk fun s6 J6 => ⟨_, _, J6, q5⟩
    | cont =>
      obtain ⟨σ5, H5, I5, q5⟩ := z
      exact goes_x (I5.unhn J.ok.hd) hN hi hk fun s6 J6 => ⟨_, _, J6, q5⟩
    | ret u =>
      obtain ⟨v, σ5, H5, I5, rv, q5⟩ := z
      exact goes_x (I5.unhn J.ok.hd) hN hi hk fun s6 J6 => ⟨v, _, _, J6, rv, q5⟩

end L2

namespace L2
open PySem PySem.Spec PyProof.Rows
/-! ### attributes and kinds of exceptions -/
structure XAttr (K : PySem.W.Frag) (C : Addr) : Prop where
  ga : PySem.W.findIn K (.ref C) "__getattribute__" = some (some (.builtin "BaseException.__getattribute__"))
  hk : PySem.W.findIn K (.ref C) "__getattr__" = some none
  ba : PySem.W.mroIn K C (.type "BaseException") = some true
  ob : PySem.W.mroIn K C (.type "object") = some true
  hd : PySem.W.hasDictIn K C = true
  cl : PySem.W.findIn K (.ref C) "__class__" = some (some (.builtin "object.__class__"))
  cg : PySem.W.specialIn K (.builtin "object.__class__") "__get__" = some (some (.builtin "getset_descriptor.__get__"))
  ct : PySem.W.takesIn K (.builtin "object.__class__") = some true
section
open PySem.W Builtin Builtin.ObjectAttr
variable {prog : Program} {w : World} {A : Around} {E : Value → Shared → Prop} {s : Shared} {K : PySem.W.Frag} {C x : Addr} {ox : Obj} {od : Option Obj} {name : Str} {v : Value}
theorem ga_x {tk : Tok} {fill expr : Bool} {Q : Value → Shared → Prop} (X : K.In s.heap) (I : PySem.W.InstAt s.heap x ox C od) (c : XAttr K C) (hv : handedIn v = true)
    (ent : ∀ {A' : Around} {Q' : Fin → Shared → Prop} {E' : Value → Shared → Prop}, Q' (.done (.ret v)) s → wpAny (model prog w) A' (Builtin.«object.__getattribute__» ⟨[.ref x, .str name tk], []⟩) Q' E' s) (q : Q v s) :
    wpAny (model prog w) A (getAttrBy (.ref x) (.str name tk) fill expr) Q E s := by
  have V := F.attr_ValueError.ga
  have isB : Looks (model prog w) s.heap (isInstance (.ref x) (.type "BaseException")) true := I.type.andThen (looks_mroIn X c.ba)
  unfold getAttrBy
  refine wpAny_holding (wpAny_bind (I.type.here (wpAny_bind ((looks_findIn X c.ga).here ?_))))
  dsimp only
  have nga : (Value.builtin "BaseException.__getattribute__" == Value.builtin "object.__getattribute__") = false := by decide +kernel
  rw [if_neg (by rw [nga, Bool.and_false]; decide)]
  unfold getAttrByItsOwn hookBefore
  refine wpAny_bind (show wpAny _ _ (typeLookup (.ref C) _) _ _ _ from (looks_findIn X c.hk).here (wpAny_bind (wpAny_attempt (wpAny_holding ?_))))
  unfold callGetattribute boundAndCalled
  rw [if_neg (by cases expr <;> decide)]
  refine wpAny_bind (wpAny_of_eq (V.bind _) ?_)
  dsimp only
  refine wpAny_call (codeAny_call_builtin V.plain F.entry_bexc_ga (@check_slot (model prog w) _ _ s "BaseException.__getattribute__" "BaseException" "__getattribute__" (.ref x) [.str name tk] [] _ (by decide +kernel) (by decide +kernel) isB (F.args_bexc_ga _ _) (ent ?_)))
  exact handed_on hv q
theorem getattr_x {expr : Bool} {Q : Value → Shared → Prop} (X : K.In s.heap) (I : PySem.W.InstAt s.heap x ox C od) (c : XAttr K C) (hv : handedIn v = true) (hf : findObj K C od name = some (.value v)) (q : Q v { s with toks := s.toks + 1 }) :
    wpAny (model prog w) A (getAttr (.ref x) name expr) Q E s := by
  unfold getAttr
  refine wpAny_bind (wpAny_mkText (ga_x (s := { s with toks := s.toks + 1 }) X I c hv (fun z => ?_) q))
  exact wpAny_bind (wpAny_pure (wpAny_bind (wpAny_pure (wpAny_bind (I.type _ _ _ _ (fun _ _ z => z) (wpAny_bind (looks_find X I hf _ _ _ _ (fun _ _ z => z) (wpAny_pure z))))))))
theorem class_x {Q : Option Value → Shared → Prop} (X : K.In s.heap) (I : PySem.W.InstAt s.heap x ox C od) (c : XAttr K C) (hf : findObj K C od "__class__" = some (.bind (.builtin "getset_descriptor.__get__") (.builtin "object.__class__"))) (q : Q (some (.ref C)) { s with toks := s.toks + 1 }) :
    wpAny (model prog w) A (getAttr? (.ref x) "__class__") Q E s := by
  unfold getAttr? getAttrBy?
  refine wpAny_bind (wpAny_mkText (wpAny_bind (wpAny_attempt (ga_x (s := { s with toks := s.toks + 1 }) X I c rfl (fun z => ?_) (wpAny_pure q)))))
  refine wpAny_bind (wpAny_pure (wpAny_bind (wpAny_pure (wpAny_bind (I.type _ _ _ _ (fun _ _ z => z) (wpAny_bind (looks_find X I hf _ _ _ _ (fun _ _ z => z) ?_)))))))
  dsimp only
  unfold bindTo
  exact wpAny_bind (wpAny_holding (wpAny_call (class_get (s := { s with toks := s.toks + 1 }) X I c.ob (wpAny_pure z))))
theorem find_class_x (c : XAttr K C) : ∀ od : Option Obj, findObj K C od "__class__" = some (.bind (.builtin "getset_descriptor.__get__") (.builtin "object.__class__"))
  | some o => findObj_data (by have h := c.hd; unfold hasDictIn at h; cases q : clsIn K C with | none => rw [q] at h; cases h | some cd => rfl) c.cl c.cg c.ct
  | none => by
    have h := c.hd
    unfold hasDictIn at h
    cases q : clsIn K C with
    | none => rw [q] at h; cases h
    | some cd =>
      unfold findObj
      rw [q, c.cl]
      simp only [Option.bind_some, c.cg, c.ct]
theorem kitx_x {e : Addr} (c : XAttr K C) : KitX K (.ref e) (.ref C) (fun h => ∃ ox od, PySem.W.InstAt h e ox C od) where
  ty := fun _ _ _ z => let ⟨_, _, I⟩ := z; I.type
  it := fun _ _ X _ => by
    have h := c.hd
    unfold hasDictIn clsIn at h
    split at h
    · rename_i c' d' cd' sl' ho
      intro A' Q' E' s' k q
      unfold isType loadHead
      exact wpAny_bind (wpAny_loadPart (k _ _ (X _ _ ho)) (wpAny_pure q))
    · cases h
  ne := fun h tp dd its n sl X htp => by
    have hd := c.hd
    unfold hasDictIn clsIn at hd
    refine Bool.eq_false_iff.mpr fun q => ?_
    obtain rfl : C = tp := Value.ref.inj (beq_iff_eq.mp q)
    split at hd
    · rename_i ho
      have z := (X _ _ ho).symm.trans htp
      cases z
    · cases hd
  ca := fun X z k => by
    obtain ⟨ox, od, I⟩ := z
    exact class_x X I c (find_class_x c od) k
end
/-- an exception of H as an instance -/
theorem XO.inst {P : Program} {w : World} {H : Hp} {h : Heap} {e C : Addr} {dx : Option Addr} (k : HOk P w H h) (x : H e = some (XO e (.ref C) dx)) (d : ∀ a, dx = some a → ∃ fs, H a = some (.xd fs)) : ∃ ox od, PySem.W.InstAt h e ox C od := by
  obtain ⟨oe, vs, g1, g2, g3, g4, g5⟩ := XO.at k x
  have nc : PySem.W.notCls oe = true := by obtain ⟨_, _, dt, _⟩ := oe; obtain rfl : dt = _ := g4; rfl
  cases dx with
  | none => exact ⟨oe, none, ⟨g1, g2, nc, by rw [g3]; trivial⟩⟩
  | some a =>
    obtain ⟨fs, hfs⟩ := d a rfl
    obtain ⟨mA, ⟨o, es, ep, ho, _⟩, _⟩ := (show ObjOk P w H h a (.xd fs) from k a _ hfs)
    exact ⟨oe, some o, ⟨g1, g2, nc, by rw [g3]; exact ho⟩⟩
/-- None, or an exception -/
def TyX (K : PySem.W.Frag) (H : Hp) (x : V) (t : Value) : Prop := (x = .non ∧ t = .type "NoneType") ∨ ∃ e C dx, x = .ref e ∧ t = .ref C ∧ H e = some (XO e (.ref C) dx) ∧ (∀ a, dx = some a → ∃ fs, H a = some (.xd fs)) ∧ XAttr K C
section
variable {X : Cx}
theorem call_isiX (K : PySem.W.Frag) (hK : X.K = K := by rfl) : CallR X (.builtin "isinstance") (fun xs H Q => ∃ x c t b, xs = [x, c] ∧ TyX K H x t ∧ ((∃ a, c = .ref a ∧ PySem.W.kitOne K t (.ref a) = some b) ∨ ∃ T, c = .ty T ∧ PySem.W.kitOne K t (.type T) = some b) ∧ Q (.bl b) H) := by
  subst hK
  intro pins s σ H xs us Q I r h
  obtain ⟨x, c, t, b, rfl, ty, kc, q⟩ := h
  obtain ⟨u, v, rfl, ru, rv⟩ := vals2 r
  have fin : ∀ tk, EP X pins σ Q (.bool b) { s with toks := tk } := fun tk => ⟨.bl b, H, I.tok _, rfl, q⟩
  have go : PySem.W.kitOne X.K t v = some b → wpAny (model X.prog X.w) X.A (call (.builtin "isinstance") [u, v]) (EP X pins σ Q) X.xe s := fun kv => by
    rcases ty with ⟨rfl, rfl⟩ | ⟨e, C, dx, rfl, rfl, he, hd, xa⟩
    · exact isinst_ok I ru .non kv fin
    · cases ru
      exact PySem.W.kia_one (kitx_x xa) I.kIn (XO.inst I.hok he hd) kv (fun z => nomatch z) fin
  rcases kc with ⟨a, rfl, k⟩ | ⟨T, rfl, k⟩
  · cases rv
    exact go k
  · cases rv
    exact go k
theorem pe_gref {x : Str} {C : Addr} {pos : Pos} (hg : Gl X x) (hm : X.mg x = some (.ref C)) (hdb : (x == ("__debug__" : Str)) = false := by decide) : PE X (.Name x pos) (tC (.ref C)) := fun _ _ _ H _ I h => ld_glob I hg hm ⟨.ref C, H, I, rfl, h⟩ hdb
theorem pe_gint {x : Str} {i : Int} {t : Tok} {pos : Pos} (hg : Gl X x) (hm : X.mg x = some (.int i t)) (hdb : (x == ("__debug__" : Str)) = false := by decide) : PE X (.Name x pos) (tC (.int i)) := fun _ _ _ H _ I h => ld_glob I hg hm ⟨.int i, H, I, ⟨_, rfl⟩, h⟩ hdb
/-- e.f of an exception -/
def tXget (K : PySem.W.Frag) (f : Str) (ta : TE) : TE := fun σ H Q => ta σ H fun x H1 => ∃ e C dx fs v, x = .ref e ∧ H1 e = some (XO e (.ref C) (some dx)) ∧ H1 dx = some (.xd fs) ∧ XAttr K C ∧ PySem.W.findIn K (.ref C) f = some none ∧ fs.lookup f = some v ∧ Q v H1
theorem pe_xget {o : Expr} {f : Str} {ta : TE} {pos : Pos} (ha : PE X o ta) (hb : attributeBase o f X.env (eval o X.env) = eval o X.env) : PE X (.Attribute o f pos) (tXget X.K f ta) := by
  intro pins s σ H Q I h
  refine attr_of hb (thn (ha pins s σ H _ I h) fun u s1 ⟨x, H1, I1, rx, e, C, dx, fs, v, ex, he, hd, xa, hn, hl, q⟩ => ?_)
  subst ex
  obtain rfl : u = Value.ref e := rx
  obtain ⟨oe, vs, g1, g2, g3, g4, g5⟩ := XO.at I1.hok he
  obtain ⟨mA, hns, hr⟩ := (show ObjOk X.prog X.w H1 s1.heap dx (.xd fs) from I1.hok dx _ hd)
  have nc : PySem.W.notCls oe = true := by obtain ⟨_, _, dt, _⟩ := oe; obtain rfl : dt = _ := g4; rfl
  obtain ⟨z, hz, rz⟩ := RelO.some_of (v := v) (o := mA f) (by rw [← hl]; exact hr f)
  obtain ⟨o, es, ep, ho, hdd, r⟩ := id hns
  have Ii : PySem.W.InstAt s1.heap e oe C (some o) := ⟨g1, g2, nc, by rw [g3]; exact ho⟩
  refine getattr_x I1.kIn Ii xa (handed_of rz) ?_ ⟨v, H1, I1.tok _, rz, q⟩
  refine PySem.W.findObj_own xa.hd hn rfl ?_
  have q1 := (r.2.2 f).trans hz
  unfold nsFind findBy at q1
  rw [← Array.find?_toList] at q1
  unfold PySem.W.lookIn
  rw [hdd]
  cases hf : es.toList.find? (fun x => x.key.isStr f) with
  | none => rw [hf] at q1; cases q1
  | some en =>
    rw [hf] at q1
    dsimp only
    rw [hf]
    exact congrArg some q1
end

end L2

namespace L2
open PySem PySem.Spec PyProof.Rows
/-! ### upper, join, all -/
section
variable {X : Cx}
def rUpper : V → List V → Hp → VK → Prop := fun x vs H Q => ∃ z, x = .str z ∧ vs = [] ∧ z.length ≤ 1000000 ∧ (∀ c ∈ z.cps.toList, c < 128) ∧ Q (.str ⟨z.cps.map up1⟩) H
theorem mt_upper : MtM X "str.upper" rUpper := by
  intro pins s σ H x vs v us Q I rx rv h
  obtain ⟨z, rfl, rfl, hz, hA, q⟩ := h
  obtain ⟨t, rfl⟩ := rx
  cases rv
  have e := upper_ascii hA
  have hl : (Txt.upper z).length = z.length := by rw [e]; simp [Str.length]
  have hfit : Builtin.Str.tooLong (Txt.upper z).length = false := by
    rw [hl]
    unfold Builtin.Str.tooLong
    have := sizeLine_eq
    exact decide_eq_false (by omega)
  refine call_gives F.slot_str_upper (typeIs_str _ _ _) F.entry_str_upper (F.args_str_upper_1 _) (gives_str_upper z t hfit) ⟨?_, ⟨.str ⟨z.cps.map up1⟩, H, I.tok _, ⟨_, by rw [← e]; rfl⟩, q⟩⟩
  exact fit_le hfit
theorem carried_strs : ∀ {zs : List Str} {us : List Value}, Vals (zs.map V.str) us → CarriedAll us (zs.map PyData.str)
  | [], us, r => by cases r; exact .nil
  | z :: zs, us, r => by
    cases r with
    | cons r0 rs =>
      obtain ⟨t, rfl⟩ := r0
      exact .cons (.str _ t) (carried_strs rs)
/-- x.join(l), l a list of short texts -/
def rJoin (K : PySem.W.Frag) : V → List V → Hp → VK → Prop := fun x vs H Q => ∃ (z : Str) (p : Addr) (zs : List Str) (B : Nat), x = .str z ∧ vs = [.ref p] ∧ SqL K H p (zs.map V.str) ∧ (∀ y ∈ zs, y.length ≤ B) ∧ zs.length ≤ 1000 ∧ B + z.length ≤ 16 ∧ Q (.str (Txt.join z zs)) H
theorem mt_join (K : PySem.W.Frag) (hK : X.K = K := by rfl) : MtM X "str.join" (rJoin K) := by
  subst hK
  intro pins s σ H x vs v us Q I rx rv h
  obtain ⟨z, p, zs, B, rfl, rfl, hp, hB, hl, hs, q⟩ := h
  obtain ⟨t, rfl⟩ := rx
  obtain ⟨u, rfl, ru⟩ := vals1 rv
  cases ru
  obtain ⟨its, r, pl, hz⟩ := I.list hp
  refine PyProof.Rows.join_madeW (l := zs) (g := id) (items := its.toArray) B pl.isList (by simpa using carried_strs r) hB (by omega) hs fun t' k => ⟨.str (Txt.join z zs), H, I.tok _, ⟨t', by simp⟩, q⟩
theorem vals_bools : ∀ {bs : List Bool} {us : List Value} {i : Nat} {v : Value}, Vals (bs.map V.bl) us → us[i]? = some v → ∃ b, bs[i]? = some b ∧ v = .bool b
  | [], us, i, v, r, e => by cases r; simp at e
  | b :: bs, us, 0, v, r, e => by cases r with | cons r0 rs => simp at e; subst e; exact ⟨b, rfl, r0⟩
  | b :: bs, us, i + 1, v, r, e => by
    cases r with
    | cons r0 rs => obtain ⟨b', e1, e2⟩ := vals_bools (i := i) rs (by simpa using e); exact ⟨b', by simpa using e1, e2⟩
/-- all(l), l a list of truths -/
theorem call_all (K : PySem.W.Frag) (hc : X.calm = true) (hK : X.K = K := by rfl) : CallR X (.builtin "all") (fun xs H Q => ∃ (p : Addr) (bs : List Bool), xs = [.ref p] ∧ SqL K H p (bs.map V.bl) ∧ Q (.bl (bs.all id)) H) := by
  subst hK
  intro pins s σ H xs us Q I r h
  obtain ⟨p, bs, rfl, hp, q⟩ := h
  obtain ⟨u, rfl, ru⟩ := vals1 r
  cases ru
  obtain ⟨its, rv, pl, hz⟩ := I.list hp
  have lt : p < s.heap.objs.size := let ⟨o, ho, _⟩ := pl.isList; Heap.lt_size ho
  have ne : p ≠ s.heap.objs.size := Nat.ne_of_lt lt
  refine call_all_walk (wpAny_pyIter_list pl.isList ⟨_, _, _, _, _, _, fun i => bs.getD i true, rfl, Walks.list (A := X.A.in1) (I.ok.hd hc) _ p ne its.toArray, ⟨⟨_, Heap.get?_push_size _ rfl, rfl, rfl⟩, pl.isList.push _⟩, ?_, fun h' tk k => ?_⟩)
  · intro i v s' Q' E' hv hq
    obtain ⟨b, e1, rfl⟩ := vals_bools (i := i) rv (by simpa using hv)
    have e2 : bs.getD i true = b := by rw [List.getD_eq_getElem?_getD, e1]; rfl
    dsimp only at hq
    rw [e2] at hq
    exact wpAny_pure hq
  · have el : its.toArray.size = bs.length := by rw [List.size_toArray, ← rv.length, List.length_map]
    have ea : ((List.range its.toArray.size).all fun i => bs.getD i true) = bs.all id := by
      rw [el, Bool.eq_iff_iff, List.all_eq_true, List.all_eq_true]
      constructor
      · intro z b hb
        obtain ⟨i, hi⟩ := List.mem_iff_getElem?.mp hb
        have := z i (List.mem_range.mpr (List.getElem?_eq_some_iff.mp hi).1)
        rw [List.getD_eq_getElem?_getD, hi] at this
        exact this
      · intro z i hi
        have hi' := List.mem_range.mp hi
        rw [List.getD_eq_getElem?_getD, List.getElem?_eq_getElem hi']
        exact z _ (List.getElem_mem hi')
    rw [ea]
    refine ⟨.bl _, H, ?_, rfl, q⟩
    have J := I.kept (h' := s.heap.push { cls := .type "list_iterator", data := .fields #[.ref p, .int 0 0] }) (t' := s.toks) fun b o z => Heap.get?_push_of_some _ z
    obtain ⟨g0, g1, g2, g3, g4, g5⟩ := I.fpOk (H' := H) (b := s.heap.objs.size) (Nat.le_refl _) (I.hok.fresh (Nat.le_refl _))
    exact Inv.turned (s := { s with heap := s.heap.push { cls := .type "list_iterator", data := .fields #[.ref p, .int 0 0] } }) (h' := h') (t' := tk) (it := s.heap.objs.size) J (fun b o hb z => k b o (by simpa using hb) z) g0 g1 g3 g4 g5
end

end L2

namespace L2
open PySem PySem.Spec PyProof.Rows
/-! ### lists of pairs as tables -/
section
variable {κ : Type} [DecidableEq κ]
def valV (kvs : List (κ × V)) (k : κ) : Option V := (kvs.find? fun kv => decide (kv.1 = k)).map (·.2)
/-- in its place, or at the end -/
def putK (kvs : List (κ × V)) (k : κ) (v : V) : List (κ × V) :=
  if (kvs.any fun kv => decide (kv.1 = k)) = true then kvs.map (fun kv => if kv.1 = k then (kv.1, v) else kv) else kvs ++ [(k, v)]
def dropK (kvs : List (κ × V)) (k : κ) : List (κ × V) := kvs.filter fun kv => decide (kv.1 ≠ k)

theorem valV_nil {k : κ} : valV ([] : List (κ × V)) k = none := rfl
theorem valV_pos {p : κ × V} {r : List (κ × V)} {k : κ} (e : p.1 = k) : valV (p :: r) k = some p.2 := by simp [valV, List.find?_cons, e]
theorem valV_neg {p : κ × V} {r : List (κ × V)} {k : κ} (e : ¬ p.1 = k) : valV (p :: r) k = valV r k := by simp [valV, List.find?_cons, e]
theorem valV_any (k : κ) : ∀ kvs : List (κ × V), (kvs.any fun kv => decide (kv.1 = k)) = (valV kvs k).isSome
  | [] => rfl
  | p :: r => by
    rw [List.any_cons]
    by_cases e : p.1 = k
    · simp only [valV_pos e, decide_eq_true e, Bool.true_or, Option.isSome_some]
    · rw [valV_neg e, decide_eq_false e, Bool.false_or]; exact valV_any k r
theorem valV_map (k j : κ) (y : V) : ∀ kvs : List (κ × V), valV (kvs.map fun kv => if kv.1 = k then (kv.1, y) else kv) j = (valV kvs j).map fun x => if j = k then y else x
  | [] => rfl
  | p :: r => by
    have ih := valV_map k j y r
    rw [List.map_cons]
    by_cases h : p.1 = k
    · rw [if_pos h]
      by_cases e : p.1 = j
      · rw [valV_pos (p := (p.1, y)) e, valV_pos e, Option.map_some, if_pos (e.symm.trans h)]
      · rw [valV_neg (p := (p.1, y)) e, valV_neg e, ih]
    · rw [if_neg h]
      by_cases e : p.1 = j
      · rw [valV_pos (p := p) e, valV_pos e, Option.map_some, if_neg (fun z => h (e.trans z))]
      · rw [valV_neg (p := p) e, valV_neg e, ih]
theorem valV_snoc (k j : κ) (y : V) : ∀ kvs : List (κ × V), valV kvs k = none → valV (kvs ++ [(k, y)]) j = if j = k then some y else valV kvs j
  | [], _ => by
    by_cases e : k = j
    · rw [if_pos e.symm]; exact valV_pos (p := (k, y)) e
    · rw [if_neg (fun z => e z.symm)]; exact valV_neg (p := (k, y)) e
  | p :: r, hn => by
    rw [List.cons_append]
    have hk : ¬ p.1 = k := fun z => by rw [valV_pos z] at hn; cases hn
    rw [valV_neg hk] at hn
    have ih := valV_snoc k j y r hn
    by_cases e : p.1 = j
    · rw [valV_pos e, valV_pos e, if_neg (fun z => hk (e.trans z))]
    · rw [valV_neg e, valV_neg e, ih]
theorem valV_put (kvs : List (κ × V)) (k j : κ) (y : V) : valV (putK kvs k y) j = if j = k then some y else valV kvs j := by
  unfold putK
  by_cases a : (kvs.any fun kv => decide (kv.1 = k)) = true
  · rw [if_pos a, valV_map]
    rw [valV_any] at a
    by_cases e : j = k
    · obtain ⟨x, hx⟩ := Option.isSome_iff_exists.mp a
      rw [if_pos e, e, hx, Option.map_some, if_pos rfl]
    · rw [if_neg e]
      cases valV kvs j with
      | none => rfl
      | some x => rw [Option.map_some, if_neg e]
  · rw [if_neg a]
    refine valV_snoc k j y kvs ?_
    rw [valV_any] at a
    cases q : valV kvs k with
    | none => rfl
    | some x => rw [q] at a; exact (a rfl).elim
theorem length_putK (kvs : List (κ × V)) (k : κ) (v : V) : (putK kvs k v).length ≤ kvs.length + 1 := by
  unfold putK
  split
  · rw [List.length_map]; omega
  · rw [List.length_append, List.length_cons, List.length_nil]; omega
theorem putK_new {kvs : List (κ × V)} {k : κ} (v : V) (h : valV kvs k = none) : putK kvs k v = kvs ++ [(k, v)] := by
  unfold putK
  rw [valV_any, h]
  exact if_neg (by decide)

theorem RelO.isSome_eq {o : Option V} {u : Option Value} (r : RelO o u) : o.isSome = u.isSome := by
  cases o with
  | none => cases u with
    | none => rfl
    | some _ => exact (show False from r).elim
  | some _ => cases u with
    | none => exact (show False from r).elim
    | some _ => rfl
theorem RelO.getD {o : Option V} {u : Option Value} {d : V} {d' : Value} (r : RelO o u) (rd : RelV d d') : RelV (o.getD d) (u.getD d') := by
  cases o with
  | none => cases u with
    | none => exact rd
    | some _ => exact (show False from r).elim
  | some _ => cases u with
    | none => exact (show False from r).elim
    | some _ => exact r

/-- raw tables of the same keys -/
theorem KV.val {kvs : List (κ × V)} {vs : List (κ × Value)} (r : KV kvs vs) (k : κ) : RelO (valV kvs k) (valueAt vs k) := by
  unfold KV at r
  induction r with
  | nil => exact True.intro
  | @cons p q ps qs h t ih =>
    obtain ⟨h1, h2⟩ := h
    by_cases e : p.1 = k
    · have e' : q.1 = k := h1.symm.trans e
      have b : valueAt (q :: qs) k = some q.2 := by simp [valueAt, List.find?_cons, e']
      rw [valV_pos e, b]; exact h2
    · have e' : ¬ q.1 = k := fun z => e (h1.trans z)
      have b : valueAt (q :: qs) k = valueAt qs k := by simp [valueAt, List.find?_cons, e']
      rw [valV_neg e, b]; exact ih
theorem KV.any {kvs : List (κ × V)} {vs : List (κ × Value)} (r : KV kvs vs) (k : κ) : (kvs.any fun kv => decide (kv.1 = k)) = vs.any fun kv => decide (kv.1 = k) := by
  unfold KV at r
  induction r with
  | nil => rfl
  | cons h t ih => rw [List.any_cons, List.any_cons, ih, h.1]
theorem KV.repl {kvs : List (κ × V)} {vs : List (κ × Value)} (r : KV kvs vs) (k : κ) {y : V} {u : Value} (ry : RelV y u) :
    KV (kvs.map fun kv => if kv.1 = k then (kv.1, y) else kv) (vs.map fun kv => if kv.1 = k then (kv.1, u) else kv) := by
  unfold KV at r ⊢
  induction r with
  | nil => exact .nil
  | @cons p q ps qs h t ih =>
    rw [List.map_cons, List.map_cons]
    refine .cons ?_ ih
    obtain ⟨h1, h2⟩ := h
    by_cases e : p.1 = k
    · rw [if_pos e, if_pos (h1.symm.trans e)]; exact ⟨h1, ry⟩
    · rw [if_neg e, if_neg (fun z => e (h1.trans z))]; exact ⟨h1, h2⟩
theorem KV.put {kvs : List (κ × V)} {vs : List (κ × Value)} (r : KV kvs vs) (k : κ) {y : V} {u : Value} (ry : RelV y u) : KV (putK kvs k y) (stored vs k u) := by
  unfold putK stored
  rw [r.any k]
  by_cases e : (vs.any fun kv => decide (kv.1 = k)) = true
  · rw [if_pos e, if_pos e]; exact r.repl k ry
  · rw [if_neg e, if_neg e]; exact Paired.snoc r ⟨rfl, ry⟩
theorem KV.drop {kvs : List (κ × V)} {vs : List (κ × Value)} (r : KV kvs vs) (k : κ) : KV (dropK kvs k) (without vs k) := by
  unfold KV at r ⊢
  unfold dropK without
  induction r with
  | nil => exact .nil
  | @cons p q ps qs h t ih =>
    obtain ⟨h1, h2⟩ := h
    rw [List.filter_cons, List.filter_cons]
    by_cases e : p.1 = k
    · have a : ¬ decide (p.1 ≠ k) = true := by simp [e]
      have b : ¬ decide (q.1 ≠ k) = true := by simp [h1.symm.trans e]
      rw [if_neg a, if_neg b]; exact ih
    · have e' : ¬ q.1 = k := fun z => e (h1.trans z)
      have a : decide (p.1 ≠ k) = true := by simp [e]
      have b : decide (q.1 ≠ k) = true := by simp [e']
      rw [if_pos a, if_pos b]; exact .cons ⟨h1, h2⟩ ih
theorem KV.keys {kvs : List (κ × V)} {vs : List (κ × Value)} (r : KV kvs vs) : kvs.map (·.1) = vs.map (·.1) := by
  unfold KV at r
  induction r with
  | nil => rfl
  | cons h t ih => rw [List.map_cons, List.map_cons, ih, h.1]
theorem KV.length {kvs : List (κ × V)} {vs : List (κ × Value)} (r : KV kvs vs) : kvs.length = vs.length := Paired.length r
theorem dropK_le (kvs : List (κ × V)) (k : κ) : (dropK kvs k).length ≤ kvs.length := List.length_filter_le _ _
end


/-! ### a tracked dict, its keys ints and texts or tuples of these -/
theorem kV_is {P : Program} {w : World} {k : Key} {u : Value} (r : RelV (kV k) u) : (mixKind P w).is k u = true := by
  cases k with
  | inl i => obtain ⟨t, e⟩ := (show ∃ t, u = Value.int i t from r); subst e; exact mixKind_int P w i t
  | inr x => obtain ⟨t, e⟩ := (show ∃ t, u = Value.str x t from r); subst e; exact mixKind_str P w x t
theorem kV_inj {a b : Key} (e : kV a = kV b) : a = b := by
  cases a with
  | inl i => cases b with
    | inl j => have e' : V.int i = V.int j := e; injection e' with e'; rw [e']
    | inr y => exact nomatch (show V.int i = V.str y from e)
  | inr x => cases b with
    | inl j => exact nomatch (show V.str x = V.int j from e)
    | inr y => have e' : V.str x = V.str y := e; injection e' with e'; rw [e']
theorem kVs_inj : ∀ {a b : List Key}, a.map kV = b.map kV → a = b
  | [], [], _ => rfl
  | [], _ :: _, e => by simp at e
  | _ :: _, [], e => by simp at e
  | x :: xs, y :: ys, e => by
    rw [List.map_cons, List.map_cons] at e
    injection e with e1 e2
    rw [kV_inj e1, kVs_inj e2]
theorem items_are {P : Program} {w : World} : ∀ {ks : List Key} {us : List Value}, Vals (ks.map kV) us → ItemsAre (mixKind P w) ks us
  | [], _, r => by rw [List.map_nil] at r; cases r; exact .nil
  | k :: ks, _, r => by
    rw [List.map_cons] at r
    cases r with
    | cons h t => exact .cons (kV_is h) (items_are t)

/-- raw entries of a dict with tuple keys -/
abbrev KT (H : Hp) : List (List Key × V) → List (List Key × Addr × Value) → Prop := Paired fun p q => p.1 = q.1 ∧ H q.2.1 = some (.tup (p.1.map kV)) ∧ RelV p.2 q.2.2
theorem KT.val {H : Hp} {kvs : List (List Key × V)} {xs : List (List Key × Addr × Value)} (r : KT H kvs xs) (k : List Key) : RelO (valV kvs k) ((atKey xs k).map (·.2)) := by
  induction r with
  | nil => exact True.intro
  | @cons p q ps qs h t ih =>
    obtain ⟨h1, _, h2⟩ := h
    by_cases e : p.1 = k
    · have e' : q.1 = k := h1.symm.trans e
      have b : atKey (q :: qs) k = some q.2 := by simp [atKey, List.find?_cons, e']
      rw [valV_pos e, b]; exact h2
    · have e' : ¬ q.1 = k := fun z => e (h1.trans z)
      have b : atKey (q :: qs) k = atKey qs k := by simp [atKey, List.find?_cons, e']
      rw [valV_neg e, b]; exact ih
theorem KT.repl {H : Hp} {kvs : List (List Key × V)} {xs : List (List Key × Addr × Value)} (r : KT H kvs xs) (k : List Key) {y : V} {u : Value} (ry : RelV y u) :
    KT H (kvs.map fun kv => if kv.1 = k then (kv.1, y) else kv) (xs.map (putAt k u)) := by
  induction r with
  | nil => exact .nil
  | @cons p q ps qs h t ih =>
    rw [List.map_cons, List.map_cons]
    refine .cons ?_ ih
    obtain ⟨h1, h2, h3⟩ := h
    unfold putAt
    by_cases e : p.1 = k
    · rw [if_pos e, if_pos (h1.symm.trans e)]; exact ⟨h1, h2, ry⟩
    · rw [if_neg e, if_neg (fun z => e (h1.trans z))]; exact ⟨h1, h2, h3⟩
theorem KT.put {H : Hp} {kvs : List (List Key × V)} {xs : List (List Key × Addr × Value)} (r : KT H kvs xs) (k : List Key) {b : Addr} {y : V} {u : Value} (hb : H b = some (.tup (k.map kV))) (ry : RelV y u) :
    KT H (putK kvs k y) (storedH xs k b u) := by
  have e : (kvs.any fun kv => decide (kv.1 = k)) = (atKey xs k).isSome := by
    rw [valV_any, (r.val k).isSome_eq, Option.isSome_map]
  unfold putK storedH
  rw [e]
  by_cases q : (atKey xs k).isSome = true
  · rw [if_pos q, if_pos q]; exact r.repl k ry
  · rw [if_neg q, if_neg q]; exact Paired.snoc r ⟨rfl, hb, ry⟩
theorem KT.keeps {H H' : Hp} {kvs : List (List Key × V)} {xs : List (List Key × Addr × Value)} (r : KT H kvs xs) (ht : ∀ b ys, H b = some (.tup ys) → H' b = some (.tup ys)) : KT H' kvs xs :=
  Paired.mapP r fun _ _ z => ⟨z.1, ht _ _ z.2.1, z.2.2⟩

section
variable {P : Program} {w : World} {H : Hp} {h : Heap} {a : Addr}
theorem rd_of {u : HO} (ok : HOk P w H h) (e : Rd H a u) : ObjOk P w H h a u := e.ok ok
theorem dk_rd {kvs : List (Key × V)} (ok : HOk P w H h) (e : Rd H a (.dK kvs)) : kvs.length ≤ sizeLine ∧ (a == sysModules) = false ∧ ∃ vs, KV kvs vs ∧ h.DictOf (mixKind P w) a vs :=
  show ObjOk P w H h a (.dK kvs) from rd_of ok e
theorem dk_of {kvs : List (Key × V)} (ok : HOk P w H h) (e : H a = some (.dK kvs)) : kvs.length ≤ sizeLine ∧ (a == sysModules) = false ∧ ∃ vs, KV kvs vs ∧ h.DictOf (mixKind P w) a vs := dk_rd ok (.inl e)
/-- a tracked tuple of ints and texts is a key -/
theorem key_of {ks : List Key} (ok : HOk P w H h) (e : H a = some (.tup (ks.map kV))) : (tupleKind (mixKind P w)).is h ks a := by
  obtain ⟨_, its, r, o, h1, h2, n, h3⟩ := (show ObjOk P w H h a (.tup (ks.map kV)) from ok a _ e)
  exact ⟨o, its.toArray, n, h1, h2, h3, by simpa using items_are r⟩
theorem dt_rd {kvs : List (List Key × V)} (ok : HOk P w H h) (e : Rd H a (.dT kvs)) : kvs.length ≤ sizeLine ∧ (a == sysModules) = false ∧
    ∃ xs, KT H kvs xs ∧ h.DictOfH (tupleKind (mixKind P w)) a xs := by
  obtain ⟨z, y, xs, r, o, es, ep, h1, h2, h3, h4, h5⟩ := (show ObjOk P w H h a (.dT kvs) from rd_of ok e)
  refine ⟨z, y, xs, r, o, es, ep, h1, h2, h3, h4, fun x hx => ?_, h5⟩
  have all : ∀ {l : List (List Key × V)} {m : List (List Key × Addr × Value)}, KT H l m → ∀ x ∈ m, (tupleKind (mixKind P w)).is h x.1 x.2.1 := by
    intro l m q
    induction q with
    | nil => intro x hx; exact nomatch hx
    | @cons p q ps qs hq t ih =>
      intro x hx
      rcases List.mem_cons.mp hx with e | hx
      · subst e
        exact key_of ok (by rw [← hq.1]; exact hq.2.1)
      · exact ih x hx
  exact all r x hx
theorem dt_of {kvs : List (List Key × V)} (ok : HOk P w H h) (e : H a = some (.dT kvs)) : kvs.length ≤ sizeLine ∧ (a == sysModules) = false ∧
    ∃ xs, KT H kvs xs ∧ h.DictOfH (tupleKind (mixKind P w)) a xs := dt_rd ok (.inl e)
end

/-- what the dict at a holds at the key y -/
def DGet (H : Hp) (a : Addr) (y : V) (r : Option V) : Prop :=
  (∃ kvs k, Rd H a (.dK kvs) ∧ y = kV k ∧ r = valV kvs k) ∨ ∃ kvs k b, Rd H a (.dT kvs) ∧ y = .ref b ∧ H b = some (.tup (k.map kV)) ∧ r = valV kvs k
/-- the heap behind a[y] = v -/
def DPut (H : Hp) (a : Addr) (y v : V) (H' : Hp) : Prop :=
  (∃ kvs k, H a = some (.dK kvs) ∧ y = kV k ∧ kvs.length < sizeLine ∧ H' = upd H a (.dK (putK kvs k v))) ∨
  ∃ kvs k b, H a = some (.dT kvs) ∧ y = .ref b ∧ H b = some (.tup (k.map kV)) ∧ kvs.length < sizeLine ∧ H' = upd H a (.dT (putK kvs k v))
theorem DGet.k {H : Hp} {a : Addr} {kvs : List (Key × V)} {k : Key} (e : H a = some (.dK kvs)) : DGet H a (kV k) (valV kvs k) := .inl ⟨kvs, k, .inl e, rfl, rfl⟩
theorem DGet.t {H : Hp} {a b : Addr} {kvs : List (List Key × V)} {k : List Key} (e : H a = some (.dT kvs)) (eb : H b = some (.tup (k.map kV))) : DGet H a (.ref b) (valV kvs k) := .inr ⟨kvs, k, b, .inl e, rfl, eb, rfl⟩
theorem DPut.k {H : Hp} {a : Addr} {kvs : List (Key × V)} {k : Key} {v : V} (e : H a = some (.dK kvs)) (hl : kvs.length < sizeLine) : DPut H a (kV k) v (upd H a (.dK (putK kvs k v))) := .inl ⟨kvs, k, e, rfl, hl, rfl⟩
theorem DPut.t {H : Hp} {a b : Addr} {kvs : List (List Key × V)} {k : List Key} {v : V} (e : H a = some (.dT kvs)) (eb : H b = some (.tup (k.map kV))) (hl : kvs.length < sizeLine) :
    DPut H a (.ref b) v (upd H a (.dT (putK kvs k v))) := .inr ⟨kvs, k, b, e, rfl, eb, hl, rfl⟩


section
variable {X : Cx} {pins : List (Addr × Obj)} {σ : St} {H : Hp} {s : Shared} {a : Addr} {y v : V} {u r : Value} {o : Option V} {A : Around} {E : Value → Shared → Prop}

theorem Inv.big (I : Inv X pins σ H s) : sysModules < s.heap.objs.size := by
  have h : mainGlobals < s.heap.objs.size := (I.mod.glob.keeps I.bk).lt
  exact Nat.lt_trans (by decide) h

/-- d[y], there -/
theorem d_getItem {Q : Value → Shared → Prop} (hu : A.units + 1 < cLine) (I : Inv X pins σ H s) (g : DGet H a y (some v)) (ry : RelV y u) (h : ∀ w' s', Inv X pins σ H s' → RelV v w' → Q w' s') :
    wpAny (model X.prog X.w) A (getItem (.ref a) u) Q E s := by
  rcases g with ⟨kvs, k, e, ey, l⟩ | ⟨kvs, k, b, e, ey, eb, l⟩
  · subst ey
    obtain ⟨z, hd, vs, rel, dd⟩ := dk_rd I.hok e
    obtain ⟨w', hw, rw'⟩ := RelO.some_of (v := v) (o := valueAt vs k) (by rw [l]; exact rel.val k)
    exact wpAny_getItem_of (kV_is ry) dd.mapOf hw (h w' _ (I.tok _) rw')
  · subst ey
    cases (show u = Value.ref b from ry)
    obtain ⟨z, hd, xs, rel, dd⟩ := dt_rd I.hok e
    obtain ⟨w', hw, rw'⟩ := RelO.some_of (v := v) (o := (atKey xs k).map (·.2)) (by rw [l]; exact rel.val k)
    obtain ⟨p, hp, hp2⟩ := Option.map_eq_some_iff.mp hw
    refine wpAny_getItem_heap (tupleKind_room_in1 hu) (key_of I.hok eb) dd hp ?_
    rw [hp2]
    exact h w' _ (I.tok _) rw'
/-- y in d -/
theorem d_in {Q : Value → Shared → Prop} (hu : A.units + 1 < cLine) (I : Inv X pins σ H s) (g : DGet H a y o) (ry : RelV y u) (h : ∀ s', Inv X pins σ H s' → Q (.bool o.isSome) s') :
    wpAny (model X.prog X.w) A (compareOp .In u (.ref a)) Q E s := by
  rcases g with ⟨kvs, k, e, ey, l⟩ | ⟨kvs, k, b, e, ey, eb, l⟩
  · subst ey
    obtain ⟨z, hd, vs, rel, dd⟩ := dk_rd I.hok e
    refine wpAny_in_of (kV_is ry) hd dd.mapOf ?_
    rw [← (rel.val k).isSome_eq, ← l]
    exact h _ (I.tok _)
  · subst ey
    cases (show u = Value.ref b from ry)
    obtain ⟨z, hd, xs, rel, dd⟩ := dt_rd I.hok e
    refine wpAny_in_heap (tupleKind_room_in1 hu) (key_of I.hok eb) hd dd ?_
    have q := (rel.val k).isSome_eq
    rw [Option.isSome_map] at q
    rw [← q, ← l]
    exact h _ (I.tok _)
theorem d_notIn {Q : Value → Shared → Prop} (hu : A.units + 1 < cLine) (I : Inv X pins σ H s) (g : DGet H a y o) (ry : RelV y u) (h : ∀ s', Inv X pins σ H s' → Q (.bool (!o.isSome)) s') :
    wpAny (model X.prog X.w) A (compareOp .NotIn u (.ref a)) Q E s := by
  rcases g with ⟨kvs, k, e, ey, l⟩ | ⟨kvs, k, b, e, ey, eb, l⟩
  · subst ey
    obtain ⟨z, hd, vs, rel, dd⟩ := dk_rd I.hok e
    refine wpAny_notIn_of (kV_is ry) hd dd.mapOf ?_
    rw [← (rel.val k).isSome_eq, ← l]
    exact h _ (I.tok _)
  · subst ey
    cases (show u = Value.ref b from ry)
    obtain ⟨z, hd, xs, rel, dd⟩ := dt_rd I.hok e
    refine wpAny_notIn_heap (tupleKind_room_in1 hu) (key_of I.hok eb) hd dd ?_
    have q := (rel.val k).isSome_eq
    rw [Option.isSome_map] at q
    rw [← q, ← l]
    exact h _ (I.tok _)
/-- a dict's object is replaced -/
theorem d_write {h' : Heap} {t' : Nat} {ob : HO} (I : Inv X pins σ H s) (mu : Mut (H a)) (hs : Heap.SameBut a s.heap h') (he : ∃ q, h'.get? a = some q) (new : ObjOk X.prog X.w (upd H a ob) h' a ob) :
    Inv X pins σ (upd H a ob) { s with heap := h', toks := t' } :=
  I.write (x := a) (e := a) mu (.inl rfl) (fun b q hb z => (hs.2 b hb).trans z) he new
theorem dk_new {P : Program} {w : World} {H' : Hp} {h' : Heap} {kvs : List (Key × V)} {vs : List (Key × Value)} (z : kvs.length ≤ sizeLine) (hd : (a == sysModules) = false) (rel : KV kvs vs) (dd : h'.DictOf (mixKind P w) a vs) :
    ObjOk P w H' h' a (.dK kvs) := ⟨z, hd, vs, rel, dd⟩
/-- d[y] = v -/
theorem d_setItem {H' : Hp} {Q : Unit → Shared → Prop} (hu : A.units + 1 < cLine) (I : Inv X pins σ H s) (g : DPut H a y v H') (ry : RelV y u) (rv : RelV v r) (h : ∀ s', Inv X pins σ H' s' → Q () s') :
    wpAny (model X.prog X.w) A (setItem (.ref a) u r) Q E s := by
  rcases g with ⟨kvs, k, e, ey, l, eH⟩ | ⟨kvs, k, b, e, ey, eb, l, eH⟩
  · subst ey eH
    obtain ⟨z, hd, vs, rel, dd⟩ := dk_of I.hok e
    have hz : vs.length ≤ sizeLine := by rw [← rel.length]; exact z
    have hl : (putK kvs k v).length ≤ sizeLine := by have := length_putK kvs k v; omega
    refine wpAny_setItem_pairs (hsz := hz) (kV_is ry) dd fun h' dd' hs => h _ ?_
    have he : ∃ q, h'.get? a = some q := let ⟨q, _, _, hq, _⟩ := dd'; ⟨q, hq⟩
    exact d_write I (by rw [e]; exact True.intro) hs he (dk_new hl hd (rel.put k rv) dd')
  · subst ey eH
    cases (show u = Value.ref b from ry)
    obtain ⟨z, hd, xs, rel, dd⟩ := dt_of I.hok e
    have hz : xs.length ≤ sizeLine := by rw [← Paired.length rel]; exact z
    have hl : (putK kvs k v).length ≤ sizeLine := by have := length_putK kvs k v; omega
    refine wpAny_setItem_heap (hsz := hz) (tupleKind_room_in1 hu) (key_of I.hok eb) dd fun h' dd' hs => h _ ?_
    obtain ⟨q, es, ep, hq, h2, h3, h4, _, h5⟩ := dd'
    refine d_write I (by rw [e]; exact True.intro) hs ⟨q, hq⟩ ⟨hl, hd, _, (rel.put k eb rv).keeps fun c ys ec => ?_, q, es, ep, hq, h2, h3, h4, h5⟩
    rw [upd_ne (ne_of ec e (fun z => nomatch z))]
    exact ec
end

section
variable {X : Cx} {pins : List (Addr × Obj)} {σ : St} {H : Hp} {s : Shared} {a : Addr} {kvs : List (Key × V)} {k : Key} {u : Value} {A : Around} {E : Value → Shared → Prop}
/-- del d[k] -/
theorem d_delItem {Q : Unit → Shared → Prop} (I : Inv X pins σ H s) (e : H a = some (.dK kvs)) (ry : RelV (kV k) u) (l : (valV kvs k).isSome = true) (h : ∀ s', Inv X pins σ (upd H a (.dK (dropK kvs k))) s' → Q () s') :
    wpAny (model X.prog X.w) A (delItem (.ref a) u) Q E s := by
  obtain ⟨z, hd, vs, rel, dd⟩ := dk_of I.hok e
  refine wpAny_delItem_slot dd.typeIs (by decide) PySem.F.slot_dict_delitem
    (call_meetsIn PySem.F.slot_dict_delitem dd.typeIs PySem.F.entry_dict_delitem (PySem.F.args_dict_delitem_2 _ _) (meets_dict_delitem_pairs (mixKind X.prog X.w) a (kV_is ry)) ⟨vs, dd, by rw [← rel.length]; exact z, by rw [← (rel.val k).isSome_eq]; exact l, fun h' dd' hs => h _ ?_⟩)
  have he : ∃ q, h'.get? a = some q := let ⟨q, _, _, hq, _⟩ := dd'; ⟨q, hq⟩
  exact d_write I (by rw [e]; exact True.intro) hs he (dk_new (Nat.le_trans (dropK_le kvs k) z) hd (rel.drop k) dd')
/-- d.pop(k[, x]), there -/
theorem d_pop {v : V} {more : List Value} {Q : Value → Shared → Prop} (I : Inv X pins σ H s) (e : H a = some (.dK kvs)) (ry : RelV (kV k) u) (l : valV kvs k = some v) (hm : more = [] ∨ ∃ x, more = [x])
    (h : ∀ w' s', Inv X pins σ (upd H a (.dK (dropK kvs k))) s' → RelV v w' → Q w' s') : wpAny (model X.prog X.w) A (call (.builtin "dict.pop") (.ref a :: u :: more)) Q E s := by
  obtain ⟨z, hd, vs, rel, dd⟩ := dk_of I.hok e
  obtain ⟨w', hw, rw'⟩ := RelO.some_of (v := v) (o := valueAt vs k) (by rw [← l]; exact rel.val k)
  have hp : (keyPart u).isSome = true := by
    cases k with
    | inl i => obtain ⟨t, q⟩ := (show ∃ t, u = Value.int i t from ry); subst q; rfl
    | inr x => obtain ⟨t, q⟩ := (show ∃ t, u = Value.str x t from ry); subst q; rfl
  have ha : argsOk "dict.pop" ⟨.ref a :: u :: more, []⟩ := by
    rcases hm with q | ⟨x, q⟩
    · subst q; exact PySem.F.args_dict_pop_2 _ _
    · subst q; exact PySem.F.args_dict_pop_3 _ _ _
  refine call_meetsIn PySem.F.slot_dict_pop dd.typeIs PySem.F.entry_dict_pop ha (meets_dict_pop_there (mixKind X.prog X.w) a (kV_is ry) more hm hp)
    ⟨vs, w', dd, by rw [← rel.length]; exact z, hw, fun h' dd' hs => h w' _ ?_ rw'⟩
  have he : ∃ q, h'.get? a = some q := let ⟨q, _, _, hq, _⟩ := dd'; ⟨q, hq⟩
  exact d_write I (by rw [e]; exact True.intro) hs he (dk_new (Nat.le_trans (dropK_le kvs k) z) hd (rel.drop k) dd')
/-- d.pop(k, x), not there -/
theorem d_popD {r : Value} {Q : Value → Shared → Prop} (I : Inv X pins σ H s) (e : H a = some (.dK kvs)) (ry : RelV (kV k) u) (l : valV kvs k = none) (h : ∀ s', Inv X pins σ H s' → Q r s') :
    wpAny (model X.prog X.w) A (call (.builtin "dict.pop") [.ref a, u, r]) Q E s := by
  obtain ⟨z, hd, vs, rel, dd⟩ := dk_of I.hok e
  have hn : valueAt vs k = none := RelO.none_of (by rw [← l]; exact rel.val k)
  have hp : (keyPart u).isSome = true := by
    cases k with
    | inl i => obtain ⟨t, q⟩ := (show ∃ t, u = Value.int i t from ry); subst q; rfl
    | inr x => obtain ⟨t, q⟩ := (show ∃ t, u = Value.str x t from ry); subst q; rfl
  exact call_meetsIn PySem.F.slot_dict_pop dd.typeIs PySem.F.entry_dict_pop (PySem.F.args_dict_pop_3 _ _ _) (meets_dict_pop_default (mixKind X.prog X.w) a (kV_is ry) hd hp r) ⟨vs, dd, hn, h _ (I.tok _)⟩
/-- d.clear() -/
theorem d_clear {Q : Value → Shared → Prop} (I : Inv X pins σ H s) (e : H a = some (.dK kvs)) (h : ∀ s', Inv X pins σ (upd H a (.dK [])) s' → Q .none s') : wpAny (model X.prog X.w) A (call (.builtin "dict.clear") [.ref a]) Q E s := by
  obtain ⟨z, hd, vs, rel, dd⟩ := dk_of I.hok e
  refine call_meetsIn PySem.F.slot_dict_clear dd.typeIs PySem.F.entry_dict_clear (PySem.F.args_dict_clear_1 _) (meets_dict_clear (mixKind X.prog X.w) a) ⟨vs, dd, by rw [← rel.length]; exact z, fun h' dd' hs => h _ ?_⟩
  have he : ∃ q, h'.get? a = some q := let ⟨q, _, _, hq, _⟩ := dd'; ⟨q, hq⟩
  exact d_write (t' := s.toks) I (by rw [e]; exact True.intro) hs he (dk_new (Nat.zero_le _) hd .nil dd')
/-- len(d) -/
theorem d_len {Q : Value → Shared → Prop} (I : Inv X pins σ H s) (e : Rd H a (.dK kvs)) (h : ∀ t s', Inv X pins σ H s' → Q (.int kvs.length t) s') : wpAny (model X.prog X.w) A (call (.builtin "len") [.ref a]) Q E s := by
  obtain ⟨z, hd, vs, rel, dd⟩ := dk_rd I.hok e
  refine call_len_dict hd dd (by rw [← rel.length]; rw [sizeLine_eq] at z; omega) ?_
  rw [← rel.length]
  exact h _ _ (I.tok _)
/-- if d -/
theorem d_truth {Q : Bool → Shared → Prop} (I : Inv X pins σ H s) (e : Rd H a (.dK kvs)) (h : ∀ s', Inv X pins σ H s' → Q (!kvs.isEmpty) s') : wpAny (model X.prog X.w) A (truthy (.ref a)) Q E s := by
  obtain ⟨z, hd, vs, rel, dd⟩ := dk_rd I.hok e
  refine wpAny_truthy_dict hd dd (by rw [← rel.length]; rw [sizeLine_eq] at z; omega) ?_
  have q : kvs.isEmpty = vs.isEmpty := by cases rel <;> rfl
  rw [← q]
  exact h _ (I.tok _)
end


/-! ### readings and rules -/
/-- the element of a subscription, not a slice -/
def NoSl (i : Expr) : Prop := ∀ ov iv, subscripted i false ov iv = operate [ov, iv] (getItem ov iv)
theorem subD_of {prog : Program} {w : World} {A : Around} {E : Value → Shared → Prop} {s : Shared} {env : Env} {value slice : Expr} {pos : Pos} {T id : String} {Q : Value → Shared → Prop}
    (hl : typeLookup (.type T) "__getitem__" = pure (some (.builtin id))) (hs : NoSl slice)
    (h : wpAny (model prog w) A (eval value env) (fun o s₁ => wpAny (model prog w) A (eval slice env) (fun i s₂ => s₂.TypeIs o T ∧ wpAny (model prog w) A (getItem o i) Q E s₂) E s₁) E s) :
    wpAny (model prog w) A (eval (.Subscript value slice pos) env) Q E s := by
  refine Subscript_ (wpAny_mono h (fun o s₁ h₁ => wpAny_mono h₁ (fun i s₂ h₂ => ?_) fun _ _ x => x) fun _ _ x => x)
  obtain ⟨hT, h₂⟩ := h₂
  unfold subscriptTail
  refine wpAny_bind ?_
  rw [getitemInPython_of_ne hT.not_modules]
  refine wpAny_bind (wpAny_specialOf hT hl ?_)
  have fin : wpAny (model prog w) A (subscripted slice false o i) (fun r s₃ => wpAny (model prog w) A (letTemporaryGo value o r >>= fun _ => pure r) Q E s₃) E s₂ := by
    rw [hs o i]
    exact wpAny_operating (wpAny_mono h₂ (fun r s₃ h₃ => wpAny_bind (wpAny_letTemporaryGo (wpAny_pure h₃))) fun _ _ x => x)
  first
    | exact wpAny_pure (wpAny_bind fin)
    | exact wpAny_bind (wpAny_pure (wpAny_bind fin))
    | exact wpAny_bind fin

theorem dict_typeIs {X : Cx} {pins : List (Addr × Obj)} {σ : St} {H : Hp} {s : Shared} {a : Addr} {y : V} {o : Option V} (I : Inv X pins σ H s) (g : DGet H a y o) : s.TypeIs (.ref a) "dict" := by
  rcases g with ⟨kvs, k, e, _, _⟩ | ⟨kvs, k, b, e, _, _, _⟩
  · obtain ⟨_, _, vs, _, dd⟩ := dk_rd I.hok e
    exact dd.typeIs
  · obtain ⟨_, _, xs, _, dd⟩ := dt_rd I.hok e
    exact dd.typeIs
theorem dict_noDict {X : Cx} {pins : List (Addr × Obj)} {σ : St} {H : Hp} {s : Shared} {a : Addr} {y : V} {o : Option V} (I : Inv X pins σ H s) (g : DGet H a y o) :
    ∀ b, Value.ref a = .ref b → ∃ ob, s.heap.get? b = some ob ∧ ob.dict = none := fun b q => by
  cases q
  rcases g with ⟨kvs, k, e, _, _⟩ | ⟨kvs, k, b, e, _, _, _⟩
  · obtain ⟨_, _, vs, _, ob, _, _, h1, h2, _⟩ := dk_rd I.hok e
    exact ⟨ob, h1, h2.2.1⟩
  · obtain ⟨_, _, xs, _, ob, _, _, h1, h2, _⟩ := dt_rd I.hok e
    exact ⟨ob, h1, h2.2.1⟩

/-- d[y] -/
def tDGet (td ty : TE) : TE := fun σ H Q => td σ H fun x H1 => ty σ H1 fun y H2 => ∃ a v, x = .ref a ∧ DGet H2 a y (some v) ∧ Q v H2
/-- y in d, y not in d -/
def tDIn (ty td : TE) : TE := fun σ H Q => ty σ H fun y H1 => td σ H1 fun x H2 => ∃ a o, x = .ref a ∧ DGet H2 a y o ∧ Q (.bl o.isSome) H2
def tDNotIn (ty td : TE) : TE := fun σ H Q => ty σ H fun y H1 => td σ H1 fun x H2 => ∃ a o, x = .ref a ∧ DGet H2 a y o ∧ Q (.bl (!o.isSome)) H2
/-- d[y] = v -/
def sDPut (td ty tv : TE) : TS := fun D σ H => tv σ H fun v H1 => td σ H1 fun x H2 => ty σ H2 fun y H3 => ∃ a H4, x = .ref a ∧ DPut H3 a y v H4 ∧ D.nx σ H4
/-- d[y] op= v -/
def sDAug (td ty tv : TE) (rd : V → V → Hp → VK → Prop) : TS := fun D σ H => td σ H fun x H1 => ty σ H1 fun y H2 => ∃ a v, x = .ref a ∧ DGet H2 a y (some v) ∧
  tv σ H2 fun y2 H3 => rd v y2 H3 fun z H4 => ∃ H5, DPut H4 a y z H5 ∧ D.nx σ H5
/-- del d[y] -/
def sDDel (td ty : TE) : TS := fun D σ H => td σ H fun x H1 => ty σ H1 fun y H2 => ∃ a kvs k, x = .ref a ∧ H2 a = some (.dK kvs) ∧ y = kV k ∧ (valV kvs k).isSome = true ∧ D.nx σ (upd H2 a (.dK (dropK kvs k)))

section
variable {X : Cx} {o i e value : Expr} {pos pos' tpos : Pos} {td ty tv : TE}
theorem pe_dget (hu : X.A.units + 1 < cLine) (ho : PE X o td) (hi : PE X i ty) (hs : NoSl i) : PE X (.Subscript o i pos) (tDGet td ty) := by
  intro pins s σ H Q I h
  refine subD_of PySem.F.slot_dict_getitem.lookup hs (thn (ho pins s σ H _ I h) fun u s1 ⟨x, H1, I1, rx, q1⟩ => thn (hi pins s1 σ H1 _ I1 q1) fun iv s2 ⟨y, H2, I2, ry, a, v, ex, g, q2⟩ => ?_)
  subst ex
  obtain rfl : u = Value.ref a := rx
  exact ⟨dict_typeIs I2 g, d_getItem hu I2 g ry fun w' s3 I3 rw' => ⟨v, H2, I3, rw', q2⟩⟩
theorem pc_din (hu : X.A.units + 1 < cLine) (hi : PE X i ty) (ho : PE X o td) : PC X .In i o (tDIn ty td) := by
  intro pins s σ H Q I h
  refine thn (hi pins s σ H _ I h) fun iv s1 ⟨y, H1, I1, ry, q1⟩ => thn (ho pins s1 σ H1 _ I1 q1) fun u s2 ⟨x, H2, I2, rx, a, ov, ex, g, q2⟩ => ?_
  subst ex
  obtain rfl : u = Value.ref a := rx
  exact d_in hu I2 g ry fun s3 I3 => ⟨.bl ov.isSome, H2, I3, rfl, q2⟩
theorem pc_dnotin (hu : X.A.units + 1 < cLine) (hi : PE X i ty) (ho : PE X o td) : PC X .NotIn i o (tDNotIn ty td) := by
  intro pins s σ H Q I h
  refine thn (hi pins s σ H _ I h) fun iv s1 ⟨y, H1, I1, ry, q1⟩ => thn (ho pins s1 σ H1 _ I1 q1) fun u s2 ⟨x, H2, I2, rx, a, ov, ex, g, q2⟩ => ?_
  subst ex
  obtain rfl : u = Value.ref a := rx
  exact d_notIn hu I2 g ry fun s3 I3 => ⟨.bl (!ov.isSome), H2, I3, rfl, q2⟩
theorem ps_dput (hu : X.A.units + 1 < cLine) (ho : PE X o td) (hi : PE X i ty) (hv : PE X value tv) (hs : swapsWith value (some (.Subscript o i pos')) pos.line X.env = pure false) :
    PS X (.Assign [.Subscript o i pos'] value pos) (sDPut td ty tv) := by
  intro pins s σ H D I h
  refine wpAny_Assign_Subscript (thn (hv pins s σ H _ I h) fun r s1 ⟨v, H1, I1, rv, q1⟩ => thn (ho pins s1 σ H1 _ I1 q1) fun u s2 ⟨x, H2, I2, rx, q2⟩ => thn (hi pins s2 σ H2 _ I2 q2) fun iv s3 ⟨y, H3, I3, ry, a, H4, ex, g, q3⟩ => ?_) hs
  subst ex
  obtain rfl : u = Value.ref a := rx
  exact d_setItem hu I3 g ry rv fun s4 I4 => ⟨σ, H4, I4, q3⟩
theorem ps_daug {op : Operator} {rd : V → V → Hp → VK → Prop} (hu : X.A.units + 1 < cLine) (ho : PE X o td) (hi : PE X i ty) (hv : PE X value tv) (hop : InOp X op rd)
    (ha : ∀ ov iv new, augStore i ov iv new = (do holding [new, ov, iv] (setItem ov iv new); release [new, ov, iv] []; pure .next)) : PS X (.AugAssign (.Subscript o i tpos) op value pos) (sDAug td ty tv rd) := by
  intro pins s σ H D I h
  refine wpAny_AugAssign_SubscriptAny (thn (ho pins s σ H _ I h) fun u s1 ⟨x, H1, I1, rx, q1⟩ => thn (hi pins s1 σ H1 _ I1 q1) fun iv s2 ⟨y, H2, I2, ry, a, v, ex, g, q2⟩ => ?_) ha
  subst ex
  obtain rfl : u = Value.ref a := rx
  refine d_getItem hu I2 g ry fun w' s3 I3 rw' => thn (hv pins s3 σ H2 _ I3 q2) fun w2 s4 ⟨y2, H3, I4, ry2, q3⟩ => thn (hop pins s4 σ H3 v y2 w' w2 _ I4 rw' ry2 q3) fun w3 s5 ⟨z, H4, I5, rz, H5, g5, q4⟩ => ?_
  exact d_setItem hu I5 g5 ry rz fun s6 I6 => ⟨σ, H5, I6, q4⟩
theorem ps_ddel (ho : PE X o td) (hi : PE X i ty) : PS X (.Delete [.Subscript o i tpos] pos) (sDDel td ty) := by
  intro pins s σ H D I h
  refine wpAny_Delete (wpAny_deleteEach_cons (wpAny_delete_Subscript (thn (ho pins s σ H _ I h) fun u s1 ⟨x, H1, I1, rx, q1⟩ => thn (hi pins s1 σ H1 _ I1 q1) fun iv s2 ⟨y, H2, I2, ry, a, kvs, k, ex, e, ey, l, q2⟩ => ?_)))
  subst ex ey
  obtain rfl : u = Value.ref a := rx
  exact d_delItem I2 e ry l fun s3 I3 => wpAny_deleteEach_nil ⟨σ, _, I3, q2⟩
end


/-! ### displays -/
theorem dk_empty {P : Program} {w : World} {H : Hp} (h : Heap) (hb : sysModules < h.objs.size) : ObjOk P w H (h.push { cls := .type "dict", data := .dict #[] }) h.objs.size (.dK []) :=
  ⟨Nat.zero_le _, beq_eq_false_iff_ne.mpr (Ne.symm (Nat.ne_of_lt hb)), [], .nil, Heap.DictOf.new h⟩
theorem dt_empty {P : Program} {w : World} {H : Hp} (h : Heap) (hb : sysModules < h.objs.size) : ObjOk P w H (h.push { cls := .type "dict", data := .dict #[] }) h.objs.size (.dT []) :=
  ⟨Nat.zero_le _, beq_eq_false_iff_ne.mpr (Ne.symm (Nat.ne_of_lt hb)), [], .nil, _, #[], 0, Heap.get?_push_size _ rfl, ⟨rfl, rfl, rfl⟩, rfl, rfl, List.nodup_nil⟩
/-- {}, to be a dict of the kind that is wanted -/
def tDNewK : TE := fun _ H Q => ∀ p, H p = none → Q (.ref p) (upd H p (.dK []))
def tDNewT : TE := fun _ H Q => ∀ p, H p = none → Q (.ref p) (upd H p (.dT []))
section
variable {X : Cx} {pos : Pos}
theorem pe_dnewK : PE X (.Dict [] [] pos) tDNewK := fun pins s σ H Q I h =>
  wpAny_Dict_empty ⟨.ref s.heap.objs.size, _, I.laid (a := s.heap.objs.size) (o := .dK []) (t' := s.toks) (fun _ _ q => Heap.get?_push_of_some _ q) (Nat.le_refl _) (dk_empty s.heap I.big), rfl, h _ (I.hok.fresh (Nat.le_refl _))⟩
theorem pe_dnewT : PE X (.Dict [] [] pos) tDNewT := fun pins s σ H Q I h =>
  wpAny_Dict_empty ⟨.ref s.heap.objs.size, _, I.laid (a := s.heap.objs.size) (o := .dT []) (t' := s.toks) (fun _ _ q => Heap.get?_push_of_some _ q) (Nat.le_refl _) (dt_empty s.heap I.big), rfl, h _ (I.hok.fresh (Nat.le_refl _))⟩
end

/-- the pairs of a display, from the left -/
def tPairs : List (TE × TE) → St → Hp → (List (V × V) → Hp → Prop) → Prop
  | [], _, H, Q => Q [] H
  | (tk, tv) :: r, σ, H, Q => tk σ H fun x H1 => tv σ H1 fun y H2 => tPairs r σ H2 fun ps H3 => Q ((x, y) :: ps) H3
abbrev VV : List (V × V) → List (Value × Value) → Prop := Paired fun p q => RelV p.1 q.1 ∧ RelV p.2 q.2
def PPs (X : Cx) (pos : Pos) (keys : List (Option Expr)) (values : List Expr) (trs : List (TE × TE)) : Prop :=
  ∀ (pins : List (Addr × Obj)) (s : Shared) (σ : St) (H : Hp) (Q : List (V × V) → Hp → Prop), Inv X pins σ H s → tPairs trs σ H Q →
    wpAny (model X.prog X.w) X.A (evalPairs (pairTrees keys values X.env pos)) (fun vs s' => ∃ ps H', Inv X pins σ H' s' ∧ VV ps vs ∧ Q ps H') X.xe s
theorem pps_nil {X : Cx} {pos : Pos} : PPs X pos [] [] [] := fun pins s σ H Q I h => pairTrees_nil_walk ⟨[], H, I, .nil, h⟩
theorem pps_cons {X : Cx} {pos : Pos} {k v : Expr} {ks : List (Option Expr)} {vs : List Expr} {tk tv : TE} {trs : List (TE × TE)} (hk : PE X k tk) (hv : PE X v tv) (hr : PPs X pos ks vs trs) :
    PPs X pos (some k :: ks) (v :: vs) ((tk, tv) :: trs) := fun pins s σ H Q I h =>
  pairTrees_cons_walk (thn (hk pins s σ H _ I h) fun u s1 ⟨x, H1, I1, rx, q1⟩ => thn (hv pins s1 σ H1 _ I1 q1) fun w2 s2 ⟨y, H2, I2, ry, q2⟩ =>
    thn (hr pins s2 σ H2 _ I2 q2) fun ws s3 ⟨ps, H3, I3, rel, q3⟩ => ⟨(x, y) :: ps, H3, I3, .cons ⟨rx, ry⟩ rel, q3⟩)

def mergeK (kvs more : List (Key × V)) : List (Key × V) := more.foldl (fun acc kv => putK acc kv.1 kv.2) kvs
theorem KV.merge : ∀ {more : List (Key × V)} {rs : List (Key × Value)} {kvs : List (Key × V)} {vs : List (Key × Value)}, KV more rs → KV kvs vs → KV (mergeK kvs more) (merged vs rs) := by
  intro more rs kvs vs r
  unfold KV at r
  induction r generalizing kvs vs with
  | nil => intro q; exact q
  | @cons p q ps qs h t ih =>
    intro r0
    have e : KV (putK kvs p.1 p.2) (stored vs q.1 q.2) := by
      have := r0.put p.1 h.2
      rw [← h.1]; exact this
    exact ih e
theorem length_mergeK : ∀ (more kvs : List (Key × V)), (mergeK kvs more).length ≤ kvs.length + more.length
  | [], kvs => by show kvs.length ≤ kvs.length + 0; omega
  | p :: r, kvs => by
    have h1 := length_mergeK r (putK kvs p.1 p.2)
    have h2 := length_putK kvs p.1 p.2
    show (mergeK (putK kvs p.1 p.2) r).length ≤ _
    rw [List.length_cons]; omega
theorem carries_of {P : Program} {w : World} : ∀ {kvs : List (Key × V)} {ws : List (Value × Value)}, VV (kvs.map fun kv => (kV kv.1, kv.2)) ws → ∃ rs, Carries (mixKind P w) ws rs ∧ KV kvs rs
  | [], _, r => by rw [List.map_nil] at r; cases r; exact ⟨[], True.intro, .nil⟩
  | p :: kvs, _, r => by
    rw [List.map_cons] at r
    cases r with
    | @cons a b as bs h t =>
      obtain ⟨rs, c, q⟩ := carries_of (P := P) (w := w) t
      obtain ⟨b1, b2⟩ := b
      exact ⟨(p.1, b2) :: rs, ⟨kV_is h.1, rfl, c⟩, .cons ⟨rfl, h.2⟩ q⟩
/-- {k: v, ..} with keys ints and texts; the new dict stands empty while the pairs are made -/
def tDisp (trs : List (TE × TE)) : TE := fun σ H Q => ∀ p, H p = none → tPairs trs σ (upd H p (.dK [])) fun ps H2 => H2 p = some (.dK []) ∧ ∃ kvs : List (Key × V), ps = kvs.map (fun kv => (kV kv.1, kv.2)) ∧ kvs.length ≤ 15 ∧ Q (.ref p) (upd H2 p (.dK (mergeK [] kvs)))
theorem pe_disp {X : Cx} {pos : Pos} {keys : List (Option Expr)} {values : List Expr} {trs : List (TE × TE)} (h : PPs X pos keys values trs) (hall : keys.all (·.isSome) = true) (hl : keys.length = values.length) (h0 : keys ≠ [])
    (h15 : keys.length ≤ 15) : PE X (.Dict keys values pos) (tDisp trs) := by
  intro pins s σ H Q I q
  have hn := I.hok.fresh (Nat.le_refl s.heap.objs.size)
  have I1 := I.laid (a := s.heap.objs.size) (o := .dK []) (h' := s.heap.push { cls := .type "dict", data := .dict #[] }) (t' := s.toks) (fun _ _ q => Heap.get?_push_of_some _ q) (Nat.le_refl _) (dk_empty s.heap I.big)
  refine wpAny_Dict_walk (knd := mixKind X.prog X.w) hall hl h0 h15 (thn (h pins _ σ _ _ I1 (q _ hn)) fun ws s2 ⟨ps, H2, I2, rel, e, kvs, ep, lk, q2⟩ => ?_)
  subst ep
  obtain ⟨rs, c, rk⟩ := carries_of (P := X.prog) (w := X.w) rel
  obtain ⟨z, hd, vs0, r0, dd⟩ := dk_of I2.hok e
  cases r0
  refine ⟨rs, c, dd, fun h' dd' hs => ⟨.ref s.heap.objs.size, _, ?_, rfl, q2⟩⟩
  have hz : (mergeK [] kvs).length ≤ sizeLine := by
    have h1 := length_mergeK kvs []
    rw [List.length_nil] at h1
    rw [sizeLine_eq]; omega
  have he : ∃ q, h'.get? s.heap.objs.size = some q := let ⟨q, _, _, hq, _⟩ := dd'; ⟨q, hq⟩
  exact d_write I2 (by rw [e]; exact True.intro) hs he (dk_new hz hd (rk.merge .nil) dd')


/-! ### methods -/
/-- a method call o.m(e) of a built-in, with one argument: what must be seen of the text -/
structure M1 (X : Cx) (o : Expr) (m : Str) (apos : Pos) (e : Expr) (cpos : Pos) : Prop where
  base : attributeBase o m X.env (eval o X.env) = eval o X.env
  few : ((backTo cpos (starEach [e] X.env)).all (fun x => !x.1) && (backToKw cpos (keywordEach [] X.env)).all (fun x => x.1.isSome)
    && decide (([e] : List Expr).length + ([] : List Keyword).length + (if ([] : List Keyword).isEmpty then 0 else 1) < 30)) = true
  line : (apos.endLine == cpos.line) = true
  trees : backTo cpos (starEach [e] X.env) = [(false, eval e X.env)]
structure M2 (X : Cx) (o : Expr) (m : Str) (apos : Pos) (e f : Expr) (cpos : Pos) : Prop where
  base : attributeBase o m X.env (eval o X.env) = eval o X.env
  few : ((backTo cpos (starEach [e, f] X.env)).all (fun x => !x.1) && (backToKw cpos (keywordEach [] X.env)).all (fun x => x.1.isSome)
    && decide (([e, f] : List Expr).length + ([] : List Keyword).length + (if ([] : List Keyword).isEmpty then 0 else 1) < 30)) = true
  line : (apos.endLine == cpos.line) = true
  trees : backTo cpos (starEach [e, f] X.env) = [(false, eval e X.env), (false, eval f X.env)]

/-- a is a dict, whatever its keys -/
def IsD (H : Hp) (a : Addr) : Prop := (∃ kvs, Rd H a (.dK kvs)) ∨ ∃ kvs, Rd H a (.dT kvs)
theorem isD_at {X : Cx} {pins : List (Addr × Obj)} {σ : St} {H : Hp} {s : Shared} {a : Addr} (I : Inv X pins σ H s) (d : IsD H a) :
    s.TypeIs (.ref a) "dict" ∧ (∀ b, Value.ref a = .ref b → ∃ ob, s.heap.get? b = some ob ∧ ob.dict = none) ∧ (a == sysModules) = false := by
  rcases d with ⟨kvs, e⟩ | ⟨kvs, e⟩
  · obtain ⟨_, hd, vs, _, dd⟩ := dk_rd I.hok e
    refine ⟨dd.typeIs, fun b q => ?_, hd⟩
    cases q
    obtain ⟨ob, _, _, h1, h2, _⟩ := dd
    exact ⟨ob, h1, h2.2.1⟩
  · obtain ⟨_, hd, xs, _, dd⟩ := dt_rd I.hok e
    refine ⟨dd.typeIs, fun b q => ?_, hd⟩
    cases q
    obtain ⟨ob, _, _, h1, h2, _⟩ := dd
    exact ⟨ob, h1, h2.2.1⟩

section
variable {X : Cx} {pins : List (Addr × Obj)} {σ : St} {H : Hp} {s : Shared} {a : Addr} {y d : V} {u r : Value} {o : Option V} {A : Around} {E : Value → Shared → Prop}
/-- d.get(y) -/
theorem d_get1 {Q : Value → Shared → Prop} (hu : A.units + 1 < cLine) (I : Inv X pins σ H s) (g : DGet H a y o) (ry : RelV y u) (h : ∀ w' s', Inv X pins σ H s' → RelV (o.getD .non) w' → Q w' s') :
    wpAny (model X.prog X.w) A (call (.builtin "dict.get") [.ref a, u]) Q E s := by
  rcases g with ⟨kvs, k, e, ey, l⟩ | ⟨kvs, k, b, e, ey, eb, l⟩
  · subst ey
    obtain ⟨z, hd, vs, rel, dd⟩ := dk_rd I.hok e
    refine call_meetsIn PySem.F.slot_dict_get dd.typeIs PySem.F.entry_dict_get (PySem.F.args_dict_get_2 _ _) (meets_dict_get (mixKind X.prog X.w) a (kV_is ry) hd) ⟨_, dd.mapOf, h _ _ (I.tok _) ?_⟩
    rw [l]
    exact (rel.val k).getD rfl
  · subst ey
    cases (show u = Value.ref b from ry)
    obtain ⟨z, hd, xs, rel, dd⟩ := dt_rd I.hok e
    refine call_meetsIn PySem.F.slot_dict_get dd.typeIs PySem.F.entry_dict_get (PySem.F.args_dict_get_2 _ _) (meetsH_dict_get (tupleKind (mixKind X.prog X.w)) a b hd) ⟨tupleKind_room_in1 hu, k, xs, key_of I.hok eb, dd, h _ _ (I.tok _) ?_⟩
    rw [l]
    exact (rel.val k).getD rfl
/-- d.get(y, x) -/
theorem d_get2 {Q : Value → Shared → Prop} (hu : A.units + 1 < cLine) (I : Inv X pins σ H s) (g : DGet H a y o) (ry : RelV y u) (rd : RelV d r) (h : ∀ w' s', Inv X pins σ H s' → RelV (o.getD d) w' → Q w' s') :
    wpAny (model X.prog X.w) A (call (.builtin "dict.get") [.ref a, u, r]) Q E s := by
  rcases g with ⟨kvs, k, e, ey, l⟩ | ⟨kvs, k, b, e, ey, eb, l⟩
  · subst ey
    obtain ⟨z, hd, vs, rel, dd⟩ := dk_rd I.hok e
    refine call_meetsIn PySem.F.slot_dict_get dd.typeIs PySem.F.entry_dict_get (PySem.F.args_dict_get_3 _ _ _) (meets_dict_get_default (mixKind X.prog X.w) a (kV_is ry) hd r) ⟨_, dd.mapOf, h _ _ (I.tok _) ?_⟩
    rw [l]
    exact (rel.val k).getD rd
  · subst ey
    cases (show u = Value.ref b from ry)
    obtain ⟨z, hd, xs, rel, dd⟩ := dt_rd I.hok e
    refine call_meetsIn PySem.F.slot_dict_get dd.typeIs PySem.F.entry_dict_get (PySem.F.args_dict_get_3 _ _ _) (meetsH_dict_get_default (tupleKind (mixKind X.prog X.w)) a b hd r) ⟨tupleKind_room_in1 hu, k, xs, key_of I.hok eb, dd, h _ _ (I.tok _) ?_⟩
    rw [l]
    exact (rel.val k).getD rd
end

def tDGet1 (td ty : TE) : TE := fun σ H Q => td σ H fun x H1 => ∃ a, x = .ref a ∧ IsD H1 a ∧ ty σ H1 fun y H2 => ∃ o, DGet H2 a y o ∧ Q (o.getD .non) H2
def tDGet2 (td ty tx : TE) : TE := fun σ H Q => td σ H fun x H1 => ∃ a, x = .ref a ∧ IsD H1 a ∧ ty σ H1 fun y H2 => tx σ H2 fun z H3 => ∃ o, DGet H3 a y o ∧ Q (o.getD z) H3
/-- d.pop(k): there; d.pop(k, x): there or not -/
def tDPop1 (td ty : TE) : TE := fun σ H Q => td σ H fun x H1 => ∃ a, x = .ref a ∧ IsD H1 a ∧ ty σ H1 fun y H2 => ∃ kvs k v, H2 a = some (.dK kvs) ∧ y = kV k ∧ valV kvs k = some v ∧ Q v (upd H2 a (.dK (dropK kvs k)))
def tDPop2 (td ty tx : TE) : TE := fun σ H Q => td σ H fun x H1 => ∃ a, x = .ref a ∧ IsD H1 a ∧ ty σ H1 fun y H2 => tx σ H2 fun z H3 => ∃ kvs k, H3 a = some (.dK kvs) ∧ y = kV k ∧
  (∀ v, valV kvs k = some v → Q v (upd H3 a (.dK (dropK kvs k)))) ∧ (valV kvs k = none → Q z H3)
section
variable {X : Cx} {o e f : Expr} {apos cpos : Pos} {td ty tx : TE}
theorem pe_dget1 (hu : X.A.units + 1 < cLine) (ho : PE X o td) (he : PE X e ty) (m : M1 X o "get" apos e cpos) : PE X (.Call (.Attribute o "get" apos) [e] [] cpos) (tDGet1 td ty) := by
  intro pins s σ H Q I h
  refine wpAny_Call_method m.base m.few m.line PySem.F.plainAttrs_dict PySem.F.slot_dict_get PySem.F.type_dict_get (thn (ho pins s σ H _ I h) fun u s1 ⟨x, H1, I1, rx, a, ex, d, q1⟩ => ?_)
  subst ex
  obtain rfl : u = Value.ref a := rx
  obtain ⟨t1, t2, _⟩ := isD_at I1 d
  refine ⟨t1, t2, ?_⟩
  rw [m.trees]
  refine Calls.callWith_builtin rfl (Calls.evalArgs_plain (Calls.spliced_cons (thn (he pins s1 σ H1 _ I1 q1) fun iv s2 ⟨y, H2, I2, ry, ov, g, q2⟩ => Calls.spliced_nil ?_)))
  exact d_get1 hu I2 g ry fun w' s3 I3 rw' => ⟨_, H2, I3, rw', q2⟩
theorem pe_dget2 (hu : X.A.units + 1 < cLine) (ho : PE X o td) (he : PE X e ty) (hf : PE X f tx) (m : M2 X o "get" apos e f cpos) : PE X (.Call (.Attribute o "get" apos) [e, f] [] cpos) (tDGet2 td ty tx) := by
  intro pins s σ H Q I h
  refine wpAny_Call_method m.base m.few m.line PySem.F.plainAttrs_dict PySem.F.slot_dict_get PySem.F.type_dict_get (thn (ho pins s σ H _ I h) fun u s1 ⟨x, H1, I1, rx, a, ex, d, q1⟩ => ?_)
  subst ex
  obtain rfl : u = Value.ref a := rx
  obtain ⟨t1, t2, _⟩ := isD_at I1 d
  refine ⟨t1, t2, ?_⟩
  rw [m.trees]
  refine Calls.callWith_builtin rfl (Calls.evalArgs_plain (Calls.spliced_cons (thn (he pins s1 σ H1 _ I1 q1) fun iv s2 ⟨y, H2, I2, ry, q2⟩ =>
    Calls.spliced_cons (thn (hf pins s2 σ H2 _ I2 q2) fun fv s3 ⟨z, H3, I3, rz, ov, g, q3⟩ => Calls.spliced_nil ?_))))
  exact d_get2 hu I3 g ry rz fun w' s4 I4 rw' => ⟨_, H3, I4, rw', q3⟩
theorem pe_dpop1 (ho : PE X o td) (he : PE X e ty) (m : M1 X o "pop" apos e cpos) : PE X (.Call (.Attribute o "pop" apos) [e] [] cpos) (tDPop1 td ty) := by
  intro pins s σ H Q I h
  refine wpAny_Call_method m.base m.few m.line PySem.F.plainAttrs_dict PySem.F.slot_dict_pop PySem.F.type_dict_pop (thn (ho pins s σ H _ I h) fun u s1 ⟨x, H1, I1, rx, a, ex, d, q1⟩ => ?_)
  subst ex
  obtain rfl : u = Value.ref a := rx
  obtain ⟨t1, t2, _⟩ := isD_at I1 d
  refine ⟨t1, t2, ?_⟩
  rw [m.trees]
  refine Calls.callWith_builtin rfl (Calls.evalArgs_plain (Calls.spliced_cons (thn (he pins s1 σ H1 _ I1 q1) fun iv s2 ⟨y, H2, I2, ry, kvs, k, v, ea, ey, l, q2⟩ => Calls.spliced_nil ?_)))
  subst ey
  exact d_pop I2 ea ry l (.inl rfl) fun w' s3 I3 rw' => ⟨v, _, I3, rw', q2⟩
theorem pe_dpop2 (ho : PE X o td) (he : PE X e ty) (hf : PE X f tx) (m : M2 X o "pop" apos e f cpos) : PE X (.Call (.Attribute o "pop" apos) [e, f] [] cpos) (tDPop2 td ty tx) := by
  intro pins s σ H Q I h
  refine wpAny_Call_method m.base m.few m.line PySem.F.plainAttrs_dict PySem.F.slot_dict_pop PySem.F.type_dict_pop (thn (ho pins s σ H _ I h) fun u s1 ⟨x, H1, I1, rx, a, ex, d, q1⟩ => ?_)
  subst ex
  obtain rfl : u = Value.ref a := rx
  obtain ⟨t1, t2, _⟩ := isD_at I1 d
  refine ⟨t1, t2, ?_⟩
  rw [m.trees]
  refine Calls.callWith_builtin rfl (Calls.evalArgs_plain (Calls.spliced_cons (thn (he pins s1 σ H1 _ I1 q1) fun iv s2 ⟨y, H2, I2, ry, q2⟩ =>
    Calls.spliced_cons (thn (hf pins s2 σ H2 _ I2 q2) fun fv s3 ⟨z, H3, I3, rz, kvs, k, ea, ey, q3, q4⟩ => Calls.spliced_nil ?_))))
  subst ey
  cases l : valV kvs k with
  | some v => exact d_pop I3 ea ry l (.inr ⟨fv, rfl⟩) fun w' s4 I4 rw' => ⟨v, _, I4, rw', q3 v l⟩
  | none => exact d_popD I3 ea ry l fun s4 I4 => ⟨z, H3, I4, rz, q4 l⟩
end

/-! ### dict(d): a copy -/
section
variable {X : Cx} {pins : List (Addr × Obj)} {σ : St} {H : Hp} {s : Shared} {a : Addr} {kvs : List (Key × V)} {A : Around} {E : Value → Shared → Prop}
theorem d_copyOf {Q : Value → Shared → Prop} (I : Inv X pins σ H s) (e : Rd H a (.dK kvs)) (h : ∀ p s', H p = none → Inv X pins σ (upd H p (.dK kvs)) s' → Q (.ref p) s') : wpAny (model X.prog X.w) A (call (.type "dict") [.ref a]) Q E s := by
  obtain ⟨z, hd, vs, rel, dd⟩ := dk_rd I.hok e
  refine kt_call_dict hd dd (by rw [← rel.length]; exact z) fun h' dd' hs => ?_
  refine h _ _ (I.hok.fresh (Nat.le_refl _)) (I.laid (a := s.heap.objs.size) (o := .dK kvs) (t' := s.toks) (fun b q hq => ?_) (Nat.le_refl _) (dk_new z (beq_eq_false_iff_ne.mpr (Ne.symm (Nat.ne_of_lt I.big))) rel dd'))
  exact (hs.2 b (Nat.ne_of_lt (Heap.lt_size hq))).trans (Heap.get?_push_of_some _ hq)
end


section
variable {X : Cx} {pins : List (Addr × Obj)} {σ : St} {H : Hp} {s : Shared} {a : Addr} {y : V} {u : Value} {A : Around} {E : Value → Shared → Prop}
/-- d[y], not there: a KeyError -/
theorem d_missing {Q : Value → Shared → Prop} (hu : A.units + 1 < cLine) (hh : A.handled = none) (I : Inv X pins σ H s) (g : DGet H a y none) (ry : RelV y u)
    (h : ∀ h' e t', Heap.NewExc s.heap h' e "KeyError" → E (.ref e) { s with heap := h', toks := t' }) : wpAny (model X.prog X.w) A (getItem (.ref a) u) Q E s := by
  rcases g with ⟨kvs, k, e, ey, l⟩ | ⟨kvs, k, b, e, ey, eb, l⟩
  · subst ey
    obtain ⟨z, hd, vs, rel, dd⟩ := dk_rd I.hok e
    have hn : valueAt vs k = none := RelO.none_of (by rw [l]; exact rel.val k)
    exact wpAny_getItem_missing_of (kV_is ry) hd hh dd.mapOf hn fun h' ex ne => h h' ex _ ne
  · subst ey
    cases (show u = Value.ref b from ry)
    obtain ⟨z, hd, xs, rel, dd⟩ := dt_rd I.hok e
    have hn : (atKey xs k).map (·.2) = none := RelO.none_of (by rw [l]; exact rel.val k)
    exact wpAny_getItem_missing_heap (tupleKind_room_in1 hu) (key_of I.hok eb) hd hh dd (Option.map_eq_none_iff.mp hn) fun h' ex ne => h h' ex _ ne
end
section
variable {X : Cx}
/-- len of a dict -/
theorem call_lenD : CallR X (.builtin "len") (fun xs H Q => ∃ a kvs, xs = [V.ref a] ∧ H a = some (.dK kvs) ∧ Q (.int kvs.length) H) := by
  intro pins s σ H xs us Q I r h
  obtain ⟨a, kvs, rfl, ha, q⟩ := h
  obtain ⟨u, rfl, ru⟩ := vals1 r
  cases ru
  exact d_len I (.inl ha) fun t s' I' => ⟨.int kvs.length, H, I', ⟨t, rfl⟩, q⟩
end
/-! ### a dict's pairs: keys that differ -/
section
variable {κ : Type} [DecidableEq κ]
theorem valV_not {kvs : List (κ × V)} {k : κ} (h : valV kvs k = none) : ¬ k ∈ kvs.map (·.1) := by
  intro m
  obtain ⟨p, hp, e⟩ := List.mem_map.mp m
  have q : (kvs.any fun kv => decide (kv.1 = k)) = true := List.any_eq_true.mpr ⟨p, hp, decide_eq_true e⟩
  rw [valV_any, h] at q
  exact absurd q (by simp)
theorem valV_in {kvs : List (κ × V)} {k : κ} {v : V} (h : valV kvs k = some v) : k ∈ kvs.map (·.1) := by
  have q : (kvs.any fun kv => decide (kv.1 = k)) = true := by
    rw [valV_any, h]
    all_goals rfl
  obtain ⟨p, hp, e⟩ := List.any_eq_true.mp q
  exact List.mem_map.mpr ⟨p, hp, of_decide_eq_true e⟩
theorem nd_snoc : ∀ {l : List κ} {k : κ}, l.Nodup → ¬ k ∈ l → (l ++ [k]).Nodup
  | [], k, _, _ => by simp
  | a :: r, k, h, hk => by
    obtain ⟨h1, h2⟩ := List.nodup_cons.mp h
    show (a :: (r ++ [k])).Nodup
    refine List.nodup_cons.mpr ⟨fun m => ?_, nd_snoc h2 fun m => hk (List.mem_cons.mpr (Or.inr m))⟩
    rcases List.mem_append.mp m with q | q
    · exact h1 q
    · exact hk (List.mem_cons.mpr (Or.inl (List.mem_singleton.mp q).symm))
theorem nd_putK {kvs : List (κ × V)} {k : κ} (v : V) (hn : (kvs.map (·.1)).Nodup) (h : valV kvs k = none) : ((putK kvs k v).map (·.1)).Nodup := by
  rw [putK_new v h, List.map_append]
  exact nd_snoc hn (valV_not h)
theorem dropK_pos {p : κ × V} {r : List (κ × V)} {k : κ} (e : p.1 = k) : dropK (p :: r) k = dropK r k := by
  unfold dropK
  rw [List.filter_cons, if_neg (by simp [e])]
theorem dropK_neg {p : κ × V} {r : List (κ × V)} {k : κ} (e : ¬ p.1 = k) : dropK (p :: r) k = p :: dropK r k := by
  unfold dropK
  rw [List.filter_cons, if_pos (by simp [e])]
theorem dropK_no : ∀ {kvs : List (κ × V)} {k : κ}, ¬ k ∈ kvs.map (·.1) → dropK kvs k = kvs
  | [], _, _ => rfl
  | p :: r, k, h => by
    have h' : ¬ k ∈ r.map (·.1) := fun m => by
      obtain ⟨q, hq, e⟩ := List.mem_map.mp m
      exact h (List.mem_map.mpr ⟨q, List.mem_cons.mpr (Or.inr hq), e⟩)
    rw [dropK_neg fun e => h (List.mem_map.mpr ⟨p, List.mem_cons.mpr (Or.inl rfl), e⟩), dropK_no h']
theorem dropK_mem {kvs : List (κ × V)} {k : κ} {p : κ × V} (h : p ∈ dropK kvs k) : p ∈ kvs := (List.mem_filter.mp h).1
theorem nd_dropK : ∀ {kvs : List (κ × V)} {k : κ}, (kvs.map (·.1)).Nodup → ((dropK kvs k).map (·.1)).Nodup
  | [], _, _ => List.nodup_nil
  | p :: r, k, h => by
    have h : (p.1 :: r.map (·.1)).Nodup := h
    obtain ⟨h1, h2⟩ := List.nodup_cons.mp h
    by_cases e : p.1 = k
    · rw [dropK_pos e]
      exact nd_dropK h2
    · rw [dropK_neg e]
      show (p.1 :: (dropK r k).map (·.1)).Nodup
      refine List.nodup_cons.mpr ⟨fun m => h1 ?_, nd_dropK h2⟩
      obtain ⟨q, hq, eq⟩ := List.mem_map.mp m
      exact List.mem_map.mpr ⟨q, dropK_mem hq, eq⟩
theorem dropK_len : ∀ {kvs : List (κ × V)} {k : κ}, (kvs.map (·.1)).Nodup → k ∈ kvs.map (·.1) → (dropK kvs k).length + 1 = kvs.length
  | [], _, _, m => by simp at m
  | p :: r, k, h, m => by
    have h : (p.1 :: r.map (·.1)).Nodup := h
    have m : k = p.1 ∨ k ∈ r.map (·.1) := List.mem_cons.mp m
    obtain ⟨h1, h2⟩ := List.nodup_cons.mp h
    by_cases e : p.1 = k
    · subst e
      rw [dropK_pos rfl, dropK_no h1]
      all_goals rfl
    · have m' : k ∈ r.map (·.1) := m.resolve_left fun z => e z.symm
      have q := dropK_len h2 m'
      rw [dropK_neg e, List.length_cons, List.length_cons]
      omega
end

end L2

namespace L2
open PySem PySem.Spec PyProof.Rows
/-! ### d.setdefault(k, v) -/
section
variable {X : Cx} {pins : List (Addr × Obj)} {σ : St} {H : Hp} {s : Shared} {a : Addr} {A : Around} {E : Value → Shared → Prop}
theorem d_setdefault {kvs : List (Key × V)} {k : Key} {v : V} {u r : Value} {Q : Value → Shared → Prop} (I : Inv X pins σ H s) (e : H a = some (.dK kvs)) (hl : kvs.length < sizeLine) (ry : RelV (kV k) u) (rv : RelV v r)
    (h1 : ∀ x w' s', valV kvs k = some x → Inv X pins σ H s' → RelV x w' → Q w' s') (h2 : valV kvs k = none → ∀ s', Inv X pins σ (upd H a (.dK (putK kvs k v))) s' → Q r s') : wpAny (model X.prog X.w) A (call (.builtin "dict.setdefault") [.ref a, u, r]) Q E s := by
  obtain ⟨z, hd, vs, rel, dd⟩ := dk_of I.hok e
  have rl := rel.val k
  refine call_meetsIn F.slot_dict_setdefault dd.typeIs F.entry_dict_setdefault (F.args_dict_setdefault_3 _ _ _) (kt_meets_setdefault (mixKind X.prog X.w) a (kV_is ry) hd r) ⟨vs, dd, by rw [← rel.length]; exact z, fun x hx => ?_, fun hn h' dd' hs => ?_⟩
  · rw [hx] at rl
    cases hv : valV kvs k with
    | none => rw [hv] at rl; exact False.elim rl
    | some y =>
      rw [hv] at rl
      exact h1 y x _ hv (I.tok _) rl
  · rw [hn] at rl
    cases hv : valV kvs k with
    | some y => rw [hv] at rl; exact False.elim rl
    | none =>
      have hl' : (putK kvs k v).length ≤ sizeLine := by have := length_putK kvs k v; omega
      have he : ∃ q, h'.get? a = some q := let ⟨q, _, _, hq, _⟩ := dd'; ⟨q, hq⟩
      exact h2 hv _ (d_write (t' := s.toks + 1) I (by rw [e]; exact True.intro) hs he (dk_new hl' hd (rel.put k rv) dd'))
end
def tDSetd (td ty tx : TE) : TE := fun σ H Q => td σ H fun x H1 => ∃ a, x = .ref a ∧ IsD H1 a ∧ ty σ H1 fun y H2 => tx σ H2 fun z H3 => ∃ kvs k, H3 a = some (.dK kvs) ∧ y = kV k ∧ kvs.length < sizeLine ∧
  (∀ v, valV kvs k = some v → Q v H3) ∧ (valV kvs k = none → Q z (upd H3 a (.dK (putK kvs k z))))
theorem pe_dsetd {X : Cx} {o e f : Expr} {td ty tx : TE} {apos cpos : Pos} (ho : PE X o td) (he : PE X e ty) (hf : PE X f tx) (m : M2 X o "setdefault" apos e f cpos) : PE X (.Call (.Attribute o "setdefault" apos) [e, f] [] cpos) (tDSetd td ty tx) := by
  intro pins s σ H Q I h
  refine wpAny_Call_method m.base m.few m.line PySem.F.plainAttrs_dict PySem.F.slot_dict_setdefault PySem.F.type_dict_setdefault (thn (ho pins s σ H _ I h) fun u s1 ⟨x, H1, I1, rx, a, ex, d, q1⟩ => ?_)
  subst ex
  obtain rfl : u = Value.ref a := rx
  obtain ⟨t1, t2, _⟩ := isD_at I1 d
  refine ⟨t1, t2, ?_⟩
  rw [m.trees]
  refine Calls.callWith_builtin rfl (Calls.evalArgs_plain (Calls.spliced_cons (thn (he pins s1 σ H1 _ I1 q1) fun iv s2 ⟨y, H2, I2, ry, q2⟩ =>
    Calls.spliced_cons (thn (hf pins s2 σ H2 _ I2 q2) fun fv s3 ⟨z, H3, I3, rz, kvs, k, ea, ey, hl, g1, g2⟩ => Calls.spliced_nil ?_))))
  subst ey
  exact d_setdefault I3 ea hl ry rz (fun x w' s4 hv I4 rw' => ⟨x, H3, I4, rw', g1 x hv⟩) fun hv s4 I4 => ⟨z, _, I4, rz, g2 hv⟩
/-! ### for k in d: the dict is held as it is from here on -/
def Itd (d : Addr) (o : Obj) (kvs : List (Key × V)) : It := ⟨fun i H => i < kvs.length ∧ H d = some (.frz o (.dK kvs)), fun i H x H' => H' = H ∧ ∃ k v, kvs[i]? = some (k, v) ∧ x = kV k, fun i H => kvs.length ≤ i ∧ H d = some (.frz o (.dK kvs))⟩
theorem frz_at {P : Program} {w : World} {H : Hp} {h : Heap} {d : Addr} {o : Obj} {kvs : List (Key × V)} (k : HOk P w H h) (e : H d = some (.frz o (.dK kvs))) : h.get? d = some o ∧ (d == sysModules) = false ∧ ∃ vs ep es, o.data = .dict es ep ∧ KV kvs vs ∧ h.DictAt (mixKind P w) d vs ep := by
  obtain ⟨g1, _, g2, vs, rel, o', es, ep, g3, g4, g5, r⟩ := (show ObjOk P w H h d (.frz o (.dK kvs)) from k d _ e)
  rw [g1] at g3
  cases g3
  exact ⟨g1, g2, vs, ep, es, g5, rel, o, es, g1, g4, g5, r⟩
theorem kv_len {kvs : List (Key × V)} {vs : List (Key × Value)} (r : KV kvs vs) : kvs.length = vs.length := r.length
theorem key_is {P : Program} {w : World} {k : Key} {u : Value} (h : (mixKind P w).is k u = true) : RelV (kV k) u := by
  rw [mixKind_is] at h
  rcases keyIs_shape h with ⟨i, t, rfl, rfl⟩ | ⟨x, t, rfl, rfl⟩
  · exact ⟨t, rfl⟩
  · exact ⟨t, rfl⟩
theorem kv_get {kvs : List (Key × V)} {vs : List (Key × Value)} (r : KV kvs vs) {i : Nat} {k : Key} {v : Value} (h : vs[i]? = some (k, v)) : ∃ y, kvs[i]? = some (k, y) := by
  unfold KV at r
  induction r generalizing i with
  | nil => simp at h
  | cons a _ ih =>
    cases i with
    | zero =>
      simp at h
      rename_i p q _ _ _
      refine ⟨p.2, ?_⟩
      simp
      have e := a.1
      rw [h] at e
      exact Prod.ext e rfl
    | succ i => simpa using ih (by simpa using h)
theorem turn_dict {P : Program} {w : World} {K : PySem.W.Frag} {tg : Expr} (d it : Addr) (o : Obj) (kvs : List (Key × V)) {es : Array DictEntry} {ep : Nat} (hd : o.data = .dict es ep) : Turn P w K tg (Itd d o kvs) [it] it (fun i h => h.IsKeyIter it d i kvs.length ep) where
  mem := by simp
  obj := fun i h st b hb => by
    have e : b = it := by simpa using hb
    subst e
    obtain ⟨o, e, c, d⟩ := st
    exact ⟨o, e, fun v z => by rw [d] at z; cases z⟩
  keep := fun i h h' st k => st.at fun o e => k it (by simp) o e
  item := by
    intro X hP hw hK hc i pins s σ H E I hf st hg
    subst hP hw hK
    obtain ⟨hi, hfz⟩ := hg
    obtain ⟨g1, g2, vs, ep', es', e1, rel, da⟩ := frz_at I.hok hfz
    rw [hd] at e1
    cases e1
    have hl := kv_len rel
    obtain ⟨f0, f1, f2, f3, f4, f5⟩ := hf it (by simp)
    have hx : vs[i]? = some (vs[i]'(by omega)) := List.getElem?_eq_getElem _
    obtain ⟨y, hy⟩ := kv_get rel (k := (vs[i]'(by omega)).1) (v := (vs[i]'(by omega)).2) hx
    rw [hl] at st
    refine wpAny_pyNext_dict_item (k := (vs[i]'(by omega)).1) (v := (vs[i]'(by omega)).2) st da hx fun key h' hk st' sb => ?_
    have I1 : Inv X pins σ H { s with heap := h' } := I.turned (t' := s.toks) (fun b o hb e => (sb.2 b hb).trans e) f0 f1 f3 f4 f5
    obtain ⟨o2, e2, c2, d2⟩ := id st'
    rw [← hl] at st'
    exact ⟨key, rfl, go_of (s := { s with heap := h' }) e2 c2 d2 (by decide) ⟨_, H, I1, key_is hk, ⟨rfl, _, y, hy, rfl⟩, st', fun b hb => (hf b hb).1⟩⟩
  done := by
    intro X hP hw hK hc i pins s σ H E I hf st hg
    subst hP hw hK
    obtain ⟨hi, hfz⟩ := hg
    obtain ⟨g1, g2, vs, ep', es', e1, rel, da⟩ := frz_at I.hok hfz
    rw [hd] at e1
    cases e1
    have hl := kv_len rel
    rw [hl] at st
    obtain ⟨f0, f1, f2, f3, f4, f5⟩ := hf it (by simp)
    exact wpAny_pyNext_dict_end (I.ok.hd hc) st da (List.getElem?_eq_none (by omega)) fun h' eb => ⟨rfl, I.turned (t' := s.toks) (fun b o hb e => eb b o hb e) f0 f1 f3 f4 f5⟩
  self := fun _ _ _ _ _ st h => wpAny_pyIter_keyiter st h
def iDict (tl : TE) : TI := fun σ H R => tl σ H fun x H1 => ∃ d kvs, x = .ref d ∧ H1 d = some (.dK kvs) ∧ ∀ o, R (Itd d o kvs) (upd H1 d (.frz o (.dK kvs)))
theorem pi_dict {X : Cx} {tg l : Expr} {tl : TE} (hl : PE X l tl) : PI X tg l (iDict tl) := by
  intro pins s σ H R I h
  refine thn (hl pins s σ H _ I h) fun v s1 ⟨x, H1, I1, r1, q1⟩ => ?_
  obtain ⟨d, kvs, e, hd, q⟩ := q1
  subst e
  cases r1
  obtain ⟨z, hsm, vs, rel, o, es, ep, g1, g2, g3, g4⟩ := dk_of I1.hok hd
  have lt : d < s1.heap.objs.size := Heap.lt_size g1
  have da : s1.heap.DictAt (mixKind X.prog X.w) d vs ep := ⟨o, es, g1, g2, g3, g4⟩
  refine wpAny_pyIter_dict hsm da ?_
  have J : Inv X pins σ (upd H1 d (.frz o (.dK kvs))) s1 := I1.write (x := d) (e := d) (t' := s1.toks) (by rw [hd]; exact True.intro) (.inl rfl) (fun b u _ z => z) ⟨o, g1⟩ ⟨g1, z, hsm, vs, rel, o, es, ep, g1, g2, g3, g4⟩
  have hlen : vs.length = kvs.length := (kv_len rel).symm
  refine ⟨s1.heap.objs.size, [s1.heap.objs.size], _, _, _, rfl, J.kept (t' := s1.toks) fun b o e => Heap.get?_push_of_some _ e, turn_dict d _ o kvs g3, ⟨_, Heap.get?_push_size _ rfl, rfl, by rw [hlen]; rfl⟩, fun b hb => ?_, q o⟩
  have e : b = s1.heap.objs.size := by simpa using hb
  subst e
  exact J.fpOk (Nat.le_refl _) (J.hok.fresh (Nat.le_refl _))
theorem forW_dict {g : TG} {tb : TS} {D : Ends} {σ : St} {H : Hp} {d : Addr} {o : Obj} {kvs : List (Key × V)} (Pv : Nat → St → Hp → Prop) (h0 : Pv 0 σ H) (hf : ∀ i σ H, Pv i σ H → H d = some (.frz o (.dK kvs)))
    (hs : ∀ i k v σ H, kvs[i]? = some (k, v) → Pv i σ H → g (kV k) σ H fun σ2 H2 => tb { D with nx := Pv (i + 1), ct := Pv (i + 1), bk := D.nx } σ2 H2) (hd : ∀ σ H, Pv kvs.length σ H → D.nx σ H) : ForW g tb D σ (Itd d o kvs) H := by
  refine ⟨fun i m σ H => m = kvs.length - i ∧ i ≤ kvs.length ∧ Pv i σ H, ⟨kvs.length, by simp, Nat.zero_le _, h0⟩, ?_⟩
  rintro i m σ H ⟨rfl, hi, p⟩
  by_cases hlt : i < kvs.length
  · refine .inr ⟨⟨hlt, hf i σ H p⟩, Pv (i + 1), fun σ' H' p' => ⟨kvs.length - (i + 1), by omega, rfl, hlt, p'⟩, fun x H' y => ?_⟩
    obtain ⟨e, k, v, hk, y⟩ := y
    subst e y
    exact hs i k v σ _ hk p
  · have e : i = kvs.length := by omega
    subst e
    exact .inl ⟨⟨Nat.le_refl _, hf _ σ H p⟩, hd σ H p⟩

end L2

namespace L2
open PySem PySem.Spec PyProof.Rows
/-! ### a class called within a try -/
/-- C(..) within a try -/
def tMakeT (C : Addr) (sp : Sp) (W : St → Addr → Hp → Prop) (t : TA) : TE := fun σ H Q => t σ H fun vs H1 => ∀ x dx, H1 x = none → H1 dx = none → dx ≠ x →
  ∃ E : XK, sp (.ref x :: vs) (upd (upd H1 dx (.own x)) x (.ins C dx [])) (fun v H2 => v = .non ∧ Q (.ref x) H2) E ∧ ∀ e H', E (.ref e) none H' → W σ e H'
theorem pe_makeT {X : Cx} {pins : List (Addr × Obj)} {W : St → Addr → Hp → Prop} {k : Nat} {f C : Addr} {fd : FuncData} {ps : List Str} {sp : Sp} {x : Str} {p pos : Pos} {e : Expr} {es : List Expr} {t : TA} (M : Mk X.K C f) (F : FnOk X.prog X.w X.K X.mg X.base (CXe X.prog X.w) k f fd ps sp) (hr : Room (k + 1) X.A) (hg : Gl X x)
    (hm : X.mg x = some (.ref C)) (hb : Binds X.K fd ps []) (ha : PA (X.tr pins W) (e :: es) t) (hdb : (x == ("__debug__" : Str)) = false := by decide)
    (he : starEach (e :: es) X.env = (false, eval e X.env) :: starEach es X.env := by rfl) (hpl : (backTo pos (starEach es X.env)).any (·.1) = false := by rfl) : PE (X.tr pins W) (.Call (.Name x p) (e :: es) [] pos) (tMakeT C sp W t) := by
  intro pins' s σ H Q I h
  refine wpAny_Call_Name_kw (ld_glob I hg hm ?_ hdb)
  refine PySem.W.callWith_K (h₀ := X.base) I.ok.mod.kin M.kp (thn (ha pos pins' s σ H _ I h) fun us s1 ⟨vs, H1, I1, r, q⟩ => ⟨I1.kIn, ?_⟩) he hpl
  obtain ⟨E, hsp, hW⟩ := q (s1.heap.objs.size + 1) s1.heap.objs.size (I1.hok.fresh (Nat.le_succ _)) (I1.hok.fresh (Nat.le_refl _)) (Nat.ne_of_lt (Nat.lt_succ_self _))
  have I2 := Inv.made (C := C) I1
  have r2 : Vals (V.ref (s1.heap.objs.size + 1) :: vs) (Value.ref (s1.heap.objs.size + 1) :: us) := .cons rfl r
  have hl : (Value.ref (s1.heap.objs.size + 1) :: us ++ ([] : List Value)).length = ps.length := by
    have e := r2.length
    rw [F.len _ _ _ _ hsp] at e
    rw [List.append_nil]
    exact e.symm
  have hb1 := hb _ (Value.ref (s1.heap.objs.size + 1) :: us) I2.kIn hl
  rw [List.append_nil] at hb1
  refine wpAny_call (make_map (f := f) I1.kIn M.makes M.init (beq_iff_eq.mp M.fn) (codeAny_mono (F.run _ X.stack _ _ ⟨Value.ref (s1.heap.objs.size + 1) :: us, []⟩ (Value.ref (s1.heap.objs.size + 1) :: us) _ _ E (hr.make C us [])
    (I2.env0.make C us []) hb1 r2 hsp) fun r' s' hq => ?_))
  cases r' with
  | error ev =>
    obtain ⟨e, C, dx, T, H', rfl, os, bare, un, hok, l1, l2, te, he, hT, xo, tt, qE⟩ := hq
    exact ⟨e, C, dx, T, σ, H', rfl, I2.untr.call' os un hok bare (fun b z => absurd z (by simp)), he, te, I2.untr.fpOk l2 hT, xo, tt, hW e H' qE⟩
  | ok fl =>
    cases fl with
    | ret u =>
      obtain ⟨v, H', I3, rv, ev, q3⟩ := I2.after hq
      subst ev
      exact ⟨rv, ⟨V.ref (s1.heap.objs.size + 1), H', I3, rfl, q3⟩⟩
    | next => exact False.elim hq
    | brk => exact False.elim hq
    | cont => exact False.elim hq
/-- lists and tuples stay -/
def SameS (H H' : Hp) : Prop := (∀ a xs, H a = some (.lst xs) → H' a = some (.lst xs)) ∧ ∀ a xs, H a = some (.tup xs) → H' a = some (.tup xs)
theorem Same.seqs {H H' : Hp} (e : Same H H') : SameS H H' := ⟨fun _ _ h => e _ _ h, fun _ _ h => e _ _ h⟩
theorem SameS.trans {H H' H'' : Hp} (e : SameS H H') (e' : SameS H' H'') : SameS H H'' := ⟨fun _ _ h => e'.1 _ _ (e.1 _ _ h), fun _ _ h => e'.2 _ _ (e.2 _ _ h)⟩
/-- what is no list or tuple is changed -/
theorem SameS.upd {H : Hp} {a : Addr} {o : HO} (h : (∀ xs, H a ≠ some (.lst xs)) ∧ ∀ xs, H a ≠ some (.tup xs)) : SameS H (L2.upd H a o) :=
  ⟨fun b xs e => by rw [upd_ne (fun z : b = a => h.1 xs (z ▸ e))]; exact e, fun b xs e => by rw [upd_ne (fun z : b = a => h.2 xs (z ▸ e))]; exact e⟩
mutual
theorem DeepT.seqs {H H' : Hp} (e : SameS H H') : ∀ (d : DV) (v : V), DeepT H d v → DeepT H' d v
  | .non, v, h => by rw [DeepT] at *; exact h
  | .bl b, v, h => by rw [DeepT] at *; exact h
  | .int i, v, h => by rw [DeepT] at *; exact h
  | .str x, v, h => by rw [DeepT] at *; exact h
  | .lst ds, v, h => by rw [DeepT] at *; obtain ⟨a, xs, r, q, t⟩ := h; exact ⟨a, xs, r, e.1 _ _ q, DeepTs.seqs e ds xs t⟩
  | .tup ds, v, h => by rw [DeepT] at *; obtain ⟨a, xs, r, q, t⟩ := h; exact ⟨a, xs, r, e.2 _ _ q, DeepTs.seqs e ds xs t⟩
theorem DeepTs.seqs {H H' : Hp} (e : SameS H H') : ∀ (ds : List DV) (xs : List V), DeepTs H ds xs → DeepTs H' ds xs
  | [], xs, h => by rw [DeepTs] at *; exact h
  | d :: ds, xs, h => by rw [DeepTs] at *; obtain ⟨y, ys, r, q, t⟩ := h; exact ⟨y, ys, r, DeepT.seqs e d y q, DeepTs.seqs e ds ys t⟩
end
/-! ### a display of texts -/
def strsC : List Expr → Option (List Str)
  | [] => some []
  | .Constant (.str z) _ _ :: r => match strsC r with
    | some zs => some (z :: zs)
    | none => none
  | _ => none
theorem pa_strs {X : Cx} : ∀ {es : List Expr} {zs : List Str}, strsC es = some zs → PA X es (fun _ H Q => Q (zs.map V.str) H)
  | [], zs, h => by
    cases h
    exact pa_nil
  | .Constant (.str z) k ps :: r, zs, h => by
    rw [strsC] at h
    cases e : strsC r with
    | none => rw [e] at h; cases h
    | some ys =>
      rw [e] at h
      cases h
      exact pa_cons (te := fun _ H Q => Q (.str z) H) pe_str (pa_strs e) rfl
  | .Constant (.int _) _ _ :: r, zs, h => by cases h
/-- x = [texts]; used with @ (the display is never run by the elaborator) -/
theorem ps_setLit {X : Cx} {i : Nat} {x : Str} {es : List Expr} {zs : List Str} {pos pos' pl : Pos} (hN : X.N.Nodup) (hi : X.N[i]? = some x) (hx : Loc X.env.scope x) (hz : strsC es = some zs)
    (hs : swapsWith (.List es pl) (some (.Name x pos')) pos.line X.env = pure false) (hf : X.fn x = true ∨ X.env.scope.names.lookup x = some .local) : PS X (.Assign [.Name x pos'] (.List es pl) pos) (tAsg (tLst (fun _ H Q => Q (zs.map V.str) H)) (gName i)) :=
  ps_set hN hi hx (@pe_lst _ _ _ _ (@pa_strs _ _ _ hz)) hs hf
theorem pss_c {X : Cx} {st : Stmt} {rest : List Stmt} {t u : TS} (h1 : PS X st t) (h2 : PSs X rest u) : PSs X (st :: rest) (tSeq t u) := pss_cons h1 h2

end L2

namespace L2
open PySem PySem.Spec PyProof.Rows
/-! ### sorted texts, the place of a text in a list, comprehensions over enumerate -/
section
variable {X : Cx}
theorem strsAre_of : ∀ {zs : List Str} {us : List Value}, Vals (zs.map V.str) us → StrsAre us zs
  | [], us, r => by cases r; exact .nil
  | z :: zs, us, r => by
    cases r with
    | cons r0 rs =>
      obtain ⟨t, rfl⟩ := r0
      exact .cons _ t (strsAre_of rs)
theorem strsAre_to : ∀ {zs : List Str} {us : List Value}, StrsAre us zs → Vals (zs.map V.str) us
  | _, _, .nil => .nil
  | _, _, .cons y t h => .cons ⟨t, rfl⟩ (strsAre_to h)
/-- sorted(l), l a list of texts -/
theorem call_sortedS (K : PySem.W.Frag) (hK : X.K = K := by rfl) : CallR X (.builtin "sorted") (fun xs H Q => ∃ (p : Addr) (zs : List Str), xs = [.ref p] ∧ SqL K H p (zs.map V.str) ∧ zs.length < 64 ∧
    ∀ (r : Addr) (zs' : List Str), H r = none → zs'.Perm zs → sortedS zs' = true → Q (.ref r) (upd H r (.lst (zs'.map V.str)))) := by
  subst hK
  intro pins s σ H xs us Q I r h
  obtain ⟨p, zs, rfl, hp, hl, q⟩ := h
  obtain ⟨u, rfl, ru⟩ := vals1 r
  cases ru
  obtain ⟨its, rv, pl, hz⟩ := I.list hp
  have hlen : its.length = zs.length := by rw [← rv.length, List.length_map]
  refine sorted_strs pl.isList (strsAre_of rv) (by omega) fun out zs' h1 h2 h3 => ?_
  obtain ⟨e, he⟩ := sortedAll_at s.heap its out
  refine ⟨.ref (s.heap.objs.size + 1), _, I.laid (o := .lst (zs'.map V.str)) (t' := s.toks) (fun b u hb => sortedAll_old hb) (Nat.le_succ _) ?_, rfl, q _ zs' (I.hok.fresh (Nat.le_succ _)) h2 h3⟩
  refine ⟨?_, out.toList, e, strsAre_to h1, he⟩
  rw [List.length_map, h2.length_eq]
  exact small (by omega)
/-- l.index(x), x a text that stands in l, first at j -/
def rIdxL (K : PySem.W.Frag) : V → List V → Hp → VK → Prop := fun x vs H Q => ∃ (p : Addr) (zs : List Str) (z : Str) (j : Nat), x = .ref p ∧ vs = [.str z] ∧ SqL K H p (zs.map V.str) ∧ zs[j]? = some z ∧ (∀ i y, i < j → zs[i]? = some y → y ≠ z) ∧ Q (.int j) H
theorem strs_get {zs : List Str} {us : List Value} {i : Nat} {u : Value} (r : Vals (zs.map V.str) us) (h : us[i]? = some u) : ∃ y t, zs[i]? = some y ∧ u = .str y t := by
  induction zs generalizing us i with
  | nil => cases r; simp at h
  | cons z zs ih =>
    cases r with
    | cons r0 rs =>
      obtain ⟨t, rfl⟩ := r0
      cases i with
      | zero => simp at h; subst h; exact ⟨z, t, rfl, rfl⟩
      | succ i => exact ih rs (by simpa using h)
def isS (z : Str) : Value → Bool
  | .str y _ => y == z
  | _ => false
theorem mt_indexL (K : PySem.W.Frag) (hK : X.K = K := by rfl) : MtM X "list.index" (rIdxL K) := by
  subst hK
  intro pins s σ H x vs v us Q I rx rv h
  obtain ⟨p, zs, z, j, rfl, rfl, hp, hj, hno, q⟩ := h
  cases rx
  obtain ⟨u, rfl, t, rfl⟩ := rv.one
  obtain ⟨its, r, pl, hz⟩ := I.list hp
  obtain ⟨⟨cls, dd, data, sl⟩, ho, hc, n, hd⟩ := id pl.isList
  simp only at hc hd
  subst hc hd
  have hlen : its.length = zs.length := by rw [← r.length, List.length_map]
  have hjl : j < its.toArray.size := by
    rw [List.size_toArray, hlen]
    exact (List.getElem?_eq_some_iff.mp hj).1
  have hzl : zs.length ≤ sizeLine := by rw [List.length_map] at hz; exact hz
  have szl := sizeLine_eq
  have hjs : j < zs.length := (List.getElem?_eq_some_iff.mp hj).1
  have at' : ∀ (m : Nat) (hm : m < its.toArray.size), ∃ y t', zs[m]? = some y ∧ its.toArray[m] = .str y t' := fun m hm => by
    obtain ⟨y, t', e1, e2⟩ := strs_get (i := m) (u := its.toArray[m]) r (by simp)
    exact ⟨y, t', e1, e2⟩
  refine call_meets F.slot_list_index ⟨_, ho, rfl⟩ F.entry_list_index (F.args_list_index_2 _ _)
    (SeqAt.list_indexAt p its.toArray n dd sl (.str z t) (isS z) j hjl (by omega) ?_ ?_) ⟨ho, fun y hy => ?_, ⟨.int j, H, I.tok _, ⟨_, rfl⟩, q⟩⟩
  · obtain ⟨y, t', e1, e2⟩ := at' j hjl
    rw [e2]
    rw [hj] at e1
    cases e1
    show (z == z) = true
    simp
  · intro m hm hlt
    obtain ⟨y, t', e1, e2⟩ := at' m hm
    rw [e2]
    show (y == z) = false
    simpa using hno m y hlt e1
  · obtain ⟨m, hm, rfl⟩ := Array.mem_iff_getElem.mp hy
    obtain ⟨y, t', e1, e2⟩ := at' m hm
    rw [e2]
    exact SeqAt.EqAt.str_str y t' z t
section
variable {g : TG} {ti : TT} {te : TE} {Q : VK} {σ : St} {H : Hp} {pick : List (Option Nat)} {K : PySem.W.Frag} {a : Addr}
theorem compW_enum (xs : List V) (Pv : Nat → List V → St → Hp → Prop) (h0 : Pv 0 [] (pickS pick σ) H) (hl : ∀ i ys σ H, i ≤ xs.length → Pv i ys σ H → SqL K H a xs ∧ ys.length ≤ sizeLine)
    (hs : ∀ (i : Nat) y T ys σ H, xs[i]? = some y → Pv i ys σ H → H T = none → g (.ref T) σ (upd H T (.tup [.int i, y])) fun σ3 H3 => ti σ3 H3 fun b H4 => if b = true then te σ3 H4 fun v H5 => Pv (i + 1) (ys ++ [v]) σ3 H5 else Pv (i + 1) ys σ3 H4)
    (hd : ∀ ys σ H, Pv xs.length ys σ H → ∀ p, H p = none → Q (.ref p) (upd H p (.lst ys))) : CompW pick g ti te Q σ (Ite K a) H := by
  refine ⟨fun i m ys σ H => m = xs.length - i ∧ i ≤ xs.length ∧ Pv i ys σ H, ⟨xs.length, by simp, Nat.zero_le _, h0⟩, ?_⟩
  rintro i m ys σ H ⟨rfl, hi, p⟩
  obtain ⟨q, q2⟩ := hl i ys σ H hi p
  refine ⟨q2, ?_⟩
  by_cases hlt : i < xs.length
  · refine .inr ⟨⟨xs, xs[i], q, by simp [hlt]⟩, Pv (i + 1), fun zs σ' H' p' => ⟨xs.length - (i + 1), by omega, rfl, hlt, p'⟩, fun x H' y => ?_⟩
    obtain ⟨T, y, hT, e1, e2, e3⟩ := y
    subst e1 e2
    exact hs i y T ys σ H (e3 xs q) p hT
  · have e : i = xs.length := by omega
    subst e
    exact .inl ⟨⟨xs, q, Nat.le_refl _⟩, hd ys σ H p⟩
end
end

end L2

namespace L2
open PySem PySem.Spec PyProof.Rows
/-! ### range(a, b, c), small numbers -/
section
variable {X : Cx} {tg : Expr}
def rsz (a j c : Int) : Int := if a < j then (j - a - 1) / c + 1 else 0
theorem rsz_is {a j c : Int} (h : 1 ≤ c) : Builtin.Range.rangeSize a j c = rsz a j c := by
  unfold Builtin.Range.rangeSize rsz
  rw [if_pos (by omega)]
theorem rsz_pos {a j c : Int} (h : 1 ≤ c) : 0 ≤ rsz a j c := by
  unfold rsz
  split
  · have := Int.ediv_nonneg (a := j - a - 1) (b := c) (by omega) (by omega)
    omega
  · omega
theorem rsz_le {a j c : Int} (h : 1 ≤ c) (h0 : -1000 ≤ a) (h1 : j ≤ 1000) : rsz a j c ≤ 2001 := by
  unfold rsz
  split
  · have := Int.ediv_le_self (a := j - a - 1) c (by omega)
    omega
  · omega
def iRngG (ta : TA) : TI := fun σ H R => ta σ H fun vs H1 => ∃ a j c : Int, vs = [.int a, .int j, .int c] ∧ (-1000 ≤ a ∧ a ≤ 1000 ∧ -1000 ≤ j ∧ j ≤ 1000 ∧ 1 ≤ c ∧ c ≤ 1000) ∧ R (ItrS a c (rsz a j c).toNat) H1
theorem small_G {a j c : Int} (h : -1000 ≤ a ∧ a ≤ 1000 ∧ -1000 ≤ j ∧ j ≤ 1000 ∧ 1 ≤ c ∧ c ≤ 1000) : Builtin.Range.small a j c = true := by
  obtain ⟨h1, h2, h3, h4, h5, h6⟩ := h
  have e := rsz_is (a := a) (j := j) h5
  have p := rsz_pos (a := a) (j := j) h5
  have l := rsz_le h5 h1 h4
  unfold Builtin.Range.small
  rw [e]
  generalize rsz a j c = d at *
  simp only [Builtin.Range.rangeFitsLong, Bool.and_eq_true, Bool.or_eq_true, decide_eq_true_eq, beq_iff_eq, show c > 0 by omega, if_true]
  omega
theorem pi_rangeG {a b c : Expr} {ta : TA} {p pos : Pos} (hg : Gl X "range") (hm : X.mg "range" = none) (ha : PA X [a, b, c] ta) (hs : starEach [a, b, c] X.env = [(false, eval a X.env), (false, eval b X.env), (false, eval c X.env)] := by rfl)
    (hs2 : starEach [b, c] X.env = [(false, eval b X.env), (false, eval c X.env)] := by rfl) : PI X tg (.Call (.Name "range" p) [a, b, c] [] pos) (iRngG ta) := by
  intro pins s σ H R I h
  refine Call_ (ld_blt I hg hm boot_range (PyProof.Rows.callWith_type1 (thn (ha pos pins s σ H _ I h) fun us s1 ⟨vs, H1, I1, r1, q1⟩ => ?_) (by rw [hs, hs2]) (by rw [hs2]; rfl)))
  obtain ⟨lo, j, c', e, hq, q⟩ := q1
  have q3 := hq.2.2.2.2.1
  have q4 := hq.2.2.2.2.2
  subst e
  cases r1 with
  | cons r rr =>
    cases rr with
    | cons r' rr =>
      cases rr with
      | cons r'' rr =>
        cases rr
        obtain ⟨t, rfl⟩ := r
        obtain ⟨t', rfl⟩ := r'
        obtain ⟨t'', rfl⟩ := r''
        refine call_range_3 (by omega) ?_ (Or.inl (PyProof.noPylong_small (by omega)))
        refine wpAny_pyIter_range (IsRange.new ..) (small_G hq) ?_
        have I2 : Inv X pins σ H1 { s1 with heap := s1.heap.push { cls := .type "range", data := .fields #[.int lo t, .int j t', .int c' t''] }, toks := s1.toks } := I1.kept fun b o e => Heap.get?_push_of_some _ e
        have hz := rsz_pos (a := lo) (j := j) q3
        refine ⟨_, [_], _, _, H1, rfl, I2.kept (t' := s1.toks) fun b o e => Heap.get?_push_of_some _ e, turn_rangeS _ lo c' (rsz lo j c').toNat, ?_, fun b hb => ?_, q⟩
        · show IsRangeIter _ _ (lo + ((0 : Nat) : Int) * c') (((rsz lo j c').toNat : Int) - ((0 : Nat) : Int)) c'
          have e1 : lo + ((0 : Nat) : Int) * c' = lo := by simp
          have e2 : (((rsz lo j c').toNat : Int) - ((0 : Nat) : Int)) = Builtin.Range.rangeSize lo j c' := by rw [rsz_is q3]; omega
          rw [e1, e2]
          exact Heap.get?_push_size _ rfl
        · have e := List.mem_singleton.mp hb
          subst e
          exact I2.fpOk (Nat.le_refl _) (I2.hok.fresh (Nat.le_refl _))
end

end L2

namespace L2
open PySem PySem.Spec PyProof.Rows
/-! ### over reversed(l) -/
/-- the list at a, as it stood, from its end -/
def Itv (K : PySem.W.Frag) (a : Addr) (xs : List V) : It := ⟨fun i H => i < xs.length ∧ SqL K H a xs, fun i H x H' => H' = H ∧ xs[xs.length - 1 - i]? = some x, fun i H => i = xs.length ∧ SqL K H a xs⟩
theorem turn_rev {P : Program} {w : World} {K : PySem.W.Frag} {tg : Expr} (a it : Addr) (xs : List V) : Turn P w K tg (Itv K a xs) [it] it (fun i h => h.IsRevIter it a ((xs.length : Int) - 1 - (i : Int))) where
  mem := by simp
  obj := fun i h st b hb => by
    have e : b = it := by simpa using hb
    subst e
    obtain ⟨o, e, c, d⟩ := st
    exact ⟨o, e, fun v z => by rw [d] at z; cases z⟩
  keep := fun i h h' st k => st.at fun o e => k it (by simp) o e
  item := by
    intro X hP hw hK hc i pins s σ H E I hf st hg
    subst hP hw hK
    obtain ⟨hi, hq⟩ := hg
    obtain ⟨its, rv, p, hz⟩ := I.list hq
    have hx : xs[xs.length - 1 - i]? = some (xs[xs.length - 1 - i]'(by omega)) := List.getElem?_eq_getElem (by omega)
    obtain ⟨u, hu, ru⟩ := rv.get hx
    obtain ⟨f0, f1, f2, f3, f4, f5⟩ := hf it (by simp)
    have e1 : (xs.length : Int) - 1 - (i : Int) = ((xs.length - 1 - i : Nat) : Int) := by omega
    rw [e1] at st
    refine wpAny_pyNext_rev_item st p.isList (x := u) (by simpa using hu) fun h' st' sb => ?_
    have I1 : Inv X pins σ H { s with heap := h' } := I.turned (t' := s.toks) (fun b o hb e => (sb.2 b hb).trans e) f0 f1 f3 f4 f5
    have e2 : ((xs.length - 1 - i : Nat) : Int) - 1 = (xs.length : Int) - 1 - ((i + 1 : Nat) : Int) := by omega
    rw [e2] at st'
    obtain ⟨o, e, c, d⟩ := id st'
    exact ⟨u, rfl, go_of (s := { s with heap := h' }) e c d (by decide) ⟨_, H, I1, ru, ⟨rfl, hx⟩, st', fun b hb => (hf b hb).1⟩⟩
  done := by
    intro X hP hw hK hc i pins s σ H E I hf st hg
    subst hP hw hK
    obtain ⟨hi, hq⟩ := hg
    obtain ⟨f0, f1, f2, f3, f4, f5⟩ := hf it (by simp)
    have e1 : (xs.length : Int) - 1 - (i : Int) = -1 := by omega
    rw [e1] at st
    exact wpAny_pyNext_rev_end (I.ok.hd hc) st fun h' eb => ⟨rfl, I.turned (t' := s.toks) (fun b o hb e => eb b o hb e) f0 f1 f3 f4 f5⟩
  self := fun _ _ _ _ _ st h => wpAny_pyIter_revIter st h
def iRev (K : PySem.W.Frag) (ta : TA) : TI := fun σ H R => ta σ H fun vs H1 => ∃ (a : Addr) (xs : List V), vs = [.ref a] ∧ SqL K H1 a xs ∧ R (Itv K a xs) H1
theorem boot_reversed : bootBuiltins "reversed" = some (.type "reversed") := by decide +kernel
theorem pi_rev {X : Cx} {tg a : Expr} {ta : TA} {p pos : Pos} (hg : Gl X "reversed") (hm : X.mg "reversed" = none) (ha : PA X [a] ta) (hs : starEach [a] X.env = [(false, eval a X.env)] := by rfl) :
    PI X tg (.Call (.Name "reversed" p) [a] [] pos) (iRev X.K ta) := by
  intro pins s σ H R I h
  refine Call_ (ld_blt I hg hm boot_reversed (PyProof.Rows.callWith_type1 (thn (ha pos pins s σ H _ I h) fun us s1 ⟨vs, H1, I1, r1, q1⟩ => ?_) (by rw [hs]; rfl) (by rfl)))
  obtain ⟨l, xs, e, hq, q⟩ := q1
  subst e
  obtain ⟨u, rfl, ru⟩ := vals1 r1
  cases ru
  obtain ⟨its, rv, pl, hz⟩ := I1.list hq
  have hlen := rv.length
  refine call_reversed_list pl.isList ?_
  have I2 : Inv X pins σ H1 { s1 with heap := s1.heap.push (revObj l ((its.toArray.size : Int) - 1)), toks := s1.toks } := I1.kept fun b o e => Heap.get?_push_of_some _ e
  have st : (s1.heap.push (revObj l ((its.toArray.size : Int) - 1))).IsRevIter s1.heap.objs.size l ((xs.length : Int) - 1 - ((0 : Nat) : Int)) := by
    refine ⟨_, Heap.get?_push_size _ rfl, rfl, ?_⟩
    rw [List.size_toArray, ← hlen]
    show Data.fields #[.ref l, rawInt ((xs.length : Int) - 1)] = _
    congr 3
    simp
  refine wpAny_pyIter_revIter st ?_
  refine ⟨s1.heap.objs.size, [s1.heap.objs.size], _, _, H1, rfl, I2, turn_rev l _ xs, st, fun b hb => ?_, q⟩
  have e : b = s1.heap.objs.size := by simpa using hb
  subst e
  exact I1.fpOk (Nat.le_refl _) (I1.hok.fresh (Nat.le_refl _))
section
variable {g : TG} {ti : TT} {te : TE} {Q : VK} {σ : St} {H : Hp} {pick : List (Option Nat)} {K : PySem.W.Frag} {a : Addr}
theorem compW_rev {xs : List V} (Pv : Nat → List V → St → Hp → Prop) (h0 : Pv 0 [] (pickS pick σ) H) (hl : ∀ i ys σ H, i ≤ xs.length → Pv i ys σ H → SqL K H a xs ∧ ys.length ≤ sizeLine)
    (hs : ∀ (i : Nat) x ys σ H, i < xs.length → xs[xs.length - 1 - i]? = some x → Pv i ys σ H → g x σ H fun σ3 H3 => ti σ3 H3 fun b H4 => if b = true then te σ3 H4 fun v H5 => Pv (i + 1) (ys ++ [v]) σ3 H5 else Pv (i + 1) ys σ3 H4)
    (hd : ∀ ys σ H, Pv xs.length ys σ H → ∀ p, H p = none → Q (.ref p) (upd H p (.lst ys))) : CompW pick g ti te Q σ (Itv K a xs) H := by
  refine ⟨fun i m ys σ H => m = xs.length - i ∧ i ≤ xs.length ∧ Pv i ys σ H, ⟨xs.length, by simp, Nat.zero_le _, h0⟩, ?_⟩
  rintro i m ys σ H ⟨rfl, hi, p⟩
  obtain ⟨q, q2⟩ := hl i ys σ H hi p
  refine ⟨q2, ?_⟩
  by_cases hlt : i < xs.length
  · refine .inr ⟨⟨hlt, q⟩, Pv (i + 1), fun zs σ' H' p' => ⟨xs.length - (i + 1), by omega, rfl, hlt, p'⟩, fun x H' y => ?_⟩
    obtain ⟨e1, e2⟩ := y
    subst e1
    exact hs i x ys σ _ hlt e2 p
  · have e : i = xs.length := by omega
    subst e
    exact .inl ⟨⟨rfl, q⟩, hd ys σ H p⟩
end

end L2


namespace KW
/-- a letter or a figure -/
def ws (c : Nat) : Bool := decide (97 ≤ c ∧ c ≤ 122) || decide (65 ≤ c ∧ c ≤ 90) || decide (48 ≤ c ∧ c ≤ 57)
def wsO (o : Option Nat) : Bool := match o with
  | some c => ws c
  | none => false
/-- a great letter made small -/
def sm (c : Nat) : Nat := if 65 ≤ c ∧ c ≤ 90 then c + 32 else c
abbrev Wd := List Nat × Nat × Nat
abbrev Sc := List Wd × List Nat
/-- one step of the scan: at the place n -/
def stp (n : Nat) (o : Option Nat) (st : Sc) : Sc := match o with
  | some c => if ws c = true then (st.1, st.2 ++ [sm c]) else if st.2 = [] then st else (st.1 ++ [(st.2, n - st.2.length, n)], [])
  | none => if st.2 = [] then st else (st.1 ++ [(st.2, n - st.2.length, n)], [])
def scan (t : List Nat) : Nat → Sc
  | 0 => ([], [])
  | n + 1 => stp n t[n]? (scan t n)
def words (t : List Nat) : List Wd := (scan t (t.length + 1)).1
theorem scan_word_len (t : List Nat) : ∀ n, (scan t n).2.length ≤ n
  | 0 => Nat.le_refl _
  | n + 1 => by
    have ih := scan_word_len t n
    rw [scan]
    unfold stp
    cases t[n]? with
    | none => dsimp only; split <;> simp <;> omega
    | some c => dsimp only; split <;> try split
                all_goals simp
                all_goals omega
theorem stp_flush {n : Nat} {o : Option Nat} {st : Sc} (h : wsO o = false) : stp n o st = if st.2 = [] then st else (st.1 ++ [(st.2, n - st.2.length, n)], []) := by
  unfold stp
  cases o with
  | none => rfl
  | some c =>
    have h' : ws c = false := h
    dsimp only
    rw [if_neg (by rw [h']; decide)]
theorem stp_grow {n : Nat} {c : Nat} {st : Sc} (h : ws c = true) : stp n (some c) st = (st.1, st.2 ++ [sm c]) := by
  unfold stp
  dsimp only
  rw [if_pos h]
/-- a run of word signs -/
theorem scan_run (t : List Nat) (b : Nat) (h0 : (scan t b).2 = []) : ∀ k, b + k ≤ t.length → (∀ i, b ≤ i → i < b + k → wsO t[i]? = true) → scan t (b + k) = ((scan t b).1, ((t.drop b).take k).map sm)
  | 0, _, _ => by
    rw [Nat.add_zero, List.take_zero, List.map_nil, ← h0]
  | k + 1, hl, h => by
    have ih := scan_run t b h0 k (by omega) fun i h1 h2 => h i h1 (by omega)
    have hw := h (b + k) (by omega) (by omega)
    rw [← Nat.add_assoc, scan, ih]
    cases e : t[b + k]? with
    | none => rw [e] at hw; cases hw
    | some c =>
      rw [e] at hw
      rw [stp_grow hw]
      have e2 : (t.drop b)[k]? = some c := by rw [List.getElem?_drop]; exact e
      dsimp only
      rw [List.take_add_one, e2, List.map_append]
      rfl
/-- the run's end -/
theorem scan_end (t : List Nat) (b k : Nat) (h0 : (scan t b).2 = []) (hl : b + k ≤ t.length) (h : ∀ i, b ≤ i → i < b + k → wsO t[i]? = true) (he : wsO t[b + k]? = false) :
    scan t (b + k + 1) = (if k = 0 then (scan t b).1 else (scan t b).1 ++ [(((t.drop b).take k).map sm, b, b + k)], []) := by
  rw [scan, scan_run t b h0 k hl h, stp_flush he]
  have hlen : (((t.drop b).take k).map sm).length = k := by rw [List.length_map, List.length_take, List.length_drop]; omega
  dsimp only
  by_cases hk : k = 0
  · subst hk
    rw [List.take_zero, List.map_nil, if_pos rfl, if_pos rfl]
  · rw [if_neg hk, if_neg (by intro e; rw [e] at hlen; simp at hlen; omega), hlen]
    have e : b + k - k = b := by omega
    rw [e]
theorem scan_over (t : List Nat) (b : Nat) (h0 : (scan t b).2 = []) (h : t.length ≤ b) : ∀ k, scan t (b + k) = scan t b
  | 0 => rfl
  | k + 1 => by
    rw [← Nat.add_assoc, scan, scan_over t b h0 h k, List.getElem?_eq_none (by omega), stp_flush rfl, if_pos h0]
/-- when the program's loop is through -/
theorem words_of_scan (t : List Nat) (b : Nat) (h0 : (scan t b).2 = []) (h : t.length ≤ b) (h' : b ≤ t.length + 1) : words t = (scan t b).1 := by
  unfold words
  obtain ⟨k, hk⟩ : ∃ k, t.length + 1 = b + k := ⟨t.length + 1 - b, by omega⟩
  rw [hk, scan_over t b h0 h k]
theorem scan_len (t : List Nat) : ∀ n, (scan t n).1.length ≤ n
  | 0 => Nat.le_refl _
  | n + 1 => by
    have ih := scan_len t n
    rw [scan]
    by_cases hw : wsO t[n]? = true
    · cases e : t[n]? with
      | none => rw [e] at hw; cases hw
      | some c => rw [e] at hw; rw [stp_grow hw]; exact Nat.le_succ_of_le ih
    · rw [stp_flush (by simpa using hw)]
      split
      · exact Nat.le_succ_of_le ih
      · rw [List.length_append, List.length_singleton]; omega
/-- the law's own last step -/
theorem scan_last (t : List Nat) : (scan t (t.length + 1)).2 = [] := by
  rw [scan, List.getElem?_eq_none (Nat.le_refl _), stp_flush rfl]
  split
  · assumption
  · rfl
end KW
namespace K7
open PySem L2 KW
def top (i : Nat) : Stmt := PySem.Challenge.pw_findcourt_k07_makes_refused.main.body.getD i (.Pass ⟨0, 0, 0, 0⟩)
abbrev sXF : Stmt := inClass (top 3) 0
abbrev sXM : Stmt := inClass (top 4) 0
abbrev sInit : Stmt := inClass (top 28) 0
abbrev sSmall : Stmt := top 16
abbrev sFig : Stmt := top 17
abbrev sSign : Stmt := top 18
abbrev sName : Stmt := top 19
abbrev sLook : Stmt := top 20
abbrev sEnd : Stmt := top 21
abbrev sWords : Stmt := top 22
abbrev sBare : Stmt := top 23
abbrev sWhole : Stmt := top 25
abbrev sMakes : Stmt := top 26
abbrev sPlaces : Stmt := top 13
abbrev sAdd : Stmt := top 27
abbrev sCell : Stmt := top 30
abbrev sDraws : Stmt := top 31
abbrev sText : Stmt := top 32
abbrev sDoc : Stmt := top 33
abbrev sMks : Stmt := top 34
abbrev sIsNm : Stmt := top 35
abbrev sWrong : Stmt := top 36
abbrev sDue : Stmt := top 37
abbrev sBent : Stmt := top 38
abbrev sCaught : Stmt := top 39
abbrev sLaw : Stmt := top 40
structure Txt (mg : Str → Option Value) : Prop where
  len : mg "len" = none
  range : mg "range" = none
  all : mg "all" = none
  enumerate : mg "enumerate" = none
  isinstance : mg "isinstance" = none
  int : mg "int" = none
  bool : mg "bool" = none
  abs : mg "abs" = none
  list : mg "list" = none
  min : mg "min" = none
  sorted : mg "sorted" = none
  reversed : mg "reversed" = none
  valueError : mg "ValueError" = none
  most : ∃ t, mg "MOST_NAME_SIGNS" = some (.int 12 t)
/-! ### words: the promises -/
def dvW (x : Wd) : DV := .tup [.str ⟨x.1.toArray⟩, .int x.2.1, .int x.2.2]
def Asc (z : Str) : Prop := ∀ c ∈ z.cps.toList, c < 128
def spSmall : Sp := fun vs H Q _ => ∃ c : Nat, vs = [.str ⟨#[c]⟩] ∧ Q (.bl (decide (97 ≤ c ∧ c ≤ 122))) H
def spFig : Sp := fun vs H Q _ => ∃ c : Nat, vs = [.str ⟨#[c]⟩] ∧ Q (.bl (decide (48 ≤ c ∧ c ≤ 57))) H
def spSign : Sp := fun vs H Q _ => ∃ c : Nat, vs = [.str ⟨#[c]⟩] ∧ Q (.bl (ws c)) H
def spEnd : Sp := fun vs H Q _ => ∃ (z : Str) (b : Nat), vs = [.str z, .int b] ∧ z.length ≤ 1000 ∧ b ≤ z.length ∧
  ∀ e : Nat, b ≤ e → e ≤ z.length → (∀ i, b ≤ i → i < e → wsO z.cps.toList[i]? = true) → wsO z.cps.toList[e]? = false → Q (.int e) H
def spWords : Sp := fun vs H Q _ => ∃ z : Str, vs = [.str z] ∧ z.length ≤ 1000 ∧ Asc z ∧
  ∀ (r : Addr) (xs : List V) (H' : Hp), Same H H' → H r = none → H' r = some (.lst xs) → DeepTs (hide r H') ((words z.cps.toList).map dvW) xs → Q (.ref r) H'
theorem lt1 (a b : Nat) : decide ([a] < [b]) = decide (a < b) := by
  by_cases h : a < b
  · rw [decide_eq_true h]
    exact decide_eq_true (List.cons_lt_cons_iff.mpr (.inl h))
  · rw [decide_eq_false h]
    refine decide_eq_false fun q => ?_
    rcases List.cons_lt_cons_iff.mp q with q | ⟨_, q⟩
    · exact h q
    · cases q
theorem cs1 (c : Nat) : (⟨#[c]⟩ : Str).cps.toList = [c] := rfl
theorem csa : ("a" : Str).cps.toList = [97] := by decide +kernel
theorem csz : ("z" : Str).cps.toList = [122] := by decide +kernel
theorem csA : ("A" : Str).cps.toList = [65] := by decide +kernel
theorem csZ : ("Z" : Str).cps.toList = [90] := by decide +kernel
theorem cs0 : ("0" : Str).cps.toList = [48] := by decide +kernel
theorem cs9 : ("9" : Str).cps.toList = [57] := by decide +kernel
theorem slen (z : Str) : z.cps.toList.length = z.length := by simp [Str.length]
section
variable {P : Program} {w : World} {K : PySem.W.Frag} {mg : Str → Option Value} {base : Heap} {f : Addr} {fd : FuncData}
theorem scSmall : FnScope ["sign"] ["sign"] (defScope sSmall) := ⟨rfl, rfl, rfl, by decide +kernel, rfl, by decide +kernel, by decide +kernel⟩
theorem ok_small (F : Fun K "is_small_letter" "is_small_letter" sSmall f fd) : FnOk P w K mg base CX0 1 f fd ["sign"] spSmall := by
  refine F.ok scSmall (fun vs H Q E h => ?_) (fun cdv A outer s H vs Q E hr h => ?_)
  · obtain ⟨c, rfl, _⟩ := h
    rfl
  obtain ⟨c, rfl, q⟩ := h
  refine ⟨_, (pss_one (ps_ret (pe_chain op_le_str op_le_str pe_str (pv 0) pe_str))), ?_⟩
  simp only [tIfS, tAnd, tOr, tNot, tB, tVar, tTest, tOp, tC, tUn, tCB, tCons, tNil, rI0, rI, rU, rNe, rEq, scal, rAppend, tBM, tDrop, tSeq, tAsg, gName, tRet, tNext, List.set_cons_zero, List.set_cons_succ, List.getElem?_cons_zero, List.getElem?_cons_succ, Option.some.injEq, V.int.injEq, V.bl.injEq, V.ref.injEq, V.str.injEq, exists_eq_left', exists_eq_left, exists_and_left, List.cons.injEq, and_true, true_and, and_assoc, exists_const, L2.start, List.map_cons, List.map_nil, List.length_cons, List.length_nil, List.replicate_succ, List.replicate_zero, List.cons_append, List.nil_append, List.append_nil, Nat.reduceAdd, Nat.reduceSub, tFor_eq, tComp_eq, tWhile_eq, tChain, tAug, ipI, rIxS, rSlS, rLower, rIndex, rPop, rCat, tBM0, gSub, rSetL, tSl, tPart, tNoPart, rSlL, tCall, tLst, tTup, iRng1, iRng2, iRng3, iList, iEnum, gTup, gCons, gNil, rIxL, rIxT, tYes, tAndV, tOrV, tNotV, tIf, tTest, exists_eq', List.ne_cons_self, reduceCtorEq, if_true, if_false, and_false, false_and, V.str.injEq]
  simp only [csa, csz, cs1, lt1]
  refine ite2 (fun h1 => ?_) (fun h1 => ?_)
  · have e : (!decide (122 < c)) = decide (97 ≤ c ∧ c ≤ 122) := by
      rw [Bool.eq_iff_iff]; simp at h1 ⊢; omega
    rw [e]; exact q
  · have e : false = decide (97 ≤ c ∧ c ≤ 122) := by
      symm; apply decide_eq_false; simp at h1; omega
    rw [e]; exact q
theorem scFig : FnScope ["sign"] ["sign"] (defScope sFig) := ⟨rfl, rfl, rfl, by decide +kernel, rfl, by decide +kernel, by decide +kernel⟩
theorem ok_fig (F : Fun K "is_figure" "is_figure" sFig f fd) : FnOk P w K mg base CX0 1 f fd ["sign"] spFig := by
  refine F.ok scFig (fun vs H Q E h => ?_) (fun cdv A outer s H vs Q E hr h => ?_)
  · obtain ⟨c, rfl, _⟩ := h
    rfl
  obtain ⟨c, rfl, q⟩ := h
  refine ⟨_, (pss_one (ps_ret (pe_chain op_le_str op_le_str pe_str (pv 0) pe_str))), ?_⟩
  simp only [tIfS, tAnd, tOr, tNot, tB, tVar, tTest, tOp, tC, tUn, tCB, tCons, tNil, rI0, rI, rU, rNe, rEq, scal, rAppend, tBM, tDrop, tSeq, tAsg, gName, tRet, tNext, List.set_cons_zero, List.set_cons_succ, List.getElem?_cons_zero, List.getElem?_cons_succ, Option.some.injEq, V.int.injEq, V.bl.injEq, V.ref.injEq, V.str.injEq, exists_eq_left', exists_eq_left, exists_and_left, List.cons.injEq, and_true, true_and, and_assoc, exists_const, L2.start, List.map_cons, List.map_nil, List.length_cons, List.length_nil, List.replicate_succ, List.replicate_zero, List.cons_append, List.nil_append, List.append_nil, Nat.reduceAdd, Nat.reduceSub, tFor_eq, tComp_eq, tWhile_eq, tChain, tAug, ipI, rIxS, rSlS, rLower, rIndex, rPop, rCat, tBM0, gSub, rSetL, tSl, tPart, tNoPart, rSlL, tCall, tLst, tTup, iRng1, iRng2, iRng3, iList, iEnum, gTup, gCons, gNil, rIxL, rIxT, tYes, tAndV, tOrV, tNotV, tIf, tTest, exists_eq', List.ne_cons_self, reduceCtorEq, if_true, if_false, and_false, false_and, V.str.injEq]
  simp only [cs0, cs9, cs1, lt1]
  have fin : ∀ k, k = decide (48 ≤ c ∧ c ≤ 57) → Q (.bl k) H := fun k e => by rw [e]; exact q
  refine ite2 (fun h1 => fin _ ?_) (fun h1 => fin _ ?_)
  · rw [Bool.eq_iff_iff]; simp at h1 ⊢; omega
  · symm; apply decide_eq_false; simp at h1; omega
theorem scSign : FnScope ["sign"] ["sign"] (defScope sSign) := ⟨rfl, rfl, rfl, by decide +kernel, rfl, by decide +kernel, by decide +kernel⟩
theorem ok_sign {g g' : Addr} {gd gd' : FuncData} (F : Fun K "is_word_sign" "is_word_sign" sSign f fd) (GS : FnOk P w K mg base CX0 1 g gd ["sign"] spSmall) (bS : Binds K gd ["sign"] []) (kS : PySem.W.keepIn K (.ref g) = true) (mS : mg "is_small_letter" = some (.ref g))
    (GFg : FnOk P w K mg base CX0 1 g' gd' ["sign"] spFig) (bFg : Binds K gd' ["sign"] []) (kFg : PySem.W.keepIn K (.ref g') = true) (mFg : mg "is_figure" = some (.ref g')) : FnOk P w K mg base CX0 2 f fd ["sign"] spSign := by
  refine F.ok scSign (fun vs H Q E h => ?_) (fun cdv A outer s H vs Q E hr h => ?_)
  · obtain ⟨c, rfl, _⟩ := h
    rfl
  obtain ⟨c, rfl, q⟩ := h
  refine ⟨_, (pss_one (ps_ret (pe_or (pe_call GS hr rfl mS kS bS .nil pass0 (pa_cons (pv 0) pa_nil)) (pe_or (pe_chain op_le_str op_le_str pe_str (pv 0) pe_str) (pe_one (pe_call GFg hr rfl mFg kFg bFg .nil pass0 (pa_cons (pv 0) pa_nil))))))), ?_⟩
  simp only [tIfS, tAnd, tOr, tNot, tB, tVar, tTest, tOp, tC, tUn, tCB, tCons, tNil, rI0, rI, rU, rNe, rEq, scal, rAppend, tBM, tDrop, tSeq, tAsg, gName, tRet, tNext, List.set_cons_zero, List.set_cons_succ, List.getElem?_cons_zero, List.getElem?_cons_succ, Option.some.injEq, V.int.injEq, V.bl.injEq, V.ref.injEq, V.str.injEq, exists_eq_left', exists_eq_left, exists_and_left, List.cons.injEq, and_true, true_and, and_assoc, exists_const, L2.start, List.map_cons, List.map_nil, List.length_cons, List.length_nil, List.replicate_succ, List.replicate_zero, List.cons_append, List.nil_append, List.append_nil, Nat.reduceAdd, Nat.reduceSub, tFor_eq, tComp_eq, tWhile_eq, tChain, tAug, ipI, rIxS, rSlS, rLower, rIndex, rPop, rCat, tBM0, gSub, rSetL, tSl, tPart, tNoPart, rSlL, tCall, tLst, tTup, iRng1, iRng2, iRng3, iList, iEnum, gTup, gCons, gNil, rIxL, rIxT, tYes, tAndV, tOrV, tNotV, tIf, tTest, exists_eq', List.ne_cons_self, reduceCtorEq, if_true, if_false, and_false, false_and, spSmall, spFig, V.str.injEq]
  refine ⟨c, rfl, ?_⟩
  simp only [csA, csZ, cs1, lt1]
  have fin : ∀ k, k = ws c → Q (.bl k) H := fun k e => by rw [e]; exact q
  refine ite2 (fun h1 => ?_) (fun h1 => ?_)
  · apply fin; unfold ws; simp at h1; simp [h1]
  · refine ite2 (fun h2 => ?_) (fun h2 => ?_)
    · refine ite2 (fun h3 => ?_) (fun h3 => ⟨c, rfl, ?_⟩)
      · apply fin; unfold ws; simp at h1 h2 h3; simp; omega
      · apply fin; unfold ws; rw [Bool.eq_iff_iff]; simp at h1 h2 h3 ⊢; omega
    · refine ⟨c, rfl, ?_⟩
      apply fin; unfold ws; rw [Bool.eq_iff_iff]; simp at h1 h2 ⊢; omega
theorem scEnd : FnScope ["text", "begin", "end"] ["text", "begin"] (defScope sEnd) := ⟨rfl, rfl, rfl, by decide +kernel, rfl, by decide +kernel, by decide +kernel⟩
def invE (z : Str) (b : Nat) (H : Hp) (σ : St) (L : Hp) : Prop := ∃ e : Nat, σ = [some (.str z), some (.int b), some (.int e)] ∧ L = H ∧ b ≤ e ∧ e ≤ z.length ∧ ∀ i, b ≤ i → i < e → wsO z.cps.toList[i]? = true
def muE (z : Str) (σ : St) (_ : Hp) : Nat := match σ with
  | [_, _, some (.int e)] => z.length - e.toNat
  | _ => 0
theorem ok_end {g : Addr} {gd : FuncData} (F : Fun K "end_of_word" "end_of_word" sEnd f fd) (T : Txt mg) (GS : FnOk P w K mg base CX0 2 g gd ["sign"] spSign) (bS : Binds K gd ["sign"] []) (kS : PySem.W.keepIn K (.ref g) = true) (mS : mg "is_word_sign" = some (.ref g)) : FnOk P w K mg base CX0 3 f fd ["text", "begin"] spEnd := by
  refine F.ok scEnd (fun vs H Q E h => ?_) (fun cdv A outer s H vs Q E hr h => ?_)
  · obtain ⟨z, b, rfl, _⟩ := h
    rfl
  obtain ⟨z, b, rfl, hz, hb, q⟩ := h
  refine ⟨_, (pss_cons (ps_set (i := 2) scEnd.nd rfl (Or.inl rfl) (pv 1))
    (pss_cons (ps_while PassesOwn.never (PW.pt (pw_and (pt_cmpR op_lt (pv 2) (pe_callB call_len_str rfl T.len PySem.boot_len (pa_cons (pv 0) pa_nil)) (nomark _)) (pw_and1 (pt_val (pe_call GS hr rfl mS kS bS .nil pass0 (pa_cons (pe_ix ix_str (pv 0) (pv 2) (fun _ _ => rfl)) pa_nil))))))
      (pss_one (ps_aug (i := 2) scEnd.nd rfl (Or.inl rfl) pe_int ip_add)))
    (pss_one (ps_ret (pv 2))))), ?_⟩
  simp only [tIfS, tAnd, tOr, tNot, tB, tVar, tTest, tOp, tC, tUn, tCB, tCons, tNil, rI0, rI, rU, rNe, rEq, scal, rAppend, tBM, tDrop, tSeq, tAsg, gName, tRet, tNext, List.set_cons_zero, List.set_cons_succ, List.getElem?_cons_zero, List.getElem?_cons_succ, Option.some.injEq, V.int.injEq, V.bl.injEq, V.ref.injEq, V.str.injEq, exists_eq_left', exists_eq_left, exists_and_left, List.cons.injEq, and_true, true_and, and_assoc, exists_const, L2.start, List.map_cons, List.map_nil, List.length_cons, List.length_nil, List.replicate_succ, List.replicate_zero, List.cons_append, List.nil_append, List.append_nil, Nat.reduceAdd, Nat.reduceSub, tFor_eq, tComp_eq, tWhile_eq, tChain, tAug, ipI, rIxS, rSlS, rLower, rIndex, rPop, rCat, tBM0, gSub, rSetL, tSl, tPart, tNoPart, rSlL, tCall, tLst, tTup, iRng1, iRng2, iRng3, iList, iEnum, gTup, gCons, gNil, rIxL, rIxT, tYes, tAndV, tOrV, tNotV, tIf, tTest, exists_eq', List.ne_cons_self, reduceCtorEq, if_true, if_false, and_false, false_and]
  refine whileW2 (invE z b H) (muE z) ⟨b, rfl, rfl, Nat.le_refl _, hb, fun i h1 h2 => absurd h2 (by omega)⟩ ?_
  rintro σ L ⟨e, rfl, rfl, he, hel, hw⟩
  simp only [tIfS, tAnd, tOr, tNot, tB, tVar, tTest, tOp, tC, tUn, tCB, tCons, tNil, rI0, rI, rU, rNe, rEq, scal, rAppend, tBM, tDrop, tSeq, tAsg, gName, tRet, tNext, List.set_cons_zero, List.set_cons_succ, List.getElem?_cons_zero, List.getElem?_cons_succ, Option.some.injEq, V.int.injEq, V.bl.injEq, V.ref.injEq, V.str.injEq, exists_eq_left', exists_eq_left, exists_and_left, List.cons.injEq, and_true, true_and, and_assoc, exists_const, L2.start, List.map_cons, List.map_nil, List.length_cons, List.length_nil, List.replicate_succ, List.replicate_zero, List.cons_append, List.nil_append, List.append_nil, Nat.reduceAdd, Nat.reduceSub, tFor_eq, tComp_eq, tWhile_eq, tChain, tAug, ipI, rIxS, rSlS, rLower, rIndex, rPop, rCat, tBM0, gSub, rSetL, tSl, tPart, tNoPart, rSlL, tCall, tLst, tTup, iRng1, iRng2, iRng3, iList, iEnum, gTup, gCons, gNil, rIxL, rIxT, tYes, tAndV, tOrV, tNotV, tIf, tTest, exists_eq', List.ne_cons_self, reduceCtorEq, if_true, if_false, and_false, false_and, spSign, V.str.injEq]
  have hsz : z.length ≤ sizeLine := small hz
  refine ⟨hsz, ite2 (fun c => ⟨hsz, ?_⟩) (fun c => ?_)⟩
  · have c' : e < z.cps.toList.length := by rw [slen]; have := of_decide_eq_true c; omega
    refine ⟨_, atI_nat (List.getElem?_eq_getElem c'), _, rfl, ?_⟩
    refine ite2 (fun hw1 => ?_) (fun hw1 => ?_)
    · refine ⟨fun σ' H' => ∃ m', m' < muE z [some (V.str z), some (V.int b), some (V.int e)] L ∧ m' = muE z σ' H' ∧ invE z b L σ' H', fun _ _ h => h, ?_⟩
      rw [slen] at c'
      refine ⟨_, ?_, rfl, e + 1, by simp, rfl, by omega, by omega, fun i h1 h2 => ?_⟩
      · show z.length - ((e : Int) + 1).toNat < z.length - ((e : Int)).toNat
        omega
      · by_cases hi : i = e
        · subst hi
          rw [List.getElem?_eq_getElem (by rw [slen]; exact c')]
          exact hw1
        · exact hw i h1 (by omega)
    · refine q e he hel hw ?_
      rw [List.getElem?_eq_getElem c']
      simpa [wsO] using hw1
  · have c' : e = z.length := by have := of_decide_eq_false (Bool.eq_false_iff.mpr c); omega
    refine q e he hel hw ?_
    rw [List.getElem?_eq_none (by rw [slen]; omega)]
    rfl
theorem scWords : FnScope ["text", "found", "begin", "end"] ["text"] (defScope sWords) := ⟨rfl, rfl, rfl, by decide +kernel, rfl, by decide +kernel, by decide +kernel⟩
def invW (z : Str) (r : Addr) (H : Hp) (σ : St) (L : Hp) : Prop := ∃ (b : Nat) (v3 : Option V) (xs : List V), σ = [some (.str z), some (.ref r), some (.int b), v3] ∧ Same H L ∧ L r = some (.lst xs) ∧ b ≤ z.length + 1 ∧ (scan z.cps.toList b).2 = [] ∧ xs.length ≤ b ∧
  DeepTs (hide r L) ((scan z.cps.toList b).1.map dvW) xs
def muW (z : Str) (σ : St) (_ : Hp) : Nat := match σ with
  | [_, _, some (.int b), _] => z.length + 1 - b.toNat
  | _ => 0
theorem lo_sm : PyProof.Rows.lo1 = sm := by funext c; rfl
theorem ok_words {g : Addr} {gd : FuncData} (F : Fun K "words_of" "words_of" sWords f fd) (T : Txt mg) (GE : FnOk P w K mg base CX0 3 g gd ["text", "begin"] spEnd) (bE : Binds K gd ["text", "begin"] []) (kE : PySem.W.keepIn K (.ref g) = true) (mE : mg "end_of_word" = some (.ref g)) : FnOk P w K mg base CX0 4 f fd ["text"] spWords := by
  refine F.ok scWords (fun vs H Q E h => ?_) (fun cdv A outer s H vs Q E hr h => ?_)
  · obtain ⟨z, rfl, _⟩ := h
    rfl
  obtain ⟨z, rfl, hz, hA, q⟩ := h
  refine ⟨_, (pss_cons (ps_set (i := 1) scWords.nd rfl (Or.inl rfl) (pe_lst pa_nil))
    (pss_cons (ps_set (i := 2) scWords.nd rfl (Or.inl rfl) pe_int)
    (pss_cons (ps_while PassesOwn.never (pt_cmpR op_lt (pv 2) (pe_callB call_len_str rfl T.len PySem.boot_len (pa_cons (pv 0) pa_nil)) (nomark _))
      (pss_cons (ps_set (i := 3) scWords.nd rfl (Or.inl rfl) (pe_call GE hr rfl mE kE bE .nil pass0 (pa_cons (pv 0) (pa_cons (pv 2) pa_nil))))
    (pss_cons (ps_if (pt_cmpR op_gt (pv 3) (pv 2) (nomark _)) (pss_one (ps_expr (bmK K PySem.F.plainAttrs_list PySem.F.slot_list_append PySem.F.type_list_append mt_append (pv 1) (pa_cons (pe_tup (pa_cons (bm0K K PySem.F.plainAttrs_str PySem.F.slot_str_lower PySem.F.type_str_lower mt_lower (pe_slice sl_str (pv 0) (po_some (pv 2)) (po_some (pv 3)))) (pa_cons (pv 2) (pa_cons (pv 3) pa_nil)))) pa_nil)))) pss_nil)
    (pss_one (ps_set (i := 2) scWords.nd rfl (Or.inl rfl) (pe_op op_add (pv 3) pe_int))))))
    (pss_one (ps_ret (pv 1)))))), ?_⟩
  have hsz : z.length ≤ sizeLine := small hz
  simp only [tIfS, tAnd, tOr, tNot, tB, tVar, tTest, tOp, tC, tUn, tCB, tCons, tNil, rI0, rI, rU, rNe, rEq, scal, rAppend, tBM, tDrop, tSeq, tAsg, gName, tRet, tNext, List.set_cons_zero, List.set_cons_succ, List.getElem?_cons_zero, List.getElem?_cons_succ, Option.some.injEq, V.int.injEq, V.bl.injEq, V.ref.injEq, V.str.injEq, exists_eq_left', exists_eq_left, exists_and_left, List.cons.injEq, and_true, true_and, and_assoc, exists_const, L2.start, List.map_cons, List.map_nil, List.length_cons, List.length_nil, List.replicate_succ, List.replicate_zero, List.cons_append, List.nil_append, List.append_nil, Nat.reduceAdd, Nat.reduceSub, tFor_eq, tComp_eq, tWhile_eq, tChain, tAug, ipI, rIxS, rSlS, rLower, rIndex, rPop, rCat, tBM0, gSub, rSetL, tSl, tPart, tNoPart, rSlL, tCall, tLst, tTup, iRng1, iRng2, iRng3, iList, iEnum, gTup, gCons, gNil, rIxL, rIxT, tYes, tAndV, tOrV, tNotV, tIf, tTest, exists_eq', List.ne_cons_self, reduceCtorEq, if_true, if_false, and_false, false_and]
  refine ⟨by decide, fun r hn => ?_⟩
  refine whileW2 (invW z r H) (muW z) ⟨0, none, [], rfl, same_new hn _, upd_same, Nat.zero_le _, rfl, Nat.le_refl _, DeepTs.nil⟩ ?_
  rintro σ L ⟨b, v3, xs, rfl, sL, hR, hb, h0, hxl, hD⟩
  simp only [tIfS, tAnd, tOr, tNot, tB, tVar, tTest, tOp, tC, tUn, tCB, tCons, tNil, rI0, rI, rU, rNe, rEq, scal, rAppend, tBM, tDrop, tSeq, tAsg, gName, tRet, tNext, List.set_cons_zero, List.set_cons_succ, List.getElem?_cons_zero, List.getElem?_cons_succ, Option.some.injEq, V.int.injEq, V.bl.injEq, V.ref.injEq, V.str.injEq, exists_eq_left', exists_eq_left, exists_and_left, List.cons.injEq, and_true, true_and, and_assoc, exists_const, L2.start, List.map_cons, List.map_nil, List.length_cons, List.length_nil, List.replicate_succ, List.replicate_zero, List.cons_append, List.nil_append, List.append_nil, Nat.reduceAdd, Nat.reduceSub, tFor_eq, tComp_eq, tWhile_eq, tChain, tAug, ipI, rIxS, rSlS, rLower, rIndex, rPop, rCat, tBM0, gSub, rSetL, tSl, tPart, tNoPart, rSlL, tCall, tLst, tTup, iRng1, iRng2, iRng3, iList, iEnum, gTup, gCons, gNil, rIxL, rIxT, tYes, tAndV, tOrV, tNotV, tIf, tTest, exists_eq', List.ne_cons_self, reduceCtorEq, if_true, if_false, and_false, false_and, spEnd]
  refine ⟨hsz, ite2 (fun c => ?_) (fun c => ?_)⟩
  · have c' : b < z.length := by have := of_decide_eq_true c; omega
    refine ⟨fun σ' H' => ∃ m', m' < muW z [some (V.str z), some (V.ref r), some (V.int b), v3] L ∧ m' = muW z σ' H' ∧ invW z r H σ' H', fun _ _ h => h, ?_⟩
    refine ⟨b, rfl, hz, by omega, fun e he hel hw hend => ?_⟩
    obtain ⟨k, rfl⟩ : ∃ k, e = b + k := ⟨e - b, by omega⟩
    have hse := scan_end z.cps.toList b k h0 (by rw [slen]; exact hel) hw hend
    have mu : muW z [some (V.str z), some (V.ref r), some (V.int (((b + k : Nat) : Int) + 1)), some (V.int ((b + k : Nat) : Int))] L < muW z [some (V.str z), some (V.ref r), some (V.int b), v3] L := by
      show z.length + 1 - (((b + k : Nat) : Int) + 1).toNat < z.length + 1 - ((b : Int)).toNat
      omega
    have ei : (((b + k : Nat) : Int) + 1) = ((b + k + 1 : Nat) : Int) := by omega
    refine ite2 (fun d => ?_) (fun d => ?_)
    · have hk : k ≠ 0 := by have := of_decide_eq_true d; omega
      have ec : cutL z.cps.toList (some ((b : Nat) : Int)) (some ((b + k : Nat) : Int)) = (z.cps.toList.drop b).take k := by
        rw [cutL_nat _ (by omega)]
        congr 1
        omega
      rw [ec]
      refine ⟨.inl ⟨rfl, _, SqL.of hR⟩, hsz, rfl, ?_, ?_, by decide, fun p hp => ⟨xs, upd_at hR hp, small1000 (by omega), _, mu, rfl, b + k + 1, some (.int ((b + k : Nat) : Int)), xs ++ [.ref p], by rw [ei], ?_, upd_same, by omega, ?_, ?_, ?_⟩⟩
      · show ((z.cps.toList.drop b).take k).toArray.size ≤ 1000000
        rw [List.size_toArray, List.length_take, List.length_drop, slen]
        omega
      · intro c hc
        exact hA c (List.mem_of_mem_drop (List.mem_of_mem_take hc))
      · exact (sL.trans (same_new hp _)).newer hn _
      · rw [hse]
      · rw [List.length_append, List.length_singleton]
        omega
      · have npr : p ≠ r := fun z => by subst z; rw [hR] at hp; cases hp
        rw [hide_upd, hse]
        dsimp only
        rw [if_neg hk, List.map_append]
        refine (DeepTs.same (hide_mono (same_new hp _)) _ _ hD).app (DeepTs.one ?_)
        show DeepT _ (dvW _) _
        rw [dvW, DeepT]
        refine ⟨p, _, rfl, by rw [hide_ne npr]; exact upd_same, ?_⟩
        have el : (⟨Array.map PyProof.Rows.lo1 ((z.cps.toList.drop b).take k).toArray⟩ : Str) = ⟨(((z.cps.toList.drop b).take k).map sm).toArray⟩ := by
          rw [lo_sm, List.map_toArray]
        rw [el]
        rw [DeepTs]
        exact ⟨_, _, rfl, by rw [DeepT], DeepTs.ints [_, _]⟩
    · have hk : k = 0 := by have := of_decide_eq_false (Bool.eq_false_iff.mpr d); omega
      subst hk
      refine ⟨_, mu, rfl, b + 0 + 1, some (.int ((b + 0 : Nat) : Int)), xs, by rw [ei], sL, hR, by omega, ?_, by omega, ?_⟩
      · rw [hse]
      · rw [hse]
        exact hD
  · have c' : z.length ≤ b := by have := of_decide_eq_false (Bool.eq_false_iff.mpr c); omega
    rw [← words_of_scan z.cps.toList b h0 (by rw [slen]; exact c') (by rw [slen]; exact hb)] at hD
    exact q r xs L sL hn hR hD
end
/-! ### names and documents -/
abbrev Fld := Str × Str
def dvF (x : Fld) : DV := .tup [.str x.1, .str x.2]
def lower1 (c : Nat) : Bool := decide (97 ≤ c ∧ c ≤ 122)
def okNm (z : Str) : Bool := decide (1 ≤ z.length ∧ z.length ≤ 12) && z.cps.toList.all lower1
def badF (prev f : Str) : Bool := !okNm f || !decide (prev.cps.toList < f.cps.toList)
/-- the number of the first field that is wrong -/
def dw (prev : Str) (j : Nat) : List Fld → Option Nat
  | [] => none
  | x :: r => if badF prev x.1 = true then some j else dw x.1 (j + 1) r
def spName : Sp := fun vs H Q _ => ∃ z : Str, vs = [.str z] ∧ z.length ≤ 1000 ∧ ∀ H', Same H H' → Q (.bl (okNm z)) H'
def WrongAt (C : Addr) (k : Nat) (H : Hp) (E : XK) : Prop := ∀ e dx H', Same H H' → H e = none → H' e = some (XO e (.ref C) (some dx)) → H' dx = some (.xd [("place", .int (k : Int))]) → E (.ref e) none H'
def spLook (NF : Addr) : Sp := fun vs H Q E => ∃ (a : Addr) (d : List Fld) (xs : List V), vs = [.ref a] ∧ H a = some (.lst xs) ∧ DeepTs H (d.map dvF) xs ∧ d.length ≤ 1000 ∧ (∀ x ∈ d, x.1.length ≤ 1000) ∧
  match dw "" 0 d with
  | none => ∀ H', Same H H' → Q .non H'
  | some k => WrongAt NF k H E
theorem dvF_at {H : Hp} {x : Fld} {v : V} (h : DeepT H (dvF x) v) : ∃ a, v = .ref a ∧ H a = some (.tup [.str x.1, .str x.2]) := by
  rw [dvF, DeepT] at h
  obtain ⟨a, us, rfl, ha, hus⟩ := h
  refine ⟨a, rfl, ?_⟩
  rw [ha]
  rw [DeepTs] at hus
  obtain ⟨y, ys, rfl, hy, hus⟩ := hus
  rw [DeepTs] at hus
  obtain ⟨y2, ys2, rfl, hy2, hus⟩ := hus
  rw [DeepTs] at hus
  rw [DeepT] at hy
  rw [DeepT] at hy2
  rw [hy, hy2, hus]
section
variable {P : Program} {w : World} {K : PySem.W.Frag} {mg : Str → Option Value} {base : Heap} {f : Addr} {fd : FuncData}
theorem scName : FnScope ["text"] ["text"] (defScope sName) := ⟨rfl, rfl, rfl, by decide +kernel, rfl, by decide +kernel, by decide +kernel⟩
def invN (z : Str) (H : Hp) (i : Nat) (ys : List V) (σ : St) (L : Hp) : Prop := ∃ v0 : Option V, ys = ((z.cps.toList.take i).map lower1).map V.bl ∧ L = H ∧ σ = [v0]
theorem ok_name {g : Addr} {gd : FuncData} (F : Fun K "is_name" "is_name" sName f fd) (T : Txt mg) (GS : FnOk P w K mg base CX0 1 g gd ["sign"] spSmall) (bS : Binds K gd ["sign"] []) (kS : PySem.W.keepIn K (.ref g) = true) (mS : mg "is_small_letter" = some (.ref g)) : FnOk P w K mg base CX0 2 f fd ["text"] spName := by
  refine F.ok scName (fun vs H Q E h => ?_) (fun cdv A outer s H vs Q E hr h => ?_)
  · obtain ⟨z, rfl, _⟩ := h
    rfl
  obtain ⟨z, rfl, hz, q⟩ := h
  obtain ⟨tM, hM⟩ := T.most
  refine ⟨_, (pss_one (ps_ret (pe_and (pe_chain op_le op_le pe_int (pe_callB call_len_str rfl T.len PySem.boot_len (pa_cons (pv 0) pa_nil)) (pe_gint rfl hM)) (pe_one (pe_callB (call_all K rfl) rfl T.all (by decide +kernel) (pa_cons (pe_comp (N := ["sign"]) (pick := [none]) (NX := ["text"]) (sX := defScope sName) (by decide +kernel) rfl rfl rfl (pi_str (pv 0))
        (fun _ _ _ _ => (pg_name (i := 0) (by decide +kernel : (["sign"] : List Str).Nodup) rfl (Or.inl rfl))) (fun _ _ _ _ => pifs_nil) (fun _ _ _ _ => (pe_call GS hr rfl mS kS bS .nil pass0 (pa_cons (pv 0) pa_nil)))) pa_nil)))))), ?_⟩
  simp only [tIfS, tAnd, tOr, tNot, tB, tVar, tTest, tOp, tC, tUn, tCB, tCons, tNil, rI0, rI, rU, rNe, rEq, scal, rAppend, tBM, tDrop, tSeq, tAsg, gName, tRet, tNext, List.set_cons_zero, List.set_cons_succ, List.getElem?_cons_zero, List.getElem?_cons_succ, Option.some.injEq, V.int.injEq, V.bl.injEq, V.ref.injEq, V.str.injEq, exists_eq_left', exists_eq_left, exists_and_left, List.cons.injEq, and_true, true_and, and_assoc, exists_const, L2.start, List.map_cons, List.map_nil, List.length_cons, List.length_nil, List.replicate_succ, List.replicate_zero, List.cons_append, List.nil_append, List.append_nil, Nat.reduceAdd, Nat.reduceSub, tFor_eq, tComp_eq, tWhile_eq, tChain, tAug, ipI, rIxS, rSlS, rLower, rIndex, rPop, rCat, tBM0, gSub, rSetL, tSl, tPart, tNoPart, rSlL, tCall, tLst, tTup, iRng1, iRng2, iRng3, iList, iEnum, gTup, gCons, gNil, rIxL, rIxT, tYes, tAndV, tOrV, tNotV, tIf, tTest, exists_eq', List.ne_cons_self, reduceCtorEq, if_true, if_false, and_false, false_and, iStr]
  have hsz : z.length ≤ sizeLine := small hz
  have bad : ¬ (1 ≤ z.length ∧ z.length ≤ 12) → Q (.bl false) H := fun n => by
    have e : okNm z = false := by unfold okNm; rw [decide_eq_false n, Bool.false_and]
    have := q H (Same.refl _)
    rw [e] at this
    exact this
  refine ⟨hsz, ite2 (fun c1 => ite2 (fun c2 => ?_) fun c2 => bad ?_) fun c1 => bad ?_⟩
  · have d1 := of_decide_eq_true c1
    have d2 := of_decide_eq_true c2
    refine compW_str (invN z H) ⟨none, rfl, rfl, rfl⟩ ?_ ?_ ?_
    · rintro i ys σ L hi ⟨v0, rfl, rfl, rfl⟩
      rw [List.length_map, List.length_map, List.length_take]
      exact small (by omega)
    · rintro i c ys σ L hc ⟨v0, rfl, rfl, rfl⟩
      simp only [tIfS, tAnd, tOr, tNot, tB, tVar, tTest, tOp, tC, tUn, tCB, tCons, tNil, rI0, rI, rU, rNe, rEq, scal, rAppend, tBM, tDrop, tSeq, tAsg, gName, tRet, tNext, List.set_cons_zero, List.set_cons_succ, List.getElem?_cons_zero, List.getElem?_cons_succ, Option.some.injEq, V.int.injEq, V.bl.injEq, V.ref.injEq, V.str.injEq, exists_eq_left', exists_eq_left, exists_and_left, List.cons.injEq, and_true, true_and, and_assoc, exists_const, L2.start, List.map_cons, List.map_nil, List.length_cons, List.length_nil, List.replicate_succ, List.replicate_zero, List.cons_append, List.nil_append, List.append_nil, Nat.reduceAdd, Nat.reduceSub, tFor_eq, tComp_eq, tWhile_eq, tChain, tAug, ipI, rIxS, rSlS, rLower, rIndex, rPop, rCat, tBM0, gSub, rSetL, tSl, tPart, tNoPart, rSlL, tCall, tLst, tTup, iRng1, iRng2, iRng3, iList, iEnum, gTup, gCons, gNil, rIxL, rIxT, tYes, tAndV, tOrV, tNotV, tIf, tTest, exists_eq', List.ne_cons_self, reduceCtorEq, if_true, if_false, and_false, false_and, spSmall]
      refine ⟨c, rfl, _, ?_, rfl, rfl⟩
      rw [List.take_add_one, hc, List.map_append, List.map_append]
      rfl
    · rintro ys σ L ⟨v0, rfl, rfl, rfl⟩ p hp
      rw [← slen, List.take_length]
      refine ⟨p, rfl, _, SqL.of upd_same, ?_⟩
      have e : okNm z = ((z.cps.toList.map lower1).all id) := by
        unfold okNm
        rw [decide_eq_true (by omega), Bool.true_and, List.all_map]
        rfl
      rw [← e]
      exact q _ (same_new hp _)
  · have := of_decide_eq_false (Bool.eq_false_iff.mpr c2); omega
  · have := of_decide_eq_false (Bool.eq_false_iff.mpr c1); omega
theorem scLook : FnScope ["document", "ahead", "place", "pair", "field"] ["document"] (defScope sLook) := ⟨rfl, rfl, rfl, by decide +kernel, rfl, by decide +kernel, by decide +kernel⟩
def invK (a : Addr) (d : List Fld) (H : Hp) (i : Nat) (σ : St) (L : Hp) : Prop := ∃ (prev : Str) (v2 v3 v4 : Option V), σ = [some (.ref a), some (.str prev), v2, v3, v4] ∧ Same H L ∧ dw "" 0 d = dw prev i (d.drop i)
theorem ok_look {NF FE fI gn : Addr} {dI dn : FuncData} (F : Fun K "look_at_document" "look_at_document" sLook f fd) (T : Txt mg) (GN : FnOk P w K mg base CX0 2 gn dn ["text"] spName) (bN : Binds K dn ["text"] []) (kN : PySem.W.keepIn K (.ref gn) = true) (mN : mg "is_name" = some (.ref gn))
    (xcF : XCls K NF FE) (hiF : PySem.W.findIn K (.ref NF) "__init__" = some (some (.ref fI))) (hfF : PySem.W.isFn K (.ref fI) = true) (hkF : PySem.W.keepIn K (.ref NF) = true) (hnF : PySem.W.findIn K (.ref NF) "place" = some none)
    (GF : FnOk P w K mg base CX0 1 fI dI ["self", "place"] (spXInit K "place")) (bF : Binds K dI ["self", "place"] []) (mF : mg "NoField" = some (.ref NF)) : FnOk P w K mg base (CXe P w) 3 f fd ["document"] (spLook NF) := by
  refine F.okX scLook (fun vs H Q E h => ?_) (fun cdv A outer s H vs Q E hr h => ?_)
  · obtain ⟨a, d, xs, rfl, _⟩ := h
    rfl
  obtain ⟨a, d, xs, rfl, ha, hd, hl, hfl, q⟩ := h
  have hr2 : Room 2 _ := hr
  refine ⟨_, (pss_cons (ps_set (i := 1) scLook.nd rfl (Or.inl rfl) pe_str)
    (pss_one (ps_for PassesOwn.leaving rfl (pi_enum rfl T.enumerate (pa_cons (pv 0) pa_nil)) (pgT K (n := 2) rfl (pgs_cons (pg_name (i := 2) scLook.nd rfl (Or.inl rfl)) (pgs_cons (pg_name (i := 3) scLook.nd rfl (Or.inl rfl)) pgs_nil)))
      (pss_cons (ps_set (i := 4) scLook.nd rfl (Or.inl rfl) (pe_ix (ixT K) (pv 3) pe_int (fun _ _ => rfl)))
    (pss_cons (ps_if (PW.pt (pw_or (pt_not (pt_val (pe_call GN hr rfl mN kN bN .nil pass0 (pa_cons (pv 4) pa_nil)))) (pw_or1 (pt_cmpR op_le_str (pv 4) (pv 1) (nomark _))))) (pss_one (ps_raiseI xcF hiF hfF hkF hnF GF hr2 bF rfl mF (pa_cons (pv 2) pa_nil))) pss_nil)
    (pss_one (ps_set (i := 1) scLook.nd rfl (Or.inl rfl) (pv 4)))))))), ?_⟩
  simp only [tIfS, tAnd, tOr, tNot, tB, tVar, tTest, tOp, tC, tUn, tCB, tCons, tNil, rI0, rI, rU, rNe, rEq, scal, rAppend, tBM, tDrop, tSeq, tAsg, gName, tRet, tNext, List.set_cons_zero, List.set_cons_succ, List.getElem?_cons_zero, List.getElem?_cons_succ, Option.some.injEq, V.int.injEq, V.bl.injEq, V.ref.injEq, V.str.injEq, exists_eq_left', exists_eq_left, exists_and_left, List.cons.injEq, and_true, true_and, and_assoc, exists_const, L2.start, List.map_cons, List.map_nil, List.length_cons, List.length_nil, List.replicate_succ, List.replicate_zero, List.cons_append, List.nil_append, List.append_nil, Nat.reduceAdd, Nat.reduceSub, tFor_eq, tComp_eq, tWhile_eq, tChain, tAug, ipI, rIxS, rSlS, rLower, rIndex, rPop, rCat, tBM0, gSub, rSetL, tSl, tPart, tNoPart, rSlL, tCall, tLst, tTup, iRng1, iRng2, iRng3, iList, iEnum, gTup, gCons, gNil, rIxL, rIxT, tYes, tAndV, tOrV, tNotV, tIf, tTest, exists_eq', List.ne_cons_self, reduceCtorEq, if_true, if_false, and_false, false_and]
  refine ⟨⟨_, SqL.of ha⟩, forW_enum xs (invK a d H) ⟨"", none, none, none, rfl, Same.refl _, by rw [List.drop_zero]⟩ ?_ ?_ ?_⟩
  · rintro i σ L hi ⟨prev, v2, v3, v4, rfl, sL, hw⟩
    exact SqL.of (sL _ _ ha)
  · rintro i y T σ L hy ⟨prev, v2, v3, v4, rfl, sL, hw⟩ hT
    obtain ⟨dv, h1, h2⟩ := hd.get hy
    rw [List.getElem?_map] at h1
    obtain ⟨x, hx, rfl⟩ := Option.map_eq_some_iff.mp h1
    obtain ⟨b, rfl, hb⟩ := dvF_at h2
    have hb' : (upd L T (.tup [.int i, .ref b])) b = some (.tup [.str x.1, .str x.2]) := upd_at (sL _ _ hb) hT
    have sT : Same H (upd L T (.tup [.int i, .ref b])) := sL.trans (same_new hT _)
    have hil : i < d.length := (List.getElem?_eq_some_iff.mp hx).1
    have hdr : d.drop i = x :: d.drop (i + 1) := by
      rw [List.drop_eq_getElem_cons hil]
      congr 1
      exact (List.getElem?_eq_some_iff.mp hx).2
    have hxm : x ∈ d := List.mem_of_getElem? hx
    simp only [tIfS, tAnd, tOr, tNot, tB, tVar, tTest, tOp, tC, tUn, tCB, tCons, tNil, rI0, rI, rU, rNe, rEq, scal, rAppend, tBM, tDrop, tSeq, tAsg, gName, tRet, tNext, List.set_cons_zero, List.set_cons_succ, List.getElem?_cons_zero, List.getElem?_cons_succ, Option.some.injEq, V.int.injEq, V.bl.injEq, V.ref.injEq, V.str.injEq, exists_eq_left', exists_eq_left, exists_and_left, List.cons.injEq, and_true, true_and, and_assoc, exists_const, L2.start, List.map_cons, List.map_nil, List.length_cons, List.length_nil, List.replicate_succ, List.replicate_zero, List.cons_append, List.nil_append, List.append_nil, Nat.reduceAdd, Nat.reduceSub, tFor_eq, tComp_eq, tWhile_eq, tChain, tAug, ipI, rIxS, rSlS, rLower, rIndex, rPop, rCat, tBM0, gSub, rSetL, tSl, tPart, tNoPart, rSlL, tCall, tLst, tTup, iRng1, iRng2, iRng3, iList, iEnum, gTup, gCons, gNil, rIxL, rIxT, tYes, tAndV, tOrV, tNotV, tIf, tTest, exists_eq', List.ne_cons_self, reduceCtorEq, if_true, if_false, and_false, false_and, spName, tRaise]
    refine ⟨_, SqT.of upd_same, rfl, ?_⟩
    simp only [tIfS, tAnd, tOr, tNot, tB, tVar, tTest, tOp, tC, tUn, tCB, tCons, tNil, rI0, rI, rU, rNe, rEq, scal, rAppend, tBM, tDrop, tSeq, tAsg, gName, tRet, tNext, List.set_cons_zero, List.set_cons_succ, List.getElem?_cons_zero, List.getElem?_cons_succ, Option.some.injEq, V.int.injEq, V.bl.injEq, V.ref.injEq, V.str.injEq, exists_eq_left', exists_eq_left, exists_and_left, List.cons.injEq, and_true, true_and, and_assoc, exists_const, L2.start, List.map_cons, List.map_nil, List.length_cons, List.length_nil, List.replicate_succ, List.replicate_zero, List.cons_append, List.nil_append, List.append_nil, Nat.reduceAdd, Nat.reduceSub, tFor_eq, tComp_eq, tWhile_eq, tChain, tAug, ipI, rIxS, rSlS, rLower, rIndex, rPop, rCat, tBM0, gSub, rSetL, tSl, tPart, tNoPart, rSlL, tCall, tLst, tTup, iRng1, iRng2, iRng3, iList, iEnum, gTup, gCons, gNil, rIxL, rIxT, tYes, tAndV, tOrV, tNotV, tIf, tTest, exists_eq', List.ne_cons_self, reduceCtorEq, if_true, if_false, and_false, false_and, spName, tRaise]
    refine ⟨_, SqT.of hb', _, rfl, _, rfl, hfl x hxm, fun H2 s2 => ?_⟩
    have s02 : Same H H2 := sT.trans s2
    have wr : badF prev x.1 = true → WrongAt NF i H2 E := fun hbad => by
      rw [hdr, dw, if_pos hbad] at hw
      rw [hw] at q
      exact fun e dx H' z1 z2 z3 z4 => q e dx H' (s02.trans z1) (s02.free z2) z3 z4
    refine ite2 (fun c1 => fun e dx H' z1 z2 _ z3 z4 => wr ?_ e dx H' z1 z2 z3 z4) fun c1 => ⟨_, rfl, ite2 (fun c2 => fun e dx H' z1 z2 _ z3 z4 => wr ?_ e dx H' z1 z2 z3 z4) fun c2 => ⟨x.1, _, _, _, rfl, s02, ?_⟩⟩
    · unfold badF; rw [c1, Bool.true_or]
    · unfold badF; rw [c2, Bool.or_true]
    · rw [hw, hdr, dw, if_neg]
      unfold badF
      intro z
      rcases Bool.or_eq_true _ _ ▸ z with z | z
      · exact c1 z
      · exact c2 z
  · rintro σ L ⟨prev, v2, v3, v4, rfl, sL, hw⟩
    have hl' : xs.length = d.length := by have := hd.length; rwa [List.length_map] at this
    rw [hl', List.drop_length] at hw
    rw [hw] at q
    exact q L sL
theorem scXF : FnScope ["self", "place"] ["self", "place"] (defScope sXF) := ⟨rfl, rfl, rfl, by decide +kernel, rfl, by decide +kernel, by decide +kernel⟩
theorem ok_xinitF (F : Fun K "__init__" "NoField.__init__" sXF f fd) : FnOk P w K mg base CX0 1 f fd ["self", "place"] (spXInit K "place") := by
  refine F.ok scXF (fun vs H Q E h => ?_) (fun cdv A outer s H vs Q E hr h => ?_)
  · obtain ⟨e, C, FE, y, rfl, _⟩ := h
    rfl
  obtain ⟨e, C, FE, y, rfl, he, xc, hn, q⟩ := h
  refine ⟨_, pss_one (ps_xfld (pv 0) (pv 1) rfl), ?_⟩
  exact ⟨_, rfl, _, rfl, e, C, FE, rfl, he, xc, hn, q⟩
theorem scXM : FnScope ["self", "place"] ["self", "place"] (defScope sXM) := ⟨rfl, rfl, rfl, by decide +kernel, rfl, by decide +kernel, by decide +kernel⟩
theorem ok_xinitM (F : Fun K "__init__" "NoMake.__init__" sXM f fd) : FnOk P w K mg base CX0 1 f fd ["self", "place"] (spXInit K "place") := by
  refine F.ok scXM (fun vs H Q E h => ?_) (fun cdv A outer s H vs Q E hr h => ?_)
  · obtain ⟨e, C, FE, y, rfl, _⟩ := h
    rfl
  obtain ⟨e, C, FE, y, rfl, he, xc, hn, q⟩ := h
  refine ⟨_, pss_one (ps_xfld (pv 0) (pv 1) rfl), ?_⟩
  exact ⟨_, rfl, _, rfl, e, C, FE, rfl, he, xc, hn, q⟩
theorem scWhole : FnScope ["value"] ["value"] (defScope sWhole) := ⟨rfl, rfl, rfl, by decide +kernel, rfl, by decide +kernel, by decide +kernel⟩
def spWhole : Sp := fun vs H Q _ => ∃ i : Int, vs = [.int i] ∧ Q (.bl true) H
theorem ok_whole (F : Fun K "is_whole_number" "is_whole_number" sWhole f fd) (T : Txt mg) : FnOk P w K mg base CX0 1 f fd ["value"] spWhole := by
  refine F.ok scWhole (fun vs H Q E h => ?_) (fun cdv A outer s H vs Q E hr h => ?_)
  · obtain ⟨i, rfl, _⟩ := h
    rfl
  obtain ⟨i, rfl, q⟩ := h
  refine ⟨_, (pss_one (ps_ret (pe_and (pe_callB (call_isi K) rfl T.isinstance (by decide +kernel) (pa_cons (pv 0) (pa_cons (pe_bltn (v := .ty "int") rfl T.int (by decide +kernel) rfl) pa_nil))) (pe_one (pe_not (pe_callB (call_isi K) rfl T.isinstance (by decide +kernel) (pa_cons (pv 0) (pa_cons (pe_bltn (v := .ty "bool") rfl T.bool (by decide +kernel) rfl) pa_nil)))))))), ?_⟩
  simp only [tIfS, tAnd, tOr, tNot, tB, tVar, tTest, tOp, tC, tUn, tCB, tCons, tNil, rI0, rI, rU, rNe, rEq, scal, rAppend, tBM, tDrop, tSeq, tAsg, gName, tRet, tNext, List.set_cons_zero, List.set_cons_succ, List.getElem?_cons_zero, List.getElem?_cons_succ, Option.some.injEq, V.int.injEq, V.bl.injEq, V.ref.injEq, V.str.injEq, exists_eq_left', exists_eq_left, exists_and_left, List.cons.injEq, and_true, true_and, and_assoc, exists_const, L2.start, List.map_cons, List.map_nil, List.length_cons, List.length_nil, List.replicate_succ, List.replicate_zero, List.cons_append, List.nil_append, List.append_nil, Nat.reduceAdd, Nat.reduceSub, tFor_eq, tComp_eq, tWhile_eq, tChain, tAug, ipI, rIxS, rSlS, rLower, rIndex, rPop, rCat, tBM0, gSub, rSetL, tSl, tPart, tNoPart, rSlL, tCall, tLst, tTup, iRng1, iRng2, iRng3, iList, iEnum, gTup, gCons, gNil, rIxL, rIxT, tYes, tAndV, tOrV, tNotV, tIf, tTest, exists_eq', List.ne_cons_self, reduceCtorEq, if_true, if_false, and_false, false_and, V.ty.injEq]
  exact ⟨_, .int i, true, rfl, iteT ⟨_, .int i, false, rfl, q⟩⟩
/-! ### makes -/
end
abbrev Mk := Int × List Fld
def dvM (x : Mk) : DV := .tup [.int x.1, .lst (x.2.map dvF)]
/-- the first make that is wrong: by itself, or by a field -/
def mw (ahead : Int) (k : Nat) : List Mk → Option (Bool × Nat)
  | [] => none
  | x :: r => if x.1 ≤ ahead then some (true, k) else match dw "" 0 x.2 with
    | some j => some (false, j)
    | none => mw x.1 (k + 1) r
def spMakes (NF NM : Addr) : Sp := fun vs H Q E => ∃ (a : Addr) (ms : List Mk) (xs : List V), vs = [.ref a] ∧ H a = some (.lst xs) ∧ DeepTs H (ms.map dvM) xs ∧ ms.length ≤ 1000 ∧ (∀ m ∈ ms, m.2.length ≤ 1000 ∧ ∀ x ∈ m.2, x.1.length ≤ 1000) ∧
  match mw (-1) 0 ms with
  | none => ∀ H', Same H H' → Q .non H'
  | some (true, k) => WrongAt NM k H E
  | some (false, k) => WrongAt NF k H E
theorem dvM_at {H : Hp} {x : Mk} {v : V} (h : DeepT H (dvM x) v) : ∃ a b xs, v = .ref a ∧ H a = some (.tup [.int x.1, .ref b]) ∧ H b = some (.lst xs) ∧ DeepTs H (x.2.map dvF) xs := by
  rw [dvM, DeepT] at h
  obtain ⟨a, us, rfl, ha, hus⟩ := h
  rw [DeepTs] at hus
  obtain ⟨y, ys, rfl, hy, hus⟩ := hus
  rw [DeepTs] at hus
  obtain ⟨y2, ys2, rfl, hy2, hus⟩ := hus
  rw [DeepTs] at hus
  rw [DeepT] at hy
  rw [DeepT] at hy2
  obtain ⟨b, xs, rfl, hb, hxs⟩ := hy2
  exact ⟨a, b, xs, rfl, by rw [ha, hy, hus], hb, hxs⟩
section
variable {P : Program} {w : World} {K : PySem.W.Frag} {mg : Str → Option Value} {base : Heap} {f : Addr} {fd : FuncData}
theorem scMakes : FnScope ["makes", "ahead", "place", "pair", "make"] ["makes"] (defScope sMakes) := ⟨rfl, rfl, rfl, by decide +kernel, rfl, by decide +kernel, by decide +kernel⟩
def invMk (a : Addr) (ms : List Mk) (H : Hp) (i : Nat) (σ : St) (L : Hp) : Prop := ∃ (prev : Int) (v2 v3 v4 : Option V), σ = [some (.ref a), some (.int prev), v2, v3, v4] ∧ Same H L ∧ mw (-1) 0 ms = mw prev i (ms.drop i)
theorem ok_makes {NF NM FE fI gh gd : Addr} {dI dh dd : FuncData} (F : Fun K "look_at_makes" "look_at_makes" sMakes f fd) (T : Txt mg) (GH : FnOk P w K mg base CX0 1 gh dh ["value"] spWhole) (bH : Binds K dh ["value"] []) (kH : PySem.W.keepIn K (.ref gh) = true) (mH : mg "is_whole_number" = some (.ref gh))
    (GD : FnOk P w K mg base (CXe P w) 3 gd dd ["document"] (spLook NF)) (bD : Binds K dd ["document"] []) (kD : PySem.W.keepIn K (.ref gd) = true) (mD : mg "look_at_document" = some (.ref gd))
    (xcM : XCls K NM FE) (hiM : PySem.W.findIn K (.ref NM) "__init__" = some (some (.ref fI))) (hfM : PySem.W.isFn K (.ref fI) = true) (hkM : PySem.W.keepIn K (.ref NM) = true) (hnM : PySem.W.findIn K (.ref NM) "place" = some none)
    (GM : FnOk P w K mg base CX0 1 fI dI ["self", "place"] (spXInit K "place")) (bM : Binds K dI ["self", "place"] []) (mM : mg "NoMake" = some (.ref NM)) : FnOk P w K mg base (CXe P w) 4 f fd ["makes"] (spMakes NF NM) := by
  refine F.okX scMakes (fun vs H Q E h => ?_) (fun cdv A outer s H vs Q E hr h => ?_)
  · obtain ⟨a, d, xs, rfl, _⟩ := h
    rfl
  obtain ⟨a, ms, xs, rfl, ha, hd, hl, hfl, q⟩ := h
  have hr2 : Room 2 _ := hr.mono (by decide)
  have hr1 : Room 1 _ := hr.mono (by decide)
  refine ⟨_, (pss_cons (ps_set (i := 1) scMakes.nd rfl (Or.inl rfl) (pe_un un_neg pe_int))
    (pss_one (ps_for PassesOwn.leaving rfl (pi_enum rfl T.enumerate (pa_cons (pv 0) pa_nil)) (pgT K (n := 2) rfl (pgs_cons (pg_name (i := 2) scMakes.nd rfl (Or.inl rfl)) (pgs_cons (pg_name (i := 3) scMakes.nd rfl (Or.inl rfl)) pgs_nil)))
      (pss_cons (ps_set (i := 4) scMakes.nd rfl (Or.inl rfl) (pe_ix (ixT K) (pv 3) pe_int (fun _ _ => rfl)))
    (pss_cons (ps_if (PW.pt (pw_or (pt_not (pt_val (pe_call GH hr1 rfl mH kH bH .nil pass0 (pa_cons (pv 4) pa_nil)))) (pw_or1 (pt_cmpR op_le (pv 4) (pv 1) (nomark _))))) (pss_one (ps_raiseI xcM hiM hfM hkM hnM GM hr2 bM rfl mM (pa_cons (pv 2) pa_nil))) pss_nil)
    (pss_cons (ps_expr (pe_call GD hr rfl mD kD bD .nil passX (pa_cons (pe_ix (ixT K) (pv 3) pe_int (fun _ _ => rfl)) pa_nil)))
    (pss_one (ps_set (i := 1) scMakes.nd rfl (Or.inl rfl) (pv 4))))))))), ?_⟩
  simp only [tIfS, tAnd, tOr, tNot, tB, tVar, tTest, tOp, tC, tUn, tCB, tCons, tNil, rI0, rI, rU, rNe, rEq, scal, rAppend, tBM, tDrop, tSeq, tAsg, gName, tRet, tNext, List.set_cons_zero, List.set_cons_succ, List.getElem?_cons_zero, List.getElem?_cons_succ, Option.some.injEq, V.int.injEq, V.bl.injEq, V.ref.injEq, V.str.injEq, exists_eq_left', exists_eq_left, exists_and_left, List.cons.injEq, and_true, true_and, and_assoc, exists_const, L2.start, List.map_cons, List.map_nil, List.length_cons, List.length_nil, List.replicate_succ, List.replicate_zero, List.cons_append, List.nil_append, List.append_nil, Nat.reduceAdd, Nat.reduceSub, tFor_eq, tComp_eq, tWhile_eq, tChain, tAug, ipI, rIxS, rSlS, rLower, rIndex, rPop, rCat, tBM0, gSub, rSetL, tSl, tPart, tNoPart, rSlL, tCall, tLst, tTup, iRng1, iRng2, iRng3, iList, iEnum, gTup, gCons, gNil, rIxL, rIxT, tYes, tAndV, tOrV, tNotV, tIf, tTest, exists_eq', List.ne_cons_self, reduceCtorEq, if_true, if_false, and_false, false_and]
  refine ⟨⟨_, SqL.of ha⟩, forW_enum xs (invMk a ms H) ⟨-1, none, none, none, rfl, Same.refl _, by rw [List.drop_zero]⟩ ?_ ?_ ?_⟩
  · rintro i σ L hi ⟨prev, v2, v3, v4, rfl, sL, hw⟩
    exact SqL.of (sL _ _ ha)
  · rintro i y T σ L hy ⟨prev, v2, v3, v4, rfl, sL, hw⟩ hT
    obtain ⟨dv, h1, h2⟩ := hd.get hy
    rw [List.getElem?_map] at h1
    obtain ⟨x, hx, rfl⟩ := Option.map_eq_some_iff.mp h1
    obtain ⟨b, c, zs, rfl, hb, hc, hz⟩ := dvM_at h2
    have sT : Same H (upd L T (.tup [.int i, .ref b])) := sL.trans (same_new hT _)
    have hb' := sT _ _ hb
    have hil : i < ms.length := (List.getElem?_eq_some_iff.mp hx).1
    have hdr : ms.drop i = x :: ms.drop (i + 1) := by
      rw [List.drop_eq_getElem_cons hil]
      congr 1
      exact (List.getElem?_eq_some_iff.mp hx).2
    have hxm : x ∈ ms := List.mem_of_getElem? hx
    simp only [tIfS, tAnd, tOr, tNot, tB, tVar, tTest, tOp, tC, tUn, tCB, tCons, tNil, rI0, rI, rU, rNe, rEq, scal, rAppend, tBM, tDrop, tSeq, tAsg, gName, tRet, tNext, List.set_cons_zero, List.set_cons_succ, List.getElem?_cons_zero, List.getElem?_cons_succ, Option.some.injEq, V.int.injEq, V.bl.injEq, V.ref.injEq, V.str.injEq, exists_eq_left', exists_eq_left, exists_and_left, List.cons.injEq, and_true, true_and, and_assoc, exists_const, L2.start, List.map_cons, List.map_nil, List.length_cons, List.length_nil, List.replicate_succ, List.replicate_zero, List.cons_append, List.nil_append, List.append_nil, Nat.reduceAdd, Nat.reduceSub, tFor_eq, tComp_eq, tWhile_eq, tChain, tAug, ipI, rIxS, rSlS, rLower, rIndex, rPop, rCat, tBM0, gSub, rSetL, tSl, tPart, tNoPart, rSlL, tCall, tLst, tTup, iRng1, iRng2, iRng3, iList, iEnum, gTup, gCons, gNil, rIxL, rIxT, tYes, tAndV, tOrV, tNotV, tIf, tTest, exists_eq', List.ne_cons_self, reduceCtorEq, if_true, if_false, and_false, false_and, spWhole, tRaise]
    refine ⟨_, SqT.of upd_same, rfl, ?_⟩
    simp only [tIfS, tAnd, tOr, tNot, tB, tVar, tTest, tOp, tC, tUn, tCB, tCons, tNil, rI0, rI, rU, rNe, rEq, scal, rAppend, tBM, tDrop, tSeq, tAsg, gName, tRet, tNext, List.set_cons_zero, List.set_cons_succ, List.getElem?_cons_zero, List.getElem?_cons_succ, Option.some.injEq, V.int.injEq, V.bl.injEq, V.ref.injEq, V.str.injEq, exists_eq_left', exists_eq_left, exists_and_left, List.cons.injEq, and_true, true_and, and_assoc, exists_const, L2.start, List.map_cons, List.map_nil, List.length_cons, List.length_nil, List.replicate_succ, List.replicate_zero, List.cons_append, List.nil_append, List.append_nil, Nat.reduceAdd, Nat.reduceSub, tFor_eq, tComp_eq, tWhile_eq, tChain, tAug, ipI, rIxS, rSlS, rLower, rIndex, rPop, rCat, tBM0, gSub, rSetL, tSl, tPart, tNoPart, rSlL, tCall, tLst, tTup, iRng1, iRng2, iRng3, iList, iEnum, gTup, gCons, gNil, rIxL, rIxT, tYes, tAndV, tOrV, tNotV, tIf, tTest, exists_eq', List.ne_cons_self, reduceCtorEq, if_true, if_false, and_false, false_and, spWhole, tRaise]
    refine ⟨_, SqT.of hb', _, rfl, _, rfl, iteF ⟨_, rfl, ite2 (fun c1 => ?_) fun c1 => ?_⟩⟩
    · have c1' : x.1 ≤ prev := of_decide_eq_true c1
      rw [hdr, mw, if_pos c1'] at hw
      rw [hw] at q
      exact fun e dx H' z1 z2 _ z3 z4 => q e dx H' (sT.trans z1) (sT.free z2) z3 z4
    · have c1' : ¬ x.1 ≤ prev := of_decide_eq_false (Bool.eq_false_iff.mpr c1)
      rw [hdr, mw, if_neg c1'] at hw
      refine ⟨_, SqT.of hb', _, rfl, c, x.2, zs, rfl, sT _ _ hc, DeepTs.same sT _ _ hz, (hfl x hxm).1, (hfl x hxm).2, ?_⟩
      cases hdw : dw "" 0 x.2 with
      | none =>
        rw [hdw] at hw
        exact fun H' s' => ⟨x.1, _, _, _, rfl, sT.trans s', hw⟩
      | some j =>
        rw [hdw] at hw
        rw [hw] at q
        exact fun e dx H' z1 z2 z3 z4 => q e dx H' (sT.trans z1) (sT.free z2) z3 z4
  · rintro σ L ⟨prev, v2, v3, v4, rfl, sL, hw⟩
    have hl' : xs.length = ms.length := by have := hd.length; rwa [List.length_map] at this
    rw [hl', List.drop_length] at hw
    rw [hw] at q
    exact q L sL
end
end K7

namespace K7
open PySem L2 KW
/-! ### the words alone -/
theorem dvW_at {H : Hp} {wd : Wd} {x : V} (h : DeepT H (dvW wd) x) : ∃ a, x = .ref a ∧ H a = some (.tup [.str ⟨wd.1.toArray⟩, .int wd.2.1, .int wd.2.2]) := by
  rw [dvW, DeepT] at h
  obtain ⟨a', us, rfl, ha', hus⟩ := h
  refine ⟨a', rfl, ?_⟩
  rw [ha']
  rw [DeepTs] at hus
  obtain ⟨y, ys', rfl, hy, hus⟩ := hus
  rw [DeepTs] at hus
  obtain ⟨y2, ys2, rfl, hy2, hus⟩ := hus
  rw [DeepTs] at hus
  obtain ⟨y3, ys3, rfl, hy3, hus⟩ := hus
  rw [DeepTs] at hus
  rw [DeepT] at hy
  rw [DeepT] at hy2
  rw [DeepT] at hy3
  rw [hy, hy2, hy3, hus]
def spBare : Sp := fun vs H Q _ => ∃ z : Str, vs = [.str z] ∧ z.length ≤ 500 ∧ Asc z ∧ ∀ (r : Addr) (ys : List Str) (H' : Hp), Same H H' → H r = none → H' r = some (.lst (ys.map V.str)) → ys.length ≤ 1000 → Q (.ref r) H'
section
variable {P : Program} {w : World} {K : PySem.W.Frag} {mg : Str → Option Value} {base : Heap} {f : Addr} {fd : FuncData}
theorem scBare : FnScope ["text"] ["text"] (defScope sBare) := ⟨rfl, rfl, rfl, by decide +kernel, rfl, by decide +kernel, by decide +kernel⟩
def invBa (L0 : Hp) (i : Nat) (ys : List V) (σ : St) (L : Hp) : Prop := ∃ (zs : List Str) (v0 : Option V), σ = [v0] ∧ L = L0 ∧ ys = zs.map V.str ∧ zs.length = i
theorem ok_bare {g : Addr} {gd : FuncData} (F : Fun K "bare_words" "bare_words" sBare f fd) (T : Txt mg) (GW : FnOk P w K mg base CX0 4 g gd ["text"] spWords) (bW : Binds K gd ["text"] []) (kW : PySem.W.keepIn K (.ref g) = true) (mW : mg "words_of" = some (.ref g)) : FnOk P w K mg base CX0 5 f fd ["text"] spBare := by
  refine F.ok scBare (fun vs H Q E h => ?_) (fun cdv A outer s H vs Q E hr h => ?_)
  · obtain ⟨z, rfl, _⟩ := h
    rfl
  obtain ⟨z, rfl, hz, hA, q⟩ := h
  refine ⟨_, (pss_one (ps_ret (pe_comp (N := ["entry"]) (pick := [none]) (NX := ["text"]) (sX := defScope sBare) (by decide +kernel) rfl rfl rfl (pi_listK K (pe_call GW hr rfl mW kW bW .nil pass0 (pa_cons (pv 0) pa_nil)))
        (fun _ _ _ _ => (pg_name (i := 0) (by decide +kernel : (["entry"] : List Str).Nodup) rfl (Or.inl rfl))) (fun _ _ _ _ => pifs_nil) (fun _ _ _ _ => (pe_ix (ixT K) (pv 0) pe_int (fun _ _ => rfl)))))), ?_⟩
  simp only [tIfS, tAnd, tOr, tNot, tB, tVar, tTest, tOp, tC, tUn, tCB, tCons, tNil, rI0, rI, rU, rNe, rEq, scal, rAppend, tBM, tDrop, tSeq, tAsg, gName, tRet, tNext, List.set_cons_zero, List.set_cons_succ, List.getElem?_cons_zero, List.getElem?_cons_succ, Option.some.injEq, V.int.injEq, V.bl.injEq, V.ref.injEq, V.str.injEq, exists_eq_left', exists_eq_left, exists_and_left, List.cons.injEq, and_true, true_and, and_assoc, exists_const, L2.start, List.map_cons, List.map_nil, List.length_cons, List.length_nil, List.replicate_succ, List.replicate_zero, List.cons_append, List.nil_append, List.append_nil, Nat.reduceAdd, Nat.reduceSub, tFor_eq, tComp_eq, tWhile_eq, tChain, tAug, ipI, rIxS, rSlS, rLower, rIndex, rPop, rCat, tBM0, gSub, rSetL, tSl, tPart, tNoPart, rSlL, tCall, tLst, tTup, iRng1, iRng2, iRng3, iList, iEnum, gTup, gCons, gNil, rIxL, rIxT, tYes, tAndV, tOrV, tNotV, tIf, tTest, exists_eq', List.ne_cons_self, reduceCtorEq, if_true, if_false, and_false, false_and, spWords]
  refine ⟨by omega, hA, fun r xs H1 s1 hr1 e1 hD => ⟨⟨xs, SqL.of e1⟩, ?_⟩⟩
  have hDs := DeepTs.same (hide_same r H1) _ _ hD
  have hwl : (words z.cps.toList).length ≤ 1000 := by
    have := scan_len z.cps.toList (z.cps.toList.length + 1)
    have e : z.cps.toList.length = z.length := slen z
    unfold words
    omega
  have hxl : xs.length = (words z.cps.toList).length := by have := hD.length; rwa [List.length_map] at this
  refine compW_list xs (invBa H1) ⟨[], none, rfl, rfl, rfl, rfl⟩ ?_ ?_ ?_
  · rintro i ys σ L hi ⟨zs, v0, rfl, rfl, rfl, hl⟩
    exact ⟨SqL.of e1, small (by rw [List.length_map]; omega)⟩
  · rintro i y ys σ L hy ⟨zs, v0, rfl, rfl, rfl, hl⟩
    obtain ⟨dv, h1, h2⟩ := hDs.get hy
    rw [List.getElem?_map] at h1
    obtain ⟨wd, hwd, rfl⟩ := Option.map_eq_some_iff.mp h1
    obtain ⟨b, rfl, hb⟩ := dvW_at h2
    simp only [tIfS, tAnd, tOr, tNot, tB, tVar, tTest, tOp, tC, tUn, tCB, tCons, tNil, rI0, rI, rU, rNe, rEq, scal, rAppend, tBM, tDrop, tSeq, tAsg, gName, tRet, tNext, List.set_cons_zero, List.set_cons_succ, List.getElem?_cons_zero, List.getElem?_cons_succ, Option.some.injEq, V.int.injEq, V.bl.injEq, V.ref.injEq, V.str.injEq, exists_eq_left', exists_eq_left, exists_and_left, List.cons.injEq, and_true, true_and, and_assoc, exists_const, L2.start, List.map_cons, List.map_nil, List.length_cons, List.length_nil, List.replicate_succ, List.replicate_zero, List.cons_append, List.nil_append, List.append_nil, Nat.reduceAdd, Nat.reduceSub, tFor_eq, tComp_eq, tWhile_eq, tChain, tAug, ipI, rIxS, rSlS, rLower, rIndex, rPop, rCat, tBM0, gSub, rSetL, tSl, tPart, tNoPart, rSlL, tCall, tLst, tTup, iRng1, iRng2, iRng3, iList, iEnum, gTup, gCons, gNil, rIxL, rIxT, tYes, tAndV, tOrV, tNotV, tIf, tTest, exists_eq', List.ne_cons_self, reduceCtorEq, if_true, if_false, and_false, false_and]
    exact ⟨_, SqT.of hb, _, rfl, zs ++ [⟨wd.1.toArray⟩], _, rfl, rfl, by rw [List.map_append]; rfl, by rw [List.length_append, hl]; rfl⟩
  · rintro ys σ L ⟨zs, v0, rfl, rfl, rfl, hl⟩ p hp
    exact q p zs _ (s1.trans (same_new hp _)) (s1.free hp) upd_same (by omega)
end
/-! ### places by word -/
/-- the values are lists of at most n, made since G -/
def ValsG (G : Hp) (n : Nat) (H : Hp) (kvs : List (Key × V)) : Prop := ∀ p ∈ kvs, ∃ c xs, p.2 = .ref c ∧ G c = none ∧ H c = some (.lst xs) ∧ xs.length ≤ n
theorem ValsG.mono {G : Hp} {n m : Nat} {H : Hp} {kvs : List (Key × V)} (h : ValsG G n H kvs) (e : n ≤ m) : ValsG G m H kvs := fun p hp => by
  obtain ⟨c, xs, a, b, c', d⟩ := h p hp
  exact ⟨c, xs, a, b, c', Nat.le_trans d e⟩
theorem ValsG.same {G : Hp} {n : Nat} {H H' : Hp} {kvs : List (Key × V)} (h : ValsG G n H kvs) (e : Same H H') : ValsG G n H' kvs := fun p hp => by
  obtain ⟨c, xs, a, b, c', d⟩ := h p hp
  exact ⟨c, xs, a, b, e _ _ c', d⟩
theorem ValsG.app {G : Hp} {n : Nat} {H : Hp} {kvs : List (Key × V)} {l : Addr} {xs : List V} (h : ValsG G n H kvs) (hl : H l = some (.lst xs)) (hx : xs.length ≤ n) (y : V) : ValsG G (n + 1) (upd H l (.lst (xs ++ [y]))) kvs := fun p hp => by
  obtain ⟨c, zs, a, b, c', d⟩ := h p hp
  by_cases hc : c = l
  · subst hc
    exact ⟨c, _, a, b, upd_same, by rw [List.length_append, List.length_singleton]; omega⟩
  · exact ⟨c, zs, a, b, by rw [upd_ne hc]; exact c', by omega⟩
theorem ValsG.upd {G : Hp} {n : Nat} {H : Hp} {kvs ks : List (Key × V)} {d : Addr} {o : HO} (h : ValsG G n H kvs) (hd : H d = some (.dK ks)) : ValsG G n (L2.upd H d o) kvs := fun p hp => by
  obtain ⟨c, zs, a, b, c', e⟩ := h p hp
  have hc : c ≠ d := ne_of c' hd (by intro z; cases z)
  exact ⟨c, zs, a, b, by rw [upd_ne hc]; exact c', e⟩
theorem valV_mem {kvs : List (Key × V)} {k : Key} {v : V} (h : valV kvs k = some v) : ∃ p ∈ kvs, p.2 = v := by
  unfold valV at h
  cases e : kvs.find? (fun kv => decide (kv.1 = k)) with
  | none => rw [e] at h; cases h
  | some p => rw [e] at h; exact ⟨p, List.mem_of_find?_eq_some e, Option.some.inj h⟩
theorem kV_str (z : Str) : V.str z = kV (.inr z) := rfl
def spPlaces : Sp := fun vs H Q _ => ∃ (a : Addr) (ws : List Str), vs = [.ref a] ∧ H a = some (.lst (ws.map V.str)) ∧ ws.length ≤ 1000 ∧
  ∀ (d : Addr) (kvs : List (Key × V)) (H' : Hp), Same H H' → H d = none → H' d = some (.dK kvs) → kvs.length ≤ ws.length → (∀ p ∈ kvs, ∃ z, p.1 = .inr z) → Q (.ref d) H'
section
variable {P : Program} {w : World} {K : PySem.W.Frag} {mg : Str → Option Value} {base : Heap} {f : Addr} {fd : FuncData}
theorem scPlaces : FnScope ["words", "places", "place", "word"] ["words"] (defScope sPlaces) := ⟨rfl, rfl, rfl, by decide +kernel, rfl, by decide +kernel, by decide +kernel⟩
def invB (a d : Addr) (H : Hp) (i : Nat) (σ : St) (L : Hp) : Prop := ∃ (kvs : List (Key × V)) (v2 v3 : Option V), σ = [some (.ref a), some (.ref d), v2, v3] ∧ Same H L ∧ L d = some (.dK kvs) ∧ kvs.length ≤ i ∧ ValsG H i L kvs ∧ ∀ p ∈ kvs, ∃ z, p.1 = .inr z
theorem ok_places (F : Fun K "places_by_word" "places_by_word" sPlaces f fd) (T : Txt mg) : FnOk P w K mg base CX0 1 f fd ["words"] spPlaces := by
  refine F.ok scPlaces (fun vs H Q E h => ?_) (fun cdv A outer s H vs Q E hr h => ?_)
  · obtain ⟨a, ws, rfl, _⟩ := h
    rfl
  obtain ⟨a, ws, rfl, ha, hl, q⟩ := h
  refine ⟨_, (pss_cons (ps_set (i := 1) scPlaces.nd rfl (Or.inl rfl) pe_dnewK)
    (pss_cons (ps_for PassesOwn.never rfl (pi_enum rfl T.enumerate (pa_cons (pv 0) pa_nil)) (pgT K (n := 2) rfl (pgs_cons (pg_name (i := 2) scPlaces.nd rfl (Or.inl rfl)) (pgs_cons (pg_name (i := 3) scPlaces.nd rfl (Or.inl rfl)) pgs_nil)))
      (pss_one (ps_expr (bmK K PySem.F.plainAttrs_list PySem.F.slot_list_append PySem.F.type_list_append mt_append (pe_dsetd (pv 1) (pv 3) (pe_lst pa_nil) ⟨rfl, rfl, rfl, rfl⟩) (pa_cons (pv 2) pa_nil)))))
    (pss_one (ps_ret (pv 1))))), ?_⟩
  simp only [tIfS, tAnd, tOr, tNot, tB, tVar, tTest, tOp, tC, tUn, tCB, tCons, tNil, rI0, rI, rU, rNe, rEq, scal, rAppend, tBM, tDrop, tSeq, tAsg, gName, tRet, tNext, List.set_cons_zero, List.set_cons_succ, List.getElem?_cons_zero, List.getElem?_cons_succ, Option.some.injEq, V.int.injEq, V.bl.injEq, V.ref.injEq, V.str.injEq, exists_eq_left', exists_eq_left, exists_and_left, List.cons.injEq, and_true, true_and, and_assoc, exists_const, L2.start, List.map_cons, List.map_nil, List.length_cons, List.length_nil, List.replicate_succ, List.replicate_zero, List.cons_append, List.nil_append, List.append_nil, Nat.reduceAdd, Nat.reduceSub, tFor_eq, tComp_eq, tWhile_eq, tChain, tAug, ipI, rIxS, rSlS, rLower, rIndex, rPop, rCat, tBM0, gSub, rSetL, tSl, tPart, tNoPart, rSlL, tCall, tLst, tTup, iRng1, iRng2, iRng3, iList, iEnum, gTup, gCons, gNil, rIxL, rIxT, tYes, tAndV, tOrV, tNotV, tIf, tTest, exists_eq', List.ne_cons_self, reduceCtorEq, if_true, if_false, and_false, false_and, tDNewK]
  intro d hd
  have had : a ≠ d := ne_of_none ha hd
  have hxl : (ws.map V.str).length = ws.length := List.length_map _
  refine ⟨⟨_, SqL.of (upd_at ha hd)⟩, forW_enum (ws.map V.str) (invB a d H) ⟨[], none, none, rfl, same_new hd _, upd_same, Nat.le_refl _, fun p hp => (by cases hp), fun p hp => (by cases hp)⟩ ?_ ?_ ?_⟩
  · rintro i σ L hi ⟨kvs, v2, v3, rfl, sL, hk, hkl, hv, hz⟩
    exact SqL.of (sL _ _ ha)
  · rintro i y T σ L hy ⟨kvs, v2, v3, rfl, sL, hk, hkl, hv, hz⟩ hT
    rw [List.getElem?_map] at hy
    obtain ⟨wd, hwd, rfl⟩ := Option.map_eq_some_iff.mp hy
    have hil : i < ws.length := (List.getElem?_eq_some_iff.mp hwd).1
    have sT : Same H (upd L T (.tup [.int i, .str wd])) := sL.trans (same_new hT _)
    have hk' : (upd L T (.tup [.int i, .str wd])) d = some (.dK kvs) := upd_at hk hT
    have hv' := hv.same (same_new hT (.tup [.int i, .str wd]))
    simp only [tIfS, tAnd, tOr, tNot, tB, tVar, tTest, tOp, tC, tUn, tCB, tCons, tNil, rI0, rI, rU, rNe, rEq, scal, rAppend, tBM, tDrop, tSeq, tAsg, gName, tRet, tNext, List.set_cons_zero, List.set_cons_succ, List.getElem?_cons_zero, List.getElem?_cons_succ, Option.some.injEq, V.int.injEq, V.bl.injEq, V.ref.injEq, V.str.injEq, exists_eq_left', exists_eq_left, exists_and_left, List.cons.injEq, and_true, true_and, and_assoc, exists_const, L2.start, List.map_cons, List.map_nil, List.length_cons, List.length_nil, List.replicate_succ, List.replicate_zero, List.cons_append, List.nil_append, List.append_nil, Nat.reduceAdd, Nat.reduceSub, tFor_eq, tComp_eq, tWhile_eq, tChain, tAug, ipI, rIxS, rSlS, rLower, rIndex, rPop, rCat, tBM0, gSub, rSetL, tSl, tPart, tNoPart, rSlL, tCall, tLst, tTup, iRng1, iRng2, iRng3, iList, iEnum, gTup, gCons, gNil, rIxL, rIxT, tYes, tAndV, tOrV, tNotV, tIf, tTest, exists_eq', List.ne_cons_self, reduceCtorEq, if_true, if_false, and_false, false_and]
    refine ⟨_, SqT.of upd_same, rfl, ?_⟩
    simp only [tIfS, tAnd, tOr, tNot, tB, tVar, tTest, tOp, tC, tUn, tCB, tCons, tNil, rI0, rI, rU, rNe, rEq, scal, rAppend, tBM, tDrop, tSeq, tAsg, gName, tRet, tNext, List.set_cons_zero, List.set_cons_succ, List.getElem?_cons_zero, List.getElem?_cons_succ, Option.some.injEq, V.int.injEq, V.bl.injEq, V.ref.injEq, V.str.injEq, exists_eq_left', exists_eq_left, exists_and_left, List.cons.injEq, and_true, true_and, and_assoc, exists_const, L2.start, List.map_cons, List.map_nil, List.length_cons, List.length_nil, List.replicate_succ, List.replicate_zero, List.cons_append, List.nil_append, List.append_nil, Nat.reduceAdd, Nat.reduceSub, tFor_eq, tComp_eq, tWhile_eq, tChain, tAug, ipI, rIxS, rSlS, rLower, rIndex, rPop, rCat, tBM0, gSub, rSetL, tSl, tPart, tNoPart, rSlL, tCall, tLst, tTup, iRng1, iRng2, iRng3, iList, iEnum, gTup, gCons, gNil, rIxL, rIxT, tYes, tAndV, tOrV, tNotV, tIf, tTest, exists_eq', List.ne_cons_self, reduceCtorEq, if_true, if_false, and_false, false_and, tDSetd]
    generalize upd L T (.tup [.int i, .str wd]) = M at sT hk' hv' ⊢
    refine ⟨.inl ⟨kvs, .inl hk'⟩, by decide, fun p hp => ?_⟩
    have hk2 : (upd M p (.lst [])) d = some (.dK kvs) := upd_at hk' hp
    have s3 : Same H (upd M p (.lst [])) := sT.trans (same_new hp _)
    have v3 := hv'.same (same_new hp (.lst []))
    have hpd : p ≠ d := fun z => by rw [z, hk'] at hp; cases hp
    refine ⟨kvs, hk2, .inr _, rfl, small1000 (by omega), fun v hvv => ?_, fun hvn => ?_⟩
    · obtain ⟨pr, hpm, rfl⟩ := valV_mem hvv
      obtain ⟨c, zs, e1, e2, e3, e4⟩ := v3 pr hpm
      rw [e1]
      refine ⟨.inl ⟨rfl, _, SqL.of e3⟩, c, rfl, zs, e3, small1000 (by omega), kvs, _, _, rfl, s3.newer e2 _, ?_, by omega, v3.app e3 e4 _, hz⟩
      rw [upd_ne (ne_of hk2 e3 (by intro z; cases z))]
      exact hk2
    · have pn : H p = none := sT.free hp
      have el := putK_new (V.ref p) hvn
      have ep : (upd (upd M p (.lst [])) d (.dK (putK kvs (.inr wd) (.ref p)))) p = some (.lst []) := by rw [upd_ne hpd]; exact upd_same
      refine ⟨.inl ⟨rfl, _, SqL.of ep⟩, [], ep, by decide, _, _, _, rfl, (s3.newer hd _).newer pn _, by rw [upd_ne hpd.symm]; exact upd_same, ?_, ?_, ?_⟩
      · rw [el, List.length_append, List.length_singleton]
        omega
      · intro x hx
        rw [el] at hx
        rcases List.mem_append.mp hx with hx | hx
        · exact ((v3.upd hk2).app ep (Nat.zero_le _) _) x hx
        · rw [List.mem_singleton] at hx
          subst hx
          exact ⟨p, _, rfl, pn, upd_same, by simp⟩
      · intro x hx
        rw [el] at hx
        rcases List.mem_append.mp hx with hx | hx
        · exact hz x hx
        · rw [List.mem_singleton] at hx
          subst hx
          exact ⟨_, rfl⟩
  · rintro σ L ⟨kvs, v2, v3, rfl, sL, hk, hkl, hv, hz⟩
    simp only [tIfS, tAnd, tOr, tNot, tB, tVar, tTest, tOp, tC, tUn, tCB, tCons, tNil, rI0, rI, rU, rNe, rEq, scal, rAppend, tBM, tDrop, tSeq, tAsg, gName, tRet, tNext, List.set_cons_zero, List.set_cons_succ, List.getElem?_cons_zero, List.getElem?_cons_succ, Option.some.injEq, V.int.injEq, V.bl.injEq, V.ref.injEq, V.str.injEq, exists_eq_left', exists_eq_left, exists_and_left, List.cons.injEq, and_true, true_and, and_assoc, exists_const, L2.start, List.map_cons, List.map_nil, List.length_cons, List.length_nil, List.replicate_succ, List.replicate_zero, List.cons_append, List.nil_append, List.append_nil, Nat.reduceAdd, Nat.reduceSub, tFor_eq, tComp_eq, tWhile_eq, tChain, tAug, ipI, rIxS, rSlS, rLower, rIndex, rPop, rCat, tBM0, gSub, rSetL, tSl, tPart, tNoPart, rSlL, tCall, tLst, tTup, iRng1, iRng2, iRng3, iList, iEnum, gTup, gCons, gNil, rIxL, rIxT, tYes, tAndV, tOrV, tNotV, tIf, tTest, exists_eq', List.ne_cons_self, reduceCtorEq, if_true, if_false, and_false, false_and]
    exact q d kvs L sL hd hk (by omega) hz
/-! ### postings added -/
end
/-- what was there, but b, stays; lists made since G may have grown by n -/
def Evo (b : Addr) (n : Nat) (G H L : Hp) : Prop := ∀ x u, H x = some u → x ≠ b → L x = some u ∨ ∃ xs xs', u = .lst xs ∧ G x = none ∧ L x = some (.lst xs') ∧ xs'.length ≤ xs.length + n
theorem Evo.of {b : Addr} {G H L : Hp} (s : Same H L) (n : Nat) : Evo b n G H L := fun x u h _ => .inl (s x u h)
theorem Evo.mono {b : Addr} {n m : Nat} {G H L : Hp} (e : Evo b n G H L) (h : n ≤ m) : Evo b m G H L := fun x u hx hb => by
  rcases e x u hx hb with z | ⟨xs, xs', z1, z2, z3, z4⟩
  · exact .inl z
  · exact .inr ⟨xs, xs', z1, z2, z3, by omega⟩
theorem Evo.new {b p : Addr} {n : Nat} {G H L : Hp} {o : HO} (e : Evo b n G H L) (h : L p = none) : Evo b n G H (upd L p o) := fun x u hx hb => by
  rcases e x u hx hb with z | ⟨xs, xs', z1, z2, z3, z4⟩
  · exact .inl (upd_at z h)
  · exact .inr ⟨xs, xs', z1, z2, upd_at z3 h, z4⟩
theorem Evo.put {b : Addr} {n : Nat} {G H L : Hp} {o : HO} (e : Evo b n G H L) : Evo b n G H (upd L b o) := fun x u hx hb => by
  rcases e x u hx hb with z | ⟨xs, xs', z1, z2, z3, z4⟩
  · exact .inl (by rw [upd_ne hb]; exact z)
  · exact .inr ⟨xs, xs', z1, z2, by rw [upd_ne hb]; exact z3, z4⟩
theorem Evo.app {b c : Addr} {n : Nat} {G H L : Hp} {zs : List V} {y : V} (e : Evo b n G H L) (hc : L c = some (.lst zs)) (hg : G c = none) : Evo b (n + 1) G H (upd L c (.lst (zs ++ [y]))) := fun x u hx hb => by
  by_cases hxc : x = c
  · subst hxc
    rcases e x u hx hb with z | ⟨xs, xs', z1, z2, z3, z4⟩
    · rw [hc] at z
      cases z
      exact .inr ⟨zs, _, rfl, hg, upd_same, by rw [List.length_append, List.length_singleton]; omega⟩
    · rw [hc] at z3
      cases z3
      exact .inr ⟨xs, _, z1, hg, upd_same, by rw [List.length_append, List.length_singleton]; omega⟩
  · rcases e x u hx hb with z | ⟨xs, xs', z1, z2, z3, z4⟩
    · exact .inl (by rw [upd_ne hxc]; exact z)
    · exact .inr ⟨xs, xs', z1, z2, by rw [upd_ne hxc]; exact z3, by omega⟩
def spAdd : Sp := fun vs H Q _ => ∃ (G : Hp) (b : Addr) (kvs : List (Key × V)) (n : Nat) (m : Int) (a : Addr) (ws : List Str), vs = [.ref b, .int m, .ref a] ∧ Same G H ∧ G b = none ∧ H b = some (.dK kvs) ∧ ValsG G n H kvs ∧ kvs.length ≤ n ∧ n ≤ 1000000 ∧
  H a = some (.lst (ws.map V.str)) ∧ ws.length ≤ 1000 ∧ ∀ kvs' H', Same G H' → H' b = some (.dK kvs') → ValsG G (n + 1000) H' kvs' → kvs'.length ≤ n + 1000 → Evo b 1000 G H H' → Q .non H'
section
variable {P : Program} {w : World} {K : PySem.W.Frag} {mg : Str → Option Value} {base : Heap} {f : Addr} {fd : FuncData}
theorem scAdd : FnScope ["by_word", "make", "words", "places", "word"] ["by_word", "make", "words"] (defScope sAdd) := ⟨rfl, rfl, rfl, by decide +kernel, rfl, by decide +kernel, by decide +kernel⟩
def invAd (G H : Hp) (b a d : Addr) (m : Int) (n : Nat) (o : Obj) (pk : List (Key × V)) (i : Nat) (σ : St) (L : Hp) : Prop := ∃ (kvs : List (Key × V)) (v4 : Option V), σ = [some (.ref b), some (.int m), some (.ref a), some (.ref d), v4] ∧ Same G L ∧ L b = some (.dK kvs) ∧ kvs.length ≤ n + i ∧ ValsG G (n + i) L kvs ∧ L d = some (.frz o (.dK pk)) ∧ Evo b i G H L
theorem ok_add {g : Addr} {gd : FuncData} (F : Fun K "add_postings" "add_postings" sAdd f fd) (T : Txt mg) (GB : FnOk P w K mg base CX0 1 g gd ["words"] spPlaces) (bB : Binds K gd ["words"] []) (kB : PySem.W.keepIn K (.ref g) = true) (mB : mg "places_by_word" = some (.ref g)) : FnOk P w K mg base CX0 2 f fd ["by_word", "make", "words"] spAdd := by
  refine F.ok scAdd (fun vs H Q E h => ?_) (fun cdv A outer s H vs Q E hr h => ?_)
  · obtain ⟨G, b, kvs, n, m, a, ws, rfl, _⟩ := h
    rfl
  obtain ⟨G, b, kvs, n, m, a, ws, rfl, sG, gb, hb, hv, hkl, hn, ha, hl, q⟩ := h
  refine ⟨_, (pss_cons (ps_set (i := 3) scAdd.nd rfl (Or.inl rfl) (pe_call GB hr rfl mB kB bB .nil pass0 (pa_cons (pv 2) pa_nil)))
    (pss_one (ps_for PassesOwn.never rfl (pi_dict (pv 3)) (pg_name (i := 4) scAdd.nd rfl (Or.inl rfl))
      (pss_one (ps_expr (bmK K PySem.F.plainAttrs_list PySem.F.slot_list_append PySem.F.type_list_append mt_append (pe_dsetd (pv 0) (pv 4) (pe_lst pa_nil) ⟨rfl, rfl, rfl, rfl⟩) (pa_cons (pe_tup (pa_cons (pv 1) (pa_cons (pe_dget (hu_of hr) (pv 3) (pv 4) (fun _ _ => rfl)) pa_nil))) pa_nil))))))), ?_⟩
  simp only [tIfS, tAnd, tOr, tNot, tB, tVar, tTest, tOp, tC, tUn, tCB, tCons, tNil, rI0, rI, rU, rNe, rEq, scal, rAppend, tBM, tDrop, tSeq, tAsg, gName, tRet, tNext, List.set_cons_zero, List.set_cons_succ, List.getElem?_cons_zero, List.getElem?_cons_succ, Option.some.injEq, V.int.injEq, V.bl.injEq, V.ref.injEq, V.str.injEq, exists_eq_left', exists_eq_left, exists_and_left, List.cons.injEq, and_true, true_and, and_assoc, exists_const, L2.start, List.map_cons, List.map_nil, List.length_cons, List.length_nil, List.replicate_succ, List.replicate_zero, List.cons_append, List.nil_append, List.append_nil, Nat.reduceAdd, Nat.reduceSub, tFor_eq, tComp_eq, tWhile_eq, tChain, tAug, ipI, rIxS, rSlS, rLower, rIndex, rPop, rCat, tBM0, gSub, rSetL, tSl, tPart, tNoPart, rSlL, tCall, tLst, tTup, iRng1, iRng2, iRng3, iList, iEnum, gTup, gCons, gNil, rIxL, rIxT, tYes, tAndV, tOrV, tNotV, tIf, tTest, exists_eq', List.ne_cons_self, reduceCtorEq, if_true, if_false, and_false, false_and, spPlaces, iDict]
  refine ⟨ws, ha, hl, fun d pk H1 s1 hd hd1 hpl hpk => ⟨pk, hd1, fun o => ?_⟩⟩
  have hbd : b ≠ d := ne_of_none hb hd
  have gd' : G d = none := sG.free hd
  have h0 : invAd G H b a d m n o pk 0 [some (.ref b), some (.int m), some (.ref a), some (.ref d), none] (upd H1 d (.frz o (.dK pk))) :=
    ⟨kvs, none, rfl, (sG.trans s1).newer gd' _, by rw [upd_ne hbd]; exact s1 _ _ hb, by omega, (hv.same s1).upd hd1, upd_same, fun x u hx hxb => .inl (by rw [upd_ne (ne_of_none hx hd)]; exact s1 _ _ hx)⟩
  refine forW_dict (invAd G H b a d m n o pk) h0 (fun i σ L ⟨_, _, _, _, _, _, _, z, _⟩ => z) ?_ ?_
  · rintro i k v0 σ L hk ⟨kvs1, v4, rfl, sL, hbL, hkl1, hv1, hdL, ev⟩
    have hil : i < pk.length := (List.getElem?_eq_some_iff.mp hk).1
    obtain ⟨z, rfl⟩ : ∃ z, k = .inr z := hpk _ (List.mem_of_getElem? hk)
    obtain ⟨vv, hvv⟩ : ∃ vv, valV pk (.inr z) = some vv := by
      cases e : valV pk (.inr z : Key) with
      | some vv => exact ⟨vv, rfl⟩
      | none => exact absurd (List.mem_map.mpr ⟨_, List.mem_of_getElem? hk, rfl⟩) (valV_not e)
    simp only [tIfS, tAnd, tOr, tNot, tB, tVar, tTest, tOp, tC, tUn, tCB, tCons, tNil, rI0, rI, rU, rNe, rEq, scal, rAppend, tBM, tDrop, tSeq, tAsg, gName, tRet, tNext, List.set_cons_zero, List.set_cons_succ, List.getElem?_cons_zero, List.getElem?_cons_succ, Option.some.injEq, V.int.injEq, V.bl.injEq, V.ref.injEq, V.str.injEq, exists_eq_left', exists_eq_left, exists_and_left, List.cons.injEq, and_true, true_and, and_assoc, exists_const, L2.start, List.map_cons, List.map_nil, List.length_cons, List.length_nil, List.replicate_succ, List.replicate_zero, List.cons_append, List.nil_append, List.append_nil, Nat.reduceAdd, Nat.reduceSub, tFor_eq, tComp_eq, tWhile_eq, tChain, tAug, ipI, rIxS, rSlS, rLower, rIndex, rPop, rCat, tBM0, gSub, rSetL, tSl, tPart, tNoPart, rSlL, tCall, tLst, tTup, iRng1, iRng2, iRng3, iList, iEnum, gTup, gCons, gNil, rIxL, rIxT, tYes, tAndV, tOrV, tNotV, tIf, tTest, exists_eq', List.ne_cons_self, reduceCtorEq, if_true, if_false, and_false, false_and, tDSetd, tDGet]
    have szl := sizeLine_eq
    refine ⟨.inl ⟨kvs1, .inl hbL⟩, by decide, fun p hp => ?_⟩
    have gp : G p = none := sL.free hp
    have hpb : p ≠ b := fun z => by rw [z, hbL] at hp; cases hp
    have hpd : p ≠ d := fun z => by rw [z, hdL] at hp; cases hp
    have hb2 : (upd L p (.lst [])) b = some (.dK kvs1) := upd_at hbL hp
    have hd2 : (upd L p (.lst [])) d = some (.frz o (.dK pk)) := upd_at hdL hp
    have v2 := hv1.same (same_new hp (.lst []))
    have s2 : Same G (upd L p (.lst [])) := sL.trans (same_new hp _)
    refine ⟨kvs1, hb2, .inr z, rfl, by omega, fun v hv => ?_, fun hvn => ?_⟩
    · obtain ⟨pr, hpm, rfl⟩ := valV_mem hv
      obtain ⟨c, zs, e1, e2, e3, e4⟩ := v2 pr hpm
      rw [e1]
      refine ⟨.inl ⟨rfl, _, SqL.of e3⟩, vv, .inl ⟨pk, .inr z, .inr ⟨o, hd2⟩, rfl, hvv.symm⟩, by decide, fun p1 hp1 => ?_⟩
      have e3' := upd_at (o := .tup [.int m, vv]) e3 hp1
      refine ⟨c, rfl, zs, e3', by omega, kvs1, _, rfl, (s2.trans (same_new hp1 _)).newer e2 _, ?_, by omega, ?_, ?_, ?_⟩
      · rw [upd_ne (ne_of hb2 e3 (by intro z; cases z))]
        exact upd_at hb2 hp1
      · exact ((v2.same (same_new hp1 _)).app e3' e4 _).mono (by omega)
      · rw [upd_ne (ne_of hd2 e3 (by intro z; cases z))]
        exact upd_at hd2 hp1
      · exact ((ev.new hp).new hp1).app e3' e2
    · have el := putK_new (V.ref p) hvn
      have hd3 : (upd (upd L p (.lst [])) b (.dK (putK kvs1 (.inr z) (.ref p)))) d = some (.frz o (.dK pk)) := by rw [upd_ne hbd.symm]; exact hd2
      have hp3 : (upd (upd L p (.lst [])) b (.dK (putK kvs1 (.inr z) (.ref p)))) p = some (.lst []) := by rw [upd_ne hpb]; exact upd_same
      refine ⟨.inl ⟨rfl, _, SqL.of hp3⟩, vv, .inl ⟨pk, .inr z, .inr ⟨o, hd3⟩, rfl, hvv.symm⟩, by decide, fun p1 hp1 => ?_⟩
      have hp4 := upd_at (o := .tup [.int m, vv]) hp3 hp1
      refine ⟨[], hp4, by show 0 < sizeLine; omega, putK kvs1 (.inr z) (.ref p), _, rfl, ((s2.newer gb _).trans (same_new hp1 _)).newer gp _, ?_, ?_, ?_, ?_, ?_⟩
      · rw [upd_ne hpb.symm]
        exact upd_at upd_same hp1
      · rw [el, List.length_append, List.length_singleton]
        omega
      · intro x hx
        rw [el] at hx
        rcases List.mem_append.mp hx with hx | hx
        · exact ((((v2.upd hb2).same (same_new hp1 _)).app hp4 (Nat.zero_le _) _).mono (by omega)) x hx
        · rw [List.mem_singleton] at hx
          subst hx
          exact ⟨p, _, rfl, gp, upd_same, (by show 1 ≤ n + (i + 1); omega)⟩
      · rw [upd_ne hpd.symm]
        exact upd_at hd3 hp1
      · exact (((ev.new hp).put).new hp1).app hp4 gp
  · rintro σ L ⟨kvs1, v4, rfl, sL, hbL, hkl1, hv1, hdL, ev⟩
    exact q kvs1 L sL hbL (hv1.mono (by omega)) (by omega) (ev.mono (by omega))
end
end K7

namespace K7
open PySem L2 KW
section
variable {P : Program} {w : World} {K : PySem.W.Frag} {mg : Str → Option Value} {base : Heap} {f : Addr} {fd : FuncData}
theorem scInit : FnScope ["self", "makes", "make", "document", "field", "text", "words"] ["self", "makes"] (defScope sInit) := ⟨rfl, rfl, rfl, by decide +kernel, rfl, by decide +kernel, by decide +kernel⟩
def spInit (C NF NM : Addr) : Sp := fun vs H Q E => ∃ (G : Hp) (x dx a : Addr) (ms : List Mk) (xs : List V), vs = [.ref x, .ref a] ∧ Same G H ∧ G x = none ∧ H x = some (.ins C dx []) ∧ G a = some (.lst xs) ∧ DeepTs G (ms.map dvM) xs ∧ ms.length ≤ 20 ∧
  (∀ m ∈ ms, m.2.length ≤ 20 ∧ ∀ y ∈ m.2, y.1.length ≤ 1000 ∧ y.2.length ≤ 500 ∧ Asc y.2) ∧
  match mw (-1) 0 ms with
  | none => ∀ H', Same G H' → Q .non H'
  | some (true, k) => WrongAt NM k G E
  | some (false, k) => WrongAt NF k G E
def invOwn (ms : List Mk) (L0 : Hp) (i : Nat) (ys : List V) (σ : St) (L : Hp) : Prop := ∃ v0 v1 : Option V, σ = [v0, v1] ∧ L = L0 ∧ ys.length = i
/-- a piece on its way -/
def PInv (G : Hp) (x B N C dx : Addr) (fs : List (Str × V)) (n : Nat) (L : Hp) : Prop := Same G L ∧ L x = some (.ins C dx fs) ∧ (∃ kvs, L B = some (.dK kvs) ∧ kvs.length ≤ n ∧ ∀ p ∈ kvs, ∃ c ks, p.2 = .ref c ∧ c ≠ B ∧ G c = none ∧ L c = some (.dK ks) ∧ ks.length ≤ n * 1000 ∧ ValsG G (n * 1000) L ks) ∧
  ∃ ts, L N = some (.dT ts) ∧ ts.length ≤ n
def invO (G : Hp) (x B N C dx a : Addr) (fs : List (Str × V)) (i : Nat) (σ : St) (L : Hp) : Prop := ∃ v2 v3 v4 v5 v6 : Option V, σ = [some (.ref x), some (.ref a), v2, v3, v4, v5, v6] ∧ PInv G x B N C dx fs (20 * i) L
def invI (G : Hp) (x B N C dx a : Addr) (fs : List (Str × V)) (m : Int) (d : V) (i j : Nat) (σ : St) (L : Hp) : Prop := ∃ v4 v5 v6 : Option V, σ = [some (.ref x), some (.ref a), some (.int m), some d, v4, v5, v6] ∧ PInv G x B N C dx fs (20 * i + j) L
theorem PInv.mono {G : Hp} {x B N C dx : Addr} {fs : List (Str × V)} {n m : Nat} {L : Hp} (h : PInv G x B N C dx fs n L) (e : n ≤ m) : PInv G x B N C dx fs m L := by
  obtain ⟨sG, hx, ⟨kvs, hB, hl, hc⟩, ts, hN, ht⟩ := h
  refine ⟨sG, hx, ⟨kvs, hB, by omega, fun p hp => ?_⟩, ts, hN, by omega⟩
  obtain ⟨c, ks, e1, e2, e3, e4, e5, e6⟩ := hc p hp
  exact ⟨c, ks, e1, e2, e3, e4, by omega, e6.mono (by omega)⟩
theorem PInv.same {G : Hp} {x B N C dx : Addr} {fs : List (Str × V)} {n : Nat} {L M : Hp} (h : PInv G x B N C dx fs n L) (s : Same L M) : PInv G x B N C dx fs n M := by
  obtain ⟨sG, hx, ⟨kvs, hB, hl, hc⟩, ts, hN, ht⟩ := h
  refine ⟨sG.trans s, s _ _ hx, ⟨kvs, s _ _ hB, hl, fun p hp => ?_⟩, ts, s _ _ hN, ht⟩
  obtain ⟨c, ks, e1, e2, e3, e4, e5, e6⟩ := hc p hp
  exact ⟨c, ks, e1, e2, e3, s _ _ e4, e5, e6.same s⟩
theorem ValsG.evo {G : Hp} {n m : Nat} {L L' : Hp} {ks k0 : List (Key × V)} {c0 : Addr} (h : ValsG G n L ks) (h0 : L c0 = some (.dK k0)) (ev : Evo c0 m G L L') : ValsG G (n + m) L' ks := fun p hp => by
  obtain ⟨c, xs, a, b, c', d⟩ := h p hp
  rcases ev c _ c' (ne_of c' h0 (by intro z; cases z)) with z | ⟨ys, ys', z1, z2, z3, z4⟩
  · exact ⟨c, xs, a, b, z, by omega⟩
  · cases z1
    exact ⟨c, ys', a, b, z3, by omega⟩
theorem Evo.dk {G : Hp} {m : Nat} {L L' : Hp} {c0 y : Addr} {u : HO} (ev : Evo c0 m G L L') (hy : L y = some u) (hn : y ≠ c0) (hu : ∀ xs, u ≠ .lst xs) : L' y = some u := by
  rcases ev y u hy hn with z | ⟨ys, ys', z1, _⟩
  · exact z
  · exact absurd z1 (hu _)
theorem PInv.add {G : Hp} {x B N C dx c0 : Addr} {fs : List (Str × V)} {n : Nat} {L L' : Hp} {kvs ks0 ks' : List (Key × V)} {ts : List (List Key × V)} (hx : L x = some (.ins C dx fs)) (hB : L B = some (.dK kvs)) (hl : kvs.length ≤ n + 1)
    (hc : ∀ p ∈ kvs, ∃ c ks, p.2 = .ref c ∧ c ≠ B ∧ G c = none ∧ L c = some (.dK ks) ∧ ks.length ≤ n * 1000 ∧ ValsG G (n * 1000) L ks) (hN : L N = some (.dT ts)) (ht : ts.length ≤ n + 1) (h0 : L c0 = some (.dK ks0)) (n0 : c0 ≠ B)
    (sG : Same G L') (h1 : L' c0 = some (.dK ks')) (hv : ValsG G (n * 1000 + 1000) L' ks') (hk : ks'.length ≤ n * 1000 + 1000) (ev : Evo c0 1000 G L L') : PInv G x B N C dx fs (n + 1) L' := by
  refine ⟨sG, ev.dk hx (ne_of hx h0 (by intro z; cases z)) (by intro _ z; cases z), ⟨kvs, ev.dk hB n0.symm (by intro _ z; cases z), hl, fun p hp => ?_⟩, ts, ev.dk hN (ne_of hN h0 (by intro z; cases z)) (by intro _ z; cases z), ht⟩
  obtain ⟨c, ks, e1, e2, e3, e4, e5, e6⟩ := hc p hp
  by_cases he : c = c0
  · subst he
    exact ⟨c, ks', e1, e2, e3, h1, by omega, hv.mono (by omega)⟩
  · exact ⟨c, ks, e1, e2, e3, ev.dk e4 he (by intro _ z; cases z), by omega, (e6.evo h0 ev).mono (by omega)⟩
theorem ok_init {C NF NM gm gw ga : Addr} {dm dw da : FuncData} (F : Fun K "__init__" "Piece.__init__" sInit f fd) (T : Txt mg) (cl : Cls K C) (n1 : NoAttr K C "own_makes") (n2 : NoAttr K C "by_field") (n3 : NoAttr K C "lengths")
    (GM : FnOk P w K mg base (CXe P w) 4 gm dm ["makes"] (spMakes NF NM)) (bM : Binds K dm ["makes"] []) (kM : PySem.W.keepIn K (.ref gm) = true) (mM : mg "look_at_makes" = some (.ref gm))
    (GW : FnOk P w K mg base CX0 5 gw dw ["text"] spBare) (bW : Binds K dw ["text"] []) (kW : PySem.W.keepIn K (.ref gw) = true) (mW : mg "bare_words" = some (.ref gw))
    (GA : FnOk P w K mg base CX0 2 ga da ["by_word", "make", "words"] spAdd) (bA : Binds K da ["by_word", "make", "words"] []) (kA : PySem.W.keepIn K (.ref ga) = true) (mA : mg "add_postings" = some (.ref ga)) : FnOk P w K mg base (CXe P w) 6 f fd ["self", "makes"] (spInit C NF NM) := by
  refine F.okX scInit (fun vs H Q E h => ?_) (fun cdv A outer s H vs Q E hr h => ?_)
  · obtain ⟨G, x, dx, a, ms, xs, rfl, _⟩ := h
    rfl
  obtain ⟨G, x, dx, a, ms, xs, rfl, sG, gx, hx, ga', hD, hl, hfl, q⟩ := h
  have hr2 : Room 2 _ := hr.mono (by decide)
  have hr4 : Room 4 _ := hr.mono (by decide)
  refine ⟨_, (pss_cons (ps_expr (pe_call GM hr4 rfl mM kM bM .nil passX (pa_cons (pv 1) pa_nil)))
    (pss_cons (ps_fld (pv 0) (pe_comp (N := ["make", "document"]) (pick := [none, none]) (NX := ["self", "makes", "make", "document", "field", "text", "words"]) (sX := defScope sInit) (by decide +kernel) rfl rfl rfl (pi_listK K (pv 1))
        (fun _ _ _ _ => (pgT K (n := 2) rfl (pgs_cons (pg_name (i := 0) (by decide +kernel : (["make", "document"] : List Str).Nodup) rfl (Or.inl rfl)) (pgs_cons (pg_name (i := 1) (by decide +kernel : (["make", "document"] : List Str).Nodup) rfl (Or.inl rfl)) pgs_nil)))) (fun _ _ _ _ => pifs_nil) (fun _ _ _ _ => (pv 0))) rfl)
    (pss_cons (ps_fld (pv 0) pe_dnewK rfl)
    (pss_cons (ps_fld (pv 0) pe_dnewT rfl)
    (pss_one (ps_for PassesOwn.leaving rfl (pi_listK K (pv 1)) (pgT K (n := 2) rfl (pgs_cons (pg_name (i := 2) scInit.nd rfl (Or.inl rfl)) (pgs_cons (pg_name (i := 3) scInit.nd rfl (Or.inl rfl)) pgs_nil)))
      (pss_one (ps_for PassesOwn.leaving rfl (pi_listK K (pv 3)) (pgT K (n := 2) rfl (pgs_cons (pg_name (i := 4) scInit.nd rfl (Or.inl rfl)) (pgs_cons (pg_name (i := 5) scInit.nd rfl (Or.inl rfl)) pgs_nil)))
      (pss_cons (ps_set (i := 6) scInit.nd rfl (Or.inl rfl) (pe_call GW hr rfl mW kW bW .nil pass0 (pa_cons (pv 5) pa_nil)))
    (pss_one (ps_if (pt_truth (pv 6) (fun _ => rfl)) (pss_cons (ps_dput (hu_of hr) (pe_fld (pv 0) rfl) (pe_tup (pa_cons (pv 2) (pa_cons (pv 4) pa_nil))) (pe_callB (lenK K) rfl T.len PySem.boot_len (pa_cons (pv 6) pa_nil)) rfl)
    (pss_one (ps_expr (pe_call GA hr2 rfl mA kA bA .nil pass0 (pa_cons (pe_dsetd (pe_fld (pv 0) rfl) (pv 4) pe_dnewK ⟨rfl, rfl, rfl, rfl⟩) (pa_cons (pv 2) (pa_cons (pv 6) pa_nil))))))) pss_nil))))))))))), ?_⟩
  simp only [tIfS, tAnd, tOr, tNot, tB, tVar, tTest, tOp, tC, tUn, tCB, tCons, tNil, rI0, rI, rU, rNe, rEq, scal, rAppend, tBM, tDrop, tSeq, tAsg, gName, tRet, tNext, List.set_cons_zero, List.set_cons_succ, List.getElem?_cons_zero, List.getElem?_cons_succ, Option.some.injEq, V.int.injEq, V.bl.injEq, V.ref.injEq, V.str.injEq, exists_eq_left', exists_eq_left, exists_and_left, List.cons.injEq, and_true, true_and, and_assoc, exists_const, L2.start, List.map_cons, List.map_nil, List.length_cons, List.length_nil, List.replicate_succ, List.replicate_zero, List.cons_append, List.nil_append, List.append_nil, Nat.reduceAdd, Nat.reduceSub, tFor_eq, tComp_eq, tWhile_eq, tChain, tAug, ipI, rIxS, rSlS, rLower, rIndex, rPop, rCat, tBM0, gSub, rSetL, tSl, tPart, tNoPart, rSlL, tCall, tLst, tTup, iRng1, iRng2, iRng3, iList, iEnum, gTup, gCons, gNil, rIxL, rIxT, tYes, tAndV, tOrV, tNotV, tIf, tTest, exists_eq', List.ne_cons_self, reduceCtorEq, if_true, if_false, and_false, false_and, spMakes, tFld, sFld, sDPut, tDNewT, tDNewK, tDSetd]
  refine ⟨ms, xs, sG _ _ ga', DeepTs.same sG _ _ hD, by omega, fun m hm => ⟨by have := (hfl m hm).1; omega, fun y hy => ((hfl m hm).2 y hy).1⟩, ?_⟩
  cases hw : mw (-1) 0 ms with
  | some bk =>
    rw [hw] at q
    obtain ⟨b, k⟩ := bk
    cases b with
    | true => exact fun e dx H' z1 z2 z3 z4 => q e dx H' (sG.trans z1) (sG.free z2) z3 z4
    | false => exact fun e dx H' z1 z2 z3 z4 => q e dx H' (sG.trans z1) (sG.free z2) z3 z4
  | none =>
    rw [hw] at q
    intro H1 s1
    have sG1 := sG.trans s1
    have ha1 := sG1 _ _ ga'
    have hx1 := s1 _ _ hx
    have hD1 := DeepTs.same sG1 _ _ hD
    have hxl : xs.length = ms.length := by have := hD.length; rwa [List.length_map] at this
    refine ⟨⟨xs, SqL.of ha1⟩, compW_list xs (invOwn ms H1) ⟨none, none, rfl, rfl, rfl⟩ ?_ ?_ ?_⟩
    · rintro i ys σ L hi ⟨v0, v1, rfl, rfl, hy⟩
      exact ⟨SqL.of ha1, Nat.le_of_lt (small1000 (by omega))⟩
    · rintro i y ys σ L hy ⟨v0, v1, rfl, rfl, hl'⟩
      obtain ⟨dv, h1, h2⟩ := hD1.get hy
      rw [List.getElem?_map] at h1
      obtain ⟨m, hm, rfl⟩ := Option.map_eq_some_iff.mp h1
      obtain ⟨b, c, zs, rfl, hb, hc, hz⟩ := dvM_at h2
      simp only [tIfS, tAnd, tOr, tNot, tB, tVar, tTest, tOp, tC, tUn, tCB, tCons, tNil, rI0, rI, rU, rNe, rEq, scal, rAppend, tBM, tDrop, tSeq, tAsg, gName, tRet, tNext, List.set_cons_zero, List.set_cons_succ, List.getElem?_cons_zero, List.getElem?_cons_succ, Option.some.injEq, V.int.injEq, V.bl.injEq, V.ref.injEq, V.str.injEq, exists_eq_left', exists_eq_left, exists_and_left, List.cons.injEq, and_true, true_and, and_assoc, exists_const, L2.start, List.map_cons, List.map_nil, List.length_cons, List.length_nil, List.replicate_succ, List.replicate_zero, List.cons_append, List.nil_append, List.append_nil, Nat.reduceAdd, Nat.reduceSub, tFor_eq, tComp_eq, tWhile_eq, tChain, tAug, ipI, rIxS, rSlS, rLower, rIndex, rPop, rCat, tBM0, gSub, rSetL, tSl, tPart, tNoPart, rSlL, tCall, tLst, tTup, iRng1, iRng2, iRng3, iList, iEnum, gTup, gCons, gNil, rIxL, rIxT, tYes, tAndV, tOrV, tNotV, tIf, tTest, exists_eq', List.ne_cons_self, reduceCtorEq, if_true, if_false, and_false, false_and]
      refine ⟨_, SqT.of hb, rfl, ?_⟩
      simp only [tIfS, tAnd, tOr, tNot, tB, tVar, tTest, tOp, tC, tUn, tCB, tCons, tNil, rI0, rI, rU, rNe, rEq, scal, rAppend, tBM, tDrop, tSeq, tAsg, gName, tRet, tNext, List.set_cons_zero, List.set_cons_succ, List.getElem?_cons_zero, List.getElem?_cons_succ, Option.some.injEq, V.int.injEq, V.bl.injEq, V.ref.injEq, V.str.injEq, exists_eq_left', exists_eq_left, exists_and_left, List.cons.injEq, and_true, true_and, and_assoc, exists_const, L2.start, List.map_cons, List.map_nil, List.length_cons, List.length_nil, List.replicate_succ, List.replicate_zero, List.cons_append, List.nil_append, List.append_nil, Nat.reduceAdd, Nat.reduceSub, tFor_eq, tComp_eq, tWhile_eq, tChain, tAug, ipI, rIxS, rSlS, rLower, rIndex, rPop, rCat, tBM0, gSub, rSetL, tSl, tPart, tNoPart, rSlL, tCall, tLst, tTup, iRng1, iRng2, iRng3, iList, iEnum, gTup, gCons, gNil, rIxL, rIxT, tYes, tAndV, tOrV, tNotV, tIf, tTest, exists_eq', List.ne_cons_self, reduceCtorEq, if_true, if_false, and_false, false_and]
      exact ⟨_, _, rfl, rfl, by rw [List.length_append, hl']; rfl⟩
    · rintro ys σ L ⟨v0, v1, rfl, rfl, hl'⟩ om hom
      have hx2 := upd_at (o := .lst ys) hx1 hom
      refine ⟨C, dx, [], hx2, cl, n1, by decide, fun B hB => ?_⟩
      have s3 : Same G (upd (upd L om (.lst ys)) x (.ins C dx (putF "own_makes" (.ref om) []))) := (sG1.trans (same_new hom _)).newer gx _
      have gB : G B = none := s3.free hB
      have s4 := s3.trans (same_new hB (.dK []))
      have hx3 : (upd (upd (upd L om (.lst ys)) x (.ins C dx (putF "own_makes" (.ref om) []))) B (.dK [])) x = _ := upd_at upd_same hB
      have nB : B ≠ x := fun z => by rw [z, upd_same] at hB; cases hB
      refine ⟨C, dx, _, hx3, cl, n2, (by show 1 < 1000; decide), fun N hN => ?_⟩
      have s5 := s4.newer gx (.ins C dx (putF "by_field" (.ref B) (putF "own_makes" (.ref om) [])))
      have gN : G N = none := s5.free hN
      have s6 := s5.trans (same_new hN (.dT []))
      have nN : N ≠ x := fun z => by rw [z, upd_same] at hN; cases hN
      have hB5 : (upd (upd (upd (upd L om (.lst ys)) x (.ins C dx (putF "own_makes" (.ref om) []))) B (.dK [])) x (.ins C dx (putF "by_field" (.ref B) (putF "own_makes" (.ref om) [])))) B = some (.dK []) := by rw [upd_ne nB]; exact upd_same
      have nBN : B ≠ N := fun z => by rw [← z, hB5] at hN; cases hN
      refine ⟨C, dx, _, upd_at upd_same hN, cl, n3, (by show 2 < 1000; decide), ?_⟩
      have p0 : PInv G x B N C dx (putF "lengths" (.ref N) (putF "by_field" (.ref B) (putF "own_makes" (.ref om) []))) 0 (upd (upd (upd (upd (upd (upd L om (.lst ys)) x (.ins C dx (putF "own_makes" (.ref om) []))) B (.dK [])) x (.ins C dx (putF "by_field" (.ref B) (putF "own_makes" (.ref om) [])))) N (.dT [])) x (.ins C dx (putF "lengths" (.ref N) (putF "by_field" (.ref B) (putF "own_makes" (.ref om) []))))) :=
        ⟨s6.newer gx _, upd_same, ⟨[], by rw [upd_ne nB]; exact upd_at hB5 hN, Nat.zero_le _, fun p hp => (by cases hp)⟩, [], by rw [upd_ne nN]; exact upd_same, Nat.zero_le _⟩
      have lB : (putF "lengths" (.ref N) (putF "by_field" (.ref B) (putF "own_makes" (.ref om) []))).lookup ("by_field" : Str) = some (V.ref B) := rfl
      have lN : (putF "lengths" (.ref N) (putF "by_field" (.ref B) (putF "own_makes" (.ref om) []))).lookup ("lengths" : Str) = some (V.ref N) := rfl
      generalize putF "lengths" (.ref N) (putF "by_field" (.ref B) (putF "own_makes" (.ref om) [])) = fs at p0 lB lN ⊢
      generalize upd (upd (upd (upd (upd (upd L om (.lst ys)) x (.ins C dx (putF "own_makes" (.ref om) []))) B (.dK [])) x (.ins C dx (putF "by_field" (.ref B) (putF "own_makes" (.ref om) [])))) N (.dT [])) x (.ins C dx fs) = M0 at p0 ⊢
      refine ⟨⟨xs, SqL.of (p0.1 _ _ ga')⟩, forW_list xs (invO G x B N C dx a fs) ⟨_, _, _, _, _, rfl, p0⟩ ?_ ?_ ?_⟩
      · rintro i σ L hi ⟨v2, v3, v4, v5, v6, rfl, pi⟩
        exact SqL.of (pi.1 _ _ ga')
      · rintro i y σ L hy ⟨v2, v3, v4, v5, v6, rfl, pi⟩
        obtain ⟨dv, h1, h2⟩ := hD.get hy
        rw [List.getElem?_map] at h1
        obtain ⟨m, hm, rfl⟩ := Option.map_eq_some_iff.mp h1
        obtain ⟨b, c, zs, rfl, hb, hc, hz⟩ := dvM_at h2
        have hmm : m ∈ ms := List.mem_of_getElem? hm
        have hil : i < ms.length := (List.getElem?_eq_some_iff.mp hm).1
        simp only [tIfS, tAnd, tOr, tNot, tB, tVar, tTest, tOp, tC, tUn, tCB, tCons, tNil, rI0, rI, rU, rNe, rEq, scal, rAppend, tBM, tDrop, tSeq, tAsg, gName, tRet, tNext, List.set_cons_zero, List.set_cons_succ, List.getElem?_cons_zero, List.getElem?_cons_succ, Option.some.injEq, V.int.injEq, V.bl.injEq, V.ref.injEq, V.str.injEq, exists_eq_left', exists_eq_left, exists_and_left, List.cons.injEq, and_true, true_and, and_assoc, exists_const, L2.start, List.map_cons, List.map_nil, List.length_cons, List.length_nil, List.replicate_succ, List.replicate_zero, List.cons_append, List.nil_append, List.append_nil, Nat.reduceAdd, Nat.reduceSub, tFor_eq, tComp_eq, tWhile_eq, tChain, tAug, ipI, rIxS, rSlS, rLower, rIndex, rPop, rCat, tBM0, gSub, rSetL, tSl, tPart, tNoPart, rSlL, tCall, tLst, tTup, iRng1, iRng2, iRng3, iList, iEnum, gTup, gCons, gNil, rIxL, rIxT, tYes, tAndV, tOrV, tNotV, tIf, tTest, exists_eq', List.ne_cons_self, reduceCtorEq, if_true, if_false, and_false, false_and, spBare]
        refine ⟨_, SqT.of (pi.1 _ _ hb), rfl, ?_⟩
        simp only [tIfS, tAnd, tOr, tNot, tB, tVar, tTest, tOp, tC, tUn, tCB, tCons, tNil, rI0, rI, rU, rNe, rEq, scal, rAppend, tBM, tDrop, tSeq, tAsg, gName, tRet, tNext, List.set_cons_zero, List.set_cons_succ, List.getElem?_cons_zero, List.getElem?_cons_succ, Option.some.injEq, V.int.injEq, V.bl.injEq, V.ref.injEq, V.str.injEq, exists_eq_left', exists_eq_left, exists_and_left, List.cons.injEq, and_true, true_and, and_assoc, exists_const, L2.start, List.map_cons, List.map_nil, List.length_cons, List.length_nil, List.replicate_succ, List.replicate_zero, List.cons_append, List.nil_append, List.append_nil, Nat.reduceAdd, Nat.reduceSub, tFor_eq, tComp_eq, tWhile_eq, tChain, tAug, ipI, rIxS, rSlS, rLower, rIndex, rPop, rCat, tBM0, gSub, rSetL, tSl, tPart, tNoPart, rSlL, tCall, tLst, tTup, iRng1, iRng2, iRng3, iList, iEnum, gTup, gCons, gNil, rIxL, rIxT, tYes, tAndV, tOrV, tNotV, tIf, tTest, exists_eq', List.ne_cons_self, reduceCtorEq, if_true, if_false, and_false, false_and, spBare]
        refine ⟨⟨zs, SqL.of (pi.1 _ _ hc)⟩, forW_list zs (invI G x B N C dx a fs m.1 (.ref c) i) ⟨_, _, _, rfl, pi⟩ ?_ ?_ ?_⟩
        · rintro j σ L hj ⟨v4, v5, v6, rfl, pj⟩
          exact SqL.of (pj.1 _ _ hc)
        · rintro j y σ L hyj ⟨v4, v5, v6, rfl, pj⟩
          obtain ⟨dv, h1, h2⟩ := hz.get hyj
          rw [List.getElem?_map] at h1
          obtain ⟨fl, hfj, rfl⟩ := Option.map_eq_some_iff.mp h1
          obtain ⟨t, rfl, ht⟩ := dvF_at h2
          have hfm : fl ∈ m.2 := List.mem_of_getElem? hfj
          have hjl : j < m.2.length := (List.getElem?_eq_some_iff.mp hfj).1
          obtain ⟨b1, b2, b3⟩ := (hfl m hmm).2 fl hfm
          simp only [tIfS, tAnd, tOr, tNot, tB, tVar, tTest, tOp, tC, tUn, tCB, tCons, tNil, rI0, rI, rU, rNe, rEq, scal, rAppend, tBM, tDrop, tSeq, tAsg, gName, tRet, tNext, List.set_cons_zero, List.set_cons_succ, List.getElem?_cons_zero, List.getElem?_cons_succ, Option.some.injEq, V.int.injEq, V.bl.injEq, V.ref.injEq, V.str.injEq, exists_eq_left', exists_eq_left, exists_and_left, List.cons.injEq, and_true, true_and, and_assoc, exists_const, L2.start, List.map_cons, List.map_nil, List.length_cons, List.length_nil, List.replicate_succ, List.replicate_zero, List.cons_append, List.nil_append, List.append_nil, Nat.reduceAdd, Nat.reduceSub, tFor_eq, tComp_eq, tWhile_eq, tChain, tAug, ipI, rIxS, rSlS, rLower, rIndex, rPop, rCat, tBM0, gSub, rSetL, tSl, tPart, tNoPart, rSlL, tCall, tLst, tTup, iRng1, iRng2, iRng3, iList, iEnum, gTup, gCons, gNil, rIxL, rIxT, tYes, tAndV, tOrV, tNotV, tIf, tTest, exists_eq', List.ne_cons_self, reduceCtorEq, if_true, if_false, and_false, false_and, spBare]
          refine ⟨_, SqT.of (pj.1 _ _ ht), rfl, ?_⟩
          simp only [tIfS, tAnd, tOr, tNot, tB, tVar, tTest, tOp, tC, tUn, tCB, tCons, tNil, rI0, rI, rU, rNe, rEq, scal, rAppend, tBM, tDrop, tSeq, tAsg, gName, tRet, tNext, List.set_cons_zero, List.set_cons_succ, List.getElem?_cons_zero, List.getElem?_cons_succ, Option.some.injEq, V.int.injEq, V.bl.injEq, V.ref.injEq, V.str.injEq, exists_eq_left', exists_eq_left, exists_and_left, List.cons.injEq, and_true, true_and, and_assoc, exists_const, L2.start, List.map_cons, List.map_nil, List.length_cons, List.length_nil, List.replicate_succ, List.replicate_zero, List.cons_append, List.nil_append, List.append_nil, Nat.reduceAdd, Nat.reduceSub, tFor_eq, tComp_eq, tWhile_eq, tChain, tAug, ipI, rIxS, rSlS, rLower, rIndex, rPop, rCat, tBM0, gSub, rSetL, tSl, tPart, tNoPart, rSlL, tCall, tLst, tTup, iRng1, iRng2, iRng3, iList, iEnum, gTup, gCons, gNil, rIxL, rIxT, tYes, tAndV, tOrV, tNotV, tIf, tTest, exists_eq', List.ne_cons_self, reduceCtorEq, if_true, if_false, and_false, false_and, spBare]
          refine ⟨by omega, b3, fun r ws0 H' s' hr' hH' hwl => ?_⟩
          generalize hus : ws0.map V.str = ws at hH'
          have pj' := pj.same s'
          have hm20 := (hfl m hmm).1
          refine ⟨!ws.isEmpty, .inl ⟨ws, SqL.of hH', rfl⟩, ?_⟩
          cases hwe : (!ws.isEmpty) with
          | false => exact ⟨_, _, _, rfl, pj'.mono (by omega)⟩
          | true =>
            rw [if_pos rfl]
            simp only [tIfS, tAnd, tOr, tNot, tB, tVar, tTest, tOp, tC, tUn, tCB, tCons, tNil, rI0, rI, rU, rNe, rEq, scal, rAppend, tBM, tDrop, tSeq, tAsg, gName, tRet, tNext, List.set_cons_zero, List.set_cons_succ, List.getElem?_cons_zero, List.getElem?_cons_succ, Option.some.injEq, V.int.injEq, V.bl.injEq, V.ref.injEq, V.str.injEq, exists_eq_left', exists_eq_left, exists_and_left, List.cons.injEq, and_true, true_and, and_assoc, exists_const, L2.start, List.map_cons, List.map_nil, List.length_cons, List.length_nil, List.replicate_succ, List.replicate_zero, List.cons_append, List.nil_append, List.append_nil, Nat.reduceAdd, Nat.reduceSub, tFor_eq, tComp_eq, tWhile_eq, tChain, tAug, ipI, rIxS, rSlS, rLower, rIndex, rPop, rCat, tBM0, gSub, rSetL, tSl, tPart, tNoPart, rSlL, tCall, tLst, tTup, iRng1, iRng2, iRng3, iList, iEnum, gTup, gCons, gNil, rIxL, rIxT, tYes, tAndV, tOrV, tNotV, tIf, tTest, exists_eq', List.ne_cons_self, reduceCtorEq, if_true, if_false, and_false, false_and, sDPut, tFld, tDSetd, tDNewK, spAdd]
            have szl := sizeLine_eq
            obtain ⟨sG2, hx2, ⟨kvs, hB2, hkl, hkc⟩, ts, hN2, htl⟩ := pj'
            refine ⟨ws, .inl (SqL.of hH'), C, dx, fs, hx2, cl, n3, .ref N, lN, by decide, fun T hT => ?_⟩
            have hN3 := upd_at (o := .tup [.int m.1, .str fl.1]) hN2 hT
            have hx3 := upd_at (o := .tup [.int m.1, .str fl.1]) hx2 hT
            have hB3 := upd_at (o := .tup [.int m.1, .str fl.1]) hB2 hT
            have sT := same_new hT (.tup [.int m.1, .str fl.1])
            have nxN : x ≠ N := ne_of hx2 hN2 (by intro z; cases z)
            have hpt := length_putK ts [.inl m.1, .inr fl.1] (V.int ws.length)
            refine ⟨N, rfl, _, DPut.t (k := [.inl m.1, .inr fl.1]) hN3 upd_same (by omega), ?_⟩
            have sM : Same G (upd (upd H' T (.tup [.int m.1, .str fl.1])) N (.dT (putK ts [.inl m.1, .inr fl.1] (V.int ws.length)))) := (sG2.trans sT).newer gN _
            have sS : SameS H' (upd (upd H' T (.tup [.int m.1, .str fl.1])) N (.dT (putK ts [.inl m.1, .inr fl.1] (V.int ws.length)))) := sT.seqs.trans (SameS.upd ⟨fun _ z => (by rw [hN3] at z; cases z), fun _ z => (by rw [hN3] at z; cases z)⟩)
            have hxM : (upd (upd H' T (.tup [.int m.1, .str fl.1])) N (.dT (putK ts [.inl m.1, .inr fl.1] (V.int ws.length)))) x = some (.ins C dx fs) := by rw [upd_ne nxN]; exact hx3
            have hBM : (upd (upd H' T (.tup [.int m.1, .str fl.1])) N (.dT (putK ts [.inl m.1, .inr fl.1] (V.int ws.length)))) B = some (.dK kvs) := by rw [upd_ne nBN]; exact hB3
            have hNM : (upd (upd H' T (.tup [.int m.1, .str fl.1])) N (.dT (putK ts [.inl m.1, .inr fl.1] (V.int ws.length)))) N = some (.dT (putK ts [.inl m.1, .inr fl.1] (V.int ws.length))) := upd_same
            have hrM := sS.1 _ _ hH'
            have hkM : ∀ p ∈ kvs, ∃ c ks, p.2 = .ref c ∧ c ≠ B ∧ G c = none ∧ (upd (upd H' T (.tup [.int m.1, .str fl.1])) N (.dT (putK ts [.inl m.1, .inr fl.1] (V.int ws.length)))) c = some (.dK ks) ∧ ks.length ≤ (20 * i + j) * 1000 ∧ ValsG G ((20 * i + j) * 1000) (upd (upd H' T (.tup [.int m.1, .str fl.1])) N (.dT (putK ts [.inl m.1, .inr fl.1] (V.int ws.length)))) ks := fun p hp => by
              obtain ⟨c, ks, e1, e2, e3, e4, e5, e6⟩ := hkc p hp
              refine ⟨c, ks, e1, e2, e3, ?_, e5, fun z hz => ?_⟩
              · rw [upd_ne (ne_of e4 hN2 (by intro z; cases z))]
                exact upd_at e4 hT
              · obtain ⟨d, zs, z1, z2, z3, z4⟩ := e6 z hz
                exact ⟨d, zs, z1, z2, sS.1 _ _ z3, z4⟩
            generalize upd (upd H' T (.tup [.int m.1, .str fl.1])) N (.dT (putK ts [.inl m.1, .inr fl.1] (V.int ws.length))) = M at sM hxM hBM hNM hrM hkM ⊢
            generalize putK ts [.inl m.1, .inr fl.1] (V.int ws.length) = ts' at hpt hNM
            have hij : 20 * i + j ≤ 400 := by omega
            refine ⟨C, dx, fs, hxM, cl, n2, .ref B, lB, B, rfl, .inl ⟨kvs, .inl hBM⟩, fun p hp => ?_⟩
            have sp := same_new hp (.dK [])
            have gp : G p = none := sM.free hp
            have nBp : B ≠ p := ne_of_none hBM hp
            refine ⟨kvs, sp _ _ hBM, .inr fl.1, rfl, by omega, fun v hv => ?_, fun hvn => ?_⟩
            · obtain ⟨pr, hpm, rfl⟩ := valV_mem hv
              obtain ⟨c', ks, e1, e2, e3, e4, e5, e6⟩ := hkM pr hpm
              refine ⟨G, c', e1, sM.trans sp, e3, ks, sp _ _ e4, (20 * i + j) * 1000, e6.same sp, e5, by omega, ws0, by rw [hus]; exact sp _ _ hrM, hwl, fun ks' L' y1 y2 y3 y4 y5 => ?_⟩
              exact ⟨_, _, _, rfl, PInv.add (n := 20 * i + j) (sp _ _ hxM) (sp _ _ hBM) (by omega) (fun p hp => by obtain ⟨c, ks, z1, z2, z3, z4, z5, z6⟩ := hkM p hp; exact ⟨c, ks, z1, z2, z3, sp _ _ z4, z5, z6.same sp⟩) (sp _ _ hNM) (by omega) (sp _ _ e4) e2 y1 y2 y3 y4 y5⟩
            · have el := putK_new (V.ref p) hvn
              have hpU : (upd (upd M p (.dK [])) B (.dK (putK kvs (.inr fl.1) (.ref p)))) p = some (.dK []) := by rw [upd_ne nBp.symm]; exact upd_same
              have hxU : (upd (upd M p (.dK [])) B (.dK (putK kvs (.inr fl.1) (.ref p)))) x = some (.ins C dx fs) := by rw [upd_ne (ne_of hxM hBM (by intro z; cases z))]; exact sp _ _ hxM
              have hNU : (upd (upd M p (.dK [])) B (.dK (putK kvs (.inr fl.1) (.ref p)))) N = some (.dT ts') := by rw [upd_ne nBN.symm]; exact sp _ _ hNM
              have hBs := sp _ _ hBM
              have sU : SameS M (upd (upd M p (.dK [])) B (.dK (putK kvs (.inr fl.1) (.ref p)))) := sp.seqs.trans (SameS.upd ⟨fun _ z => (by rw [hBs] at z; cases z), fun _ z => (by rw [hBs] at z; cases z)⟩)
              refine ⟨G, (sM.trans sp).newer gB _, gp, [], hpU, (20 * i + j) * 1000, fun _ hz => (by cases hz), Nat.zero_le _, by omega, ws0, by rw [hus]; exact sU.1 _ _ hrM, hwl, fun ks' L' y1 y2 y3 y4 y5 => ?_⟩
              refine ⟨_, _, _, rfl, PInv.add (n := 20 * i + j) hxU upd_same (by rw [el, List.length_append, List.length_singleton]; omega) (fun pr hpr => ?_) hNU (by omega) hpU nBp.symm y1 y2 y3 y4 y5⟩
              rw [el] at hpr
              rcases List.mem_append.mp hpr with hpr | hpr
              · obtain ⟨c, ks, z1, z2, z3, z4, z5, z6⟩ := hkM pr hpr
                refine ⟨c, ks, z1, z2, z3, by rw [upd_ne z2]; exact sp _ _ z4, z5, fun y hy => ?_⟩
                obtain ⟨d, zs, x1, x2, x3, x4⟩ := z6 y hy
                exact ⟨d, zs, x1, x2, sU.1 _ _ x3, x4⟩
              · rw [List.mem_singleton] at hpr
                subst hpr
                exact ⟨p, [], rfl, nBp.symm, gp, hpU, Nat.zero_le _, fun _ hz => (by cases hz)⟩
        · rintro σ L ⟨v4, v5, v6, rfl, pj⟩
          have hzl : zs.length = m.2.length := by have := hz.length; rwa [List.length_map] at this
          have := (hfl m hmm).1
          exact ⟨_, _, _, _, _, rfl, pj.mono (by omega)⟩
      · rintro σ L ⟨v2, v3, v4, v5, v6, rfl, pi⟩
        exact q L pi.1
end
end K7

namespace K7
open PySem L2 KW
def spCell (K : PySem.W.Frag) : Sp := fun vs H Q _ => ∃ (a : Addr) (ns : List Int) (k : Int), vs = [.ref a, .int k] ∧ SqL K H a (ns.map V.int) ∧ 0 ≤ k ∧ ∀ z, Q (.int z) H
def spDraws : Sp := fun vs H Q _ => ∃ (c m b : Int) (fr : Bool), vs = [.int c, .int m, .int b, .bl fr] ∧ 0 ≤ m ∧ m ≤ 60 ∧ 0 < b ∧ b ≤ 1000 ∧
  ∀ (r : Addr) (ns : List Int) (H' : Hp), Same H H' → H r = none → H' r = some (.lst (ns.map V.int)) → (ns.length : Int) = m → (∀ z ∈ ns, 0 ≤ z ∧ z < b) → Q (.ref r) H'
section
variable {P : Program} {w : World} {K : PySem.W.Frag} {mg : Str → Option Value} {base : Heap} {f : Addr} {fd : FuncData}
/-! ### cell_at -/
theorem scC : FnScope ["_law_script", "_law_k"] ["_law_script", "_law_k"] (defScope sCell) := ⟨rfl, rfl, rfl, by decide +kernel, rfl, by decide +kernel, by decide +kernel⟩
theorem ok_cell (F : Fun K "_law_cell_at" "_law_cell_at" sCell f fd) (T : Txt mg) : FnOk P w K mg base CX0 1 f fd ["_law_script", "_law_k"] (spCell K) := by
  refine F.ok scC (fun vs H Q E h => ?_) (fun cdv A outer s H vs Q E hr h => ?_)
  · obtain ⟨a, ns, k, rfl, _⟩ := h
    rfl
  obtain ⟨a, ns, k, rfl, hS, h0, q⟩ := h
  refine ⟨_, pss_cons (ps_if (pt_cmpR op_lt (pv 1) (pe_callB call_len_seq rfl T.len PySem.boot_len (pa_cons (pv 0) pa_nil)) (nomark _)) (pss_one (ps_ret (pe_ix (ixL K) (pv 0) (pv 1) (fun _ _ => rfl)))) pss_nil)
    (pss_one (ps_ret pe_int)), ?_⟩
  refine ⟨_, rfl, _, rfl, a, _, rfl, .inl hS, _, _, rfl, rfl, _, rfl, ?_⟩
  refine ite2 (fun c => ?_) (fun c => ?_)
  · have c' : k < (((ns.map V.int).length : Nat) : Int) := of_decide_eq_true c
    obtain ⟨v, hv, hv'⟩ := atI_of h0 c'
    obtain ⟨z, rfl⟩ : ∃ z, v = V.int z := by
      rw [List.getElem?_map] at hv'
      cases e : ns[k.toNat]? with
      | none => rw [e] at hv'; cases hv'
      | some z => rw [e] at hv'; exact ⟨z, (Option.some.inj hv').symm⟩
    exact ⟨_, rfl, _, rfl, a, _, _, _, rfl, rfl, hS, hv, q z⟩
  · exact q 0
/-! ### draws -/
def invD (H : Hp) (l : Addr) (c m b : Int) (fr : Bool) (i : Nat) (σ : St) (H2 : Hp) : Prop := ∃ (ns : List Int) (rest : Int) (v6 v7 : Option V), σ = [some (.int c), some (.int m), some (.int b), some (.bl fr), some (.ref l), some (.int rest), v6, v7] ∧
  Same H H2 ∧ H2 l = some (.lst (ns.map V.int)) ∧ ns.length = i ∧ ∀ z ∈ ns, 0 ≤ z ∧ z < b
theorem cmul_mod7 {a b j : Int} (h : 0 < j) (h' : j < 2 ^ 63) : CMul (a % j) b := by
  have h1 := Int.emod_nonneg a (show j ≠ 0 by omega)
  have h2 := Int.emod_lt_of_pos a h
  exact .inl ⟨by omega, by omega⟩
theorem scD : FnScope ["_law_cell", "_law_many", "_law_base", "_law_free", "_law_found", "_law_rest", "_law_k", "_law_number"] ["_law_cell", "_law_many", "_law_base", "_law_free"] (defScope sDraws) := ⟨rfl, rfl, rfl, by decide +kernel, rfl, by decide +kernel, by decide +kernel⟩
theorem ok_draws (F : Fun K "_law_draws" "_law_draws" sDraws f fd) (T : Txt mg) : FnOk P w K mg base CX0 1 f fd ["_law_cell", "_law_many", "_law_base", "_law_free"] spDraws := by
  refine F.ok scD (fun vs H Q E h => ?_) (fun cdv A outer s H vs Q E hr h => ?_)
  · obtain ⟨c, m, b, fr, rfl, _⟩ := h
    rfl
  obtain ⟨c, m, b, fr, rfl, m0, m1, b0, b1, q⟩ := h
  refine ⟨_, pss_cons (ps_set (i := 4) scD.nd rfl (Or.inl rfl) (pe_lst pa_nil))
    (pss_cons (ps_set (i := 5) scD.nd rfl (Or.inl rfl) (pv 0))
    (pss_cons (ps_for PassesOwn.never rfl (pi_range1 rfl T.range (pa_cons (pv 1) pa_nil)) (pg_name (i := 6) scD.nd rfl (Or.inl rfl))
      (pss_one (ps_if (PW.pt (pw_and (pt_val (pv 3)) (pw_and (pt_cmpR op_ge (pe_callB call_abs rfl T.abs PyProof.Rows.boot_abs (pa_cons (pv 0) pa_nil)) (pe_op op_pow pe_int pe_int) (nomark _)) (pw_and (pt_cmpR op_ne (pv 5) pe_int (nomark _)) (pw_and1 (pt_cmpR op_ne (pv 5) (pe_un un_neg pe_int) (nomark _)))))))
        (pss_cons (ps_expr (bmK K PySem.F.plainAttrs_list PySem.F.slot_list_append PySem.F.type_list_append mt_append (pv 4) (pa_cons (pe_op op_mod (pv 5) (pv 2)) pa_nil)))
          (pss_one (ps_set (i := 5) scD.nd rfl (Or.inl rfl) (pe_op op_fdiv (pv 5) (pv 2)))))
        (pss_cons (ps_set (i := 7) scD.nd rfl (Or.inl rfl) (pe_op op_mod (pe_op op_add (pv 0) (pe_op op_mul pe_int (pv 6))) pe_int))
          (pss_cons (ps_set (i := 7) scD.nd rfl (Or.inl rfl) (pe_op op_mod (pe_op op_add (pe_op op_mul (pv 7) (pv 7)) (pv 6)) pe_int))
          (pss_one (ps_expr (bmK K PySem.F.plainAttrs_list PySem.F.slot_list_append PySem.F.type_list_append mt_append (pv 4) (pa_cons (pe_op op_mod (pe_op op_mod (pe_op op_mul (pv 7) (pv 7)) pe_int) (pv 2)) pa_nil)))))))))
    (pss_one (ps_ret (pv 4))))), ?_⟩
  simp only [tIfS, tAnd, tOr, tNot, tB, tVar, tTest, tOp, tC, tUn, tCB, tCons, tNil, rI0, rI, rU, rNe, rEq, scal, rAppend, tBM, tDrop, tSeq, tAsg, gName, tRet, tNext, List.set_cons_zero, List.set_cons_succ, List.getElem?_cons_zero, List.getElem?_cons_succ, Option.some.injEq, V.int.injEq, V.bl.injEq, V.ref.injEq, V.str.injEq, exists_eq_left', exists_eq_left, exists_and_left, List.cons.injEq, and_true, true_and, and_assoc, exists_const, L2.start, List.map_cons, List.map_nil, List.length_cons, List.length_nil, List.replicate_succ, List.replicate_zero, List.cons_append, List.nil_append, List.append_nil, Nat.reduceAdd, Nat.reduceSub, tFor_eq, tComp_eq, tWhile_eq, tChain, tAug, ipI, rIxS, rSlS, rLower, rIndex, rPop, rCat, tBM0, gSub, rSetL, tSl, tPart, tNoPart, rSlL, tCall, tLst, tTup, iRng1, iRng2, iRng3, iList, iEnum, gTup, gCons, gNil, rIxL, rIxT, tYes, tAndV, tOrV, tNotV, tIf, tTest, exists_eq', List.ne_cons_self, reduceCtorEq, if_true, if_false, and_false, false_and]
  refine ⟨by decide, fun l hl => ⟨by omega, by omega, ?_⟩⟩
  refine forW_range (lo := 0) (n := m.toNat) (invD H l c m b fr) ⟨[], c, none, none, rfl, same_new hl _, upd_same, rfl, by simp⟩ ?_ ?_
  · rintro i σ H2 hi ⟨ns, rest, v6, v7, rfl, s2, hL, hn, hb⟩
    have hsz : (ns.map V.int).length < sizeLine := by rw [List.length_map]; exact small1000 (by omega)
    have fin : ∀ (z rest : Int) (v6 v7 : Option V), 0 ≤ z → z < b → invD H l c m b fr (i + 1) [some (.int c), some (.int m), some (.int b), some (.bl fr), some (.ref l), some (.int rest), v6, v7] (upd H2 l (.lst (ns.map V.int ++ [.int z]))) := fun z rest v6 v7 z0 z1 =>
      ⟨ns ++ [z], rest, v6, v7, rfl, s2.newer hl _, by rw [upd_same, List.map_append]; rfl, by rw [List.length_append, hn]; rfl, fun y hy => by
        rcases List.mem_append.mp hy with e | e
        · exact hb y e
        · rw [List.mem_singleton] at e; subst e; exact ⟨z0, z1⟩⟩
    simp only [tIfS, tAnd, tOr, tNot, tB, tVar, tTest, tOp, tC, tUn, tCB, tCons, tNil, rI0, rI, rU, rNe, rEq, scal, rAppend, tBM, tDrop, tSeq, tAsg, gName, tRet, tNext, List.set_cons_zero, List.set_cons_succ, List.getElem?_cons_zero, List.getElem?_cons_succ, Option.some.injEq, V.int.injEq, V.bl.injEq, V.ref.injEq, V.str.injEq, exists_eq_left', exists_eq_left, exists_and_left, List.cons.injEq, and_true, true_and, and_assoc, exists_const, L2.start, List.map_cons, List.map_nil, List.length_cons, List.length_nil, List.replicate_succ, List.replicate_zero, List.cons_append, List.nil_append, List.append_nil, Nat.reduceAdd, Nat.reduceSub, tFor_eq, tComp_eq, tWhile_eq, tChain, tAug, ipI, rIxS, rSlS, rLower, rIndex, rPop, rCat, tBM0, gSub, rSetL, tSl, tPart, tNoPart, rSlL, tCall, tLst, tTup, iRng1, iRng2, iRng3, iList, iEnum, gTup, gCons, gNil, rIxL, rIxT, tYes, tAndV, tOrV, tNotV, tIf, tTest, exists_eq', List.ne_cons_self, reduceCtorEq, if_true, if_false, and_false, false_and]
    have ty : tyV K "list" (.ref l) H2 := .inl ⟨rfl, _, SqL.of hL⟩
    refine ite2 (fun _ => ⟨⟨by decide, by decide, by decide⟩, ite2 (fun _ => ite2 (fun _ => ite2 (fun _ => ?d) (fun _ => ?_)) (fun _ => ?_)) (fun _ => ?_)⟩) (fun _ => ?_)
    case d => exact ⟨ty, b0, _, hL, hsz, ⟨b0, by omega⟩, fin _ _ _ _ (Int.emod_nonneg _ (by omega)) (Int.emod_lt_of_pos _ b0)⟩
    all_goals exact ⟨.inl ⟨by decide, by decide⟩, by decide, cmul_mod7 (by decide) (by decide), by decide, ty, cmul_mod7 (by decide) (by decide), by decide, b0, _, hL, hsz, fin _ _ _ _ (Int.emod_nonneg _ (by omega)) (Int.emod_lt_of_pos _ b0)⟩
  · rintro σ H2 ⟨ns, rest, v6, v7, rfl, s2, hL, hn, hb⟩
    simp only [tIfS, tAnd, tOr, tNot, tB, tVar, tTest, tOp, tC, tUn, tCB, tCons, tNil, rI0, rI, rU, rNe, rEq, scal, rAppend, tBM, tDrop, tSeq, tAsg, gName, tRet, tNext, List.set_cons_zero, List.set_cons_succ, List.getElem?_cons_zero, List.getElem?_cons_succ, Option.some.injEq, V.int.injEq, V.bl.injEq, V.ref.injEq, V.str.injEq, exists_eq_left', exists_eq_left, exists_and_left, List.cons.injEq, and_true, true_and, and_assoc, exists_const, L2.start, List.map_cons, List.map_nil, List.length_cons, List.length_nil, List.replicate_succ, List.replicate_zero, List.cons_append, List.nil_append, List.append_nil, Nat.reduceAdd, Nat.reduceSub, tFor_eq, tComp_eq, tWhile_eq, tChain, tAug, ipI, rIxS, rSlS, rLower, rIndex, rPop, rCat, tBM0, gSub, rSetL, tSl, tPart, tNoPart, rSlL, tCall, tLst, tTup, iRng1, iRng2, iRng3, iList, iEnum, gTup, gCons, gNil, rIxL, rIxT, tYes, tAndV, tOrV, tNotV, tIf, tTest, exists_eq', List.ne_cons_self, reduceCtorEq, if_true, if_false, and_false, false_and]
    exact q l ns H2 s2 hl hL (by omega) hb
/-! ### texts -/
theorem cutV_map7 (ns : List Int) (lo hi : Option Int) : cutV (ns.map V.int) lo hi = (cutL ns lo hi).map V.int := by
  unfold cutV cutL
  rw [List.length_map, List.map_take, List.map_drop]
theorem str_app7 (a b : Str) : (a ++ b).cps.toList = a.cps.toList ++ b.cps.toList := by
  show (a.cps ++ b.cps).toList = _
  rw [Array.toList_append]
theorem app_len7 (a b : Str) : (a ++ b).length = a.length + b.length := by
  rw [← slen, str_app7, List.length_append, slen, slen]
theorem asc_app7 {a b : Str} (ha : Asc a) (hb : Asc b) : Asc (a ++ b) := fun c hc => by
  rw [str_app7] at hc
  rcases List.mem_append.mp hc with h | h
  · exact ha c h
  · exact hb c h
theorem join_fits {sep : Str} {B : Nat} (hs : Asc sep) : ∀ l : List Str, (∀ z ∈ l, z.length ≤ B ∧ Asc z) → (Str.join sep l).length ≤ l.length * (B + sep.length) ∧ Asc (Str.join sep l)
  | [], _ => ⟨Nat.zero_le _, fun c hc => (by cases hc)⟩
  | [x], h => by
    obtain ⟨h1, h2⟩ := h x (List.mem_singleton.mpr rfl)
    refine ⟨?_, h2⟩
    show x.length ≤ 1 * (B + sep.length)
    omega
  | x :: y :: r, h => by
    obtain ⟨i1, i2⟩ := join_fits hs (y :: r) fun z hz => h z (List.mem_cons_of_mem _ hz)
    obtain ⟨h1, h2⟩ := h x (List.mem_cons_self ..)
    refine ⟨?_, asc_app7 (asc_app7 h2 hs) i2⟩
    show (x ++ sep ++ Str.join sep (y :: r)).length ≤ ((y :: r).length + 1) * (B + sep.length)
    rw [app_len7, app_len7, Nat.add_mul]
    omega
theorem tjoin_fits {sep : Str} {B : Nat} (hs : Asc sep) (l : List Str) (h : ∀ z ∈ l, z.length ≤ B ∧ Asc z) : (Txt.join sep l).length ≤ l.length * (B + sep.length) ∧ Asc (Txt.join sep l) := by
  have e : Txt.join sep l = Str.join sep l := by
    unfold Txt.join
    rw [StrLaws.glued_eq_join]
  rw [e]
  exact join_fits hs l h
/-- digits picked out of texts -/
def invG (x : V) (H0 : Hp) (B : Nat) (j : Nat) (ys : List V) (σ : St) (L : Hp) : Prop := ∃ (zs : List Str) (v0 : Option V), ys = zs.map V.str ∧ zs.length = j ∧ L = H0 ∧ σ = [v0, some x] ∧ ∀ z ∈ zs, z.length ≤ B ∧ Asc z
def spTxt : Sp := fun vs H Q _ => ∃ c : Int, vs = [.int c] ∧ ∀ (z : Str) (H' : Hp), Same H H' → z.length ≤ 200 → Asc z → Q (.str z) H'
theorem scT : FnScope ["_law_cell", "_law_signs", "_law_digits", "_law_words"] ["_law_cell"] (defScope sText) := ⟨rfl, rfl, rfl, by decide +kernel, rfl, by decide +kernel, by decide +kernel⟩
theorem ok_text {gd : Addr} {dd : FuncData} (F : Fun K "_law_text" "_law_text" sText f fd) (T : Txt mg) (GD : FnOk P w K mg base CX0 1 gd dd ["_law_cell", "_law_many", "_law_base", "_law_free"] spDraws) (bD : Binds K dd ["_law_cell", "_law_many", "_law_base", "_law_free"] []) (kD : PySem.W.keepIn K (.ref gd) = true) (mD : mg "_law_draws" = some (.ref gd)) : FnOk P w K mg base CX0 2 f fd ["_law_cell"] spTxt := by
  refine F.ok scT (fun vs H Q E h => ?_) (fun cdv A outer s H vs Q E hr h => ?_)
  · obtain ⟨c, rfl, _⟩ := h
    rfl
  obtain ⟨c, rfl, q⟩ := h
  refine ⟨_, (pss_cons (ps_if (pt_cmpR op_eq (pe_op op_mod (pv 0) pe_int) pe_int (nomark _)) (pss_cons (ps_set (i := 1) scT.nd rfl (Or.inr rfl) pe_str)
    (pss_cons (ps_set (i := 1) scT.nd rfl (Or.inr rfl) (pe_op op_add_str (pv 1) pe_str))
    (pss_cons (ps_set (i := 2) scT.nd rfl (Or.inl rfl) (pe_call GD hr rfl mD kD bD .nil pass0 (pa_cons (pe_op op_fdiv (pv 0) pe_int) (pa_cons pe_int (pa_cons (pe_callB call_len_str rfl T.len PySem.boot_len (pa_cons (pv 1) pa_nil)) (pa_cons pe_bl pa_nil))))))
    (pss_one (ps_ret (bmK K PySem.F.plainAttrs_str PySem.F.slot_str_join PySem.F.type_str_join (mt_join K) pe_str (pa_cons (pe_comp (N := ["_law_digit", "_law_signs"]) (pick := [none, some 1]) (NX := ["_law_cell", "_law_signs", "_law_digits", "_law_words"]) (sX := defScope sText) (by decide +kernel) rfl rfl rfl (pi_listK K (pe_slice (slL K) (pv 2) (po_some pe_int) (po_some (pe_op op_add pe_int (pe_op op_mod (pe_ix (ixL K) (pv 2) pe_int (fun _ _ => rfl)) pe_int)))))
        (fun _ _ _ _ => (pg_name (i := 0) (by decide +kernel : (["_law_digit", "_law_signs"] : List Str).Nodup) rfl (Or.inl rfl))) (fun _ _ _ _ => pifs_nil) (fun _ _ _ _ => (pe_ix ix_str (pv 1) (pv 0) (fun _ _ => rfl)))) pa_nil))))))) pss_nil)
    (pss_cons (ps_set (i := 2) scT.nd rfl (Or.inl rfl) (pe_call GD hr rfl mD kD bD .nil pass0 (pa_cons (pv 0) (pa_cons pe_int (pa_cons pe_int (pa_cons pe_bl pa_nil))))))
    (@pss_c _ _ _ _ _ (@ps_setLit _ 3 _ _ _ _ _ _ scT.nd rfl (Or.inr rfl) rfl rfl (.inl rfl))
    (pss_one (ps_ret (bmK K PySem.F.plainAttrs_str PySem.F.slot_str_join PySem.F.type_str_join (mt_join K) pe_str (pa_cons (pe_comp (N := ["_law_digit", "_law_words"]) (pick := [none, some 3]) (NX := ["_law_cell", "_law_signs", "_law_digits", "_law_words"]) (sX := defScope sText) (by decide +kernel) rfl rfl rfl (pi_listK K (pe_slice (slL K) (pv 2) (po_some pe_int) (po_some (pe_op op_add pe_int (pe_ix (ixL K) (pv 2) pe_int (fun _ _ => rfl))))))
        (fun _ _ _ _ => (pg_name (i := 0) (by decide +kernel : (["_law_digit", "_law_words"] : List Str).Nodup) rfl (Or.inl rfl))) (fun _ _ _ _ => pifs_nil) (fun _ _ _ _ => (pe_ix (ixL K) (pv 1) (pv 0) (fun _ _ => rfl)))) pa_nil))))))), ?_⟩
  simp only [tIfS, tAnd, tOr, tNot, tB, tVar, tTest, tOp, tC, tUn, tCB, tCons, tNil, rI0, rI, rU, rNe, rEq, scal, rAppend, tBM, tDrop, tSeq, tAsg, gName, tRet, tNext, List.set_cons_zero, List.set_cons_succ, List.getElem?_cons_zero, List.getElem?_cons_succ, Option.some.injEq, V.int.injEq, V.bl.injEq, V.ref.injEq, V.str.injEq, exists_eq_left', exists_eq_left, exists_and_left, List.cons.injEq, and_true, true_and, and_assoc, exists_const, L2.start, List.map_cons, List.map_nil, List.length_cons, List.length_nil, List.replicate_succ, List.replicate_zero, List.cons_append, List.nil_append, List.append_nil, Nat.reduceAdd, Nat.reduceSub, tFor_eq, tComp_eq, tWhile_eq, tChain, tAug, ipI, rIxS, rSlS, rLower, rIndex, rPop, rCat, tBM0, gSub, rSetL, tSl, tPart, tNoPart, rSlL, tCall, tLst, tTup, iRng1, iRng2, iRng3, iList, iEnum, gTup, gCons, gNil, rIxL, rIxT, tYes, tAndV, tOrV, tNotV, tIf, tTest, exists_eq', List.ne_cons_self, reduceCtorEq, if_true, if_false, and_false, false_and, spDraws, rJoin]
  have hsl : (Str.ofString " !\"#$&'()*+,-./0123456789:;<=>?@ABCDEFGHIJKLMNOPQRSTUVWXYZ[\\]^_" ++ Str.ofString "`abcdefghijklmnopqrstuvwxyz{|}~").length = 94 := by decide +kernel
  have hsa : Asc (Str.ofString " !\"#$&'()*+,-./0123456789:;<=>?@ABCDEFGHIJKLMNOPQRSTUVWXYZ[\\]^_" ++ Str.ofString "`abcdefghijklmnopqrstuvwxyz{|}~") := by unfold Asc; decide +kernel
  have hs2 : (Str.ofString " !\"#$&'()*+,-./0123456789:;<=>?@ABCDEFGHIJKLMNOPQRSTUVWXYZ[\\]^_").length + (Str.ofString "`abcdefghijklmnopqrstuvwxyz{|}~").length = 94 := by decide +kernel
  rw [hs2]
  generalize Str.ofString " !\"#$&'()*+,-./0123456789:;<=>?@ABCDEFGHIJKLMNOPQRSTUVWXYZ[\\]^_" ++ Str.ofString "`abcdefghijklmnopqrstuvwxyz{|}~" = sg at hsl hsa ⊢
  refine ⟨by decide, ite2 (fun _ => ?_) (fun _ => ?_)⟩
  · refine ⟨small (by omega), ⟨by decide, by decide⟩, small (by omega), by decide, by decide, by omega, by omega, fun r ns H' s' hr' hH' hnl hns => ?_⟩
    obtain ⟨n0, hn0⟩ := atI_ints (ns := ns) (k := 0) (by omega) (by omega)
    refine ⟨rfl, _, SqL.of hH', _, hn0, _, rfl, by decide, _, SqL.of hH', fun p hp => ?_⟩
    rw [cutV_map7]
    have hcl : (cutL ns (some 1) (some (1 + n0 % 25))).length ≤ 25 := by
      unfold cutL
      rw [List.length_take, List.length_drop]
      omega
    have hcm : ∀ z ∈ cutL ns (some 1) (some (1 + n0 % 25)), 0 ≤ z ∧ z < (sg.length : Int) := fun z hz => hns z (List.mem_of_mem_drop (List.mem_of_mem_take hz))
    generalize cutL ns (some 1) (some (1 + n0 % 25)) = ds at hcl hcm ⊢
    refine ⟨⟨_, SqL.of upd_same⟩, compW_list (ds.map V.int) (invG (.str sg) (upd H' p (.lst (ds.map V.int))) 1) ⟨[], none, rfl, rfl, rfl, rfl, fun z hz => (by cases hz)⟩ ?_ ?_ ?_⟩
    · rintro i ys σ L hi ⟨zs, v0, rfl, hz, rfl, rfl, hB⟩
      rw [List.length_map] at hi
      exact ⟨SqL.of upd_same, by rw [List.length_map]; exact small (by omega)⟩
    · rintro i x ys σ L hx ⟨zs, v0, rfl, hz, rfl, rfl, hB⟩
      rw [List.getElem?_map] at hx
      obtain ⟨d, hd, rfl⟩ := Option.map_eq_some_iff.mp hx
      obtain ⟨d0, d1⟩ := hcm d (List.mem_of_getElem? hd)
      obtain ⟨v, hv, hv'⟩ := atI_of (xs := sg.cps.toList) d0 (by rw [slen]; exact d1)
      simp only [tIfS, tAnd, tOr, tNot, tB, tVar, tTest, tOp, tC, tUn, tCB, tCons, tNil, rI0, rI, rU, rNe, rEq, scal, rAppend, tBM, tDrop, tSeq, tAsg, gName, tRet, tNext, List.set_cons_zero, List.set_cons_succ, List.getElem?_cons_zero, List.getElem?_cons_succ, Option.some.injEq, V.int.injEq, V.bl.injEq, V.ref.injEq, V.str.injEq, exists_eq_left', exists_eq_left, exists_and_left, List.cons.injEq, and_true, true_and, and_assoc, exists_const, L2.start, List.map_cons, List.map_nil, List.length_cons, List.length_nil, List.replicate_succ, List.replicate_zero, List.cons_append, List.nil_append, List.append_nil, Nat.reduceAdd, Nat.reduceSub, tFor_eq, tComp_eq, tWhile_eq, tChain, tAug, ipI, rIxS, rSlS, rLower, rIndex, rPop, rCat, tBM0, gSub, rSetL, tSl, tPart, tNoPart, rSlL, tCall, tLst, tTup, iRng1, iRng2, iRng3, iList, iEnum, gTup, gCons, gNil, rIxL, rIxT, tYes, tAndV, tOrV, tNotV, tIf, tTest, exists_eq', List.ne_cons_self, reduceCtorEq, if_true, if_false, and_false, false_and]
      refine ⟨small (by omega), v, hv, zs ++ [⟨#[v]⟩], _, by rw [List.map_append]; rfl, by rw [List.length_append, hz]; rfl, rfl, rfl, fun z hz => ?_⟩
      rcases List.mem_append.mp hz with hz | hz
      · exact hB z hz
      · rw [List.mem_singleton] at hz
        subst hz
        exact ⟨Nat.le_refl 1, fun c hc => by
          have e : c = v := by simpa using hc
          subst e
          exact hsa _ (List.mem_of_getElem? hv')⟩
    · rintro ys σ L ⟨zs, v0, rfl, hz, rfl, rfl, hB⟩ p2 hp2
      rw [List.length_map] at hz
      have jf := tjoin_fits (sep := "") (B := 1) (fun c hc => (by cases hc)) zs hB
      refine ⟨p2, rfl, zs, SqL.of upd_same, 1, fun y hy => (hB y hy).1, by omega, by decide, q _ _ ((s'.trans (same_new hp _)).trans (same_new hp2 _)) ?_ jf.2⟩
      have j1 : (Txt.join "" zs).length ≤ zs.length * (1 + 0) := jf.1
      omega
  · refine ⟨by decide, by decide, by decide, by decide, fun r ns H' s' hr' hH' hnl hns => ⟨by decide, fun p hp => ?_⟩⟩
    obtain ⟨WL, hWL, hl12, hB⟩ : ∃ WL : List Str, WL.map V.str = [V.str "ab", V.str "Ab", V.str "b", V.str "ba", V.str "a1", V.str "", V.str "1", V.str "abc", V.str "b, a", V.str "c", V.str "A-B", V.str "ab"] ∧ WL.length = 12 ∧ ∀ z ∈ WL, z.length ≤ 4 ∧ Asc z := ⟨["ab", "Ab", "b", "ba", "a1", "", "1", "abc", "b, a", "c", "A-B", "ab"], rfl, rfl, by unfold Asc; decide +kernel⟩
    rw [← hWL]
    have hP := same_new hp (.lst (WL.map V.str))
    obtain ⟨n0, hn0⟩ := atI_ints (ns := ns) (k := 0) (by omega) (by omega)
    refine ⟨rfl, _, SqL.of (hP _ _ hH'), _, hn0, _, rfl, _, SqL.of (hP _ _ hH'), fun p1 hp1 => ?_⟩
    rw [cutV_map7]
    have hcl : (cutL ns (some 1) (some (1 + n0))).length ≤ 14 := by
      unfold cutL
      rw [List.length_take, List.length_drop]
      omega
    have hcm : ∀ z ∈ cutL ns (some 1) (some (1 + n0)), 0 ≤ z ∧ z < 12 := fun z hz => hns z (List.mem_of_mem_drop (List.mem_of_mem_take hz))
    generalize cutL ns (some 1) (some (1 + n0)) = ds at hcl hcm ⊢
    have hP1 := same_new hp1 (.lst (ds.map V.int))
    have hpW := hP1 _ _ (show (upd H' p (.lst (WL.map V.str))) p = some (.lst (WL.map V.str)) from upd_same)
    refine ⟨⟨_, SqL.of upd_same⟩, compW_list (ds.map V.int) (invG (.ref p) (upd (upd H' p (.lst (WL.map V.str))) p1 (.lst (ds.map V.int))) 4) ⟨[], none, rfl, rfl, rfl, rfl, fun z hz => (by cases hz)⟩ ?_ ?_ ?_⟩
    · rintro i ys σ L hi ⟨zs, v0, rfl, hz, rfl, rfl, hB⟩
      rw [List.length_map] at hi
      exact ⟨SqL.of upd_same, by rw [List.length_map]; exact small (by omega)⟩
    · rintro i x ys σ L hx ⟨zs, v0, rfl, hz, rfl, rfl, hB'⟩
      rw [List.getElem?_map] at hx
      obtain ⟨d, hd, rfl⟩ := Option.map_eq_some_iff.mp hx
      obtain ⟨d0, d1⟩ := hcm d (List.mem_of_getElem? hd)
      obtain ⟨v, hv, hv'⟩ := atI_of (xs := WL.map V.str) d0 (by rw [List.length_map]; omega)
      rw [List.getElem?_map] at hv'
      obtain ⟨y, hy, rfl⟩ := Option.map_eq_some_iff.mp hv'
      simp only [tIfS, tAnd, tOr, tNot, tB, tVar, tTest, tOp, tC, tUn, tCB, tCons, tNil, rI0, rI, rU, rNe, rEq, scal, rAppend, tBM, tDrop, tSeq, tAsg, gName, tRet, tNext, List.set_cons_zero, List.set_cons_succ, List.getElem?_cons_zero, List.getElem?_cons_succ, Option.some.injEq, V.int.injEq, V.bl.injEq, V.ref.injEq, V.str.injEq, exists_eq_left', exists_eq_left, exists_and_left, List.cons.injEq, and_true, true_and, and_assoc, exists_const, L2.start, List.map_cons, List.map_nil, List.length_cons, List.length_nil, List.replicate_succ, List.replicate_zero, List.cons_append, List.nil_append, List.append_nil, Nat.reduceAdd, Nat.reduceSub, tFor_eq, tComp_eq, tWhile_eq, tChain, tAug, ipI, rIxS, rSlS, rLower, rIndex, rPop, rCat, tBM0, gSub, rSetL, tSl, tPart, tNoPart, rSlL, tCall, tLst, tTup, iRng1, iRng2, iRng3, iList, iEnum, gTup, gCons, gNil, rIxL, rIxT, tYes, tAndV, tOrV, tNotV, tIf, tTest, exists_eq', List.ne_cons_self, reduceCtorEq, if_true, if_false, and_false, false_and]
      refine ⟨_, SqL.of hpW, _, hv, zs ++ [y], _, by rw [List.map_append]; rfl, by rw [List.length_append, hz]; rfl, rfl, rfl, fun z hz => ?_⟩
      rcases List.mem_append.mp hz with hz | hz
      · exact hB' z hz
      · rw [List.mem_singleton] at hz
        subst hz
        exact hB _ (List.mem_of_getElem? hy)
    · rintro ys σ L ⟨zs, v0, rfl, hz, rfl, rfl, hB'⟩ p2 hp2
      rw [List.length_map] at hz
      have jf := tjoin_fits (sep := " ") (B := 4) (by unfold Asc; decide +kernel) zs hB'
      refine ⟨p2, rfl, zs, SqL.of upd_same, 4, fun y hy => (hB' y hy).1, by omega, by decide, q _ _ (((s'.trans hP).trans hP1).trans (same_new hp2 _)) ?_ jf.2⟩
      have j1 : (Txt.join " " zs).length ≤ zs.length * (4 + 1) := jf.1
      omega
end
end K7

namespace K7
open PySem L2 KW
section
variable {P : Program} {w : World} {K : PySem.W.Frag} {mg : Str → Option Value} {base : Heap} {f : Addr} {fd : FuncData}
theorem scIN : FnScope ["_law_text_here", "_law_sign"] ["_law_text_here"] (defScope sIsNm) := ⟨rfl, rfl, rfl, by decide +kernel, rfl, by decide +kernel, by decide +kernel⟩
def invA (z : Str) (H : Hp) (i : Nat) (σ : St) (L : Hp) : Prop := ∃ v1 : Option V, σ = [some (.str z), v1] ∧ L = H ∧ (z.cps.toList.take i).all lower1 = true
theorem az_in (c : Nat) : decide (c ∈ (Str.ofString "abcdefghijklmnopqrstuvwxyz").cps.toList) = lower1 c := by
  have e : (Str.ofString "abcdefghijklmnopqrstuvwxyz").cps.toList = List.range' 97 26 := by decide +kernel
  rw [e]
  unfold lower1
  by_cases h : 97 ≤ c ∧ c ≤ 122
  · rw [decide_eq_true h]
    exact decide_eq_true (List.mem_range'_1.mpr ⟨h.1, by omega⟩)
  · rw [decide_eq_false h]
    exact decide_eq_false fun z => h (by have := List.mem_range'_1.mp z; omega)
theorem ok_isnm (F : Fun K "_law_is_name" "_law_is_name" sIsNm f fd) (T : Txt mg) : FnOk P w K mg base CX0 1 f fd ["_law_text_here"] spName := by
  refine F.ok scIN (fun vs H Q E h => ?_) (fun cdv A outer s H vs Q E hr h => ?_)
  · obtain ⟨z, rfl, _⟩ := h
    rfl
  obtain ⟨z, rfl, hz, q⟩ := h
  refine ⟨_, (pss_cons (ps_if (PW.pt (pw_or (pt_cmpR op_eq (pv 0) pe_str (nomark _)) (pw_or1 (pt_cmpR op_gt (pe_callB call_len_str rfl T.len PySem.boot_len (pa_cons (pv 0) pa_nil)) pe_int (nomark _))))) (pss_one (ps_ret pe_bl)) pss_nil)
    (pss_cons (ps_for PassesOwn.never rfl (pi_str (pv 0)) (pg_name (i := 1) scIN.nd rfl (Or.inl rfl))
      (pss_one (ps_if (pt_cmpR op_notin_str (pv 1) pe_str rfl) (pss_one (ps_ret pe_bl)) pss_nil)))
    (pss_one (ps_ret pe_bl)))), ?_⟩
  simp only [tIfS, tAnd, tOr, tNot, tB, tVar, tTest, tOp, tC, tUn, tCB, tCons, tNil, rI0, rI, rU, rNe, rEq, scal, rAppend, tBM, tDrop, tSeq, tAsg, gName, tRet, tNext, List.set_cons_zero, List.set_cons_succ, List.getElem?_cons_zero, List.getElem?_cons_succ, Option.some.injEq, V.int.injEq, V.bl.injEq, V.ref.injEq, V.str.injEq, exists_eq_left', exists_eq_left, exists_and_left, List.cons.injEq, and_true, true_and, and_assoc, exists_const, L2.start, List.map_cons, List.map_nil, List.length_cons, List.length_nil, List.replicate_succ, List.replicate_zero, List.cons_append, List.nil_append, List.append_nil, Nat.reduceAdd, Nat.reduceSub, tFor_eq, tComp_eq, tWhile_eq, tChain, tAug, ipI, rIxS, rSlS, rLower, rIndex, rPop, rCat, tBM0, gSub, rSetL, tSl, tPart, tNoPart, rSlL, tCall, tLst, tTup, iRng1, iRng2, iRng3, iList, iEnum, gTup, gCons, gNil, rIxL, rIxT, tYes, tAndV, tOrV, tNotV, tIf, tTest, exists_eq', List.ne_cons_self, reduceCtorEq, if_true, if_false, and_false, false_and, iStr]
  have hsz : z.length ≤ sizeLine := small hz
  have bad : okNm z = false → Q (.bl false) H := fun n => by
    have := q H (Same.refl _)
    rw [n] at this
    exact this
  refine ite2 (fun c1 => bad ?_) (fun c1 => ⟨hsz, ite2 (fun c2 => bad ?_) (fun c2 => ?_)⟩)
  · have e := of_decide_eq_true c1
    rw [e]
    decide +kernel
  · have e := of_decide_eq_true c2
    unfold okNm
    rw [decide_eq_false (by omega), Bool.false_and]
  · have e1 := of_decide_eq_false (Bool.eq_false_iff.mpr c1)
    have e2 := of_decide_eq_false (Bool.eq_false_iff.mpr c2)
    have e3 : 1 ≤ z.length := by
      cases hl : z.length with
      | zero =>
        refine absurd ?_ e1
        have h0 : z.cps.toList = [] := List.eq_nil_of_length_eq_zero (by rw [slen]; exact hl)
        obtain ⟨cs⟩ := z
        have h1 : cs = #[] := Array.toList_inj.mp h0
        rw [h1]
        rfl
      | succ n => omega
    refine forW_str (invA z H) ⟨none, rfl, rfl, rfl⟩ ?_ ?_
    · rintro i c σ L hc ⟨v1, rfl, rfl, hA⟩
      simp only [tIfS, tAnd, tOr, tNot, tB, tVar, tTest, tOp, tC, tUn, tCB, tCons, tNil, rI0, rI, rU, rNe, rEq, scal, rAppend, tBM, tDrop, tSeq, tAsg, gName, tRet, tNext, List.set_cons_zero, List.set_cons_succ, List.getElem?_cons_zero, List.getElem?_cons_succ, Option.some.injEq, V.int.injEq, V.bl.injEq, V.ref.injEq, V.str.injEq, exists_eq_left', exists_eq_left, exists_and_left, List.cons.injEq, and_true, true_and, and_assoc, exists_const, L2.start, List.map_cons, List.map_nil, List.length_cons, List.length_nil, List.replicate_succ, List.replicate_zero, List.cons_append, List.nil_append, List.append_nil, Nat.reduceAdd, Nat.reduceSub, tFor_eq, tComp_eq, tWhile_eq, tChain, tAug, ipI, rIxS, rSlS, rLower, rIndex, rPop, rCat, tBM0, gSub, rSetL, tSl, tPart, tNoPart, rSlL, tCall, tLst, tTup, iRng1, iRng2, iRng3, iList, iEnum, gTup, gCons, gNil, rIxL, rIxT, tYes, tAndV, tOrV, tNotV, tIf, tTest, exists_eq', List.ne_cons_self, reduceCtorEq, if_true, if_false, and_false, false_and]
      rw [show (!!(Builtin.Str.occurrences (Str.ofString "abcdefghijklmnopqrstuvwxyz") ⟨#[c]⟩ 0 (Str.ofString "abcdefghijklmnopqrstuvwxyz").length 1).isEmpty) = !lower1 c by rw [← az_in, ← StrLaws.found_one]]
      refine ite2 (fun d => bad ?_) (fun d => ⟨_, rfl, rfl, ?_⟩)
      · unfold okNm
        have : z.cps.toList.all lower1 = false := by
          rw [Bool.eq_false_iff]
          intro h
          have := List.all_eq_true.mp h c (List.mem_of_getElem? hc)
          rw [this] at d
          cases d
        rw [this, Bool.and_false]
      · rw [List.take_add_one, hc, List.all_append, hA]
        have : lower1 c = true := by cases h : lower1 c with
          | true => rfl
          | false => rw [h] at d; exact absurd rfl d
        show (true && (lower1 c && true)) = true
        rw [this]
        rfl
    · rintro σ L ⟨v1, rfl, rfl, hA⟩
      simp only [tIfS, tAnd, tOr, tNot, tB, tVar, tTest, tOp, tC, tUn, tCB, tCons, tNil, rI0, rI, rU, rNe, rEq, scal, rAppend, tBM, tDrop, tSeq, tAsg, gName, tRet, tNext, List.set_cons_zero, List.set_cons_succ, List.getElem?_cons_zero, List.getElem?_cons_succ, Option.some.injEq, V.int.injEq, V.bl.injEq, V.ref.injEq, V.str.injEq, exists_eq_left', exists_eq_left, exists_and_left, List.cons.injEq, and_true, true_and, and_assoc, exists_const, L2.start, List.map_cons, List.map_nil, List.length_cons, List.length_nil, List.replicate_succ, List.replicate_zero, List.cons_append, List.nil_append, List.append_nil, Nat.reduceAdd, Nat.reduceSub, tFor_eq, tComp_eq, tWhile_eq, tChain, tAug, ipI, rIxS, rSlS, rLower, rIndex, rPop, rCat, tBM0, gSub, rSetL, tSl, tPart, tNoPart, rSlL, tCall, tLst, tTup, iRng1, iRng2, iRng3, iList, iEnum, gTup, gCons, gNil, rIxL, rIxT, tYes, tAndV, tOrV, tNotV, tIf, tTest, exists_eq', List.ne_cons_self, reduceCtorEq, if_true, if_false, and_false, false_and]
      rw [← slen, List.take_length] at hA
      have e : okNm z = true := by
        unfold okNm
        rw [hA, decide_eq_true (by omega)]
        rfl
      have := q L (Same.refl _)
      rw [e] at this
      exact this
theorem scWf : FnScope ["_law_document_here", "_law_last", "_law_place", "_law_field", "_law_text_here"] ["_law_document_here"] (defScope sWrong) := ⟨rfl, rfl, rfl, by decide +kernel, rfl, by decide +kernel, by decide +kernel⟩
def natV : Option Nat → V
  | none => .non
  | some j => .int (j : Int)
def spWrong : Sp := fun vs H Q _ => ∃ (a : Addr) (d : List Fld) (xs : List V), vs = [.ref a] ∧ H a = some (.lst xs) ∧ DeepTs H (d.map dvF) xs ∧ (∀ x ∈ d, x.1.length ≤ 1000) ∧ ∀ H', Same H H' → Q (natV (dw "" 0 d)) H'
def invWf (a : Addr) (d : List Fld) (H : Hp) (i : Nat) (σ : St) (L : Hp) : Prop := ∃ (prev : Str) (v2 v3 v4 : Option V), σ = [some (.ref a), some (.str prev), v2, v3, v4] ∧ Same H L ∧ (i = 0 → prev = "") ∧ dw "" 0 d = dw prev i (d.drop i)
theorem ok_wrong {gn : Addr} {dn : FuncData} (F : Fun K "_law_wrong_field" "_law_wrong_field" sWrong f fd) (T : Txt mg) (GN : FnOk P w K mg base CX0 1 gn dn ["_law_text_here"] spName) (bN : Binds K dn ["_law_text_here"] []) (kN : PySem.W.keepIn K (.ref gn) = true) (mN : mg "_law_is_name" = some (.ref gn)) : FnOk P w K mg base CX0 2 f fd ["_law_document_here"] spWrong := by
  refine F.ok scWf (fun vs H Q E h => ?_) (fun cdv A outer s H vs Q E hr h => ?_)
  · obtain ⟨a, d, xs, rfl, _⟩ := h
    rfl
  obtain ⟨a, d, xs, rfl, ha, hd, hfl, q⟩ := h
  refine ⟨_, (pss_cons (ps_set (i := 1) scWf.nd rfl (Or.inl rfl) pe_str)
    (pss_cons (ps_for PassesOwn.never rfl (pi_enum rfl T.enumerate (pa_cons (pv 0) pa_nil)) (pgT K (n := 2) rfl (pgs_cons (pg_name (i := 2) scWf.nd rfl (Or.inl rfl)) (pgs_cons (pgT K (n := 2) rfl (pgs_cons (pg_name (i := 3) scWf.nd rfl (Or.inl rfl)) (pgs_cons (pg_name (i := 4) scWf.nd rfl (Or.inl rfl)) pgs_nil))) pgs_nil)))
      (pss_cons (ps_if (PW.pt (pw_or (pt_not (pt_val (pe_call GN hr rfl mN kN bN .nil pass0 (pa_cons (pv 3) pa_nil)))) (pw_or1 (PW.pt (pw_and (pt_cmpR op_gt (pv 2) pe_int (nomark _)) (pw_and1 (pt_cmpR op_le_str (pv 3) (pv 1) (nomark _)))))))) (pss_one (ps_ret (pv 2))) pss_nil)
    (pss_one (ps_set (i := 1) scWf.nd rfl (Or.inl rfl) (pv 3)))))
    (pss_one (ps_ret pe_non)))), ?_⟩
  simp only [tIfS, tAnd, tOr, tNot, tB, tVar, tTest, tOp, tC, tUn, tCB, tCons, tNil, rI0, rI, rU, rNe, rEq, scal, rAppend, tBM, tDrop, tSeq, tAsg, gName, tRet, tNext, List.set_cons_zero, List.set_cons_succ, List.getElem?_cons_zero, List.getElem?_cons_succ, Option.some.injEq, V.int.injEq, V.bl.injEq, V.ref.injEq, V.str.injEq, exists_eq_left', exists_eq_left, exists_and_left, List.cons.injEq, and_true, true_and, and_assoc, exists_const, L2.start, List.map_cons, List.map_nil, List.length_cons, List.length_nil, List.replicate_succ, List.replicate_zero, List.cons_append, List.nil_append, List.append_nil, Nat.reduceAdd, Nat.reduceSub, tFor_eq, tComp_eq, tWhile_eq, tChain, tAug, ipI, rIxS, rSlS, rLower, rIndex, rPop, rCat, tBM0, gSub, rSetL, tSl, tPart, tNoPart, rSlL, tCall, tLst, tTup, iRng1, iRng2, iRng3, iList, iEnum, gTup, gCons, gNil, rIxL, rIxT, tYes, tAndV, tOrV, tNotV, tIf, tTest, exists_eq', List.ne_cons_self, reduceCtorEq, if_true, if_false, and_false, false_and, spName]
  refine ⟨⟨_, SqL.of ha⟩, forW_enum xs (invWf a d H) ⟨_, none, none, none, rfl, Same.refl _, fun _ => rfl, by rw [List.drop_zero]⟩ ?_ ?_ ?_⟩
  · rintro i σ L hi ⟨prev, v2, v3, v4, rfl, sL, h0, hw⟩
    exact SqL.of (sL _ _ ha)
  · rintro i y T σ L hy ⟨prev, v2, v3, v4, rfl, sL, h0, hw⟩ hT
    obtain ⟨dv, h1, h2⟩ := hd.get hy
    rw [List.getElem?_map] at h1
    obtain ⟨x, hx, rfl⟩ := Option.map_eq_some_iff.mp h1
    obtain ⟨b, rfl, hb⟩ := dvF_at h2
    have sT : Same H (upd L T (.tup [.int i, .ref b])) := sL.trans (same_new hT _)
    have hil : i < d.length := (List.getElem?_eq_some_iff.mp hx).1
    have hdr : d.drop i = x :: d.drop (i + 1) := by
      rw [List.drop_eq_getElem_cons hil]
      congr 1
      exact (List.getElem?_eq_some_iff.mp hx).2
    have hxm : x ∈ d := List.mem_of_getElem? hx
    rw [hdr, dw] at hw
    simp only [tIfS, tAnd, tOr, tNot, tB, tVar, tTest, tOp, tC, tUn, tCB, tCons, tNil, rI0, rI, rU, rNe, rEq, scal, rAppend, tBM, tDrop, tSeq, tAsg, gName, tRet, tNext, List.set_cons_zero, List.set_cons_succ, List.getElem?_cons_zero, List.getElem?_cons_succ, Option.some.injEq, V.int.injEq, V.bl.injEq, V.ref.injEq, V.str.injEq, exists_eq_left', exists_eq_left, exists_and_left, List.cons.injEq, and_true, true_and, and_assoc, exists_const, L2.start, List.map_cons, List.map_nil, List.length_cons, List.length_nil, List.replicate_succ, List.replicate_zero, List.cons_append, List.nil_append, List.append_nil, Nat.reduceAdd, Nat.reduceSub, tFor_eq, tComp_eq, tWhile_eq, tChain, tAug, ipI, rIxS, rSlS, rLower, rIndex, rPop, rCat, tBM0, gSub, rSetL, tSl, tPart, tNoPart, rSlL, tCall, tLst, tTup, iRng1, iRng2, iRng3, iList, iEnum, gTup, gCons, gNil, rIxL, rIxT, tYes, tAndV, tOrV, tNotV, tIf, tTest, exists_eq', List.ne_cons_self, reduceCtorEq, if_true, if_false, and_false, false_and, spName]
    refine ⟨_, SqT.of upd_same, rfl, ?_⟩
    simp only [tIfS, tAnd, tOr, tNot, tB, tVar, tTest, tOp, tC, tUn, tCB, tCons, tNil, rI0, rI, rU, rNe, rEq, scal, rAppend, tBM, tDrop, tSeq, tAsg, gName, tRet, tNext, List.set_cons_zero, List.set_cons_succ, List.getElem?_cons_zero, List.getElem?_cons_succ, Option.some.injEq, V.int.injEq, V.bl.injEq, V.ref.injEq, V.str.injEq, exists_eq_left', exists_eq_left, exists_and_left, List.cons.injEq, and_true, true_and, and_assoc, exists_const, L2.start, List.map_cons, List.map_nil, List.length_cons, List.length_nil, List.replicate_succ, List.replicate_zero, List.cons_append, List.nil_append, List.append_nil, Nat.reduceAdd, Nat.reduceSub, tFor_eq, tComp_eq, tWhile_eq, tChain, tAug, ipI, rIxS, rSlS, rLower, rIndex, rPop, rCat, tBM0, gSub, rSetL, tSl, tPart, tNoPart, rSlL, tCall, tLst, tTup, iRng1, iRng2, iRng3, iList, iEnum, gTup, gCons, gNil, rIxL, rIxT, tYes, tAndV, tOrV, tNotV, tIf, tTest, exists_eq', List.ne_cons_self, reduceCtorEq, if_true, if_false, and_false, false_and]
    refine ⟨_, SqT.of (sT _ _ hb), rfl, ?_⟩
    simp only [tIfS, tAnd, tOr, tNot, tB, tVar, tTest, tOp, tC, tUn, tCB, tCons, tNil, rI0, rI, rU, rNe, rEq, scal, rAppend, tBM, tDrop, tSeq, tAsg, gName, tRet, tNext, List.set_cons_zero, List.set_cons_succ, List.getElem?_cons_zero, List.getElem?_cons_succ, Option.some.injEq, V.int.injEq, V.bl.injEq, V.ref.injEq, V.str.injEq, exists_eq_left', exists_eq_left, exists_and_left, List.cons.injEq, and_true, true_and, and_assoc, exists_const, L2.start, List.map_cons, List.map_nil, List.length_cons, List.length_nil, List.replicate_succ, List.replicate_zero, List.cons_append, List.nil_append, List.append_nil, Nat.reduceAdd, Nat.reduceSub, tFor_eq, tComp_eq, tWhile_eq, tChain, tAug, ipI, rIxS, rSlS, rLower, rIndex, rPop, rCat, tBM0, gSub, rSetL, tSl, tPart, tNoPart, rSlL, tCall, tLst, tTup, iRng1, iRng2, iRng3, iList, iEnum, gTup, gCons, gNil, rIxL, rIxT, tYes, tAndV, tOrV, tNotV, tIf, tTest, exists_eq', List.ne_cons_self, reduceCtorEq, if_true, if_false, and_false, false_and, spName]
    refine ⟨hfl x hxm, fun H1 s1 => ?_⟩
    have sH1 := sT.trans s1
    have wr : badF prev x.1 = true → Q (.int i) H1 := fun hbf => by
      rw [if_pos hbf] at hw
      have := q H1 sH1
      rw [hw] at this
      exact this
    have go : badF prev x.1 = false → invWf a d H (i + 1) [some (V.ref a), some (V.str x.1), some (V.int i), some (V.str x.1), some (V.str x.2)] H1 := fun hbf => by
      rw [if_neg (by rw [hbf]; decide)] at hw
      exact ⟨x.1, _, _, _, rfl, sH1, fun z => absurd z (by omega), hw⟩
    refine ite2 (fun c1 => wr ?_) (fun c1 => ite2 (fun c2 => ite2 (fun c3 => wr ?_) (fun c3 => go ?_)) (fun c2 => go ?_))
    · unfold badF
      rw [c1, Bool.true_or]
    · unfold badF
      rw [c3, Bool.or_true]
    · unfold badF
      rw [Bool.eq_false_iff.mpr c1, Bool.eq_false_iff.mpr c3]
      rfl
    · have c2' := of_decide_eq_false (Bool.eq_false_iff.mpr c2)
      have e0 : prev = "" := h0 (by omega)
      unfold badF
      rw [Bool.eq_false_iff.mpr c1, Bool.false_or, e0]
      have ok : okNm x.1 = true := by
        cases h : okNm x.1 with
        | true => rfl
        | false => rw [h] at c1; exact absurd rfl c1
      unfold okNm at ok
      rw [Bool.and_eq_true] at ok
      have l1 := (of_decide_eq_true ok.1).1
      rw [← slen] at l1
      cases hc : x.1.cps.toList with
      | nil => rw [hc] at l1; cases l1
      | cons u r =>
        rw [show ("" : Str).cps.toList = [] from rfl, decide_eq_true (List.nil_lt_cons _ _)]
        rfl
  · rintro σ L ⟨prev, v2, v3, v4, rfl, sL, h0, hw⟩
    have hl' : xs.length = d.length := by have := hd.length; rwa [List.length_map] at this
    rw [hl', List.drop_length, dw] at hw
    simp only [tIfS, tAnd, tOr, tNot, tB, tVar, tTest, tOp, tC, tUn, tCB, tCons, tNil, rI0, rI, rU, rNe, rEq, scal, rAppend, tBM, tDrop, tSeq, tAsg, gName, tRet, tNext, List.set_cons_zero, List.set_cons_succ, List.getElem?_cons_zero, List.getElem?_cons_succ, Option.some.injEq, V.int.injEq, V.bl.injEq, V.ref.injEq, V.str.injEq, exists_eq_left', exists_eq_left, exists_and_left, List.cons.injEq, and_true, true_and, and_assoc, exists_const, L2.start, List.map_cons, List.map_nil, List.length_cons, List.length_nil, List.replicate_succ, List.replicate_zero, List.cons_append, List.nil_append, List.append_nil, Nat.reduceAdd, Nat.reduceSub, tFor_eq, tComp_eq, tWhile_eq, tChain, tAug, ipI, rIxS, rSlS, rLower, rIndex, rPop, rCat, tBM0, gSub, rSetL, tSl, tPart, tNoPart, rSlL, tCall, tLst, tTup, iRng1, iRng2, iRng3, iList, iEnum, gTup, gCons, gNil, rIxL, rIxT, tYes, tAndV, tOrV, tNotV, tIf, tTest, exists_eq', List.ne_cons_self, reduceCtorEq, if_true, if_false, and_false, false_and]
    have := q L sL
    rw [hw] at this
    exact this
theorem scDu : FnScope ["_law_makes_here", "_law_last", "_law_place", "_law_make", "_law_document_here"] ["_law_makes_here"] (defScope sDue) := ⟨rfl, rfl, rfl, by decide +kernel, rfl, by decide +kernel, by decide +kernel⟩
def dueV : Option (Bool × Nat) → List V
  | none => [.str "taken"]
  | some (true, k) => [.str "make", .int (k : Int)]
  | some (false, k) => [.str "field", .int (k : Int)]
def spDue : Sp := fun vs H Q _ => ∃ (a : Addr) (ms : List Mk) (xs : List V), vs = [.ref a] ∧ H a = some (.lst xs) ∧ DeepTs H (ms.map dvM) xs ∧ (∀ m ∈ ms, ∀ x ∈ m.2, x.1.length ≤ 1000) ∧
  ∀ r H', Same H H' → H r = none → H' r = some (.lst (dueV (mw (-1) 0 ms))) → Q (.ref r) H'
def invDu (a : Addr) (ms : List Mk) (H : Hp) (i : Nat) (σ : St) (L : Hp) : Prop := ∃ (prev : Int) (v2 v3 v4 : Option V), σ = [some (.ref a), some (.int prev), v2, v3, v4] ∧ Same H L ∧ mw (-1) 0 ms = mw prev i (ms.drop i)
theorem ok_due {gn : Addr} {dn : FuncData} (F : Fun K "_law_due" "_law_due" sDue f fd) (T : Txt mg) (GWf : FnOk P w K mg base CX0 2 gn dn ["_law_document_here"] spWrong) (bWf : Binds K dn ["_law_document_here"] []) (kWf : PySem.W.keepIn K (.ref gn) = true) (mWf : mg "_law_wrong_field" = some (.ref gn)) : FnOk P w K mg base CX0 3 f fd ["_law_makes_here"] spDue := by
  refine F.ok scDu (fun vs H Q E h => ?_) (fun cdv A outer s H vs Q E hr h => ?_)
  · obtain ⟨a, d, xs, rfl, _⟩ := h
    rfl
  obtain ⟨a, ms, xs, rfl, ha, hd, hfl, q⟩ := h
  refine ⟨_, (pss_cons (ps_set (i := 1) scDu.nd rfl (Or.inl rfl) (pe_un un_neg pe_int))
    (pss_cons (ps_for PassesOwn.never rfl (pi_enum rfl T.enumerate (pa_cons (pv 0) pa_nil)) (pgT K (n := 2) rfl (pgs_cons (pg_name (i := 2) scDu.nd rfl (Or.inl rfl)) (pgs_cons (pgT K (n := 2) rfl (pgs_cons (pg_name (i := 3) scDu.nd rfl (Or.inl rfl)) (pgs_cons (pg_name (i := 4) scDu.nd rfl (Or.inl rfl)) pgs_nil))) pgs_nil)))
      (pss_cons (ps_if (pt_cmpR op_le (pv 3) (pv 1) (nomark _)) (pss_one (ps_ret (pe_lst (pa_cons pe_str (pa_cons (pv 2) pa_nil))))) pss_nil)
    (pss_cons (ps_set (i := 1) scDu.nd rfl (Or.inl rfl) (pv 3))
    (pss_one (ps_if (pt_cmpR op_notN (pe_call GWf hr rfl mWf kWf bWf .nil pass0 (pa_cons (pv 4) pa_nil)) pe_non (nomark _)) (pss_one (ps_ret (pe_lst (pa_cons pe_str (pa_cons (pe_call GWf hr rfl mWf kWf bWf .nil pass0 (pa_cons (pv 4) pa_nil)) pa_nil))))) pss_nil)))))
    (pss_one (ps_ret (pe_lst (pa_cons pe_str pa_nil)))))), ?_⟩
  simp only [tIfS, tAnd, tOr, tNot, tB, tVar, tTest, tOp, tC, tUn, tCB, tCons, tNil, rI0, rI, rU, rNe, rEq, scal, rAppend, tBM, tDrop, tSeq, tAsg, gName, tRet, tNext, List.set_cons_zero, List.set_cons_succ, List.getElem?_cons_zero, List.getElem?_cons_succ, Option.some.injEq, V.int.injEq, V.bl.injEq, V.ref.injEq, V.str.injEq, exists_eq_left', exists_eq_left, exists_and_left, List.cons.injEq, and_true, true_and, and_assoc, exists_const, L2.start, List.map_cons, List.map_nil, List.length_cons, List.length_nil, List.replicate_succ, List.replicate_zero, List.cons_append, List.nil_append, List.append_nil, Nat.reduceAdd, Nat.reduceSub, tFor_eq, tComp_eq, tWhile_eq, tChain, tAug, ipI, rIxS, rSlS, rLower, rIndex, rPop, rCat, tBM0, gSub, rSetL, tSl, tPart, tNoPart, rSlL, tCall, tLst, tTup, iRng1, iRng2, iRng3, iList, iEnum, gTup, gCons, gNil, rIxL, rIxT, tYes, tAndV, tOrV, tNotV, tIf, tTest, exists_eq', List.ne_cons_self, reduceCtorEq, if_true, if_false, and_false, false_and, spWrong]
  refine ⟨⟨_, SqL.of ha⟩, forW_enum xs (invDu a ms H) ⟨_, none, none, none, rfl, Same.refl _, by rw [List.drop_zero]⟩ ?_ ?_ ?_⟩
  · rintro i σ L hi ⟨prev, v2, v3, v4, rfl, sL, hw⟩
    exact SqL.of (sL _ _ ha)
  · rintro i y T σ L hy ⟨prev, v2, v3, v4, rfl, sL, hw⟩ hT
    obtain ⟨dv, h1, h2⟩ := hd.get hy
    rw [List.getElem?_map] at h1
    obtain ⟨x, hx, rfl⟩ := Option.map_eq_some_iff.mp h1
    obtain ⟨b, c, zs, rfl, hb, hc, hz⟩ := dvM_at h2
    have sT : Same H (upd L T (.tup [.int i, .ref b])) := sL.trans (same_new hT _)
    have hil : i < ms.length := (List.getElem?_eq_some_iff.mp hx).1
    have hdr : ms.drop i = x :: ms.drop (i + 1) := by
      rw [List.drop_eq_getElem_cons hil]
      congr 1
      exact (List.getElem?_eq_some_iff.mp hx).2
    have hxm : x ∈ ms := List.mem_of_getElem? hx
    rw [hdr, mw] at hw
    simp only [tIfS, tAnd, tOr, tNot, tB, tVar, tTest, tOp, tC, tUn, tCB, tCons, tNil, rI0, rI, rU, rNe, rEq, scal, rAppend, tBM, tDrop, tSeq, tAsg, gName, tRet, tNext, List.set_cons_zero, List.set_cons_succ, List.getElem?_cons_zero, List.getElem?_cons_succ, Option.some.injEq, V.int.injEq, V.bl.injEq, V.ref.injEq, V.str.injEq, exists_eq_left', exists_eq_left, exists_and_left, List.cons.injEq, and_true, true_and, and_assoc, exists_const, L2.start, List.map_cons, List.map_nil, List.length_cons, List.length_nil, List.replicate_succ, List.replicate_zero, List.cons_append, List.nil_append, List.append_nil, Nat.reduceAdd, Nat.reduceSub, tFor_eq, tComp_eq, tWhile_eq, tChain, tAug, ipI, rIxS, rSlS, rLower, rIndex, rPop, rCat, tBM0, gSub, rSetL, tSl, tPart, tNoPart, rSlL, tCall, tLst, tTup, iRng1, iRng2, iRng3, iList, iEnum, gTup, gCons, gNil, rIxL, rIxT, tYes, tAndV, tOrV, tNotV, tIf, tTest, exists_eq', List.ne_cons_self, reduceCtorEq, if_true, if_false, and_false, false_and, spWrong]
    refine ⟨_, SqT.of upd_same, rfl, ?_⟩
    simp only [tIfS, tAnd, tOr, tNot, tB, tVar, tTest, tOp, tC, tUn, tCB, tCons, tNil, rI0, rI, rU, rNe, rEq, scal, rAppend, tBM, tDrop, tSeq, tAsg, gName, tRet, tNext, List.set_cons_zero, List.set_cons_succ, List.getElem?_cons_zero, List.getElem?_cons_succ, Option.some.injEq, V.int.injEq, V.bl.injEq, V.ref.injEq, V.str.injEq, exists_eq_left', exists_eq_left, exists_and_left, List.cons.injEq, and_true, true_and, and_assoc, exists_const, L2.start, List.map_cons, List.map_nil, List.length_cons, List.length_nil, List.replicate_succ, List.replicate_zero, List.cons_append, List.nil_append, List.append_nil, Nat.reduceAdd, Nat.reduceSub, tFor_eq, tComp_eq, tWhile_eq, tChain, tAug, ipI, rIxS, rSlS, rLower, rIndex, rPop, rCat, tBM0, gSub, rSetL, tSl, tPart, tNoPart, rSlL, tCall, tLst, tTup, iRng1, iRng2, iRng3, iList, iEnum, gTup, gCons, gNil, rIxL, rIxT, tYes, tAndV, tOrV, tNotV, tIf, tTest, exists_eq', List.ne_cons_self, reduceCtorEq, if_true, if_false, and_false, false_and]
    refine ⟨_, SqT.of (sT _ _ hb), rfl, ?_⟩
    simp only [tIfS, tAnd, tOr, tNot, tB, tVar, tTest, tOp, tC, tUn, tCB, tCons, tNil, rI0, rI, rU, rNe, rEq, scal, rAppend, tBM, tDrop, tSeq, tAsg, gName, tRet, tNext, List.set_cons_zero, List.set_cons_succ, List.getElem?_cons_zero, List.getElem?_cons_succ, Option.some.injEq, V.int.injEq, V.bl.injEq, V.ref.injEq, V.str.injEq, exists_eq_left', exists_eq_left, exists_and_left, List.cons.injEq, and_true, true_and, and_assoc, exists_const, L2.start, List.map_cons, List.map_nil, List.length_cons, List.length_nil, List.replicate_succ, List.replicate_zero, List.cons_append, List.nil_append, List.append_nil, Nat.reduceAdd, Nat.reduceSub, tFor_eq, tComp_eq, tWhile_eq, tChain, tAug, ipI, rIxS, rSlS, rLower, rIndex, rPop, rCat, tBM0, gSub, rSetL, tSl, tPart, tNoPart, rSlL, tCall, tLst, tTup, iRng1, iRng2, iRng3, iList, iEnum, gTup, gCons, gNil, rIxL, rIxT, tYes, tAndV, tOrV, tNotV, tIf, tTest, exists_eq', List.ne_cons_self, reduceCtorEq, if_true, if_false, and_false, false_and, spWrong]
    refine ite2 (fun c1 => ?_) (fun c1 => ?_)
    · have c1' : x.1 ≤ prev := of_decide_eq_true c1
      rw [if_pos c1'] at hw
      refine ⟨by decide, fun p hp => q p _ (sT.trans (same_new hp _)) (sT.free hp) ?_⟩
      rw [hw]
      exact upd_same
    · have c1' : ¬ x.1 ≤ prev := of_decide_eq_false (Bool.eq_false_iff.mpr c1)
      rw [if_neg c1'] at hw
      refine ⟨x.2, zs, sT _ _ hc, DeepTs.same sT _ _ hz, hfl x hxm, fun H1 s1 => ?_⟩
      have sH1 := sT.trans s1
      cases hdw : dw "" 0 x.2 with
      | none =>
        rw [hdw] at hw
        exact ⟨x.1, _, _, _, rfl, sH1, hw⟩
      | some j =>
        rw [hdw] at hw
        refine ⟨x.2, zs, sH1 _ _ hc, DeepTs.same sH1 _ _ hz, hfl x hxm, fun H2 s2 => ⟨(by show 2 ≤ sizeLine; exact small (by decide)), fun p hp => q p _ ((sH1.trans s2).trans (same_new hp _)) ((sH1.trans s2).free hp) ?_⟩⟩
        rw [hw, hdw]
        exact upd_same
  · rintro σ L ⟨prev, v2, v3, v4, rfl, sL, hw⟩
    have hl' : xs.length = ms.length := by have := hd.length; rwa [List.length_map] at this
    rw [hl', List.drop_length, mw] at hw
    simp only [tIfS, tAnd, tOr, tNot, tB, tVar, tTest, tOp, tC, tUn, tCB, tCons, tNil, rI0, rI, rU, rNe, rEq, scal, rAppend, tBM, tDrop, tSeq, tAsg, gName, tRet, tNext, List.set_cons_zero, List.set_cons_succ, List.getElem?_cons_zero, List.getElem?_cons_succ, Option.some.injEq, V.int.injEq, V.bl.injEq, V.ref.injEq, V.str.injEq, exists_eq_left', exists_eq_left, exists_and_left, List.cons.injEq, and_true, true_and, and_assoc, exists_const, L2.start, List.map_cons, List.map_nil, List.length_cons, List.length_nil, List.replicate_succ, List.replicate_zero, List.cons_append, List.nil_append, List.append_nil, Nat.reduceAdd, Nat.reduceSub, tFor_eq, tComp_eq, tWhile_eq, tChain, tAug, ipI, rIxS, rSlS, rLower, rIndex, rPop, rCat, tBM0, gSub, rSetL, tSl, tPart, tNoPart, rSlL, tCall, tLst, tTup, iRng1, iRng2, iRng3, iList, iEnum, gTup, gCons, gNil, rIxL, rIxT, tYes, tAndV, tOrV, tNotV, tIf, tTest, exists_eq', List.ne_cons_self, reduceCtorEq, if_true, if_false, and_false, false_and]
    refine ⟨by decide, fun p hp => q p _ (sL.trans (same_new hp _)) (sL.free hp) ?_⟩
    rw [hw]
    exact upd_same
end
end K7

namespace K7
open PySem L2 KW
section
variable {P : Program} {w : World} {K : PySem.W.Frag} {mg : Str → Option Value} {base : Heap} {f : Addr} {fd : FuncData}
theorem scDc : FnScope ["_law_cell", "_law_more", "_law_names", "_law_fields", "_law_name"] ["_law_cell", "_law_more"] (defScope sDoc) := ⟨rfl, rfl, rfl, by decide +kernel, rfl, by decide +kernel, by decide +kernel⟩
def GoodD (d : List Fld) : Prop := dw "" 0 d = none ∧ d.length ≤ 9 ∧ ∀ y ∈ d, y.1.length ≤ 12 ∧ y.2.length ≤ 200 ∧ Asc y.2
def spDoc : Sp := fun vs H Q _ => ∃ c m : Int, vs = [.int c, .int m] ∧ ∀ (d : List Fld) (a : Addr) (xs : List V) (H' : Hp), GoodD d → Same H H' → H a = none → H' a = some (.lst xs) → DeepTs H' (d.map dvF) xs → Q (.ref a) H'
theorem dw_rise : ∀ (d : List Fld) (p : Str) (j : Nat), PyProof.Rows.risingS p (d.map (·.1)) = true → (p :: d.map (·.1)).Nodup → (∀ y ∈ d, okNm y.1 = true) → dw p j d = none
  | [], p, j, _, _, _ => rfl
  | x :: r, p, j, h, hn, ho => by
    have h1 : (!PySem.Spec.ltCps x.1.cps.toList p.cps.toList && PyProof.Rows.risingS x.1 (r.map (·.1))) = true := h
    rw [Bool.and_eq_true, PyProof.Rows.ltCps_eq] at h1
    obtain ⟨h2, h3⟩ := h1
    have h4 : ¬ x.1.cps.toList < p.cps.toList := by
      intro z
      rw [decide_eq_true z] at h2
      cases h2
    have hne : p ≠ x.1 := fun z => by
      have := (List.nodup_cons.mp hn).1
      rw [z] at this
      exact this (List.mem_cons_self ..)
    have h5 : p.cps.toList < x.1.cps.toList := by
      rcases List.le_iff_lt_or_eq.mp (List.not_lt.mp h4) with z | z
      · exact z
      · refine absurd ?_ hne
        obtain ⟨cs⟩ := p
        cases hx : x.1 with
        | mk ds =>
          rw [hx] at z
          exact congrArg Str.mk (Array.toList_inj.mp z)
    have hb : badF p x.1 = false := by
      unfold badF
      rw [ho x (List.mem_cons_self ..), decide_eq_true h5]
      rfl
    rw [dw, if_neg (by rw [hb]; decide)]
    exact dw_rise r x.1 (j + 1) h3 (List.nodup_cons.mp hn).2 fun y hy => ho y (List.mem_cons_of_mem _ hy)
theorem dw_sorted (d : List Fld) (h : PyProof.Rows.sortedS (d.map (·.1)) = true) (hn : (d.map (·.1)).Nodup) (ho : ∀ y ∈ d, okNm y.1 = true) : dw "" 0 d = none := by
  cases d with
  | nil => rfl
  | cons x r =>
    have ox := ho x (List.mem_cons_self ..)
    have l1 : 1 ≤ x.1.length := by
      unfold okNm at ox
      rw [Bool.and_eq_true] at ox
      exact (of_decide_eq_true ox.1).1
    have h5 : decide (("" : Str).cps.toList < x.1.cps.toList) = true := by
      rw [← slen] at l1
      cases hc : x.1.cps.toList with
      | nil => rw [hc] at l1; cases l1
      | cons u r => exact decide_eq_true (List.nil_lt_cons _ _)
    have hb : badF "" x.1 = false := by
      unfold badF
      rw [ox, h5]
      rfl
    rw [dw, if_neg (by rw [hb]; decide)]
    exact dw_rise r x.1 1 h hn fun y hy => ho y (List.mem_cons_of_mem _ hy)
def nms : List Str := ["a", "ab", "b", "body", "c", "title", "tit", "z", "zz"]
theorem nms_nodup : nms.Nodup := by decide +kernel
theorem nms_ok : ∀ z ∈ nms, okNm z = true ∧ z.length ≤ 12 := by decide +kernel
def invFd (H : Hp) (c m : Int) (r fo : Addr) (i : Nat) (σ : St) (L : Hp) : Prop := ∃ (fs : List Str) (v4 : Option V), σ = [some (.int c), some (.int m), some (.ref r), some (.ref fo), v4] ∧ Same H L ∧ L fo = some (.lst (fs.map V.str)) ∧ fs.Sublist (nms.take i)
def invTx (H0 : Hp) (m : Int) (zs : List Str) (i : Nat) (ys : List V) (σ : St) (L : Hp) : Prop := ∃ (d : List Fld) (v0 v1 : Option V), σ = [v0, v1, some (.int m)] ∧ Same H0 L ∧ DeepTs L (d.map dvF) ys ∧ d.map (·.1) = zs.take i ∧ ∀ y ∈ d, y.2.length ≤ 200 ∧ Asc y.2
theorem ps_docFor {X : Cx} {K : PySem.W.Frag} {nm : Str} {i : Nat} {es es' : List Expr} {zs zs' : List Str} {SL : Expr} {tsl : TE} {body : List Stmt} {tb : TS} {p1 pl pl' ap p2 cp cpos ipos fpos : Pos} (hK : X.K = K) (hp : PassesOwn (model X.prog X.w) X.A X.env X.xe) (hc : X.calm = true) (hN : X.N.Nodup) (hi : X.N[i]? = some nm) (hx : Loc X.env.scope nm)
    (hf : X.fn nm = true ∨ X.env.scope.names.lookup nm = some .local) (hv : PE X (.Name nm p2) (tVar i)) (hz : strsC es = some zs) (hz' : strsC es' = some zs') (hl : (ap.endLine == cp.line) = true) (hs : PE X SL tsl) (hm : behindInMarks .In SL = false) (hb : PSs X body tb) :
    PS X (.For (.Name nm p1) (.List es pl) [.If (.Compare (.Call (.Attribute (.List es' pl') "index" ap) [.Name nm p2] [] cp) [.In] [SL] cpos) body [] ipos] [] fpos)
      (tFor (iList K (tLst (fun _ H Q => Q (zs.map V.str) H))) (gName i) (tIfS (tTest (tOp (rIn X.K false) (tBM K "list" (rIdxL K) (tLst (fun _ H Q => Q (zs'.map V.str) H)) (tCons (tVar i) tNil)) tsl)) tb tNext)) := by
  subst hK
  exact ps_for hp hc (pi_list (pe_lst (pa_strs hz))) (pg_name hN hi hx hf) (pss_one (ps_if (pt_cmpR op_in_seq (bmK X.K PySem.F.plainAttrs_list PySem.F.slot_list_index PySem.F.type_list_index (mt_indexL X.K) (pe_lst (pa_strs hz')) (pa_cons hv pa_nil) rfl rfl rfl hl) hs hm) hb pss_nil))
theorem ok_doc {gd gt : Addr} {dd dt : FuncData} (F : Fun K "_law_document" "_law_document" sDoc f fd) (T : Txt mg) (GD : FnOk P w K mg base CX0 1 gd dd ["_law_cell", "_law_many", "_law_base", "_law_free"] spDraws) (bD : Binds K dd ["_law_cell", "_law_many", "_law_base", "_law_free"] []) (kD : PySem.W.keepIn K (.ref gd) = true) (mD : mg "_law_draws" = some (.ref gd))
    (GT : FnOk P w K mg base CX0 2 gt dt ["_law_cell"] spTxt) (bT : Binds K dt ["_law_cell"] []) (kT : PySem.W.keepIn K (.ref gt) = true) (mT : mg "_law_text" = some (.ref gt)) : FnOk P w K mg base CX0 3 f fd ["_law_cell", "_law_more"] spDoc := by
  refine F.ok scDc (fun vs H Q E h => ?_) (fun cdv A outer s H vs Q E hr h => ?_)
  · obtain ⟨c, m, rfl, _⟩ := h
    rfl
  obtain ⟨c, m, rfl, q⟩ := h
  have hr1 : Room 1 _ := hr.mono (by decide)
  refine ⟨_, (pss_cons (ps_set (i := 2) scDc.nd rfl (Or.inl rfl) (pe_call GD hr1 rfl mD kD bD .nil pass0 (pa_cons (pv 0) (pa_cons pe_int (pa_cons pe_int (pa_cons pe_bl pa_nil))))))
    (pss_cons (ps_set (i := 3) scDc.nd rfl (Or.inl rfl) (pe_lst pa_nil))
    (@pss_c _ _ _ _ _ (@ps_docFor _ _ _ 4 _ _ _ _ _ _ _ _ _ _ _ _ _ _ _ _ _ rfl PassesOwn.never rfl scDc.nd rfl (Or.inl rfl) (.inl rfl) (pv 4) rfl rfl rfl (pe_slice (slL K) (pv 2) (po_some pe_int) (po_some (pe_op op_add pe_int (pe_op op_mod (pe_ix (ixL K) (pv 2) pe_int (fun _ _ => rfl)) pe_int)))) rfl (pss_one (ps_expr (bmK K PySem.F.plainAttrs_list PySem.F.slot_list_append PySem.F.type_list_append mt_append (pv 3) (pa_cons (pv 4) pa_nil)))))
    (pss_one (ps_ret (pe_comp (N := ["_law_k", "_law_name", "_law_more"]) (pick := [none, none, some 1]) (NX := ["_law_cell", "_law_more", "_law_names", "_law_fields", "_law_name"]) (sX := defScope sDoc) (by decide +kernel) rfl rfl rfl (pi_enum rfl T.enumerate (pa_cons (pe_callB (call_sortedS K) rfl T.sorted (by decide +kernel) (pa_cons (pv 3) pa_nil)) pa_nil))
        (fun _ _ _ _ => (pgT K (n := 2) rfl (pgs_cons (pg_name (i := 0) (by decide +kernel : (["_law_k", "_law_name", "_law_more"] : List Str).Nodup) rfl (Or.inl rfl)) (pgs_cons (pg_name (i := 1) (by decide +kernel : (["_law_k", "_law_name", "_law_more"] : List Str).Nodup) rfl (Or.inl rfl)) pgs_nil)))) (fun _ _ _ _ => pifs_nil) (fun _ _ _ _ => (pe_tup (pa_cons (pv 1) (pa_cons (pe_call GT hr rfl mT kT bT .nil pass0 (pa_cons (pe_op op_fdiv (pv 2) (pe_op op_add pe_int (pe_op op_mul pe_int (pv 0)))) pa_nil)) pa_nil)))))))))), ?_⟩
  simp only [tIfS, tAnd, tOr, tNot, tB, tVar, tTest, tOp, tC, tUn, tCB, tCons, tNil, rI0, rI, rU, rNe, rEq, scal, rAppend, tBM, tDrop, tSeq, tAsg, gName, tRet, tNext, List.set_cons_zero, List.set_cons_succ, List.getElem?_cons_zero, List.getElem?_cons_succ, Option.some.injEq, V.int.injEq, V.bl.injEq, V.ref.injEq, V.str.injEq, exists_eq_left', exists_eq_left, exists_and_left, List.cons.injEq, and_true, true_and, and_assoc, exists_const, L2.start, List.map_cons, List.map_nil, List.length_cons, List.length_nil, List.replicate_succ, List.replicate_zero, List.cons_append, List.nil_append, List.append_nil, Nat.reduceAdd, Nat.reduceSub, tFor_eq, tComp_eq, tWhile_eq, tChain, tAug, ipI, rIxS, rSlS, rLower, rIndex, rPop, rCat, tBM0, gSub, rSetL, tSl, tPart, tNoPart, rSlL, tCall, tLst, tTup, iRng1, iRng2, iRng3, iList, iEnum, gTup, gCons, gNil, rIxL, rIxT, tYes, tAndV, tOrV, tNotV, tIf, tTest, exists_eq', List.ne_cons_self, reduceCtorEq, if_true, if_false, and_false, false_and, spDraws, spTxt, rIdxL]
  refine ⟨by decide, by decide, by decide, by decide, fun r ns H1 s1 hr1' hH1 hnl hns => ⟨by decide, fun fo hfo => ⟨by decide, fun p1 hp1 => ?_⟩⟩⟩
  rw [show [V.str (Str.ofString "a"), V.str (Str.ofString "ab"), V.str (Str.ofString "b"), V.str (Str.ofString "body"), V.str (Str.ofString "c"), V.str (Str.ofString "title"), V.str (Str.ofString "tit"), V.str (Str.ofString "z"), V.str (Str.ofString "zz")] = nms.map V.str from rfl]
  have sf := same_new hfo (.lst [])
  have sp := same_new hp1 (.lst (nms.map V.str))
  have hfo2 := sp _ _ (show (upd H1 fo (.lst [])) fo = some (.lst []) from upd_same)
  have fH1 : H1 fo = none := hfo
  have hr2' := (sf.trans sp) _ _ hH1
  have s0 : Same H1 (upd (upd H1 fo (.lst [])) p1 (.lst (nms.map V.str))) := sf.trans sp
  have e1 : (upd (upd H1 fo (.lst [])) p1 (.lst (nms.map V.str))) p1 = some (.lst (nms.map V.str)) := upd_same
  have np : p1 ≠ fo := fun z => by rw [z, upd_same] at hp1; cases hp1
  obtain ⟨n0, hn0⟩ := atI_ints (ns := ns) (k := 0) (by omega) (by omega)
  refine ⟨⟨_, SqL.of upd_same⟩, forW_list (nms.map V.str) (fun i σ L => invFd H1 c m r fo i σ L ∧ L p1 = some (.lst (nms.map V.str))) ⟨⟨[], none, rfl, s0, hfo2, List.nil_sublist _⟩, e1⟩ ?_ ?_ ?_⟩
  · rintro i σ L hi ⟨⟨fs, v4, rfl, sL, hf, hsub⟩, hL1⟩
    exact SqL.of hL1
  · rintro i y σ L hy ⟨⟨fs, v4, rfl, sL, hf, hsub⟩, hL1⟩
    rw [List.getElem?_map] at hy
    obtain ⟨nm, hnm, rfl⟩ := Option.map_eq_some_iff.mp hy
    simp only [tIfS, tAnd, tOr, tNot, tB, tVar, tTest, tOp, tC, tUn, tCB, tCons, tNil, rI0, rI, rU, rNe, rEq, scal, rAppend, tBM, tDrop, tSeq, tAsg, gName, tRet, tNext, List.set_cons_zero, List.set_cons_succ, List.getElem?_cons_zero, List.getElem?_cons_succ, Option.some.injEq, V.int.injEq, V.bl.injEq, V.ref.injEq, V.str.injEq, exists_eq_left', exists_eq_left, exists_and_left, List.cons.injEq, and_true, true_and, and_assoc, exists_const, L2.start, List.map_cons, List.map_nil, List.length_cons, List.length_nil, List.replicate_succ, List.replicate_zero, List.cons_append, List.nil_append, List.append_nil, Nat.reduceAdd, Nat.reduceSub, tFor_eq, tComp_eq, tWhile_eq, tChain, tAug, ipI, rIxS, rSlS, rLower, rIndex, rPop, rCat, tBM0, gSub, rSetL, tSl, tPart, tNoPart, rSlL, tCall, tLst, tTup, iRng1, iRng2, iRng3, iList, iEnum, gTup, gCons, gNil, rIxL, rIxT, tYes, tAndV, tOrV, tNotV, tIf, tTest, exists_eq', List.ne_cons_self, reduceCtorEq, if_true, if_false, and_false, false_and, rIdxL]
    have hil : i < nms.length := (List.getElem?_eq_some_iff.mp hnm).1
    have htk : nms.take (i + 1) = nms.take i ++ [nm] := by rw [List.take_add_one, hnm]; rfl
    have hfl : fs.length ≤ 9 := by
      have := hsub.length_le
      rw [List.length_take] at this
      have e : nms.length = 9 := rfl
      omega
    refine ⟨small (by decide), fun p hp => ⟨.inl ⟨rfl, _, SqL.of upd_same⟩, nms, SqL.of upd_same, i, hnm, fun i' y hi' hy' => ?_, ?_⟩⟩
    · intro z
      subst z
      have h1 := List.pairwise_iff_getElem.mp nms_nodup i' i (by omega) hil hi'
      have h2 := (List.getElem?_eq_some_iff.mp hy').2
      have h3 := (List.getElem?_eq_some_iff.mp hnm).2
      exact h1 (by rw [h2, h3])
    have sp2 := same_new hp (.lst (nms.map V.str))
    refine ⟨_, SqL.of (sp2 _ _ (sL _ _ hH1)), _, hn0, n0, rfl, by decide, _, SqL.of (sp2 _ _ (sL _ _ hH1)), fun p2 hp2 => ?_⟩
    rw [cutV_map7]
    have sp3 := sp2.trans (same_new hp2 (.lst ((cutL ns (some 1) (some (1 + n0 % 4))).map V.int)))
    refine ⟨p2, _, rfl, .inl (SqL.of upd_same), rfl, List.all_eq_true.mpr (fun v hv => by obtain ⟨z, _, rfl⟩ := List.mem_map.mp hv; rfl), _, rfl, ?_⟩
    have hf' := sp3 _ _ hf
    have h1' := sp3 _ _ hL1
    refine ite2 (fun _ => ⟨.inl ⟨rfl, _, SqL.of hf'⟩, _, hf', small1000 (by rw [List.length_map]; omega), ⟨fs ++ [nm], _, rfl, (sL.trans sp3).newer fH1 _, by rw [upd_same, List.map_append]; rfl, by rw [htk]; exact hsub.append (List.Sublist.refl _)⟩, ?_⟩) (fun _ => ⟨⟨fs, _, rfl, sL.trans sp3, hf', by rw [htk]; exact hsub.trans (List.sublist_append_left _ _)⟩, h1'⟩)
    rw [upd_ne np]
    exact h1'
  · rintro σ L ⟨⟨fs, v4, rfl, sL, hf, hsub⟩, hL1⟩
    simp only [tIfS, tAnd, tOr, tNot, tB, tVar, tTest, tOp, tC, tUn, tCB, tCons, tNil, rI0, rI, rU, rNe, rEq, scal, rAppend, tBM, tDrop, tSeq, tAsg, gName, tRet, tNext, List.set_cons_zero, List.set_cons_succ, List.getElem?_cons_zero, List.getElem?_cons_succ, Option.some.injEq, V.int.injEq, V.bl.injEq, V.ref.injEq, V.str.injEq, exists_eq_left', exists_eq_left, exists_and_left, List.cons.injEq, and_true, true_and, and_assoc, exists_const, L2.start, List.map_cons, List.map_nil, List.length_cons, List.length_nil, List.replicate_succ, List.replicate_zero, List.cons_append, List.nil_append, List.append_nil, Nat.reduceAdd, Nat.reduceSub, tFor_eq, tComp_eq, tWhile_eq, tChain, tAug, ipI, rIxS, rSlS, rLower, rIndex, rPop, rCat, tBM0, gSub, rSetL, tSl, tPart, tNoPart, rSlL, tCall, tLst, tTup, iRng1, iRng2, iRng3, iList, iEnum, gTup, gCons, gNil, rIxL, rIxT, tYes, tAndV, tOrV, tNotV, tIf, tTest, exists_eq', List.ne_cons_self, reduceCtorEq, if_true, if_false, and_false, false_and, spTxt]
    have hsb : fs.Sublist nms := hsub.trans (List.take_sublist _ _)
    have hfl : fs.length ≤ 9 := hsb.length_le
    refine ⟨fs, SqL.of hf, by omega, fun r' zs hr'' hperm hsort => ⟨⟨_, SqL.of upd_same⟩, ?_⟩⟩
    have hzl : zs.length ≤ 9 := by rw [hperm.length_eq]; exact hfl
    have sr := same_new hr'' (.lst (zs.map V.str))
    refine compW_enum (zs.map V.str) (invTx (upd L r' (.lst (zs.map V.str))) m zs) ⟨[], none, none, rfl, Same.refl _, DeepTs.nil, rfl, fun y hy => (by cases hy)⟩ ?_ ?_ ?_
    · rintro i ys σ M hi ⟨d, v0, v1, rfl, sM, hD, hdz, hB⟩
      have e := hD.length
      rw [List.length_map] at e hi
      have e2 : d.length = (zs.take i).length := by rw [← hdz, List.length_map]
      rw [List.length_take] at e2
      exact ⟨SqL.of (sM _ _ upd_same), small (by omega)⟩
    · rintro i y T ys σ M hy ⟨d, v0, v1, rfl, sM, hD, hdz, hB⟩ hT
      rw [List.getElem?_map] at hy
      obtain ⟨nm, hnm, rfl⟩ := Option.map_eq_some_iff.mp hy
      have hil : i < zs.length := (List.getElem?_eq_some_iff.mp hnm).1
      have sT := same_new hT (.tup [.int i, .str nm])
      simp only [tIfS, tAnd, tOr, tNot, tB, tVar, tTest, tOp, tC, tUn, tCB, tCons, tNil, rI0, rI, rU, rNe, rEq, scal, rAppend, tBM, tDrop, tSeq, tAsg, gName, tRet, tNext, List.set_cons_zero, List.set_cons_succ, List.getElem?_cons_zero, List.getElem?_cons_succ, Option.some.injEq, V.int.injEq, V.bl.injEq, V.ref.injEq, V.str.injEq, exists_eq_left', exists_eq_left, exists_and_left, List.cons.injEq, and_true, true_and, and_assoc, exists_const, L2.start, List.map_cons, List.map_nil, List.length_cons, List.length_nil, List.replicate_succ, List.replicate_zero, List.cons_append, List.nil_append, List.append_nil, Nat.reduceAdd, Nat.reduceSub, tFor_eq, tComp_eq, tWhile_eq, tChain, tAug, ipI, rIxS, rSlS, rLower, rIndex, rPop, rCat, tBM0, gSub, rSetL, tSl, tPart, tNoPart, rSlL, tCall, tLst, tTup, iRng1, iRng2, iRng3, iList, iEnum, gTup, gCons, gNil, rIxL, rIxT, tYes, tAndV, tOrV, tNotV, tIf, tTest, exists_eq', List.ne_cons_self, reduceCtorEq, if_true, if_false, and_false, false_and, spTxt]
      refine ⟨_, SqT.of upd_same, rfl, ?_⟩
      simp only [tIfS, tAnd, tOr, tNot, tB, tVar, tTest, tOp, tC, tUn, tCB, tCons, tNil, rI0, rI, rU, rNe, rEq, scal, rAppend, tBM, tDrop, tSeq, tAsg, gName, tRet, tNext, List.set_cons_zero, List.set_cons_succ, List.getElem?_cons_zero, List.getElem?_cons_succ, Option.some.injEq, V.int.injEq, V.bl.injEq, V.ref.injEq, V.str.injEq, exists_eq_left', exists_eq_left, exists_and_left, List.cons.injEq, and_true, true_and, and_assoc, exists_const, L2.start, List.map_cons, List.map_nil, List.length_cons, List.length_nil, List.replicate_succ, List.replicate_zero, List.cons_append, List.nil_append, List.append_nil, Nat.reduceAdd, Nat.reduceSub, tFor_eq, tComp_eq, tWhile_eq, tChain, tAug, ipI, rIxS, rSlS, rLower, rIndex, rPop, rCat, tBM0, gSub, rSetL, tSl, tPart, tNoPart, rSlL, tCall, tLst, tTup, iRng1, iRng2, iRng3, iList, iEnum, gTup, gCons, gNil, rIxL, rIxT, tYes, tAndV, tOrV, tNotV, tIf, tTest, exists_eq', List.ne_cons_self, reduceCtorEq, if_true, if_false, and_false, false_and, spTxt]
      refine ⟨.inl ⟨by decide, by decide⟩, ⟨by omega, by omega⟩, fun z H5 s5 hz hA => ⟨by decide, fun p hp => ?_⟩⟩
      have s6 := (sT.trans s5).trans (same_new hp (.tup [.str nm, .str z]))
      refine ⟨d ++ [(nm, z)], _, _, rfl, sM.trans s6, ?_, ?_, fun y hy => ?_⟩
      · rw [List.map_append]
        refine (DeepTs.same s6 _ _ hD).app (DeepTs.one ?_)
        show DeepT _ (dvF _) _
        rw [dvF, DeepT]
        exact ⟨p, _, rfl, upd_same, by rw [DeepTs]; exact ⟨_, _, rfl, by rw [DeepT], by rw [DeepTs]; exact ⟨_, _, rfl, by rw [DeepT], by rw [DeepTs]⟩⟩⟩
      · rw [List.map_append, hdz, List.take_add_one, hnm]
        rfl
      · rcases List.mem_append.mp hy with hy | hy
        · exact hB y hy
        · rw [List.mem_singleton] at hy
          subst hy
          exact ⟨hz, hA⟩
    · rintro ys σ M ⟨d, v0, v1, rfl, sM, hD, hdz, hB⟩ p hp
      rw [List.length_map, List.take_length] at hdz
      have sp5 := same_new hp (.lst ys)
      have hall : ∀ y ∈ d, y.1 ∈ nms := fun y hy => by
        have : y.1 ∈ zs := by rw [← hdz]; exact List.mem_map.mpr ⟨y, hy, rfl⟩
        exact hsb.subset (hperm.mem_iff.mp this)
      refine q d p ys _ ⟨dw_sorted d (by rw [hdz]; exact hsort) (by rw [hdz]; exact hperm.nodup_iff.mpr (hsb.nodup nms_nodup)) fun y hy => (nms_ok _ (hall y hy)).1, ?_, fun y hy => ⟨(nms_ok _ (hall y hy)).2, hB y hy⟩⟩ ((((s1.trans sL).trans sr).trans sM).trans sp5) ((((s1.trans sL).trans sr).trans sM).free hp) upd_same (DeepTs.same sp5 _ _ hD)
      have : d.length = zs.length := by rw [← hdz, List.length_map]
      omega
end
end K7

namespace K7
open PySem L2 KW
section
variable {P : Program} {w : World} {K : PySem.W.Frag} {mg : Str → Option Value} {base : Heap} {f : Addr} {fd : FuncData}
theorem scMk : FnScope ["_law_script", "_law_found", "_law_make", "_law_k"] ["_law_script"] (defScope sMks) := ⟨rfl, rfl, rfl, by decide +kernel, rfl, by decide +kernel, by decide +kernel⟩
def Fits (n : Nat) (ms : List Mk) : Prop := ms.length ≤ 8 ∧ ∀ m ∈ ms, m.2.length ≤ n ∧ ∀ y ∈ m.2, y.1.length ≤ 20 ∧ y.2.length ≤ 200 ∧ Asc y.2
def spMks (K : PySem.W.Frag) : Sp := fun vs H Q _ => ∃ (a : Addr) (ns : List Int), vs = [.ref a] ∧ SqL K H a (ns.map V.int) ∧ ns.length ≤ 63 ∧ ∀ (ms : List Mk) (r : Addr) (xs : List V) (H' : Hp), mw (-1) 0 ms = none → Fits 9 ms → Same H H' → H r = none → H' r = some (.lst xs) → DeepTs H' (ms.map dvM) xs → Q (.ref r) H'
theorem mw_app {x : Mk} (hd : dw "" 0 x.2 = none) : ∀ (ms : List Mk) (a : Int) (k : Nat), mw a k ms = none → (∀ m ∈ ms, m.1 < x.1) → a < x.1 → mw a k (ms ++ [x]) = none
  | [], a, k, _, _, h => by
    show mw a k [x] = none
    rw [mw, if_neg (by omega), hd]
    rfl
  | y :: r, a, k, h, hl, ha => by
    show mw a k (y :: (r ++ [x])) = none
    rw [mw] at h ⊢
    by_cases c : y.1 ≤ a
    · rw [if_pos c] at h; cases h
    · rw [if_neg c] at h ⊢
      cases e : dw "" 0 y.2 with
      | some j => rw [e] at h; cases h
      | none =>
        rw [e] at h
        exact mw_app hd r y.1 (k + 1) h (fun m hm => hl m (List.mem_cons_of_mem _ hm)) (hl y (List.mem_cons_self ..))
theorem docs_tup {H H2 : Hp} (h : ∀ a us, H a = some (.tup us) → H2 a = some (.tup us)) : ∀ (d : List Fld) (xs : List V), DeepTs H (d.map dvF) xs → DeepTs H2 (d.map dvF) xs
  | [], xs, hd => by
    rw [List.map_nil, DeepTs] at hd ⊢
    exact hd
  | x :: r, xs, hd => by
    rw [List.map_cons, DeepTs] at hd ⊢
    obtain ⟨y, ys, rfl, hy, hr⟩ := hd
    refine ⟨y, ys, rfl, ?_, docs_tup h r ys hr⟩
    obtain ⟨a, rfl, ha⟩ := dvF_at hy
    rw [dvF, DeepT]
    exact ⟨a, _, rfl, h _ _ ha, by rw [DeepTs]; exact ⟨_, _, rfl, by rw [DeepT], by rw [DeepTs]; exact ⟨_, _, rfl, by rw [DeepT], by rw [DeepTs]⟩⟩⟩
theorem dvM_of {H : Hp} {p a : Addr} {m : Mk} {xs : List V} (hp : H p = some (.tup [.int m.1, .ref a])) (ha : H a = some (.lst xs)) (hd : DeepTs H (m.2.map dvF) xs) : DeepT H (dvM m) (.ref p) := by
  rw [dvM, DeepT]
  refine ⟨p, _, rfl, hp, ?_⟩
  rw [DeepTs]
  refine ⟨_, _, rfl, by rw [DeepT], ?_⟩
  rw [DeepTs]
  refine ⟨_, _, rfl, ?_, by rw [DeepTs]⟩
  rw [DeepT]
  exact ⟨a, xs, rfl, ha, hd⟩
def invMs (H : Hp) (a fo : Addr) (i : Nat) (σ : St) (L : Hp) : Prop := ∃ (ms : List Mk) (xs : List V) (mk : Int) (v3 : Option V), σ = [some (.ref a), some (.ref fo), some (.int mk), v3] ∧ Same H L ∧ L fo = some (.lst xs) ∧ DeepTs (hide fo L) (ms.map dvM) xs ∧ ms.length = i ∧ mw (-1) 0 ms = none ∧ (∀ m ∈ ms, m.1 ≤ mk) ∧ -1 ≤ mk ∧ Fits 9 ms
theorem ok_mks {gd : Addr} {dd : FuncData} (F : Fun K "_law_makes" "_law_makes" sMks f fd) (T : Txt mg) (GDc : FnOk P w K mg base CX0 3 gd dd ["_law_cell", "_law_more"] spDoc) (bDc : Binds K dd ["_law_cell", "_law_more"] []) (kDc : PySem.W.keepIn K (.ref gd) = true) (mDc : mg "_law_document" = some (.ref gd)) : FnOk P w K mg base CX0 4 f fd ["_law_script"] (spMks K) := by
  refine F.ok scMk (fun vs H Q E h => ?_) (fun cdv A outer s H vs Q E hr h => ?_)
  · obtain ⟨a, ns, rfl, _⟩ := h
    rfl
  obtain ⟨a, ns, rfl, hS, hlen, q⟩ := h
  refine ⟨_, (pss_cons (ps_set (i := 1) scMk.nd rfl (Or.inl rfl) (pe_lst pa_nil))
    (pss_cons (ps_set (i := 2) scMk.nd rfl (Or.inl rfl) (pe_un un_neg pe_int))
    (pss_cons (ps_for PassesOwn.never rfl (pi_rangeG rfl T.range (pa_cons pe_int (pa_cons (pe_callB (call_min2 rfl) rfl T.min PyProof.Rows.boot_min (pa_cons pe_int (pa_cons (pe_op op_sub (pe_callB (lenK K) rfl T.len PySem.boot_len (pa_cons (pv 0) pa_nil)) pe_int) pa_nil))) (pa_cons pe_int pa_nil)))) (pg_name (i := 3) scMk.nd rfl (Or.inl rfl))
      (pss_cons (ps_set (i := 2) scMk.nd rfl (Or.inl rfl) (pe_op op_add (pe_op op_add (pv 2) pe_int) (pe_op op_mod (pe_op op_fdiv (pe_ix (ixL K) (pv 0) (pv 3) (fun _ _ => rfl)) pe_int) pe_int)))
    (pss_one (ps_expr (bmK K PySem.F.plainAttrs_list PySem.F.slot_list_append PySem.F.type_list_append mt_append (pv 1) (pa_cons (pe_tup (pa_cons (pv 2) (pa_cons (pe_call GDc hr rfl mDc kDc bDc .nil pass0 (pa_cons (pe_op op_fdiv (pe_ix (ixL K) (pv 0) (pv 3) (fun _ _ => rfl)) pe_int) (pa_cons (pe_ix (ixL K) (pv 0) (pe_op op_add (pv 3) pe_int) (fun _ _ => rfl)) pa_nil))) pa_nil))) pa_nil))))))
    (pss_one (ps_ret (pv 1)))))), ?_⟩
  simp only [tIfS, tAnd, tOr, tNot, tB, tVar, tTest, tOp, tC, tUn, tCB, tCons, tNil, rI0, rI, rU, rNe, rEq, scal, rAppend, tBM, tDrop, tSeq, tAsg, gName, tRet, tNext, List.set_cons_zero, List.set_cons_succ, List.getElem?_cons_zero, List.getElem?_cons_succ, Option.some.injEq, V.int.injEq, V.bl.injEq, V.ref.injEq, V.str.injEq, exists_eq_left', exists_eq_left, exists_and_left, List.cons.injEq, and_true, true_and, and_assoc, exists_const, L2.start, List.map_cons, List.map_nil, List.length_cons, List.length_nil, List.replicate_succ, List.replicate_zero, List.cons_append, List.nil_append, List.append_nil, Nat.reduceAdd, Nat.reduceSub, tFor_eq, tComp_eq, tWhile_eq, tChain, tAug, ipI, rIxS, rSlS, rLower, rIndex, rPop, rCat, tBM0, gSub, rSetL, tSl, tPart, tNoPart, rSlL, tCall, tLst, tTup, iRng1, iRng2, iRng3, iList, iEnum, gTup, gCons, gNil, rIxL, rIxT, tYes, tAndV, tOrV, tNotV, tIf, tTest, exists_eq', List.ne_cons_self, reduceCtorEq, if_true, if_false, and_false, false_and, spDoc, iRngG]
  refine ⟨by decide, fun fo hfo => ⟨_, .inl ((same_new hfo _).seq hS), ?_⟩⟩
  have hj : ∃ j : Int, (if (((ns.map V.int).length : Nat) : Int) - 1 < 17 then (((ns.map V.int).length : Nat) : Int) - 1 else 17) = j ∧ -1 ≤ j ∧ j ≤ 17 ∧ j ≤ (ns.length : Int) - 1 := by
    rw [List.length_map]
    refine ⟨_, rfl, ?_⟩
    split <;> omega
  obtain ⟨j, ej, j0, j1, j2⟩ := hj
  rw [ej]
  have hn : (rsz 1 j 2).toNat ≤ 8 ∧ ∀ i : Nat, i < (rsz 1 j 2).toNat → 1 + (i : Int) * 2 < j := by
    unfold rsz
    split
    · exact ⟨by omega, fun i hi => by omega⟩
    · exact ⟨by omega, fun i hi => absurd hi (by simp)⟩
  refine ⟨by decide, by decide, by omega, by omega, by decide, by decide, forW_rangeS (invMs H a fo) ⟨[], [], -1, none, rfl, same_new hfo _, upd_same, DeepTs.nil, rfl, rfl, fun m hm => (by cases hm), by omega, by decide, fun m hm => (by cases hm)⟩ ?_ ?_⟩
  · rintro i σ L hi ⟨ms, xs, mk, v3, rfl, sL, hf, hD, hml, hmw, hle, hm1, hfit⟩
    have hi2 := hn.2 i hi
    simp only [tIfS, tAnd, tOr, tNot, tB, tVar, tTest, tOp, tC, tUn, tCB, tCons, tNil, rI0, rI, rU, rNe, rEq, scal, rAppend, tBM, tDrop, tSeq, tAsg, gName, tRet, tNext, List.set_cons_zero, List.set_cons_succ, List.getElem?_cons_zero, List.getElem?_cons_succ, Option.some.injEq, V.int.injEq, V.bl.injEq, V.ref.injEq, V.str.injEq, exists_eq_left', exists_eq_left, exists_and_left, List.cons.injEq, and_true, true_and, and_assoc, exists_const, L2.start, List.map_cons, List.map_nil, List.length_cons, List.length_nil, List.replicate_succ, List.replicate_zero, List.cons_append, List.nil_append, List.append_nil, Nat.reduceAdd, Nat.reduceSub, tFor_eq, tComp_eq, tWhile_eq, tChain, tAug, ipI, rIxS, rSlS, rLower, rIndex, rPop, rCat, tBM0, gSub, rSetL, tSl, tPart, tNoPart, rSlL, tCall, tLst, tTup, iRng1, iRng2, iRng3, iList, iEnum, gTup, gCons, gNil, rIxL, rIxT, tYes, tAndV, tOrV, tNotV, tIf, tTest, exists_eq', List.ne_cons_self, reduceCtorEq, if_true, if_false, and_false, false_and, spDoc]
    have hSL := sL.seq hS
    obtain ⟨z1, hz1⟩ := atI_ints (ns := ns) (k := 1 + (i : Int) * 2) (by omega) (by omega)
    obtain ⟨z2, hz2⟩ := atI_ints (ns := ns) (k := 1 + (i : Int) * 2 + 1) (by omega) (by omega)
    have xl := hD.length
    rw [List.length_map] at xl
    refine ⟨_, hSL, _, hz1, z1, rfl, ⟨by decide, by decide⟩, by decide, .inl ⟨rfl, _, SqL.of hf⟩, _, hSL, _, hz1, z1, rfl, ⟨by decide, by decide⟩, _, hSL, _, hz2, z2, rfl, fun d b zs H5 gd s5 hb hb5 hd5 => ⟨by decide, fun p hp => ?_⟩⟩
    have hf5 := s5 _ _ hf
    have hpf : p ≠ fo := fun z => by rw [z, hf5] at hp; cases hp
    have hbf : b ≠ fo := fun z => by rw [z, hf] at hb; cases hb
    have hbp : b ≠ p := fun z => by rw [← z, hb5] at hp; cases hp
    have sp := same_new hp (.tup [.int (mk + 1 + z1 / 4 % 9), .ref b])
    have hlt : mk < mk + 1 + z1 / 4 % 9 := by omega
    refine ⟨xs, sp _ _ hf5, small1000 (by omega), ms ++ [(mk + 1 + z1 / 4 % 9, d)], xs ++ [.ref p], _, _, rfl, ((sL.trans s5).trans sp).newer hfo _, upd_same, ?_, by rw [List.length_append, hml]; rfl, ?_, ?_, by omega, ?_, ?_⟩
    · rw [hide_upd, List.map_append]
      refine (DeepTs.same (hide_mono (s5.trans sp)) _ _ hD).app (DeepTs.one ?_)
      refine dvM_of (m := (mk + 1 + z1 / 4 % 9, d)) (a := b) (xs := zs) (by rw [hide_ne hpf]; exact upd_same) (by rw [hide_ne hbf]; exact sp _ _ hb5) (docs_tup (fun a us ha => ?_) _ _ hd5)
      have haf : a ≠ fo := fun z => by rw [z, hf5] at ha; cases ha
      rw [hide_ne haf]
      exact sp _ _ ha
    · exact mw_app gd.1 ms (-1) 0 hmw (fun m hm => by have := hle m hm; show m.1 < _; omega) (by show -1 < _; omega)
    · intro m hm
      rcases List.mem_append.mp hm with hm | hm
      · have := hle m hm; omega
      · rw [List.mem_singleton] at hm; subst hm; exact Int.le_refl _
    · have := hn.1
      rw [List.length_append, List.length_singleton]
      omega
    · intro m hm
      rcases List.mem_append.mp hm with hm | hm
      · exact hfit.2 m hm
      · rw [List.mem_singleton] at hm
        subst hm
        exact ⟨gd.2.1, fun y hy => ⟨by have := (gd.2.2 y hy).1; omega, (gd.2.2 y hy).2⟩⟩
  · rintro σ L ⟨ms, xs, mk, v3, rfl, sL, hf, hD, hml, hmw, hle, hm1, hfit⟩
    simp only [tIfS, tAnd, tOr, tNot, tB, tVar, tTest, tOp, tC, tUn, tCB, tCons, tNil, rI0, rI, rU, rNe, rEq, scal, rAppend, tBM, tDrop, tSeq, tAsg, gName, tRet, tNext, List.set_cons_zero, List.set_cons_succ, List.getElem?_cons_zero, List.getElem?_cons_succ, Option.some.injEq, V.int.injEq, V.bl.injEq, V.ref.injEq, V.str.injEq, exists_eq_left', exists_eq_left, exists_and_left, List.cons.injEq, and_true, true_and, and_assoc, exists_const, L2.start, List.map_cons, List.map_nil, List.length_cons, List.length_nil, List.replicate_succ, List.replicate_zero, List.cons_append, List.nil_append, List.append_nil, Nat.reduceAdd, Nat.reduceSub, tFor_eq, tComp_eq, tWhile_eq, tChain, tAug, ipI, rIxS, rSlS, rLower, rIndex, rPop, rCat, tBM0, gSub, rSetL, tSl, tPart, tNoPart, rSlL, tCall, tLst, tTup, iRng1, iRng2, iRng3, iList, iEnum, gTup, gCons, gNil, rIxL, rIxT, tYes, tAndV, tOrV, tNotV, tIf, tTest, exists_eq', List.ne_cons_self, reduceCtorEq, if_true, if_false, and_false, false_and]
    exact q ms fo xs L hmw hfit sL hfo hf (DeepTs.same (hide_same _ _) _ _ hD)
end
end K7

namespace K7
open PySem L2 KW
section
variable {P : Program} {w : World} {K : PySem.W.Frag} {mg : Str → Option Value} {base : Heap} {f : Addr} {fd : FuncData}
theorem XO_inj {e : Addr} {C C' : Value} {dx dx' : Option Addr} (h : XO e C dx = XO e C' dx') : C = C' ∧ dx = dx' := by
  unfold XO at h
  injection h with h
  have h0 : XP e C dx (({ objs := Array.replicate e default } : Heap).push { cls := C, dict := dx, data := .fields #[.none, .none] }) := by
    refine ⟨{ cls := C, dict := dx, data := .fields #[.none, .none] }, _, ?_, rfl, rfl, rfl, by decide⟩
    have := Heap.get?_push_size (o := { cls := C, dict := dx, data := .fields #[.none, .none] }) ({ objs := Array.replicate e default } : Heap) rfl
    simpa using this
  rw [h] at h0
  obtain ⟨oe, vs, h1, h2, h3, _⟩ := h0
  have h4 : (({ objs := Array.replicate e default } : Heap).push { cls := C, dict := dx, data := .fields #[.none, .none] }).get? e = some { cls := C, dict := dx, data := .fields #[.none, .none] } := by
    have := Heap.get?_push_size (o := { cls := C, dict := dx, data := .fields #[.none, .none] }) ({ objs := Array.replicate e default } : Heap) rfl
    simpa using this
  rw [h4] at h1
  cases h1
  exact ⟨h2, h3⟩
/-- the classes of refusals -/
structure XNm (mg : Str → Option Value) (FE NF NM NB ND NL NP NQ NS NT : Addr) : Prop where
  fe : mg "FindError" = some (.ref FE)
  nf : mg "NoField" = some (.ref NF)
  nm : mg "NoMake" = some (.ref NM)
  nb : mg "NoBytes" = some (.ref NB)
  nd : mg "NoDocument" = some (.ref ND)
  nl : mg "NoLine" = some (.ref NL)
  np : mg "NoPattern" = some (.ref NP)
  nq : mg "NoPiece" = some (.ref NQ)
  ns : mg "NoStamp" = some (.ref NS)
  nt : mg "NoText" = some (.ref NT)
structure XKit (K : PySem.W.Frag) (FE NF NM NB ND NL NP NQ NS NT C : Addr) (b : Bool) : Prop where
  fe : PySem.W.mroIn K C (.ref FE) = some true
  xa : XAttr K C
  pl : PySem.W.findIn K (.ref C) "place" = some none
  nb : PySem.W.kitOne K (.ref C) (.ref NB) = some false
  nd : PySem.W.kitOne K (.ref C) (.ref ND) = some false
  nl : PySem.W.kitOne K (.ref C) (.ref NL) = some false
  np : PySem.W.kitOne K (.ref C) (.ref NP) = some false
  nq : PySem.W.kitOne K (.ref C) (.ref NQ) = some false
  ns : PySem.W.kitOne K (.ref C) (.ref NS) = some false
  nt : PySem.W.kitOne K (.ref C) (.ref NT) = some false
  ve : PySem.W.kitOne K (.ref C) (.type "ValueError") = some true
  nm : PySem.W.kitOne K (.ref C) (.ref NM) = some b
  nf : PySem.W.kitOne K (.ref C) (.ref NF) = some (!b)
theorem scCa : FnScope ["_law_makes_here", "_law_caught_here", "e", "_law_other"] ["_law_makes_here"] (defScope sCaught) := ⟨rfl, rfl, rfl, by decide +kernel, rfl, by decide +kernel, by decide +kernel⟩
def spCaught : Sp := fun vs H Q _ => ∃ (a : Addr) (ms : List Mk) (xs : List V), vs = [.ref a] ∧ H a = some (.lst xs) ∧ DeepTs H (ms.map dvM) xs ∧ Fits 20 ms ∧
  ∀ r H', Same H H' → H r = none → H' r = some (.lst (dueV (mw (-1) 0 ms))) → Q (.ref r) H'
def invOt (H0 : Hp) (a e : Addr) (i : Nat) (σ : St) (L : Hp) : Prop := ∃ v3 : Option V, σ = [some (.ref a), some (.ref e), none, v3] ∧ L = H0
theorem ok_caught {C NF NM FE NB ND NL NP NQ NS NT gi : Addr} {di : FuncData} (F : Fun K "_law_caught" "_law_caught" sCaught f fd) (T : Txt mg) (MP : L2.Mk K C gi) (GI : FnOk P w K mg base (CXe P w) 6 gi di ["self", "makes"] (spInit C NF NM)) (bI : Binds K di ["self", "makes"] []) (mP : mg "Piece" = some (.ref C))
    (xn : XNm mg FE NF NM NB ND NL NP NQ NS NT) (xFE : XCatch K FE) (kM : XKit K FE NF NM NB ND NL NP NQ NS NT NM true) (kF : XKit K FE NF NM NB ND NL NP NQ NS NT NF false) : FnOk P w K mg base CX0 8 f fd ["_law_makes_here"] spCaught := by
  obtain ⟨mFE, mNF, mNM, mNB, mND, mNL, mNP, mNQ, mNS, mNT⟩ := xn
  refine F.ok scCa (fun vs H Q E h => ?_) (fun cdv A outer s H vs Q E hr h => ?_)
  · obtain ⟨a, ms, xs, rfl, _⟩ := h
    rfl
  obtain ⟨a, ms, xs, rfl, ha, hD, hfit, q⟩ := h
  refine ⟨_, (pss_cons (ps_set (i := 1) scCa.nd rfl (Or.inl rfl) pe_non)
    (pss_cons (ps_tryAs (i := 2) rfl rfl rfl mFE xFE scCa.nd rfl rfl (fun _ _ => pss_one (ps_expr (pe_makeT MP GI hr rfl mP bI (pa_cons (pv 0) pa_nil)))) (fun _ => pss_one (ps_set (i := 1) scCa.nd rfl (Or.inl rfl) (pv 2))))
    (pss_cons (ps_if (pt_cmpR op_isN (pv 1) pe_non (nomark _)) (pss_one (ps_ret (pe_lst (pa_cons pe_str pa_nil)))) pss_nil)
    (pss_cons (ps_for PassesOwn.never rfl (pi_listK K (pe_lst (pa_cons (pe_callB (call_isiX K) rfl T.isinstance (by decide +kernel) (pa_cons (pv 1) (pa_cons (pe_gref rfl mNB) pa_nil))) (pa_cons (pe_callB (call_isiX K) rfl T.isinstance (by decide +kernel) (pa_cons (pv 1) (pa_cons (pe_gref rfl mND) pa_nil))) (pa_cons (pe_callB (call_isiX K) rfl T.isinstance (by decide +kernel) (pa_cons (pv 1) (pa_cons (pe_gref rfl mNL) pa_nil))) pa_nil))))) (pg_name (i := 3) scCa.nd rfl (Or.inl rfl))
      (pss_one (ps_if (pt_val (pv 3)) (pss_one (ps_ret (pe_lst (pa_cons pe_str pa_nil)))) pss_nil)))
    (pss_cons (ps_for PassesOwn.never rfl (pi_listK K (pe_lst (pa_cons (pe_callB (call_isiX K) rfl T.isinstance (by decide +kernel) (pa_cons (pv 1) (pa_cons (pe_gref rfl mNP) pa_nil))) (pa_cons (pe_callB (call_isiX K) rfl T.isinstance (by decide +kernel) (pa_cons (pv 1) (pa_cons (pe_gref rfl mNQ) pa_nil))) (pa_cons (pe_callB (call_isiX K) rfl T.isinstance (by decide +kernel) (pa_cons (pv 1) (pa_cons (pe_gref rfl mNS) pa_nil))) pa_nil))))) (pg_name (i := 3) scCa.nd rfl (Or.inl rfl))
      (pss_one (ps_if (pt_val (pv 3)) (pss_one (ps_ret (pe_lst (pa_cons pe_str pa_nil)))) pss_nil)))
    (pss_cons (ps_if (PW.pt (pw_or (pt_val (pe_callB (call_isiX K) rfl T.isinstance (by decide +kernel) (pa_cons (pv 1) (pa_cons (pe_gref rfl mNT) pa_nil)))) (pw_or1 (pt_not (pt_val (pe_callB (call_isiX K) rfl T.isinstance (by decide +kernel) (pa_cons (pv 1) (pa_cons (pe_bltn (v := .ty "ValueError") rfl T.valueError (by decide +kernel) rfl) pa_nil)))))))) (pss_one (ps_ret (pe_lst (pa_cons pe_str pa_nil)))) pss_nil)
    (pss_cons (ps_if (PW.pt (pw_and (pt_val (pe_callB (call_isiX K) rfl T.isinstance (by decide +kernel) (pa_cons (pv 1) (pa_cons (pe_gref rfl mNM) pa_nil)))) (pw_and1 (pt_not (pt_val (pe_callB (call_isiX K) rfl T.isinstance (by decide +kernel) (pa_cons (pv 1) (pa_cons (pe_gref rfl mNF) pa_nil)))))))) (pss_one (ps_ret (pe_lst (pa_cons pe_str (pa_cons (pe_xget (pv 1) rfl) pa_nil))))) pss_nil)
    (pss_cons (ps_if (PW.pt (pw_and (pt_val (pe_callB (call_isiX K) rfl T.isinstance (by decide +kernel) (pa_cons (pv 1) (pa_cons (pe_gref rfl mNF) pa_nil)))) (pw_and1 (pt_not (pt_val (pe_callB (call_isiX K) rfl T.isinstance (by decide +kernel) (pa_cons (pv 1) (pa_cons (pe_gref rfl mNM) pa_nil)))))))) (pss_one (ps_ret (pe_lst (pa_cons pe_str (pa_cons (pe_xget (pv 1) rfl) pa_nil))))) pss_nil)
    (pss_one (ps_ret (pe_lst (pa_cons pe_str pa_nil)))))))))))), ?_⟩
  simp only [tIfS, tAnd, tOr, tNot, tB, tVar, tTest, tOp, tC, tUn, tCB, tCons, tNil, rI0, rI, rU, rNe, rEq, scal, rAppend, tBM, tDrop, tSeq, tAsg, gName, tRet, tNext, List.set_cons_zero, List.set_cons_succ, List.getElem?_cons_zero, List.getElem?_cons_succ, Option.some.injEq, V.int.injEq, V.bl.injEq, V.ref.injEq, V.str.injEq, exists_eq_left', exists_eq_left, exists_and_left, List.cons.injEq, and_true, true_and, and_assoc, exists_const, L2.start, List.map_cons, List.map_nil, List.length_cons, List.length_nil, List.replicate_succ, List.replicate_zero, List.cons_append, List.nil_append, List.append_nil, Nat.reduceAdd, Nat.reduceSub, tFor_eq, tComp_eq, tWhile_eq, tChain, tAug, ipI, rIxS, rSlS, rLower, rIndex, rPop, rCat, tBM0, gSub, rSetL, tSl, tPart, tNoPart, rSlL, tCall, tLst, tTup, iRng1, iRng2, iRng3, iList, iEnum, gTup, gCons, gNil, rIxL, rIxT, tYes, tAndV, tOrV, tNotV, tIf, tTest, exists_eq', List.ne_cons_self, reduceCtorEq, if_true, if_false, and_false, false_and, tTry, tMakeT]
  refine ⟨fun σ' e H' => σ' = [some (.ref a), some .non, none, none] ∧ ∃ (b : Bool) (k : Nat) (dx : Addr), mw (-1) 0 ms = some (b, k) ∧ Same H H' ∧ H e = none ∧ H' e = some (XO e (.ref (if b then NM else NF)) (some dx)) ∧ H' dx = some (.xd [("place", .int (k : Int))]), fun x dx hx hdx hne => ?_, ?_⟩
  · refine ⟨fun v _ H' => ∃ e, v = .ref e ∧ ∃ (b : Bool) (k : Nat) (dx : Addr), mw (-1) 0 ms = some (b, k) ∧ Same H H' ∧ H e = none ∧ H' e = some (XO e (.ref (if b then NM else NF)) (some dx)) ∧ H' dx = some (.xd [("place", .int (k : Int))]), ⟨H, x, dx, a, ms, xs, rfl, (same_new hdx _).newer hx _, hx, upd_same, ha, hD, by have := hfit.1; omega, fun m hm => ⟨(hfit.2 m hm).1, fun y hy => ?_⟩, ?_⟩, ?_⟩
    · obtain ⟨b1, b2, b3⟩ := (hfit.2 m hm).2 y hy
      exact ⟨by omega, by omega, b3⟩
    · cases hw : mw (-1) 0 ms with
      | none =>
        intro H' sH'
        refine ⟨rfl, ?_⟩
        rw [if_pos (by decide)]
        exact ⟨by decide, fun p hp => q p _ (sH'.trans (same_new hp _)) (sH'.free hp) (by rw [hw]; exact upd_same)⟩
      | some bk =>
        obtain ⟨b, k⟩ := bk
        cases b with
        | true => exact fun e dx' H' sH' he hH' hdx' => ⟨e, rfl, true, k, dx', rfl, sH', he, hH', hdx'⟩
        | false => exact fun e dx' H' sH' he hH' hdx' => ⟨e, rfl, false, k, dx', rfl, sH', he, hH', hdx'⟩
    · rintro e H' ⟨e', he', h⟩
      cases he'
      exact ⟨rfl, h⟩
  · rintro σ' e Cv dx H' ⟨rfl, b, k, dx', hw, sH, he0, hH, hdx⟩ hC
    have hh := Option.some.inj (hH.symm.trans hC)
    have hcv : Cv = .ref (if b then NM else NF) := (XO_inj hh).1.symm
    have kC : XKit K FE NF NM NB ND NL NP NQ NS NT (if b then NM else NF) b := by
      cases b
      · exact kF
      · exact kM
    generalize (if b then NM else NF) = Cc at hcv kC hH
    refine ⟨Cc, hcv, kC.fe, ?_⟩
    simp only [tIfS, tAnd, tOr, tNot, tB, tVar, tTest, tOp, tC, tUn, tCB, tCons, tNil, rI0, rI, rU, rNe, rEq, scal, rAppend, tBM, tDrop, tSeq, tAsg, gName, tRet, tNext, List.set_cons_zero, List.set_cons_succ, List.getElem?_cons_zero, List.getElem?_cons_succ, Option.some.injEq, V.int.injEq, V.bl.injEq, V.ref.injEq, V.str.injEq, exists_eq_left', exists_eq_left, exists_and_left, List.cons.injEq, and_true, true_and, and_assoc, exists_const, L2.start, List.map_cons, List.map_nil, List.length_cons, List.length_nil, List.replicate_succ, List.replicate_zero, List.cons_append, List.nil_append, List.append_nil, Nat.reduceAdd, Nat.reduceSub, tFor_eq, tComp_eq, tWhile_eq, tChain, tAug, ipI, rIxS, rSlS, rLower, rIndex, rPop, rCat, tBM0, gSub, rSetL, tSl, tPart, tNoPart, rSlL, tCall, tLst, tTup, iRng1, iRng2, iRng3, iList, iEnum, gTup, gCons, gNil, rIxL, rIxT, tYes, tAndV, tOrV, tNotV, tIf, tTest, exists_eq', List.ne_cons_self, reduceCtorEq, if_true, if_false, and_false, false_and]
    rw [if_neg (by decide)]
    have ty : ∀ L, Same H' L → TyX K L (.ref e) (.ref Cc) := fun L sL => .inr ⟨e, Cc, some dx', rfl, rfl, sL _ _ hH, fun u hu => ⟨_, sL _ _ (by cases hu; exact hdx)⟩, kC.xa⟩
    have t0 := ty H' (Same.refl _)
    refine ⟨_, t0, _, .inl kC.nb, _, t0, _, .inl kC.nd, _, t0, _, .inl kC.nl, by decide, fun p hp => ⟨⟨_, SqL.of upd_same⟩, ?_⟩⟩
    refine forW_list [.bl false, .bl false, .bl false] (invOt (upd H' p (.lst [.bl false, .bl false, .bl false])) a e) ⟨_, rfl, rfl⟩ ?_ ?_ ?_
    · rintro i σ L hi ⟨v3, rfl, rfl⟩
      exact SqL.of upd_same
    · rintro i y σ L hy ⟨v3, rfl, rfl⟩
      have ey : y = .bl false := by
        have := List.mem_of_getElem? hy
        simpa using this
      subst ey
      simp only [tIfS, tAnd, tOr, tNot, tB, tVar, tTest, tOp, tC, tUn, tCB, tCons, tNil, rI0, rI, rU, rNe, rEq, scal, rAppend, tBM, tDrop, tSeq, tAsg, gName, tRet, tNext, List.set_cons_zero, List.set_cons_succ, List.getElem?_cons_zero, List.getElem?_cons_succ, Option.some.injEq, V.int.injEq, V.bl.injEq, V.ref.injEq, V.str.injEq, exists_eq_left', exists_eq_left, exists_and_left, List.cons.injEq, and_true, true_and, and_assoc, exists_const, L2.start, List.map_cons, List.map_nil, List.length_cons, List.length_nil, List.replicate_succ, List.replicate_zero, List.cons_append, List.nil_append, List.append_nil, Nat.reduceAdd, Nat.reduceSub, tFor_eq, tComp_eq, tWhile_eq, tChain, tAug, ipI, rIxS, rSlS, rLower, rIndex, rPop, rCat, tBM0, gSub, rSetL, tSl, tPart, tNoPart, rSlL, tCall, tLst, tTup, iRng1, iRng2, iRng3, iList, iEnum, gTup, gCons, gNil, rIxL, rIxT, tYes, tAndV, tOrV, tNotV, tIf, tTest, exists_eq', List.ne_cons_self, reduceCtorEq, if_true, if_false, and_false, false_and]
      exact ⟨_, rfl, rfl⟩
    · rintro σ L ⟨v3, rfl, rfl⟩
      have s1 := same_new hp (.lst [.bl false, .bl false, .bl false])
      have t1 := ty _ s1
      simp only [tIfS, tAnd, tOr, tNot, tB, tVar, tTest, tOp, tC, tUn, tCB, tCons, tNil, rI0, rI, rU, rNe, rEq, scal, rAppend, tBM, tDrop, tSeq, tAsg, gName, tRet, tNext, List.set_cons_zero, List.set_cons_succ, List.getElem?_cons_zero, List.getElem?_cons_succ, Option.some.injEq, V.int.injEq, V.bl.injEq, V.ref.injEq, V.str.injEq, exists_eq_left', exists_eq_left, exists_and_left, List.cons.injEq, and_true, true_and, and_assoc, exists_const, L2.start, List.map_cons, List.map_nil, List.length_cons, List.length_nil, List.replicate_succ, List.replicate_zero, List.cons_append, List.nil_append, List.append_nil, Nat.reduceAdd, Nat.reduceSub, tFor_eq, tComp_eq, tWhile_eq, tChain, tAug, ipI, rIxS, rSlS, rLower, rIndex, rPop, rCat, tBM0, gSub, rSetL, tSl, tPart, tNoPart, rSlL, tCall, tLst, tTup, iRng1, iRng2, iRng3, iList, iEnum, gTup, gCons, gNil, rIxL, rIxT, tYes, tAndV, tOrV, tNotV, tIf, tTest, exists_eq', List.ne_cons_self, reduceCtorEq, if_true, if_false, and_false, false_and]
      refine ⟨_, t1, _, .inl kC.np, _, t1, _, .inl kC.nq, _, t1, _, .inl kC.ns, by decide, fun p2 hp2 => ⟨⟨_, SqL.of upd_same⟩, ?_⟩⟩
      refine forW_list [.bl false, .bl false, .bl false] (invOt (upd (upd H' p (.lst [.bl false, .bl false, .bl false])) p2 (.lst [.bl false, .bl false, .bl false])) a e) ⟨_, rfl, rfl⟩ ?_ ?_ ?_
      · rintro i σ L hi ⟨v3, rfl, rfl⟩
        exact SqL.of upd_same
      · rintro i y σ L hy ⟨v3, rfl, rfl⟩
        have ey : y = .bl false := by
          have := List.mem_of_getElem? hy
          simpa using this
        subst ey
        simp only [tIfS, tAnd, tOr, tNot, tB, tVar, tTest, tOp, tC, tUn, tCB, tCons, tNil, rI0, rI, rU, rNe, rEq, scal, rAppend, tBM, tDrop, tSeq, tAsg, gName, tRet, tNext, List.set_cons_zero, List.set_cons_succ, List.getElem?_cons_zero, List.getElem?_cons_succ, Option.some.injEq, V.int.injEq, V.bl.injEq, V.ref.injEq, V.str.injEq, exists_eq_left', exists_eq_left, exists_and_left, List.cons.injEq, and_true, true_and, and_assoc, exists_const, L2.start, List.map_cons, List.map_nil, List.length_cons, List.length_nil, List.replicate_succ, List.replicate_zero, List.cons_append, List.nil_append, List.append_nil, Nat.reduceAdd, Nat.reduceSub, tFor_eq, tComp_eq, tWhile_eq, tChain, tAug, ipI, rIxS, rSlS, rLower, rIndex, rPop, rCat, tBM0, gSub, rSetL, tSl, tPart, tNoPart, rSlL, tCall, tLst, tTup, iRng1, iRng2, iRng3, iList, iEnum, gTup, gCons, gNil, rIxL, rIxT, tYes, tAndV, tOrV, tNotV, tIf, tTest, exists_eq', List.ne_cons_self, reduceCtorEq, if_true, if_false, and_false, false_and]
        exact ⟨_, rfl, rfl⟩
      · rintro σ L ⟨v3, rfl, rfl⟩
        have s2 := s1.trans (same_new hp2 (.lst [.bl false, .bl false, .bl false]))
        have t2 := ty _ s2
        have sH2 := sH.trans s2
        generalize upd (upd H' p (.lst [.bl false, .bl false, .bl false])) p2 (.lst [.bl false, .bl false, .bl false]) = M at s2 t2 sH2 ⊢
        simp only [tIfS, tAnd, tOr, tNot, tB, tVar, tTest, tOp, tC, tUn, tCB, tCons, tNil, rI0, rI, rU, rNe, rEq, scal, rAppend, tBM, tDrop, tSeq, tAsg, gName, tRet, tNext, List.set_cons_zero, List.set_cons_succ, List.getElem?_cons_zero, List.getElem?_cons_succ, Option.some.injEq, V.int.injEq, V.bl.injEq, V.ref.injEq, V.str.injEq, exists_eq_left', exists_eq_left, exists_and_left, List.cons.injEq, and_true, true_and, and_assoc, exists_const, L2.start, List.map_cons, List.map_nil, List.length_cons, List.length_nil, List.replicate_succ, List.replicate_zero, List.cons_append, List.nil_append, List.append_nil, Nat.reduceAdd, Nat.reduceSub, tFor_eq, tComp_eq, tWhile_eq, tChain, tAug, ipI, rIxS, rSlS, rLower, rIndex, rPop, rCat, tBM0, gSub, rSetL, tSl, tPart, tNoPart, rSlL, tCall, tLst, tTup, iRng1, iRng2, iRng3, iList, iEnum, gTup, gCons, gNil, rIxL, rIxT, tYes, tAndV, tOrV, tNotV, tIf, tTest, exists_eq', List.ne_cons_self, reduceCtorEq, if_true, if_false, and_false, false_and, tXget]
        have hHM := s2 _ _ hH
        have hdM := s2 _ _ hdx
        have fin : ∀ (z : Str) (p3 : Addr), M p3 = none → dueV (mw (-1) 0 ms) = [.str z, .int (k : Int)] → Q (.ref p3) (upd M p3 (.lst [.str z, .int (k : Int)])) := fun z p3 hp3 ed => q p3 _ (sH2.trans (same_new hp3 _)) (sH2.free hp3) (by rw [ed]; exact upd_same)
        refine ⟨_, t2, _, .inl kC.nt, ?_⟩
        rw [if_neg (by decide)]
        refine ⟨_, t2, _, .inr ⟨_, rfl, kC.ve⟩, ?_⟩
        rw [if_neg (by decide)]
        refine ⟨_, t2, _, .inl kC.nm, ?_⟩
        cases b with
        | true =>
          rw [if_pos rfl]
          refine ⟨_, t2, _, .inl kC.nf, ?_⟩
          rw [if_pos (by decide)]
          exact ⟨Cc, dx', hHM, _, hdM, kC.xa, kC.pl, _, rfl, by decide, fun p3 hp3 => fin "make" p3 hp3 (by rw [hw]; rfl)⟩
        | false =>
          rw [if_neg (by decide)]
          refine ⟨_, t2, _, .inl kC.nf, ?_⟩
          rw [if_pos (by decide)]
          refine ⟨_, t2, _, .inl kC.nm, ?_⟩
          rw [if_pos (by decide)]
          exact ⟨Cc, dx', hHM, _, hdM, kC.xa, kC.pl, _, rfl, by decide, fun p3 hp3 => fin "field" p3 hp3 (by rw [hw]; rfl)⟩
end
end K7

namespace K7
open PySem L2 KW
section
variable {P : Program} {w : World} {K : PySem.W.Frag} {mg : Str → Option Value} {base : Heap} {f : Addr} {fd : FuncData}
theorem scBe : FnScope ["_law_makes_here", "_law_cell", "_law_found", "_law_at", "_law_make", "_law_document_here", "_law_way"] ["_law_makes_here", "_law_cell"] (defScope sBent) := ⟨rfl, rfl, rfl, by decide +kernel, rfl, by decide +kernel, by decide +kernel⟩
theorem seq_inv {a b : TS} {D : Ends} {σ : St} {H : Hp} (Iv : St → Hp → Prop) (hb : ∀ σ' H', Iv σ' H' → b D σ' H') (ha : ∀ N : St → Hp → Prop, (∀ σ' H', Iv σ' H' → N σ' H') → a { D with nx := N } σ H) : tSeq a b D σ H := ha (b D) hb
theorem la7 : ("a" : Str).length ≤ 200 ∧ Asc "a" := by unfold Asc; decide +kernel
theorem cut1 (xs : List V) : cutV xs none (some 1) = xs.take 1 := by
  cases xs with
  | nil => rfl
  | cons x r =>
    unfold cutV
    have e : HT.sIx (x :: r).length (x :: r).length (some 1) = 1 := by
      unfold HT.sIx
      simp
    rw [e]
    rfl
theorem deep1 {H : Hp} : ∀ (d : List Fld) (xs : List V), DeepTs H (d.map dvF) xs → DeepTs H ((d.take 1).map dvF) (xs.take 1)
  | [], xs, h => by
    rw [List.map_nil, DeepTs] at h
    subst h
    exact DeepTs.nil
  | x :: r, xs, h => by
    rw [List.map_cons, DeepTs] at h
    obtain ⟨y, ys, rfl, hy, _⟩ := h
    exact DeepTs.one hy
theorem deep_set {H : Hp} {e : DV} {v : V} (hv : DeepT H e v) : ∀ (ds : List DV) (xs : List V) (j : Nat), DeepTs H ds xs → DeepTs H (ds.set j e) (xs.set j v)
  | [], xs, j, h => by
    rw [DeepTs] at h
    subst h
    exact DeepTs.nil
  | d :: ds, xs, 0, h => by
    rw [DeepTs] at h
    obtain ⟨y, ys, rfl, hy, ht⟩ := h
    show DeepTs H (e :: ds) (v :: ys)
    rw [DeepTs]
    exact ⟨_, _, rfl, hv, ht⟩
  | d :: ds, xs, j + 1, h => by
    rw [DeepTs] at h
    obtain ⟨y, ys, rfl, hy, ht⟩ := h
    show DeepTs H (d :: ds.set j e) (y :: ys.set j v)
    rw [DeepTs]
    exact ⟨_, _, rfl, hy, deep_set hv ds ys j ht⟩
theorem dvF_of {H : Hp} {p : Addr} {y : Fld} (h : H p = some (.tup [.str y.1, .str y.2])) : DeepT H (dvF y) (.ref p) := by
  rw [dvF, DeepT]
  exact ⟨p, _, rfl, h, by rw [DeepTs]; exact ⟨_, _, rfl, by rw [DeepT], by rw [DeepTs]; exact ⟨_, _, rfl, by rw [DeepT], by rw [DeepTs]⟩⟩⟩
def invRv (M1 : Hp) (d : List Fld) (i : Nat) (ys : List V) (σ : St) (L : Hp) : Prop := ∃ v0 : Option V, σ = [v0] ∧ L = M1 ∧ DeepTs M1 ((d.reverse.take i).map dvF) ys
def spBent : Sp := fun vs H Q _ => ∃ (a : Addr) (c : Int) (n : Nat) (ms : List Mk) (xs : List V), vs = [.ref a, .int c] ∧ H a = some (.lst xs) ∧ DeepTs H (ms.map dvM) xs ∧ Fits n ms ∧ n ≤ 15 ∧
  ∀ (ms' : List Mk) (r : Addr) (ys : List V) (H' : Hp), Fits (n + 5) ms' → Same H H' → H r = none → H' r = some (.lst ys) → DeepTs H' (ms'.map dvM) ys → Q (.ref r) H'
/-- behind each way: a make and its document -/
def PB (H1 : Hp) (a fo : Addr) (c t : Int) (v6 : Option V) (m : Nat) (σ : St) (L : Hp) : Prop := ∃ (mk : Int) (b : Addr) (d : List Fld) (zs : List V), σ = [some (.ref a), some (.int c), some (.ref fo), some (.int t), some (.int mk), some (.ref b), v6] ∧ Same H1 L ∧ L b = some (.lst zs) ∧ DeepTs L (d.map dvF) zs ∧ d.length ≤ m ∧ b ≠ fo ∧ ∀ y ∈ d, y.1.length ≤ 20 ∧ y.2.length ≤ 200 ∧ Asc y.2
theorem pss_o {X : Cx} {st : Stmt} {t : TS} (h : PS X st t) : PSs X [st] t := pss_one h
theorem ps_way2 {X : Cx} {K : PySem.W.Frag} {x z : Str} {i tk ka : Nat} {es : List Expr} {zs : List Str} {IX : Expr} {tix : TE} {pos pos' pl sp pa tp lp np bp : Pos} (hK : X.K = K) (hN : X.N.Nodup) (hi : X.N[i]? = some x) (hx : Loc X.env.scope x) (hf : X.fn x = true ∨ X.env.scope.names.lookup x = some .local) (hz : strsC es = some zs) (hix : PE X IX tix) (hns : NoSl IX) (hv : PE X (.Name x np) (tVar i)) :
    PS X (.Assign [.Name x pos'] (.BinOp (.List [.Tuple [.Subscript (.List es pl) IX sp, .Constant (.str z) ka pa] tk tp] lp) .Add (.Name x np) bp) pos)
      (tAsg (tOp rCat (tLst (tCons (tTup (tCons (tOp (rIxL K) (tLst (fun _ H Q => Q (zs.map V.str) H)) tix) (tCons (tC (.str z)) tNil))) tNil)) (tVar i)) (gName i)) := by
  subst hK
  exact ps_set hN hi hx (pe_op op_cat (pe_lst (pa_cons (pe_tup (pa_cons (pe_ix (ixL X.K) (pe_lst (pa_strs hz)) hix hns) (pa_cons pe_str pa_nil))) pa_nil)) hv) rfl hf
theorem ps_way3 {X : Cx} {K : PySem.W.Frag} {x z : Str} {i tk ka : Nat} {es : List Expr} {zs : List Str} {IX : Expr} {tix : TE} {pos pos' pl sp pa tp lp np bp : Pos} (hK : X.K = K) (hN : X.N.Nodup) (hi : X.N[i]? = some x) (hx : Loc X.env.scope x) (hf : X.fn x = true ∨ X.env.scope.names.lookup x = some .local) (hz : strsC es = some zs) (hix : PE X IX tix) (hns : NoSl IX) (hv : PE X (.Name x np) (tVar i)) :
    PS X (.Assign [.Name x pos'] (.BinOp (.Name x np) .Add (.List [.Tuple [.Subscript (.List es pl) IX sp, .Constant (.str z) ka pa] tk tp] lp) bp) pos)
      (tAsg (tOp rCat (tVar i) (tLst (tCons (tTup (tCons (tOp (rIxL K) (tLst (fun _ H Q => Q (zs.map V.str) H)) tix) (tCons (tC (.str z)) tNil))) tNil))) (gName i)) := by
  subst hK
  exact ps_set hN hi hx (pe_op op_cat hv (pe_lst (pa_cons (pe_tup (pa_cons (pe_ix (ixL X.K) (pe_lst (pa_strs hz)) hix hns) (pa_cons pe_str pa_nil))) pa_nil))) rfl hf
theorem ok_bent (F : Fun K "_law_bent" "_law_bent" sBent f fd) (T : Txt mg) : FnOk P w K mg base CX0 1 f fd ["_law_makes_here", "_law_cell"] spBent := by
  refine F.ok scBe (fun vs H Q E h => ?_) (fun cdv A outer s H vs Q E hr h => ?_)
  · obtain ⟨a, c, n, ms, xs, rfl, _⟩ := h
    rfl
  obtain ⟨a, c, n, ms, xs, rfl, ha, hD, hfit, hn, q⟩ := h
  refine ⟨_, (pss_cons (ps_set (i := 2) scBe.nd rfl (Or.inl rfl) (pe_callTy (lstK K) rfl T.list PyProof.Rows.boot_list (pa_cons (pv 0) pa_nil)))
    (pss_cons (ps_if (pt_cmpR (op_eqE K hr) (pv 2) (pe_lst pa_nil) (nomark _)) (pss_one (ps_ret (pv 2))) pss_nil)
    (pss_cons (ps_set (i := 3) scBe.nd rfl (Or.inl rfl) (pe_op op_mod (pe_op op_fdiv (pv 1) pe_int) (pe_callB (lenK K) rfl T.len PySem.boot_len (pa_cons (pv 2) pa_nil))))
    (pss_cons (ps_asg (pe_ix (ixL K) (pv 2) (pv 3) (fun _ _ => rfl)) (pgT K (n := 2) rfl (pgs_cons (pg_name (i := 4) scBe.nd rfl (Or.inl rfl)) (pgs_cons (pg_name (i := 5) scBe.nd rfl (Or.inl rfl)) pgs_nil))))
    (pss_cons (ps_set (i := 6) scBe.nd rfl (Or.inl rfl) (pe_op op_mod (pv 1) pe_int))
    (pss_cons (ps_if (pt_cmpR op_eq (pv 6) pe_int (nomark _)) (pss_one (ps_set (i := 4) scBe.nd rfl (Or.inl rfl) (pe_op op_sub (pe_un un_neg pe_int) (pe_op op_mod (pe_op op_fdiv (pv 1) pe_int) (pe_op op_pow pe_int pe_int))))) pss_nil)
    (pss_cons (ps_if (pt_cmpR op_eq (pv 6) pe_int (nomark _)) (pss_one (ps_set (i := 4) scBe.nd rfl (Or.inl rfl) (pe_op op_sub (pe_op op_sub (pv 4) pe_int) (pe_op op_mod (pe_op op_fdiv (pv 1) pe_int) pe_int)))) pss_nil)
    (pss_cons (ps_if (pt_cmpR op_eq (pv 6) pe_int (nomark _)) (@pss_o _ _ _ (@ps_way2 _ _ _ _ 5 _ _ _ _ _ _ _ _ _ _ _ _ _ _ _ rfl scBe.nd rfl (Or.inl rfl) (.inl rfl) rfl (pe_op op_mod (pe_op op_fdiv (pv 1) pe_int) pe_int) (fun _ _ => rfl) (pv 5))) pss_nil)
    (pss_cons (ps_if (pt_cmpR op_eq (pv 6) pe_int (nomark _)) (@pss_o _ _ _ (@ps_way3 _ _ _ _ 5 _ _ _ _ _ _ _ _ _ _ _ _ _ _ _ rfl scBe.nd rfl (Or.inl rfl) (.inl rfl) rfl (pe_op op_mod (pe_op op_fdiv (pv 1) pe_int) pe_int) (fun _ _ => rfl) (pv 5))) pss_nil)
    (pss_cons (ps_if (pt_cmpR op_eq (pv 6) pe_int (nomark _)) (pss_one (ps_set (i := 5) scBe.nd rfl (Or.inl rfl) (pe_op op_cat (pv 5) (pe_slice (slL K) (pv 5) po_none (po_some pe_int))))) pss_nil)
    (pss_cons (ps_if (pt_cmpR op_eq (pv 6) pe_int (nomark _)) (pss_one (ps_setC (i := 5) scBe.nd rfl rfl (N := ["_law_one"]) (pick := [none]) (NX := ["_law_makes_here", "_law_cell", "_law_found", "_law_at", "_law_make", "_law_document_here", "_law_way"]) (sX := defScope sBent) (by decide +kernel) rfl rfl rfl (pi_rev rfl T.reversed (pa_cons (pv 5) pa_nil))
        (fun _ _ _ _ => (pg_name (i := 0) (by decide +kernel : (["_law_one"] : List Str).Nodup) rfl (Or.inl rfl))) (fun _ _ _ _ => pifs_nil) (fun _ _ _ _ => (pv 0)))) pss_nil)
    (pss_cons (ps_if (pt_cmpR op_eq (pv 6) pe_int (nomark _)) (pss_one (ps_set (i := 5) scBe.nd rfl (Or.inl rfl) (pe_op op_cat (pe_slice (slL K) (pv 5) po_none (po_some pe_int)) (pv 5)))) pss_nil)
    (pss_cons (ps_asg (pe_tup (pa_cons (pv 4) (pa_cons (pv 5) pa_nil))) (pg_sub (pv 2) (pv 3) set_list))
    (pss_one (ps_ret (pv 2)))))))))))))))), ?_⟩
  refine seq_inv (fun σ L => ∃ fo, σ = [some (.ref a), some (.int c), some (.ref fo), none, none, none, none] ∧ H fo = none ∧ Same H L ∧ L fo = some (.lst xs)) ?_ (fun N hN => ?_)
  rotate_left
  · simp only [tIfS, tAnd, tOr, tNot, tB, tVar, tTest, tOp, tC, tUn, tCB, tCons, tNil, rI0, rI, rU, rNe, rEq, scal, rAppend, tBM, tDrop, tSeq, tAsg, gName, tRet, tNext, List.set_cons_zero, List.set_cons_succ, List.getElem?_cons_zero, List.getElem?_cons_succ, Option.some.injEq, V.int.injEq, V.bl.injEq, V.ref.injEq, V.str.injEq, exists_eq_left', exists_eq_left, exists_and_left, List.cons.injEq, and_true, true_and, and_assoc, exists_const, L2.start, List.map_cons, List.map_nil, List.length_cons, List.length_nil, List.replicate_succ, List.replicate_zero, List.cons_append, List.nil_append, List.append_nil, Nat.reduceAdd, Nat.reduceSub, tFor_eq, tComp_eq, tWhile_eq, tChain, tAug, ipI, rIxS, rSlS, rLower, rIndex, rPop, rCat, tBM0, gSub, rSetL, tSl, tPart, tNoPart, rSlL, tCall, tLst, tTup, iRng1, iRng2, iRng3, iList, iEnum, gTup, gCons, gNil, rIxL, rIxT, tYes, tAndV, tOrV, tNotV, tIf, tTest, exists_eq', List.ne_cons_self, reduceCtorEq, if_true, if_false, and_false, false_and]
    exact ⟨_, .inl (SqL.of ha), fun l hl => hN _ _ ⟨l, rfl, hl, same_new hl _, upd_same⟩⟩
  rintro σ L ⟨fo, rfl, hfo, sL, hf⟩
  have xl : xs.length = ms.length := by have := hD.length; rwa [List.length_map] at this
  have hD1 := DeepTs.same sL _ _ hD
  refine seq_inv (fun σ' L' => ∃ w, σ' = [some (.ref a), some (.int c), some (.ref fo), none, none, none, none] ∧ L' = upd L w (.lst []) ∧ L w = none ∧ xs ≠ []) ?_ (fun N hN => ?_)
  rotate_left
  · simp only [tIfS, tAnd, tOr, tNot, tB, tVar, tTest, tOp, tC, tUn, tCB, tCons, tNil, rI0, rI, rU, rNe, rEq, scal, rAppend, tBM, tDrop, tSeq, tAsg, gName, tRet, tNext, List.set_cons_zero, List.set_cons_succ, List.getElem?_cons_zero, List.getElem?_cons_succ, Option.some.injEq, V.int.injEq, V.bl.injEq, V.ref.injEq, V.str.injEq, exists_eq_left', exists_eq_left, exists_and_left, List.cons.injEq, and_true, true_and, and_assoc, exists_const, L2.start, List.map_cons, List.map_nil, List.length_cons, List.length_nil, List.replicate_succ, List.replicate_zero, List.cons_append, List.nil_append, List.append_nil, Nat.reduceAdd, Nat.reduceSub, tFor_eq, tComp_eq, tWhile_eq, tChain, tAug, ipI, rIxS, rSlS, rLower, rIndex, rPop, rCat, tBM0, gSub, rSetL, tSl, tPart, tNoPart, rSlL, tCall, tLst, tTup, iRng1, iRng2, iRng3, iList, iEnum, gTup, gCons, gNil, rIxL, rIxT, tYes, tAndV, tOrV, tNotV, tIf, tTest, exists_eq', List.ne_cons_self, reduceCtorEq, if_true, if_false, and_false, false_and]
    refine ⟨by decide, fun p hp => ⟨xs, SqL.of (same_new hp _ _ _ hf), SqL.of upd_same, ite2 (fun c1 => ?_) (fun c1 => hN _ _ ⟨p, rfl, rfl, hp, fun z => c1 (by rw [z]; rfl)⟩)⟩⟩
    exact q ms fo xs _ ⟨hfit.1, fun m hm => ⟨by have := (hfit.2 m hm).1; omega, (hfit.2 m hm).2⟩⟩ (sL.trans (same_new hp _)) hfo (same_new hp _ _ _ hf) (DeepTs.same (same_new hp _) _ _ hD1)
  rintro σ L' ⟨w0, rfl, rfl, hw0, hne⟩
  have sW := same_new hw0 (.lst [])
  have hfW := sW _ _ hf
  have sLW := sL.trans sW
  have hDW := DeepTs.same sW _ _ hD1
  generalize upd L w0 (.lst []) = M at sW hfW sLW hDW
  have hpos : 0 < xs.length := List.length_pos_iff.mpr hne
  have t0 := Int.emod_nonneg (c / 8) (show (xs.length : Int) ≠ 0 by omega)
  have t1 := Int.emod_lt_of_pos (c / 8) (show (0 : Int) < (xs.length : Int) by omega)
  refine seq_inv (fun σ' L' => σ' = [some (.ref a), some (.int c), some (.ref fo), some (.int (c / 8 % (xs.length : Int))), none, none, none] ∧ L' = M) ?_ (fun N hN => ?_)
  rotate_left
  · simp only [tIfS, tAnd, tOr, tNot, tB, tVar, tTest, tOp, tC, tUn, tCB, tCons, tNil, rI0, rI, rU, rNe, rEq, scal, rAppend, tBM, tDrop, tSeq, tAsg, gName, tRet, tNext, List.set_cons_zero, List.set_cons_succ, List.getElem?_cons_zero, List.getElem?_cons_succ, Option.some.injEq, V.int.injEq, V.bl.injEq, V.ref.injEq, V.str.injEq, exists_eq_left', exists_eq_left, exists_and_left, List.cons.injEq, and_true, true_and, and_assoc, exists_const, L2.start, List.map_cons, List.map_nil, List.length_cons, List.length_nil, List.replicate_succ, List.replicate_zero, List.cons_append, List.nil_append, List.append_nil, Nat.reduceAdd, Nat.reduceSub, tFor_eq, tComp_eq, tWhile_eq, tChain, tAug, ipI, rIxS, rSlS, rLower, rIndex, rPop, rCat, tBM0, gSub, rSetL, tSl, tPart, tNoPart, rSlL, tCall, tLst, tTup, iRng1, iRng2, iRng3, iList, iEnum, gTup, gCons, gNil, rIxL, rIxT, tYes, tAndV, tOrV, tNotV, tIf, tTest, exists_eq', List.ne_cons_self, reduceCtorEq, if_true, if_false, and_false, false_and]
    exact ⟨⟨by decide, by decide⟩, xs, .inl (SqL.of hfW), by omega, hN _ _ ⟨rfl, rfl⟩⟩
  rintro σ L' ⟨rfl, rfl⟩
  generalize c / 8 % (xs.length : Int) = t at t0 t1 ⊢
  refine seq_inv (PB L' a fo c t none n) ?_ (fun N hN => ?_)
  rotate_left
  · obtain ⟨v, hv, hv'⟩ := atI_of t0 t1
    obtain ⟨dv, h1, h2⟩ := hD.get hv'
    rw [List.getElem?_map] at h1
    obtain ⟨x, hx, rfl⟩ := Option.map_eq_some_iff.mp h1
    obtain ⟨b, b2, zs, rfl, hb, hb2, hz⟩ := dvM_at h2
    simp only [tIfS, tAnd, tOr, tNot, tB, tVar, tTest, tOp, tC, tUn, tCB, tCons, tNil, rI0, rI, rU, rNe, rEq, scal, rAppend, tBM, tDrop, tSeq, tAsg, gName, tRet, tNext, List.set_cons_zero, List.set_cons_succ, List.getElem?_cons_zero, List.getElem?_cons_succ, Option.some.injEq, V.int.injEq, V.bl.injEq, V.ref.injEq, V.str.injEq, exists_eq_left', exists_eq_left, exists_and_left, List.cons.injEq, and_true, true_and, and_assoc, exists_const, L2.start, List.map_cons, List.map_nil, List.length_cons, List.length_nil, List.replicate_succ, List.replicate_zero, List.cons_append, List.nil_append, List.append_nil, Nat.reduceAdd, Nat.reduceSub, tFor_eq, tComp_eq, tWhile_eq, tChain, tAug, ipI, rIxS, rSlS, rLower, rIndex, rPop, rCat, tBM0, gSub, rSetL, tSl, tPart, tNoPart, rSlL, tCall, tLst, tTup, iRng1, iRng2, iRng3, iList, iEnum, gTup, gCons, gNil, rIxL, rIxT, tYes, tAndV, tOrV, tNotV, tIf, tTest, exists_eq', List.ne_cons_self, reduceCtorEq, if_true, if_false, and_false, false_and]
    refine ⟨_, SqL.of hfW, _, hv, ?_⟩
    simp only [tIfS, tAnd, tOr, tNot, tB, tVar, tTest, tOp, tC, tUn, tCB, tCons, tNil, rI0, rI, rU, rNe, rEq, scal, rAppend, tBM, tDrop, tSeq, tAsg, gName, tRet, tNext, List.set_cons_zero, List.set_cons_succ, List.getElem?_cons_zero, List.getElem?_cons_succ, Option.some.injEq, V.int.injEq, V.bl.injEq, V.ref.injEq, V.str.injEq, exists_eq_left', exists_eq_left, exists_and_left, List.cons.injEq, and_true, true_and, and_assoc, exists_const, L2.start, List.map_cons, List.map_nil, List.length_cons, List.length_nil, List.replicate_succ, List.replicate_zero, List.cons_append, List.nil_append, List.append_nil, Nat.reduceAdd, Nat.reduceSub, tFor_eq, tComp_eq, tWhile_eq, tChain, tAug, ipI, rIxS, rSlS, rLower, rIndex, rPop, rCat, tBM0, gSub, rSetL, tSl, tPart, tNoPart, rSlL, tCall, tLst, tTup, iRng1, iRng2, iRng3, iList, iEnum, gTup, gCons, gNil, rIxL, rIxT, tYes, tAndV, tOrV, tNotV, tIf, tTest, exists_eq', List.ne_cons_self, reduceCtorEq, if_true, if_false, and_false, false_and]
    have hxm : x ∈ ms := List.mem_of_getElem? hx
    refine ⟨_, SqT.of (sLW _ _ hb), rfl, ?_⟩
    simp only [tIfS, tAnd, tOr, tNot, tB, tVar, tTest, tOp, tC, tUn, tCB, tCons, tNil, rI0, rI, rU, rNe, rEq, scal, rAppend, tBM, tDrop, tSeq, tAsg, gName, tRet, tNext, List.set_cons_zero, List.set_cons_succ, List.getElem?_cons_zero, List.getElem?_cons_succ, Option.some.injEq, V.int.injEq, V.bl.injEq, V.ref.injEq, V.str.injEq, exists_eq_left', exists_eq_left, exists_and_left, List.cons.injEq, and_true, true_and, and_assoc, exists_const, L2.start, List.map_cons, List.map_nil, List.length_cons, List.length_nil, List.replicate_succ, List.replicate_zero, List.cons_append, List.nil_append, List.append_nil, Nat.reduceAdd, Nat.reduceSub, tFor_eq, tComp_eq, tWhile_eq, tChain, tAug, ipI, rIxS, rSlS, rLower, rIndex, rPop, rCat, tBM0, gSub, rSetL, tSl, tPart, tNoPart, rSlL, tCall, tLst, tTup, iRng1, iRng2, iRng3, iList, iEnum, gTup, gCons, gNil, rIxL, rIxT, tYes, tAndV, tOrV, tNotV, tIf, tTest, exists_eq', List.ne_cons_self, reduceCtorEq, if_true, if_false, and_false, false_and]
    exact hN _ _ ⟨x.1, b2, x.2, zs, rfl, Same.refl _, sLW _ _ hb2, DeepTs.same sLW _ _ hz, (hfit.2 x hxm).1, fun z => (by rw [z, hfo] at hb2; cases hb2), (hfit.2 x hxm).2⟩
  rintro σ M1 ⟨mk, b, d, zs, rfl, sM, hb, hd, hdl, hbf, hB⟩
  refine seq_inv (PB L' a fo c t (some (.int (c % 8))) n) ?_ (fun N hN => ?_)
  rotate_left
  · simp only [tIfS, tAnd, tOr, tNot, tB, tVar, tTest, tOp, tC, tUn, tCB, tCons, tNil, rI0, rI, rU, rNe, rEq, scal, rAppend, tBM, tDrop, tSeq, tAsg, gName, tRet, tNext, List.set_cons_zero, List.set_cons_succ, List.getElem?_cons_zero, List.getElem?_cons_succ, Option.some.injEq, V.int.injEq, V.bl.injEq, V.ref.injEq, V.str.injEq, exists_eq_left', exists_eq_left, exists_and_left, List.cons.injEq, and_true, true_and, and_assoc, exists_const, L2.start, List.map_cons, List.map_nil, List.length_cons, List.length_nil, List.replicate_succ, List.replicate_zero, List.cons_append, List.nil_append, List.append_nil, Nat.reduceAdd, Nat.reduceSub, tFor_eq, tComp_eq, tWhile_eq, tChain, tAug, ipI, rIxS, rSlS, rLower, rIndex, rPop, rCat, tBM0, gSub, rSetL, tSl, tPart, tNoPart, rSlL, tCall, tLst, tTup, iRng1, iRng2, iRng3, iList, iEnum, gTup, gCons, gNil, rIxL, rIxT, tYes, tAndV, tOrV, tNotV, tIf, tTest, exists_eq', List.ne_cons_self, reduceCtorEq, if_true, if_false, and_false, false_and]
    exact ⟨by decide, hN _ _ ⟨mk, b, d, zs, rfl, sM, hb, hd, hdl, hbf, hB⟩⟩
  clear hB hbf hdl hd hb sM zs d b mk M1
  generalize c % 8 = wy
  rintro σ M1 ⟨mk, b, d, zs, rfl, sM, hb, hd, hdl, hbf, hB⟩
  refine seq_inv (PB L' a fo c t (some (.int wy)) n) ?_ (fun N hN => ?_)
  rotate_left
  · simp only [tIfS, tAnd, tOr, tNot, tB, tVar, tTest, tOp, tC, tUn, tCB, tCons, tNil, rI0, rI, rU, rNe, rEq, scal, rAppend, tBM, tDrop, tSeq, tAsg, gName, tRet, tNext, List.set_cons_zero, List.set_cons_succ, List.getElem?_cons_zero, List.getElem?_cons_succ, Option.some.injEq, V.int.injEq, V.bl.injEq, V.ref.injEq, V.str.injEq, exists_eq_left', exists_eq_left, exists_and_left, List.cons.injEq, and_true, true_and, and_assoc, exists_const, L2.start, List.map_cons, List.map_nil, List.length_cons, List.length_nil, List.replicate_succ, List.replicate_zero, List.cons_append, List.nil_append, List.append_nil, Nat.reduceAdd, Nat.reduceSub, tFor_eq, tComp_eq, tWhile_eq, tChain, tAug, ipI, rIxS, rSlS, rLower, rIndex, rPop, rCat, tBM0, gSub, rSetL, tSl, tPart, tNoPart, rSlL, tCall, tLst, tTup, iRng1, iRng2, iRng3, iList, iEnum, gTup, gCons, gNil, rIxL, rIxT, tYes, tAndV, tOrV, tNotV, tIf, tTest, exists_eq', List.ne_cons_self, reduceCtorEq, if_true, if_false, and_false, false_and]
    refine ite2 (fun _ => ⟨⟨by decide, by decide⟩, ⟨by decide, by decide, by decide⟩, by decide, hN _ _ ⟨_, b, d, zs, rfl, sM, hb, hd, hdl, hbf, hB⟩⟩) (fun _ => hN _ _ ⟨mk, b, d, zs, rfl, sM, hb, hd, hdl, hbf, hB⟩)
  clear hB hbf hdl hd hb sM zs d b mk M1
  rintro σ M1 ⟨mk, b, d, zs, rfl, sM, hb, hd, hdl, hbf, hB⟩
  refine seq_inv (PB L' a fo c t (some (.int wy)) n) ?_ (fun N hN => ?_)
  rotate_left
  · simp only [tIfS, tAnd, tOr, tNot, tB, tVar, tTest, tOp, tC, tUn, tCB, tCons, tNil, rI0, rI, rU, rNe, rEq, scal, rAppend, tBM, tDrop, tSeq, tAsg, gName, tRet, tNext, List.set_cons_zero, List.set_cons_succ, List.getElem?_cons_zero, List.getElem?_cons_succ, Option.some.injEq, V.int.injEq, V.bl.injEq, V.ref.injEq, V.str.injEq, exists_eq_left', exists_eq_left, exists_and_left, List.cons.injEq, and_true, true_and, and_assoc, exists_const, L2.start, List.map_cons, List.map_nil, List.length_cons, List.length_nil, List.replicate_succ, List.replicate_zero, List.cons_append, List.nil_append, List.append_nil, Nat.reduceAdd, Nat.reduceSub, tFor_eq, tComp_eq, tWhile_eq, tChain, tAug, ipI, rIxS, rSlS, rLower, rIndex, rPop, rCat, tBM0, gSub, rSetL, tSl, tPart, tNoPart, rSlL, tCall, tLst, tTup, iRng1, iRng2, iRng3, iList, iEnum, gTup, gCons, gNil, rIxL, rIxT, tYes, tAndV, tOrV, tNotV, tIf, tTest, exists_eq', List.ne_cons_self, reduceCtorEq, if_true, if_false, and_false, false_and]
    refine ite2 (fun _ => ⟨⟨by decide, by decide⟩, by decide, hN _ _ ⟨_, b, d, zs, rfl, sM, hb, hd, hdl, hbf, hB⟩⟩) (fun _ => hN _ _ ⟨mk, b, d, zs, rfl, sM, hb, hd, hdl, hbf, hB⟩)
  clear hB hbf hdl hd hb sM zs d b mk M1
  rintro σ M1 ⟨mk, b, d, zs, rfl, sM, hb, hd, hdl, hbf, hB⟩
  refine seq_inv (PB L' a fo c t (some (.int wy)) (n + 1)) ?_ (fun N hN => ?_)
  rotate_left
  · simp only [tIfS, tAnd, tOr, tNot, tB, tVar, tTest, tOp, tC, tUn, tCB, tCons, tNil, rI0, rI, rU, rNe, rEq, scal, rAppend, tBM, tDrop, tSeq, tAsg, gName, tRet, tNext, List.set_cons_zero, List.set_cons_succ, List.getElem?_cons_zero, List.getElem?_cons_succ, Option.some.injEq, V.int.injEq, V.bl.injEq, V.ref.injEq, V.str.injEq, exists_eq_left', exists_eq_left, exists_and_left, List.cons.injEq, and_true, true_and, and_assoc, exists_const, L2.start, List.map_cons, List.map_nil, List.length_cons, List.length_nil, List.replicate_succ, List.replicate_zero, List.cons_append, List.nil_append, List.append_nil, Nat.reduceAdd, Nat.reduceSub, tFor_eq, tComp_eq, tWhile_eq, tChain, tAug, ipI, rIxS, rSlS, rLower, rIndex, rPop, rCat, tBM0, gSub, rSetL, tSl, tPart, tNoPart, rSlL, tCall, tLst, tTup, iRng1, iRng2, iRng3, iList, iEnum, gTup, gCons, gNil, rIxL, rIxT, tYes, tAndV, tOrV, tNotV, tIf, tTest, exists_eq', List.ne_cons_self, reduceCtorEq, if_true, if_false, and_false, false_and]
    refine ite2 (fun _ => ⟨by decide, fun p hp => ?_⟩) (fun _ => hN _ _ ⟨mk, b, d, zs, rfl, sM, hb, hd, by omega, hbf, hB⟩)
    obtain ⟨WL, hWL, hl5, hB5⟩ : ∃ WL : List Str, WL.map V.str = [V.str "", V.str "A", V.str "a1", V.str "abcdefghijklm", V.str "-"] ∧ WL.length = 5 ∧ ∀ z ∈ WL, z.length ≤ 20 := ⟨["", "A", "a1", "abcdefghijklm", "-"], rfl, rfl, by decide +kernel⟩
    rw [← hWL]
    obtain ⟨v, hv, hv'⟩ := atI_of (xs := WL.map V.str) (k := c / 64 % 5) (Int.emod_nonneg _ (by decide)) (by rw [List.length_map, hl5]; exact Int.emod_lt_of_pos _ (by decide))
    rw [List.getElem?_map] at hv'
    obtain ⟨y, hy, rfl⟩ := Option.map_eq_some_iff.mp hv'
    have hyl := hB5 y (List.mem_of_getElem? hy)
    refine ⟨⟨by decide, by decide⟩, by decide, _, SqL.of upd_same, _, hv, by decide, fun p1 hp1 => ⟨by decide, fun p2 hp2 => ?_⟩⟩
    have s1 := same_new hp (.lst (WL.map V.str))
    have s2 := s1.trans (same_new hp1 (.tup [.str y, .str "a"]))
    have s3 := s2.trans (same_new hp2 (.lst [.ref p1]))
    have e1 := same_new hp2 (.lst [.ref p1]) _ _ (show (upd (upd M1 p (.lst (WL.map V.str))) p1 (.tup [.str y, .str "a"])) p1 = some (.tup [.str y, .str "a"]) from upd_same)
    have zl : zs.length = d.length := by have := hd.length; rwa [List.length_map] at this
    refine ⟨_, upd_same, _, s3 _ _ hb, small (by simp; omega), fun p3 hp3 => hN _ _ ⟨mk, p3, ((y, "a") : Fld) :: d, _, rfl, (sM.trans s3).trans (same_new hp3 _), upd_same, ?_, by simp; omega, fun z => (by rw [z] at hp3; have := s3 _ _ (sM _ _ hfW); rw [hp3] at this; cases this), fun u hu => ?_⟩⟩
    · show DeepTs _ (dvF (y, "a") :: d.map dvF) (.ref p1 :: zs)
      rw [DeepTs]
      exact ⟨_, _, rfl, dvF_of (y := (y, "a")) (same_new hp3 _ _ _ e1), DeepTs.same (s3.trans (same_new hp3 _)) _ _ hd⟩
    · rcases List.mem_cons.mp hu with hu | hu
      · subst hu
        exact ⟨hyl, la7⟩
      · exact hB u hu
  clear hB hbf hdl hd hb sM zs d b mk M1
  rintro σ M1 ⟨mk, b, d, zs, rfl, sM, hb, hd, hdl, hbf, hB⟩
  refine seq_inv (PB L' a fo c t (some (.int wy)) (n + 2)) ?_ (fun N hN => ?_)
  rotate_left
  · simp only [tIfS, tAnd, tOr, tNot, tB, tVar, tTest, tOp, tC, tUn, tCB, tCons, tNil, rI0, rI, rU, rNe, rEq, scal, rAppend, tBM, tDrop, tSeq, tAsg, gName, tRet, tNext, List.set_cons_zero, List.set_cons_succ, List.getElem?_cons_zero, List.getElem?_cons_succ, Option.some.injEq, V.int.injEq, V.bl.injEq, V.ref.injEq, V.str.injEq, exists_eq_left', exists_eq_left, exists_and_left, List.cons.injEq, and_true, true_and, and_assoc, exists_const, L2.start, List.map_cons, List.map_nil, List.length_cons, List.length_nil, List.replicate_succ, List.replicate_zero, List.cons_append, List.nil_append, List.append_nil, Nat.reduceAdd, Nat.reduceSub, tFor_eq, tComp_eq, tWhile_eq, tChain, tAug, ipI, rIxS, rSlS, rLower, rIndex, rPop, rCat, tBM0, gSub, rSetL, tSl, tPart, tNoPart, rSlL, tCall, tLst, tTup, iRng1, iRng2, iRng3, iList, iEnum, gTup, gCons, gNil, rIxL, rIxT, tYes, tAndV, tOrV, tNotV, tIf, tTest, exists_eq', List.ne_cons_self, reduceCtorEq, if_true, if_false, and_false, false_and]
    refine ite2 (fun _ => ⟨by decide, fun p hp => ?_⟩) (fun _ => hN _ _ ⟨mk, b, d, zs, rfl, sM, hb, hd, by omega, hbf, hB⟩)
    obtain ⟨WL, hWL, hl5, hB5⟩ : ∃ WL : List Str, WL.map V.str = [V.str "", V.str "Z", V.str "z z", V.str "zzzzzzzzzzzzz"] ∧ WL.length = 4 ∧ ∀ z ∈ WL, z.length ≤ 20 := ⟨["", "Z", "z z", "zzzzzzzzzzzzz"], rfl, rfl, by decide +kernel⟩
    rw [← hWL]
    obtain ⟨v, hv, hv'⟩ := atI_of (xs := WL.map V.str) (k := c / 64 % 4) (Int.emod_nonneg _ (by decide)) (by rw [List.length_map, hl5]; exact Int.emod_lt_of_pos _ (by decide))
    rw [List.getElem?_map] at hv'
    obtain ⟨y, hy, rfl⟩ := Option.map_eq_some_iff.mp hv'
    have hyl := hB5 y (List.mem_of_getElem? hy)
    refine ⟨⟨by decide, by decide⟩, by decide, _, SqL.of upd_same, _, hv, by decide, fun p1 hp1 => ⟨by decide, fun p2 hp2 => ?_⟩⟩
    have s1 := same_new hp (.lst (WL.map V.str))
    have s2 := s1.trans (same_new hp1 (.tup [.str y, .str "a"]))
    have s3 := s2.trans (same_new hp2 (.lst [.ref p1]))
    have e1 := same_new hp2 (.lst [.ref p1]) _ _ (show (upd (upd M1 p (.lst (WL.map V.str))) p1 (.tup [.str y, .str "a"])) p1 = some (.tup [.str y, .str "a"]) from upd_same)
    have zl : zs.length = d.length := by have := hd.length; rwa [List.length_map] at this
    refine ⟨_, s3 _ _ hb, _, upd_same, small (by simp; omega), fun p3 hp3 => hN _ _ ⟨mk, p3, d ++ [((y, "a") : Fld)], _, rfl, (sM.trans s3).trans (same_new hp3 _), upd_same, ?_, by simp; omega, fun z => (by rw [z] at hp3; have := s3 _ _ (sM _ _ hfW); rw [hp3] at this; cases this), fun u hu => ?_⟩⟩
    · rw [List.map_append]
      exact (DeepTs.same (s3.trans (same_new hp3 _)) _ _ hd).app (DeepTs.one (dvF_of (y := (y, "a")) (same_new hp3 _ _ _ e1)))
    · rcases List.mem_append.mp hu with hu | hu
      · exact hB u hu
      · rw [List.mem_singleton] at hu
        subst hu
        exact ⟨hyl, la7⟩
  clear hB hbf hdl hd hb sM zs d b mk M1
  rintro σ M1 ⟨mk, b, d, zs, rfl, sM, hb, hd, hdl, hbf, hB⟩
  refine seq_inv (PB L' a fo c t (some (.int wy)) (n + 3)) ?_ (fun N hN => ?_)
  rotate_left
  · simp only [tIfS, tAnd, tOr, tNot, tB, tVar, tTest, tOp, tC, tUn, tCB, tCons, tNil, rI0, rI, rU, rNe, rEq, scal, rAppend, tBM, tDrop, tSeq, tAsg, gName, tRet, tNext, List.set_cons_zero, List.set_cons_succ, List.getElem?_cons_zero, List.getElem?_cons_succ, Option.some.injEq, V.int.injEq, V.bl.injEq, V.ref.injEq, V.str.injEq, exists_eq_left', exists_eq_left, exists_and_left, List.cons.injEq, and_true, true_and, and_assoc, exists_const, L2.start, List.map_cons, List.map_nil, List.length_cons, List.length_nil, List.replicate_succ, List.replicate_zero, List.cons_append, List.nil_append, List.append_nil, Nat.reduceAdd, Nat.reduceSub, tFor_eq, tComp_eq, tWhile_eq, tChain, tAug, ipI, rIxS, rSlS, rLower, rIndex, rPop, rCat, tBM0, gSub, rSetL, tSl, tPart, tNoPart, rSlL, tCall, tLst, tTup, iRng1, iRng2, iRng3, iList, iEnum, gTup, gCons, gNil, rIxL, rIxT, tYes, tAndV, tOrV, tNotV, tIf, tTest, exists_eq', List.ne_cons_self, reduceCtorEq, if_true, if_false, and_false, false_and]
    refine ite2 (fun _ => ⟨zs, SqL.of hb, fun p hp => ?_⟩) (fun _ => hN _ _ ⟨mk, b, d, zs, rfl, sM, hb, hd, by omega, hbf, hB⟩)
    rw [cut1]
    have zl : zs.length = d.length := by have := hd.length; rwa [List.length_map] at this
    have s1 := same_new hp (.lst (zs.take 1))
    refine ⟨_, s1 _ _ hb, _, upd_same, small (by simp only [List.length_take]; omega), fun p3 hp3 => ?_⟩
    have s2 := s1.trans (same_new hp3 (.lst (zs ++ zs.take 1)))
    refine hN _ _ ⟨mk, p3, d ++ d.take 1, _, rfl, sM.trans s2, upd_same, by rw [List.map_append]; exact (DeepTs.same s2 _ _ hd).app (DeepTs.same s2 _ _ (deep1 d zs hd)), by simp only [List.length_append, List.length_take]; omega, fun z => (by rw [z] at hp3; have := s1 _ _ (sM _ _ hfW); rw [hp3] at this; cases this), fun u hu => ?_⟩
    rcases List.mem_append.mp hu with hu | hu
    · exact hB u hu
    · exact hB u (List.mem_of_mem_take hu)
  clear hB hbf hdl hd hb sM zs d b mk M1
  rintro σ M1 ⟨mk, b, d, zs, rfl, sM, hb, hd, hdl, hbf, hB⟩
  refine seq_inv (PB L' a fo c t (some (.int wy)) (n + 3)) ?_ (fun N hN => ?_)
  rotate_left
  · simp only [tIfS, tAnd, tOr, tNot, tB, tVar, tTest, tOp, tC, tUn, tCB, tCons, tNil, rI0, rI, rU, rNe, rEq, scal, rAppend, tBM, tDrop, tSeq, tAsg, gName, tRet, tNext, List.set_cons_zero, List.set_cons_succ, List.getElem?_cons_zero, List.getElem?_cons_succ, Option.some.injEq, V.int.injEq, V.bl.injEq, V.ref.injEq, V.str.injEq, exists_eq_left', exists_eq_left, exists_and_left, List.cons.injEq, and_true, true_and, and_assoc, exists_const, L2.start, List.map_cons, List.map_nil, List.length_cons, List.length_nil, List.replicate_succ, List.replicate_zero, List.cons_append, List.nil_append, List.append_nil, Nat.reduceAdd, Nat.reduceSub, tFor_eq, tComp_eq, tWhile_eq, tChain, tAug, ipI, rIxS, rSlS, rLower, rIndex, rPop, rCat, tBM0, gSub, rSetL, tSl, tPart, tNoPart, rSlL, tCall, tLst, tTup, iRng1, iRng2, iRng3, iList, iEnum, gTup, gCons, gNil, rIxL, rIxT, tYes, tAndV, tOrV, tNotV, tIf, tTest, exists_eq', List.ne_cons_self, reduceCtorEq, if_true, if_false, and_false, false_and, iRev]
    refine ite2 (fun _ => ⟨zs, SqL.of hb, ?_⟩) (fun _ => hN _ _ ⟨mk, b, d, zs, rfl, sM, hb, hd, hdl, hbf, hB⟩)
    have zl : zs.length = d.length := by have := hd.length; rwa [List.length_map] at this
    refine compW_rev (invRv M1 d) ⟨none, rfl, rfl, DeepTs.nil⟩ ?_ ?_ ?_
    · rintro i ys σ L9 hi ⟨v0, rfl, rfl, hR⟩
      have e := hR.length
      rw [List.length_map, List.length_take, List.length_reverse] at e
      exact ⟨SqL.of hb, small (by omega)⟩
    · rintro i x ys σ L9 hi hx ⟨v0, rfl, rfl, hR⟩
      obtain ⟨dv, h1, h2⟩ := hd.get hx
      rw [List.getElem?_map] at h1
      obtain ⟨y, hy, rfl⟩ := Option.map_eq_some_iff.mp h1
      simp only [tIfS, tAnd, tOr, tNot, tB, tVar, tTest, tOp, tC, tUn, tCB, tCons, tNil, rI0, rI, rU, rNe, rEq, scal, rAppend, tBM, tDrop, tSeq, tAsg, gName, tRet, tNext, List.set_cons_zero, List.set_cons_succ, List.getElem?_cons_zero, List.getElem?_cons_succ, Option.some.injEq, V.int.injEq, V.bl.injEq, V.ref.injEq, V.str.injEq, exists_eq_left', exists_eq_left, exists_and_left, List.cons.injEq, and_true, true_and, and_assoc, exists_const, L2.start, List.map_cons, List.map_nil, List.length_cons, List.length_nil, List.replicate_succ, List.replicate_zero, List.cons_append, List.nil_append, List.append_nil, Nat.reduceAdd, Nat.reduceSub, tFor_eq, tComp_eq, tWhile_eq, tChain, tAug, ipI, rIxS, rSlS, rLower, rIndex, rPop, rCat, tBM0, gSub, rSetL, tSl, tPart, tNoPart, rSlL, tCall, tLst, tTup, iRng1, iRng2, iRng3, iList, iEnum, gTup, gCons, gNil, rIxL, rIxT, tYes, tAndV, tOrV, tNotV, tIf, tTest, exists_eq', List.ne_cons_self, reduceCtorEq, if_true, if_false, and_false, false_and]
      refine ⟨_, rfl, rfl, ?_⟩
      have e : d.reverse[i]? = some y := by rw [List.getElem?_reverse (by omega), ← zl]; exact hy
      rw [List.take_add_one, e, List.map_append]
      exact hR.app (DeepTs.one h2)
    · rintro ys σ L9 ⟨v0, rfl, rfl, hR⟩ p hp
      rw [zl, ← List.length_reverse, List.take_length] at hR
      refine hN _ _ ⟨mk, p, d.reverse, ys, rfl, sM.trans (same_new hp _), upd_same, DeepTs.same (same_new hp _) _ _ hR, by rw [List.length_reverse]; exact hdl, fun z => (by rw [z] at hp; have := sM _ _ hfW; rw [hp] at this; cases this), fun u hu => hB u (List.mem_reverse.mp hu)⟩
  clear hB hbf hdl hd hb sM zs d b mk M1
  rintro σ M1 ⟨mk, b, d, zs, rfl, sM, hb, hd, hdl, hbf, hB⟩
  refine seq_inv (PB L' a fo c t (some (.int wy)) (n + 4)) ?_ (fun N hN => ?_)
  rotate_left
  · simp only [tIfS, tAnd, tOr, tNot, tB, tVar, tTest, tOp, tC, tUn, tCB, tCons, tNil, rI0, rI, rU, rNe, rEq, scal, rAppend, tBM, tDrop, tSeq, tAsg, gName, tRet, tNext, List.set_cons_zero, List.set_cons_succ, List.getElem?_cons_zero, List.getElem?_cons_succ, Option.some.injEq, V.int.injEq, V.bl.injEq, V.ref.injEq, V.str.injEq, exists_eq_left', exists_eq_left, exists_and_left, List.cons.injEq, and_true, true_and, and_assoc, exists_const, L2.start, List.map_cons, List.map_nil, List.length_cons, List.length_nil, List.replicate_succ, List.replicate_zero, List.cons_append, List.nil_append, List.append_nil, Nat.reduceAdd, Nat.reduceSub, tFor_eq, tComp_eq, tWhile_eq, tChain, tAug, ipI, rIxS, rSlS, rLower, rIndex, rPop, rCat, tBM0, gSub, rSetL, tSl, tPart, tNoPart, rSlL, tCall, tLst, tTup, iRng1, iRng2, iRng3, iList, iEnum, gTup, gCons, gNil, rIxL, rIxT, tYes, tAndV, tOrV, tNotV, tIf, tTest, exists_eq', List.ne_cons_self, reduceCtorEq, if_true, if_false, and_false, false_and]
    refine ite2 (fun _ => ⟨zs, SqL.of hb, fun p hp => ?_⟩) (fun _ => hN _ _ ⟨mk, b, d, zs, rfl, sM, hb, hd, by omega, hbf, hB⟩)
    rw [cut1]
    have zl : zs.length = d.length := by have := hd.length; rwa [List.length_map] at this
    have s1 := same_new hp (.lst (zs.take 1))
    refine ⟨_, upd_same, _, s1 _ _ hb, small (by simp only [List.length_take]; omega), fun p3 hp3 => ?_⟩
    have s2 := s1.trans (same_new hp3 (.lst (zs.take 1 ++ zs)))
    refine hN _ _ ⟨mk, p3, d.take 1 ++ d, _, rfl, sM.trans s2, upd_same, by rw [List.map_append]; exact (DeepTs.same s2 _ _ (deep1 d zs hd)).app (DeepTs.same s2 _ _ hd), by simp only [List.length_append, List.length_take]; omega, fun z => (by rw [z] at hp3; have := s1 _ _ (sM _ _ hfW); rw [hp3] at this; cases this), fun u hu => ?_⟩
    rcases List.mem_append.mp hu with hu | hu
    · exact hB u (List.mem_of_mem_take hu)
    · exact hB u hu
  clear hB hbf hdl hd hb sM zs d b mk M1
  rintro σ M1 ⟨mk, b, d, zs, rfl, sM, hb, hd, hdl, hbf, hB⟩
  simp only [tIfS, tAnd, tOr, tNot, tB, tVar, tTest, tOp, tC, tUn, tCB, tCons, tNil, rI0, rI, rU, rNe, rEq, scal, rAppend, tBM, tDrop, tSeq, tAsg, gName, tRet, tNext, List.set_cons_zero, List.set_cons_succ, List.getElem?_cons_zero, List.getElem?_cons_succ, Option.some.injEq, V.int.injEq, V.bl.injEq, V.ref.injEq, V.str.injEq, exists_eq_left', exists_eq_left, exists_and_left, List.cons.injEq, and_true, true_and, and_assoc, exists_const, L2.start, List.map_cons, List.map_nil, List.length_cons, List.length_nil, List.replicate_succ, List.replicate_zero, List.cons_append, List.nil_append, List.append_nil, Nat.reduceAdd, Nat.reduceSub, tFor_eq, tComp_eq, tWhile_eq, tChain, tAug, ipI, rIxS, rSlS, rLower, rIndex, rPop, rCat, tBM0, gSub, rSetL, tSl, tPart, tNoPart, rSlL, tCall, tLst, tTup, iRng1, iRng2, iRng3, iList, iEnum, gTup, gCons, gNil, rIxL, rIxT, tYes, tAndV, tOrV, tNotV, tIf, tTest, exists_eq', List.ne_cons_self, reduceCtorEq, if_true, if_false, and_false, false_and]
  have hfM := sM _ _ hfW
  refine ⟨by decide, fun p hp => ⟨xs, same_new hp _ _ _ hfM, t.toNat, ?_, ?_⟩⟩
  · exact ixN_of t0 t1
  have sp := same_new hp (.tup [.int mk, .ref b])
  have hpf : p ≠ fo := fun z => by rw [z, hfM] at hp; cases hp
  have sF : Same H (upd (upd M1 p (.tup [.int mk, .ref b])) fo (.lst (xs.set t.toNat (.ref p)))) := ((sLW.trans sM).trans sp).newer hfo _
  refine q (ms.set t.toNat (mk, d)) fo _ _ ⟨by rw [List.length_set]; exact hfit.1, fun m hm => ?_⟩ sF hfo upd_same ?_
  · rcases List.mem_or_eq_of_mem_set hm with h | h
    · exact ⟨by have := (hfit.2 m h).1; omega, (hfit.2 m h).2⟩
    · subst h
      exact ⟨(by show d.length ≤ n + 5; omega), hB⟩
  · rw [List.map_set]
    refine deep_set (dvM_of (m := (mk, d)) (a := b) (xs := zs) (by rw [upd_ne hpf]; exact upd_same) (by rw [upd_ne hbf]; exact sp _ _ hb) (docs_tup (fun u us hu => ?_) _ _ hd)) _ _ _ (DeepTs.same sF _ _ hD)
    have huf : u ≠ fo := fun z => by rw [z, hfM] at hu; cases hu
    rw [upd_ne huf]
    exact sp _ _ hu
end
end K7

namespace K7
open PySem L2 KW
section
variable {P : Program} {w : World} {K : PySem.W.Frag} {mg : Str → Option Value} {base : Heap} {f : Addr} {fd : FuncData}
theorem op_neDK {X : Cx} (K : PySem.W.Frag) {k : Nat} (hr : Room k X.A) (hK : X.K = K := by rfl) : OpR X (compareOp .NotEq) (fun x y H Q => ∃ ds, dep (.lst ds) ≤ 60 ∧ Deep K H (.lst ds) x ∧ Deep K H (.lst ds) y ∧ Q (.bl false) H) := by subst hK; exact op_neD hr
def spLaw (K : PySem.W.Frag) : Sp := fun vs H Q _ => ∃ (a : Addr) (ns : List Int), vs = [.ref a] ∧ SqL K H a (ns.map V.int) ∧ ns.length ≤ 63 ∧ ∀ H', Q (.bl true) H'
theorem scL : FnScope ["_law_script", "_law_makes_here", "_law_cell", "_law_bent_here", "_law_kept"] ["_law_script"] (defScope sLaw) := ⟨rfl, rfl, rfl, by decide +kernel, rfl, by decide +kernel, by decide +kernel⟩
def dueD : Option (Bool × Nat) → List DV
  | none => [.str "taken"]
  | some (true, k) => [.str "make", .int (k : Int)]
  | some (false, k) => [.str "field", .int (k : Int)]
theorem due_deep {H : Hp} {r : Addr} (o : Option (Bool × Nat)) (h : H r = some (.lst (dueV o))) : Deep K H (.lst (dueD o)) (.ref r) := by
  refine DeepT.deep _ _ ?_
  rw [DeepT]
  refine ⟨r, _, rfl, h, ?_⟩
  match o with
  | none => exact DeepTs.one (by rw [DeepT])
  | some (true, k) =>
    show DeepTs H [.str "make", .int (k : Int)] [.str "make", .int (k : Int)]
    rw [DeepTs]
    exact ⟨_, _, rfl, by rw [DeepT], DeepTs.one (by rw [DeepT])⟩
  | some (false, k) =>
    show DeepTs H [.str "field", .int (k : Int)] [.str "field", .int (k : Int)]
    rw [DeepTs]
    exact ⟨_, _, rfl, by rw [DeepT], DeepTs.one (by rw [DeepT])⟩
theorem due_dep (o : Option (Bool × Nat)) : dep (.lst (dueD o)) ≤ 60 := by
  match o with
  | none => decide
  | some (true, k) => simp [dueD, dep, deps]
  | some (false, k) => simp [dueD, dep, deps]
theorem depF : ∀ d : List Fld, deps (d.map dvF) ≤ 1
  | [] => by decide
  | x :: r => by
    have := depF r
    rw [List.map_cons, deps]
    have e : dep (dvF x) = 1 := by simp [dvF, dep, deps]
    omega
theorem depM : ∀ ms : List Mk, deps (ms.map dvM) ≤ 3
  | [] => by decide
  | x :: r => by
    have := depM r
    have h1 := depF x.2
    rw [List.map_cons, deps]
    have e : dep (dvM x) ≤ 3 := by
      show max 0 (max (deps (x.2.map dvF) + 1) 0) + 1 ≤ 3
      omega
    omega
theorem ms_deep {H : Hp} {r : Addr} {ms : List Mk} {xs : List V} (h : H r = some (.lst xs)) (hd : DeepTs H (ms.map dvM) xs) : Deep K H (.lst (ms.map dvM)) (.ref r) := by
  refine DeepT.deep _ _ ?_
  rw [DeepT]
  exact ⟨r, _, rfl, h, hd⟩
def invKp (G1 : Hp) (m1 : List Mk) (i : Nat) (us : List V) (σ : St) (L : Hp) : Prop := ∃ v0 v1 : Option V, σ = [v0, v1] ∧ Same G1 L ∧ DeepTs L ((m1.take i).map dvM) us
theorem ok_law {gm gc gb gd ga : Addr} {dm dc db dd da : FuncData} (F : Fun K "law" "law" sLaw f fd) (T : Txt mg)
    (GMk : FnOk P w K mg base CX0 4 gm dm ["_law_script"] (spMks K)) (bMk : Binds K dm ["_law_script"] []) (kMk : PySem.W.keepIn K (.ref gm) = true) (mMk : mg "_law_makes" = some (.ref gm))
    (GC : FnOk P w K mg base CX0 1 gc dc ["_law_script", "_law_k"] (spCell K)) (bC : Binds K dc ["_law_script", "_law_k"] []) (kC : PySem.W.keepIn K (.ref gc) = true) (mC : mg "_law_cell_at" = some (.ref gc))
    (GBe : FnOk P w K mg base CX0 1 gb db ["_law_makes_here", "_law_cell"] spBent) (bBe : Binds K db ["_law_makes_here", "_law_cell"] []) (kBe : PySem.W.keepIn K (.ref gb) = true) (mBe : mg "_law_bent" = some (.ref gb))
    (GDu : FnOk P w K mg base CX0 3 gd dd ["_law_makes_here"] spDue) (bDu : Binds K dd ["_law_makes_here"] []) (kDu : PySem.W.keepIn K (.ref gd) = true) (mDu : mg "_law_due" = some (.ref gd))
    (GCa : FnOk P w K mg base CX0 8 ga da ["_law_makes_here"] spCaught) (bCa : Binds K da ["_law_makes_here"] []) (kCa : PySem.W.keepIn K (.ref ga) = true) (mCa : mg "_law_caught" = some (.ref ga)) : FnOk P w K mg base CX0 9 f fd ["_law_script"] (spLaw K) := by
  refine F.ok scL (fun vs H Q E h => ?_) (fun cdv A outer s H vs Q E hr h => ?_)
  · obtain ⟨a, ns, rfl, _⟩ := h
    rfl
  obtain ⟨a, ns, rfl, hS, hlen, q⟩ := h
  have hr4 : Room 4 _ := hr.mono (by decide)
  have hr3 : Room 3 _ := hr.mono (by decide)
  have hr1 : Room 1 _ := hr.mono (by decide)
  refine ⟨_, (pss_cons (ps_set (i := 1) scL.nd rfl (Or.inl rfl) (pe_call GMk hr4 rfl mMk kMk bMk .nil pass0 (pa_cons (pv 0) pa_nil)))
    (pss_cons (ps_if (pt_cmpR (op_neDK K hr) (pe_call GCa hr rfl mCa kCa bCa .nil pass0 (pa_cons (pe_callTy (lstK K) rfl T.list PyProof.Rows.boot_list (pa_cons (pv 1) pa_nil)) pa_nil)) (pe_lst (pa_cons pe_str pa_nil)) (nomark _)) (pss_one (ps_ret pe_bl)) pss_nil)
    (pss_cons (ps_for PassesOwn.never rfl (pi_listK K (pe_op op_cat (pe_slice (slL K) (pv 0) (po_some pe_int) (po_some pe_int)) (pe_lst (pa_cons (pe_call GC hr1 rfl mC kC bC .nil pass0 (pa_cons (pv 0) (pa_cons pe_int pa_nil))) (pa_cons pe_int (pa_cons pe_int pa_nil)))))) (pg_name (i := 2) scL.nd rfl (Or.inl rfl))
      (pss_cons (ps_set (i := 3) scL.nd rfl (Or.inl rfl) (pe_call GBe hr1 rfl mBe kBe bBe .nil pass0 (pa_cons (pv 1) (pa_cons (pe_op op_fdiv (pv 2) pe_int) pa_nil))))
    (pss_cons (ps_if (pt_cmpR op_eq (pe_op op_mod (pv 2) pe_int) pe_int (nomark _)) (pss_one (ps_set (i := 3) scL.nd rfl (Or.inl rfl) (pe_call GBe hr1 rfl mBe kBe bBe .nil pass0 (pa_cons (pv 3) (pa_cons (pe_op op_fdiv (pv 2) pe_int) pa_nil))))) pss_nil)
    (pss_cons (ps_setC (i := 4) scL.nd rfl rfl (N := ["_law_make", "_law_document_here"]) (pick := [none, none]) (NX := ["_law_script", "_law_makes_here", "_law_cell", "_law_bent_here", "_law_kept"]) (sX := defScope sLaw) (by decide +kernel) rfl rfl rfl (pi_listK K (pv 3))
        (fun _ _ _ _ => (pgT K (n := 2) rfl (pgs_cons (pg_name (i := 0) (by decide +kernel : (["_law_make", "_law_document_here"] : List Str).Nodup) rfl (Or.inl rfl)) (pgs_cons (pg_name (i := 1) (by decide +kernel : (["_law_make", "_law_document_here"] : List Str).Nodup) rfl (Or.inl rfl)) pgs_nil)))) (fun _ _ _ _ => pifs_nil) (fun _ _ _ _ => (pe_tup (pa_cons (pv 0) (pa_cons (pe_callTy (lstK K) rfl T.list PyProof.Rows.boot_list (pa_cons (pv 1) pa_nil)) pa_nil)))))
    (pss_one (ps_if (PW.pt (pw_or (pt_cmpR (op_neDK K hr) (pe_call GCa hr rfl mCa kCa bCa .nil pass0 (pa_cons (pv 3) pa_nil)) (pe_call GDu hr3 rfl mDu kDu bDu .nil pass0 (pa_cons (pv 4) pa_nil)) (nomark _)) (pw_or1 (pt_cmpR (op_neDK K hr) (pv 3) (pv 4) (nomark _))))) (pss_one (ps_ret pe_bl)) pss_nil))))))
    (pss_one (ps_ret pe_bl))))), ?_⟩
  refine seq_inv (fun σ L => ∃ (ms : List Mk) (r : Addr) (xs : List V), σ = [some (.ref a), some (.ref r), none, none, none] ∧ mw (-1) 0 ms = none ∧ Fits 9 ms ∧ Same H L ∧ L r = some (.lst xs) ∧ DeepTs L (ms.map dvM) xs) ?_ (fun N hN => ?_)
  rotate_left
  · simp only [tIfS, tAnd, tOr, tNot, tB, tVar, tTest, tOp, tC, tUn, tCB, tCons, tNil, rI0, rI, rU, rNe, rEq, scal, rAppend, tBM, tDrop, tSeq, tAsg, gName, tRet, tNext, List.set_cons_zero, List.set_cons_succ, List.getElem?_cons_zero, List.getElem?_cons_succ, Option.some.injEq, V.int.injEq, V.bl.injEq, V.ref.injEq, V.str.injEq, exists_eq_left', exists_eq_left, exists_and_left, List.cons.injEq, and_true, true_and, and_assoc, exists_const, L2.start, List.map_cons, List.map_nil, List.length_cons, List.length_nil, List.replicate_succ, List.replicate_zero, List.cons_append, List.nil_append, List.append_nil, Nat.reduceAdd, Nat.reduceSub, tFor_eq, tComp_eq, tWhile_eq, tChain, tAug, ipI, rIxS, rSlS, rLower, rIndex, rPop, rCat, tBM0, gSub, rSetL, tSl, tPart, tNoPart, rSlL, tCall, tLst, tTup, iRng1, iRng2, iRng3, iList, iEnum, gTup, gCons, gNil, rIxL, rIxT, tYes, tAndV, tOrV, tNotV, tIf, tTest, exists_eq', List.ne_cons_self, reduceCtorEq, if_true, if_false, and_false, false_and, spMks]
    exact ⟨ns, hS, hlen, fun ms r xs H' h1 h2 h3 h4 h5 h6 => hN _ _ ⟨ms, r, xs, rfl, h1, h2, h3, h5, h6⟩⟩
  rintro σ L ⟨ms, r, xs, rfl, hmw, hfit, sL, hr', hD⟩
  refine seq_inv (fun σ' L' => σ' = [some (.ref a), some (.ref r), none, none, none] ∧ Same L L') ?_ (fun N hN => ?_)
  rotate_left
  · simp only [tIfS, tAnd, tOr, tNot, tB, tVar, tTest, tOp, tC, tUn, tCB, tCons, tNil, rI0, rI, rU, rNe, rEq, scal, rAppend, tBM, tDrop, tSeq, tAsg, gName, tRet, tNext, List.set_cons_zero, List.set_cons_succ, List.getElem?_cons_zero, List.getElem?_cons_succ, Option.some.injEq, V.int.injEq, V.bl.injEq, V.ref.injEq, V.str.injEq, exists_eq_left', exists_eq_left, exists_and_left, List.cons.injEq, and_true, true_and, and_assoc, exists_const, L2.start, List.map_cons, List.map_nil, List.length_cons, List.length_nil, List.replicate_succ, List.replicate_zero, List.cons_append, List.nil_append, List.append_nil, Nat.reduceAdd, Nat.reduceSub, tFor_eq, tComp_eq, tWhile_eq, tChain, tAug, ipI, rIxS, rSlS, rLower, rIndex, rPop, rCat, tBM0, gSub, rSetL, tSl, tPart, tNoPart, rSlL, tCall, tLst, tTup, iRng1, iRng2, iRng3, iList, iEnum, gTup, gCons, gNil, rIxL, rIxT, tYes, tAndV, tOrV, tNotV, tIf, tTest, exists_eq', List.ne_cons_self, reduceCtorEq, if_true, if_false, and_false, false_and, spCaught]
    refine ⟨xs, .inl (SqL.of hr'), fun l hl => ⟨ms, xs, upd_same, DeepTs.same (same_new hl _) _ _ hD, ⟨hfit.1, fun m hm => ⟨by have := (hfit.2 m hm).1; omega, (hfit.2 m hm).2⟩⟩, fun r1 H1 s1 hf1 e1 => ⟨by decide, fun p hp => ?_⟩⟩⟩
    rw [hmw] at e1
    exact ⟨dueD none, by decide, due_deep none (same_new hp _ _ _ e1), due_deep none upd_same, hN _ _ ⟨rfl, ((same_new hl _).trans s1).trans (same_new hp _)⟩⟩
  rintro σ L' ⟨rfl, sL'⟩
  have hr2 := sL' _ _ hr'
  have hD2 := DeepTs.same sL' _ _ hD
  have hS2 := (sL.trans sL').seq hS
  clear hr' hD
  simp only [tIfS, tAnd, tOr, tNot, tB, tVar, tTest, tOp, tC, tUn, tCB, tCons, tNil, rI0, rI, rU, rNe, rEq, scal, rAppend, tBM, tDrop, tSeq, tAsg, gName, tRet, tNext, List.set_cons_zero, List.set_cons_succ, List.getElem?_cons_zero, List.getElem?_cons_succ, Option.some.injEq, V.int.injEq, V.bl.injEq, V.ref.injEq, V.str.injEq, exists_eq_left', exists_eq_left, exists_and_left, List.cons.injEq, and_true, true_and, and_assoc, exists_const, L2.start, List.map_cons, List.map_nil, List.length_cons, List.length_nil, List.replicate_succ, List.replicate_zero, List.cons_append, List.nil_append, List.append_nil, Nat.reduceAdd, Nat.reduceSub, tFor_eq, tComp_eq, tWhile_eq, tChain, tAug, ipI, rIxS, rSlS, rLower, rIndex, rPop, rCat, tBM0, gSub, rSetL, tSl, tPart, tNoPart, rSlL, tCall, tLst, tTup, iRng1, iRng2, iRng3, iList, iEnum, gTup, gCons, gNil, rIxL, rIxT, tYes, tAndV, tOrV, tNotV, tIf, tTest, exists_eq', List.ne_cons_self, reduceCtorEq, if_true, if_false, and_false, false_and, spCell]
  refine ⟨_, hS2, fun p hp => ⟨ns, (same_new hp _).seq hS2, by decide, fun z => ⟨by decide, fun p1 hp1 => ⟨_, same_new hp1 _ _ _ upd_same, _, upd_same, ?_, fun p2 hp2 => ?_⟩⟩⟩⟩
  · rw [cutV_map7, List.length_map]
    have : (cutL ns (some 17) (some 50)).length ≤ 63 := by
      unfold cutL
      rw [List.length_take, List.length_drop]
      omega
    exact small (by simp only [List.length_cons, List.length_nil]; omega)
  rw [cutV_map7]
  have e3 : (cutL ns (some 17) (some 50)).map V.int ++ [V.int z, V.int 0, V.int 8] = (cutL ns (some 17) (some 50) ++ [z, 0, 8]).map V.int := by rw [List.map_append]; rfl
  rw [e3]
  generalize cutL ns (some 17) (some 50) ++ [z, 0, 8] = cs
  have s0 := ((same_new hp (.lst ((cutL ns (some 17) (some 50)).map V.int))).trans (same_new (by rw [cutV_map7] at hp1; exact hp1) (.lst [V.int z, V.int 0, V.int 8]))).trans (same_new (by rw [cutV_map7] at hp2; exact hp2) (.lst (cs.map V.int)))
  have e4 : (upd (upd (upd L' p (.lst ((cutL ns (some 17) (some 50)).map V.int))) p1 (.lst [V.int z, V.int 0, V.int 8])) p2 (.lst (cs.map V.int))) p2 = some (.lst (cs.map V.int)) := upd_same
  generalize upd (upd (upd L' p (.lst ((cutL ns (some 17) (some 50)).map V.int))) p1 (.lst [V.int z, V.int 0, V.int 8])) p2 (.lst (cs.map V.int)) = M at s0 e4 ⊢
  have hr3' := s0 _ _ hr2
  have hD3 := DeepTs.same s0 _ _ hD2
  refine ⟨⟨_, SqL.of e4⟩, forW_list (cs.map V.int) (fun _ σ G => ∃ v2 v3 v4 : Option V, σ = [some (.ref a), some (.ref r), v2, v3, v4] ∧ Same M G) ⟨_, _, _, rfl, Same.refl _⟩ ?_ ?_ ?_⟩
  · rintro i σ G hi ⟨v2, v3, v4, rfl, sG⟩
    exact SqL.of (sG _ _ e4)
  · rintro i y σ G hy ⟨v2, v3, v4, rfl, sG⟩
    rw [List.getElem?_map] at hy
    obtain ⟨c, hc, rfl⟩ := Option.map_eq_some_iff.mp hy
    show tSeq _ _ _ _ _
    refine seq_inv (fun σ L => ∃ (m1 : List Mk) (r1 : Addr) (ys : List V), σ = [some (.ref a), some (.ref r), some (.int c), some (.ref r1), v4] ∧ Fits 14 m1 ∧ Same M L ∧ L r1 = some (.lst ys) ∧ DeepTs L (m1.map dvM) ys) ?_ (fun N hN => ?_)
    rotate_left
    · simp only [tIfS, tAnd, tOr, tNot, tB, tVar, tTest, tOp, tC, tUn, tCB, tCons, tNil, rI0, rI, rU, rNe, rEq, scal, rAppend, tBM, tDrop, tSeq, tAsg, gName, tRet, tNext, List.set_cons_zero, List.set_cons_succ, List.getElem?_cons_zero, List.getElem?_cons_succ, Option.some.injEq, V.int.injEq, V.bl.injEq, V.ref.injEq, V.str.injEq, exists_eq_left', exists_eq_left, exists_and_left, List.cons.injEq, and_true, true_and, and_assoc, exists_const, L2.start, List.map_cons, List.map_nil, List.length_cons, List.length_nil, List.replicate_succ, List.replicate_zero, List.cons_append, List.nil_append, List.append_nil, Nat.reduceAdd, Nat.reduceSub, tFor_eq, tComp_eq, tWhile_eq, tChain, tAug, ipI, rIxS, rSlS, rLower, rIndex, rPop, rCat, tBM0, gSub, rSetL, tSl, tPart, tNoPart, rSlL, tCall, tLst, tTup, iRng1, iRng2, iRng3, iList, iEnum, gTup, gCons, gNil, rIxL, rIxT, tYes, tAndV, tOrV, tNotV, tIf, tTest, exists_eq', List.ne_cons_self, reduceCtorEq, if_true, if_false, and_false, false_and, spBent]
      exact ⟨⟨by decide, by decide⟩, 9, ms, xs, sG _ _ hr3', DeepTs.same sG _ _ hD3, hfit, by decide, fun m1 r1 ys H1 h1 h2 h3 h4 h5 => hN _ _ ⟨m1, r1, ys, rfl, h1, sG.trans h2, h4, h5⟩⟩
    rintro σ G1 ⟨m1, r1, ys, rfl, f1, sG1, e1, D1⟩
    refine seq_inv (fun σ L => ∃ (m1 : List Mk) (r1 : Addr) (ys : List V), σ = [some (.ref a), some (.ref r), some (.int c), some (.ref r1), v4] ∧ Fits 19 m1 ∧ Same M L ∧ L r1 = some (.lst ys) ∧ DeepTs L (m1.map dvM) ys) ?_ (fun N hN => ?_)
    rotate_left
    · simp only [tIfS, tAnd, tOr, tNot, tB, tVar, tTest, tOp, tC, tUn, tCB, tCons, tNil, rI0, rI, rU, rNe, rEq, scal, rAppend, tBM, tDrop, tSeq, tAsg, gName, tRet, tNext, List.set_cons_zero, List.set_cons_succ, List.getElem?_cons_zero, List.getElem?_cons_succ, Option.some.injEq, V.int.injEq, V.bl.injEq, V.ref.injEq, V.str.injEq, exists_eq_left', exists_eq_left, exists_and_left, List.cons.injEq, and_true, true_and, and_assoc, exists_const, L2.start, List.map_cons, List.map_nil, List.length_cons, List.length_nil, List.replicate_succ, List.replicate_zero, List.cons_append, List.nil_append, List.append_nil, Nat.reduceAdd, Nat.reduceSub, tFor_eq, tComp_eq, tWhile_eq, tChain, tAug, ipI, rIxS, rSlS, rLower, rIndex, rPop, rCat, tBM0, gSub, rSetL, tSl, tPart, tNoPart, rSlL, tCall, tLst, tTup, iRng1, iRng2, iRng3, iList, iEnum, gTup, gCons, gNil, rIxL, rIxT, tYes, tAndV, tOrV, tNotV, tIf, tTest, exists_eq', List.ne_cons_self, reduceCtorEq, if_true, if_false, and_false, false_and, spBent]
      refine ⟨by decide, ite2 (fun _ => ⟨⟨by decide, by decide⟩, 14, m1, ys, e1, D1, f1, by decide, fun m2 r2 ys2 H1 h1 h2 h3 h4 h5 => hN _ _ ⟨m2, r2, ys2, rfl, h1, sG1.trans h2, h4, h5⟩⟩) (fun _ => hN _ _ ⟨m1, r1, ys, rfl, ⟨f1.1, fun m hm => ⟨by have := (f1.2 m hm).1; omega, (f1.2 m hm).2⟩⟩, sG1, e1, D1⟩)⟩
    clear D1 e1 sG1 f1 ys r1 m1 G1
    rintro σ G1 ⟨m1, r1, ys, rfl, f1, sG1, e1, D1⟩
    refine seq_inv (fun σ L => ∃ (r2 : Addr) (zs : List V), σ = [some (.ref a), some (.ref r), some (.int c), some (.ref r1), some (.ref r2)] ∧ Same G1 L ∧ L r2 = some (.lst zs) ∧ DeepTs L (m1.map dvM) zs) ?_ (fun N hN => ?_)
    rotate_left
    · simp only [tIfS, tAnd, tOr, tNot, tB, tVar, tTest, tOp, tC, tUn, tCB, tCons, tNil, rI0, rI, rU, rNe, rEq, scal, rAppend, tBM, tDrop, tSeq, tAsg, gName, tRet, tNext, List.set_cons_zero, List.set_cons_succ, List.getElem?_cons_zero, List.getElem?_cons_succ, Option.some.injEq, V.int.injEq, V.bl.injEq, V.ref.injEq, V.str.injEq, exists_eq_left', exists_eq_left, exists_and_left, List.cons.injEq, and_true, true_and, and_assoc, exists_const, L2.start, List.map_cons, List.map_nil, List.length_cons, List.length_nil, List.replicate_succ, List.replicate_zero, List.cons_append, List.nil_append, List.append_nil, Nat.reduceAdd, Nat.reduceSub, tFor_eq, tComp_eq, tWhile_eq, tChain, tAug, ipI, rIxS, rSlS, rLower, rIndex, rPop, rCat, tBM0, gSub, rSetL, tSl, tPart, tNoPart, rSlL, tCall, tLst, tTup, iRng1, iRng2, iRng3, iList, iEnum, gTup, gCons, gNil, rIxL, rIxT, tYes, tAndV, tOrV, tNotV, tIf, tTest, exists_eq', List.ne_cons_self, reduceCtorEq, if_true, if_false, and_false, false_and]
      have yl : ys.length = m1.length := by have := D1.length; rwa [List.length_map] at this
      have ml := f1.1
      refine ⟨⟨_, SqL.of e1⟩, compW_list ys (invKp G1 m1) ⟨_, _, rfl, Same.refl _, DeepTs.nil⟩ ?_ ?_ ?_⟩
      · rintro j us σ L9 hj ⟨w0, w1, rfl, s9, d9⟩
        have e := d9.length
        rw [List.length_map, List.length_take] at e
        exact ⟨SqL.of (s9 _ _ e1), small (by omega)⟩
      · rintro j x us σ L9 hx ⟨w0, w1, rfl, s9, d9⟩
        obtain ⟨dv, h1, h2⟩ := D1.get hx
        rw [List.getElem?_map] at h1
        obtain ⟨u, hu, rfl⟩ := Option.map_eq_some_iff.mp h1
        obtain ⟨b, b2, zs2, rfl, hb, hb2, hz⟩ := dvM_at h2
        simp only [tIfS, tAnd, tOr, tNot, tB, tVar, tTest, tOp, tC, tUn, tCB, tCons, tNil, rI0, rI, rU, rNe, rEq, scal, rAppend, tBM, tDrop, tSeq, tAsg, gName, tRet, tNext, List.set_cons_zero, List.set_cons_succ, List.getElem?_cons_zero, List.getElem?_cons_succ, Option.some.injEq, V.int.injEq, V.bl.injEq, V.ref.injEq, V.str.injEq, exists_eq_left', exists_eq_left, exists_and_left, List.cons.injEq, and_true, true_and, and_assoc, exists_const, L2.start, List.map_cons, List.map_nil, List.length_cons, List.length_nil, List.replicate_succ, List.replicate_zero, List.cons_append, List.nil_append, List.append_nil, Nat.reduceAdd, Nat.reduceSub, tFor_eq, tComp_eq, tWhile_eq, tChain, tAug, ipI, rIxS, rSlS, rLower, rIndex, rPop, rCat, tBM0, gSub, rSetL, tSl, tPart, tNoPart, rSlL, tCall, tLst, tTup, iRng1, iRng2, iRng3, iList, iEnum, gTup, gCons, gNil, rIxL, rIxT, tYes, tAndV, tOrV, tNotV, tIf, tTest, exists_eq', List.ne_cons_self, reduceCtorEq, if_true, if_false, and_false, false_and]
        refine ⟨_, SqT.of (s9 _ _ hb), rfl, ?_⟩
        simp only [tIfS, tAnd, tOr, tNot, tB, tVar, tTest, tOp, tC, tUn, tCB, tCons, tNil, rI0, rI, rU, rNe, rEq, scal, rAppend, tBM, tDrop, tSeq, tAsg, gName, tRet, tNext, List.set_cons_zero, List.set_cons_succ, List.getElem?_cons_zero, List.getElem?_cons_succ, Option.some.injEq, V.int.injEq, V.bl.injEq, V.ref.injEq, V.str.injEq, exists_eq_left', exists_eq_left, exists_and_left, List.cons.injEq, and_true, true_and, and_assoc, exists_const, L2.start, List.map_cons, List.map_nil, List.length_cons, List.length_nil, List.replicate_succ, List.replicate_zero, List.cons_append, List.nil_append, List.append_nil, Nat.reduceAdd, Nat.reduceSub, tFor_eq, tComp_eq, tWhile_eq, tChain, tAug, ipI, rIxS, rSlS, rLower, rIndex, rPop, rCat, tBM0, gSub, rSetL, tSl, tPart, tNoPart, rSlL, tCall, tLst, tTup, iRng1, iRng2, iRng3, iList, iEnum, gTup, gCons, gNil, rIxL, rIxT, tYes, tAndV, tOrV, tNotV, tIf, tTest, exists_eq', List.ne_cons_self, reduceCtorEq, if_true, if_false, and_false, false_and]
        refine ⟨_, .inl (SqL.of (s9 _ _ hb2)), fun l hl => ⟨by decide, fun p hp => ?_⟩⟩
        have s10 := (same_new hl (.lst zs2)).trans (same_new hp (.tup [.int u.1, .ref l]))
        refine ⟨_, _, rfl, s9.trans s10, ?_⟩
        rw [List.take_add_one, hu, List.map_append]
        exact (DeepTs.same s10 _ _ d9).app (DeepTs.one (dvM_of upd_same (same_new hp _ _ _ upd_same) (DeepTs.same (s9.trans s10) _ _ hz)))
      · rintro us σ L9 ⟨w0, w1, rfl, s9, d9⟩ p hp
        rw [yl, List.take_length] at d9
        exact hN _ _ ⟨p, us, rfl, s9.trans (same_new hp _), upd_same, DeepTs.same (same_new hp _) _ _ d9⟩
    rintro σ G2 ⟨r2, zs, rfl, sG2, e2, D2⟩
    have e12 := sG2 _ _ e1
    have D12 := DeepTs.same sG2 _ _ D1
    simp only [tIfS, tAnd, tOr, tNot, tB, tVar, tTest, tOp, tC, tUn, tCB, tCons, tNil, rI0, rI, rU, rNe, rEq, scal, rAppend, tBM, tDrop, tSeq, tAsg, gName, tRet, tNext, List.set_cons_zero, List.set_cons_succ, List.getElem?_cons_zero, List.getElem?_cons_succ, Option.some.injEq, V.int.injEq, V.bl.injEq, V.ref.injEq, V.str.injEq, exists_eq_left', exists_eq_left, exists_and_left, List.cons.injEq, and_true, true_and, and_assoc, exists_const, L2.start, List.map_cons, List.map_nil, List.length_cons, List.length_nil, List.replicate_succ, List.replicate_zero, List.cons_append, List.nil_append, List.append_nil, Nat.reduceAdd, Nat.reduceSub, tFor_eq, tComp_eq, tWhile_eq, tChain, tAug, ipI, rIxS, rSlS, rLower, rIndex, rPop, rCat, tBM0, gSub, rSetL, tSl, tPart, tNoPart, rSlL, tCall, tLst, tTup, iRng1, iRng2, iRng3, iList, iEnum, gTup, gCons, gNil, rIxL, rIxT, tYes, tAndV, tOrV, tNotV, tIf, tTest, exists_eq', List.ne_cons_self, reduceCtorEq, if_true, if_false, and_false, false_and, spCaught, spDue]
    refine ⟨m1, ys, e12, D12, ⟨f1.1, fun m hm => ⟨by have := (f1.2 m hm).1; omega, (f1.2 m hm).2⟩⟩, fun q1 H1 s1 hf1 g1 => ?_⟩
    refine ⟨m1, zs, s1 _ _ e2, DeepTs.same s1 _ _ D2, fun m hm x hx => by have := ((f1.2 m hm).2 x hx).1; omega, fun q2 H2 s2 hf2 g2 => ⟨dueD (mw (-1) 0 m1), due_dep _, due_deep _ (s2 _ _ g1), due_deep _ g2, ?_⟩⟩
    have s12 := s1.trans s2
    refine ⟨m1.map dvM, ?_, ms_deep (s12 _ _ e12) (DeepTs.same s12 _ _ D12), ms_deep (s12 _ _ e2) (DeepTs.same s12 _ _ D2), (sG1.trans sG2).trans s12⟩
    have := depM m1
    rw [dep]
    omega
  · rintro σ G ⟨v2, v3, v4, rfl, sG⟩
    simp only [tIfS, tAnd, tOr, tNot, tB, tVar, tTest, tOp, tC, tUn, tCB, tCons, tNil, rI0, rI, rU, rNe, rEq, scal, rAppend, tBM, tDrop, tSeq, tAsg, gName, tRet, tNext, List.set_cons_zero, List.set_cons_succ, List.getElem?_cons_zero, List.getElem?_cons_succ, Option.some.injEq, V.int.injEq, V.bl.injEq, V.ref.injEq, V.str.injEq, exists_eq_left', exists_eq_left, exists_and_left, List.cons.injEq, and_true, true_and, and_assoc, exists_const, L2.start, List.map_cons, List.map_nil, List.length_cons, List.length_nil, List.replicate_succ, List.replicate_zero, List.cons_append, List.nil_append, List.append_nil, Nat.reduceAdd, Nat.reduceSub, tFor_eq, tComp_eq, tWhile_eq, tChain, tAug, ipI, rIxS, rSlS, rLower, rIndex, rPop, rCat, tBM0, gSub, rSetL, tSl, tPart, tNoPart, rSlL, tCall, tLst, tTup, iRng1, iRng2, iRng3, iList, iEnum, gTup, gCons, gNil, rIxL, rIxT, tYes, tAndV, tOrV, tNotV, tIf, tTest, exists_eq', List.ne_cons_self, reduceCtorEq, if_true, if_false, and_false, false_and]
    exact q _
end
end K7

namespace K7
open PySem L2 KW
/-! ### the top -/
theorem all_mk {l : PySem.W.OpenLaw} {w : World} {K : PySem.W.Frag} {h : Heap} {mg : Str → Option Value} {fa f1 f2 f3 f4 f5 f6 f7 f8 f9 f10 f11 f12 f13 f14 f15 f16 f17 f18 f19 f20 f21 f22 f23 FE NF NM NB ND NL NP NQ NS NT PC gF gM gP NsA : Addr} (X : K.In h) (G : h.Ns mainGlobals mg) (hfa : mg "law" = some (.ref fa))
    {od1 an1 od2 an2 od3 an3 od4 an4 od5 an5 od6 an6 od7 an7 od8 an8 od9 an9 od10 an10 od11 an11 od12 an12 od13 an13 od14 an14 od15 an15 od16 an16 od17 an17 od18 an18 od19 an19 od20 an20 od21 an21 od22 an22 od23 an23 odF anF odM anM odP anP : Option Addr} {sl1 sl2 sl3 sl4 sl5 sl6 sl7 sl8 sl9 sl10 sl11 sl12 sl13 sl14 sl15 sl16 sl17 sl18 sl19 sl20 sl21 sl22 sl23 slF slM slP : Array (Option Value)} {oc1 kV1 dc1 pm1 cd1 ct1 oc2 kV2 dc2 pm2 cd2 ct2 oc3 kV3 dc3 pm3 cd3 ct3 oc4 kV4 dc4 pm4 cd4 ct4 oc5 kV5 dc5 pm5 cd5 ct5 oc6 kV6 dc6 pm6 cd6 ct6 oc7 kV7 dc7 pm7 cd7 ct7 oc8 kV8 dc8 pm8 cd8 ct8 oc9 kV9 dc9 pm9 cd9 ct9 oc10 kV10 dc10 pm10 cd10 ct10 oc11 kV11 dc11 pm11 cd11 ct11 oc12 kV12 dc12 pm12 cd12 ct12 oc13 kV13 dc13 pm13 cd13 ct13 oc14 kV14 dc14 pm14 cd14 ct14 oc15 kV15 dc15 pm15 cd15 ct15 oc16 kV16 dc16 pm16 cd16 ct16 oc17 kV17 dc17 pm17 cd17 ct17 oc18 kV18 dc18 pm18 cd18 ct18 oc19 kV19 dc19 pm19 cd19 ct19 oc20 kV20 dc20 pm20 cd20 ct20 oc21 kV21 dc21 pm21 cd21 ct21 oc22 kV22 dc22 pm22 cd22 ct22 oc23 kV23 dc23 pm23 cd23 ct23 ocF kVF dcF pmF cdF ctF ocM kVM dcM pmM cdM ctM ocP kVP dcP pmP cdP ctP : Value} {tk0 tk1 : Tok}
    {oNF oNM : Obj} {ddE d1E : Option Addr} {cdE : ClassData} {slE sl1E : Array (Option Value)} {c1E : Value} {esE : Array DictEntry} {nE : Nat}
    (a1 : PySem.W.nsIn K mainGlobals "is_small_letter" = some (some (.ref f1)))
    (l1 : K.lookup f1 = some ⟨oc1, od1, .func (PySem.W.fnOf "is_small_letter" "is_small_letter" (defArgs sSmall) (defBody sSmall) (defScope sSmall) .none kV1 dc1 pm1 an1 cd1 ct1), sl1⟩)
    (c1 : PySem.W.codeIn K cd1 "is_small_letter" = true)
    (k1 : PySem.W.keepIn K (.ref f1) = true)
    (a2 : PySem.W.nsIn K mainGlobals "is_figure" = some (some (.ref f2)))
    (l2 : K.lookup f2 = some ⟨oc2, od2, .func (PySem.W.fnOf "is_figure" "is_figure" (defArgs sFig) (defBody sFig) (defScope sFig) .none kV2 dc2 pm2 an2 cd2 ct2), sl2⟩)
    (c2 : PySem.W.codeIn K cd2 "is_figure" = true)
    (k2 : PySem.W.keepIn K (.ref f2) = true)
    (a3 : PySem.W.nsIn K mainGlobals "bare_words" = some (some (.ref f3)))
    (l3 : K.lookup f3 = some ⟨oc3, od3, .func (PySem.W.fnOf "bare_words" "bare_words" (defArgs sBare) (defBody sBare) (defScope sBare) .none kV3 dc3 pm3 an3 cd3 ct3), sl3⟩)
    (c3 : PySem.W.codeIn K cd3 "bare_words" = true)
    (k3 : PySem.W.keepIn K (.ref f3) = true)
    (a4 : PySem.W.nsIn K mainGlobals "is_word_sign" = some (some (.ref f4)))
    (l4 : K.lookup f4 = some ⟨oc4, od4, .func (PySem.W.fnOf "is_word_sign" "is_word_sign" (defArgs sSign) (defBody sSign) (defScope sSign) .none kV4 dc4 pm4 an4 cd4 ct4), sl4⟩)
    (c4 : PySem.W.codeIn K cd4 "is_word_sign" = true)
    (k4 : PySem.W.keepIn K (.ref f4) = true)
    (a5 : PySem.W.nsIn K mainGlobals "is_name" = some (some (.ref f5)))
    (l5 : K.lookup f5 = some ⟨oc5, od5, .func (PySem.W.fnOf "is_name" "is_name" (defArgs sName) (defBody sName) (defScope sName) .none kV5 dc5 pm5 an5 cd5 ct5), sl5⟩)
    (c5 : PySem.W.codeIn K cd5 "is_name" = true)
    (k5 : PySem.W.keepIn K (.ref f5) = true)
    (a6 : PySem.W.nsIn K mainGlobals "look_at_document" = some (some (.ref f6)))
    (l6 : K.lookup f6 = some ⟨oc6, od6, .func (PySem.W.fnOf "look_at_document" "look_at_document" (defArgs sLook) (defBody sLook) (defScope sLook) .none kV6 dc6 pm6 an6 cd6 ct6), sl6⟩)
    (c6 : PySem.W.codeIn K cd6 "look_at_document" = true)
    (k6 : PySem.W.keepIn K (.ref f6) = true)
    (a7 : PySem.W.nsIn K mainGlobals "end_of_word" = some (some (.ref f7)))
    (l7 : K.lookup f7 = some ⟨oc7, od7, .func (PySem.W.fnOf "end_of_word" "end_of_word" (defArgs sEnd) (defBody sEnd) (defScope sEnd) .none kV7 dc7 pm7 an7 cd7 ct7), sl7⟩)
    (c7 : PySem.W.codeIn K cd7 "end_of_word" = true)
    (k7 : PySem.W.keepIn K (.ref f7) = true)
    (a8 : PySem.W.nsIn K mainGlobals "words_of" = some (some (.ref f8)))
    (l8 : K.lookup f8 = some ⟨oc8, od8, .func (PySem.W.fnOf "words_of" "words_of" (defArgs sWords) (defBody sWords) (defScope sWords) .none kV8 dc8 pm8 an8 cd8 ct8), sl8⟩)
    (c8 : PySem.W.codeIn K cd8 "words_of" = true)
    (k8 : PySem.W.keepIn K (.ref f8) = true)
    (a9 : PySem.W.nsIn K mainGlobals "is_whole_number" = some (some (.ref f9)))
    (l9 : K.lookup f9 = some ⟨oc9, od9, .func (PySem.W.fnOf "is_whole_number" "is_whole_number" (defArgs sWhole) (defBody sWhole) (defScope sWhole) .none kV9 dc9 pm9 an9 cd9 ct9), sl9⟩)
    (c9 : PySem.W.codeIn K cd9 "is_whole_number" = true)
    (k9 : PySem.W.keepIn K (.ref f9) = true)
    (a10 : PySem.W.nsIn K mainGlobals "look_at_makes" = some (some (.ref f10)))
    (l10 : K.lookup f10 = some ⟨oc10, od10, .func (PySem.W.fnOf "look_at_makes" "look_at_makes" (defArgs sMakes) (defBody sMakes) (defScope sMakes) .none kV10 dc10 pm10 an10 cd10 ct10), sl10⟩)
    (c10 : PySem.W.codeIn K cd10 "look_at_makes" = true)
    (k10 : PySem.W.keepIn K (.ref f10) = true)
    (a11 : PySem.W.nsIn K mainGlobals "places_by_word" = some (some (.ref f11)))
    (l11 : K.lookup f11 = some ⟨oc11, od11, .func (PySem.W.fnOf "places_by_word" "places_by_word" (defArgs sPlaces) (defBody sPlaces) (defScope sPlaces) .none kV11 dc11 pm11 an11 cd11 ct11), sl11⟩)
    (c11 : PySem.W.codeIn K cd11 "places_by_word" = true)
    (k11 : PySem.W.keepIn K (.ref f11) = true)
    (a12 : PySem.W.nsIn K mainGlobals "add_postings" = some (some (.ref f12)))
    (l12 : K.lookup f12 = some ⟨oc12, od12, .func (PySem.W.fnOf "add_postings" "add_postings" (defArgs sAdd) (defBody sAdd) (defScope sAdd) .none kV12 dc12 pm12 an12 cd12 ct12), sl12⟩)
    (c12 : PySem.W.codeIn K cd12 "add_postings" = true)
    (k12 : PySem.W.keepIn K (.ref f12) = true)
    (a13 : PySem.W.nsIn K mainGlobals "_law_cell_at" = some (some (.ref f13)))
    (l13 : K.lookup f13 = some ⟨oc13, od13, .func (PySem.W.fnOf "_law_cell_at" "_law_cell_at" (defArgs sCell) (defBody sCell) (defScope sCell) .none kV13 dc13 pm13 an13 cd13 ct13), sl13⟩)
    (c13 : PySem.W.codeIn K cd13 "_law_cell_at" = true)
    (k13 : PySem.W.keepIn K (.ref f13) = true)
    (a14 : PySem.W.nsIn K mainGlobals "_law_draws" = some (some (.ref f14)))
    (l14 : K.lookup f14 = some ⟨oc14, od14, .func (PySem.W.fnOf "_law_draws" "_law_draws" (defArgs sDraws) (defBody sDraws) (defScope sDraws) .none kV14 dc14 pm14 an14 cd14 ct14), sl14⟩)
    (c14 : PySem.W.codeIn K cd14 "_law_draws" = true)
    (k14 : PySem.W.keepIn K (.ref f14) = true)
    (a15 : PySem.W.nsIn K mainGlobals "_law_text" = some (some (.ref f15)))
    (l15 : K.lookup f15 = some ⟨oc15, od15, .func (PySem.W.fnOf "_law_text" "_law_text" (defArgs sText) (defBody sText) (defScope sText) .none kV15 dc15 pm15 an15 cd15 ct15), sl15⟩)
    (c15 : PySem.W.codeIn K cd15 "_law_text" = true)
    (k15 : PySem.W.keepIn K (.ref f15) = true)
    (a16 : PySem.W.nsIn K mainGlobals "_law_document" = some (some (.ref f16)))
    (l16 : K.lookup f16 = some ⟨oc16, od16, .func (PySem.W.fnOf "_law_document" "_law_document" (defArgs sDoc) (defBody sDoc) (defScope sDoc) .none kV16 dc16 pm16 an16 cd16 ct16), sl16⟩)
    (c16 : PySem.W.codeIn K cd16 "_law_document" = true)
    (k16 : PySem.W.keepIn K (.ref f16) = true)
    (a17 : PySem.W.nsIn K mainGlobals "_law_makes" = some (some (.ref f17)))
    (l17 : K.lookup f17 = some ⟨oc17, od17, .func (PySem.W.fnOf "_law_makes" "_law_makes" (defArgs sMks) (defBody sMks) (defScope sMks) .none kV17 dc17 pm17 an17 cd17 ct17), sl17⟩)
    (c17 : PySem.W.codeIn K cd17 "_law_makes" = true)
    (k17 : PySem.W.keepIn K (.ref f17) = true)
    (a18 : PySem.W.nsIn K mainGlobals "_law_is_name" = some (some (.ref f18)))
    (l18 : K.lookup f18 = some ⟨oc18, od18, .func (PySem.W.fnOf "_law_is_name" "_law_is_name" (defArgs sIsNm) (defBody sIsNm) (defScope sIsNm) .none kV18 dc18 pm18 an18 cd18 ct18), sl18⟩)
    (c18 : PySem.W.codeIn K cd18 "_law_is_name" = true)
    (k18 : PySem.W.keepIn K (.ref f18) = true)
    (a19 : PySem.W.nsIn K mainGlobals "_law_wrong_field" = some (some (.ref f19)))
    (l19 : K.lookup f19 = some ⟨oc19, od19, .func (PySem.W.fnOf "_law_wrong_field" "_law_wrong_field" (defArgs sWrong) (defBody sWrong) (defScope sWrong) .none kV19 dc19 pm19 an19 cd19 ct19), sl19⟩)
    (c19 : PySem.W.codeIn K cd19 "_law_wrong_field" = true)
    (k19 : PySem.W.keepIn K (.ref f19) = true)
    (a20 : PySem.W.nsIn K mainGlobals "_law_due" = some (some (.ref f20)))
    (l20 : K.lookup f20 = some ⟨oc20, od20, .func (PySem.W.fnOf "_law_due" "_law_due" (defArgs sDue) (defBody sDue) (defScope sDue) .none kV20 dc20 pm20 an20 cd20 ct20), sl20⟩)
    (c20 : PySem.W.codeIn K cd20 "_law_due" = true)
    (k20 : PySem.W.keepIn K (.ref f20) = true)
    (a21 : PySem.W.nsIn K mainGlobals "_law_bent" = some (some (.ref f21)))
    (l21 : K.lookup f21 = some ⟨oc21, od21, .func (PySem.W.fnOf "_law_bent" "_law_bent" (defArgs sBent) (defBody sBent) (defScope sBent) .none kV21 dc21 pm21 an21 cd21 ct21), sl21⟩)
    (c21 : PySem.W.codeIn K cd21 "_law_bent" = true)
    (k21 : PySem.W.keepIn K (.ref f21) = true)
    (a22 : PySem.W.nsIn K mainGlobals "_law_caught" = some (some (.ref f22)))
    (l22 : K.lookup f22 = some ⟨oc22, od22, .func (PySem.W.fnOf "_law_caught" "_law_caught" (defArgs sCaught) (defBody sCaught) (defScope sCaught) .none kV22 dc22 pm22 an22 cd22 ct22), sl22⟩)
    (c22 : PySem.W.codeIn K cd22 "_law_caught" = true)
    (k22 : PySem.W.keepIn K (.ref f22) = true)
    (a23 : PySem.W.nsIn K mainGlobals "law" = some (some (.ref f23)))
    (l23 : K.lookup f23 = some ⟨oc23, od23, .func (PySem.W.fnOf "law" "law" (defArgs sLaw) (defBody sLaw) (defScope sLaw) .none kV23 dc23 pm23 an23 cd23 ct23), sl23⟩)
    (c23 : PySem.W.codeIn K cd23 "law" = true)
    (k23 : PySem.W.keepIn K (.ref f23) = true)
    (nFE : PySem.W.nsIn K mainGlobals "FindError" = some (some (.ref FE)))
    (nNF : PySem.W.nsIn K mainGlobals "NoField" = some (some (.ref NF)))
    (nNM : PySem.W.nsIn K mainGlobals "NoMake" = some (some (.ref NM)))
    (nNB : PySem.W.nsIn K mainGlobals "NoBytes" = some (some (.ref NB)))
    (nND : PySem.W.nsIn K mainGlobals "NoDocument" = some (some (.ref ND)))
    (nNL : PySem.W.nsIn K mainGlobals "NoLine" = some (some (.ref NL)))
    (nNP : PySem.W.nsIn K mainGlobals "NoPattern" = some (some (.ref NP)))
    (nNQ : PySem.W.nsIn K mainGlobals "NoPiece" = some (some (.ref NQ)))
    (nNS : PySem.W.nsIn K mainGlobals "NoStamp" = some (some (.ref NS)))
    (nNT : PySem.W.nsIn K mainGlobals "NoText" = some (some (.ref NT)))
    (nPC : PySem.W.nsIn K mainGlobals "Piece" = some (some (.ref PC)))
    (iF : PySem.W.findIn K (.ref NF) "__init__" = some (some (.ref gF)))
    (jF : PySem.W.isFn K (.ref gF) = true)
    (lF : K.lookup gF = some ⟨ocF, odF, .func (PySem.W.fnOf "__init__" "NoField.__init__" (defArgs sXF) (defBody sXF) (defScope sXF) .none kVF dcF pmF anF cdF ctF), slF⟩)
    (cF : PySem.W.codeIn K cdF "NoField.__init__" = true)
    (kF : PySem.W.keepIn K (.ref gF) = true)
    (kcF : PySem.W.keepIn K (.ref NF) = true)
    (iM : PySem.W.findIn K (.ref NM) "__init__" = some (some (.ref gM)))
    (jM : PySem.W.isFn K (.ref gM) = true)
    (lM : K.lookup gM = some ⟨ocM, odM, .func (PySem.W.fnOf "__init__" "NoMake.__init__" (defArgs sXM) (defBody sXM) (defScope sXM) .none kVM dcM pmM anM cdM ctM), slM⟩)
    (cM : PySem.W.codeIn K cdM "NoMake.__init__" = true)
    (kM : PySem.W.keepIn K (.ref gM) = true)
    (kcM : PySem.W.keepIn K (.ref NM) = true)
    (iP : PySem.W.findIn K (.ref PC) "__init__" = some (some (.ref gP)))
    (jP : PySem.W.isFn K (.ref gP) = true)
    (lP : K.lookup gP = some ⟨ocP, odP, .func (PySem.W.fnOf "__init__" "Piece.__init__" (defArgs sInit) (defBody sInit) (defScope sInit) .none kVP dcP pmP anP cdP ctP), slP⟩)
    (cP : PySem.W.codeIn K cdP "Piece.__init__" = true)
    (kP : PySem.W.keepIn K (.ref gP) = true)
    (kcP : PySem.W.keepIn K (.ref PC) = true)
    (eE : K.lookup FE = some ⟨.type "type", ddE, .cls cdE, slE⟩)
    (eN : cdE.ns = NsA)
    (eL : K.lookup NsA = some ⟨c1E, d1E, .dict esE nE, sl1E⟩)
    (eK : strKeys esE = true)
    (eI : nsFind esE "__init__" = none)
    (bE : PySem.W.mroIn K FE (.type "BaseException") = some true)
    (x1NF : K.lookup NF = some oNF)
    (x2NF : ∃ (nm qn : Str) (N : Addr) (bs : List Value) (sn : List Str) (sub : List Value) (ab : Bool) (col : Option Bool) (dd : Option Addr) (k0 k1 k2 k3 k5 : Option Value), oNF = excClassObj nm qn NF N bs (.ref FE :: bmV) true sn sub ab col dd k0 k1 k2 k3 k5 "ValueError.__new__")
    (x3NF : PySem.W.findIn K (.ref NF) "__setattr__" = some (some (.builtin "object.__setattr__")))
    (x4NF : PySem.W.findIn K (.ref NF) "place" = some none)
    (x5NF : PySem.W.mroIn K NF (.ref FE) = some true)
    (g1NF : PySem.W.findIn K (.ref NF) "__getattribute__" = some (some (.builtin "BaseException.__getattribute__")))
    (g2NF : PySem.W.findIn K (.ref NF) "__getattr__" = some none)
    (g3NF : PySem.W.mroIn K NF (.type "BaseException") = some true)
    (g4NF : PySem.W.mroIn K NF (.type "object") = some true)
    (g5NF : PySem.W.hasDictIn K NF = true)
    (g6NF : PySem.W.findIn K (.ref NF) "__class__" = some (some (.builtin "object.__class__")))
    (g7NF : PySem.W.specialIn K (.builtin "object.__class__") "__get__" = some (some (.builtin "getset_descriptor.__get__")))
    (g8NF : PySem.W.takesIn K (.builtin "object.__class__") = some true)
    (yNBNF : PySem.W.kitOne K (.ref NF) (.ref NB) = some false)
    (yNDNF : PySem.W.kitOne K (.ref NF) (.ref ND) = some false)
    (yNLNF : PySem.W.kitOne K (.ref NF) (.ref NL) = some false)
    (yNPNF : PySem.W.kitOne K (.ref NF) (.ref NP) = some false)
    (yNQNF : PySem.W.kitOne K (.ref NF) (.ref NQ) = some false)
    (yNSNF : PySem.W.kitOne K (.ref NF) (.ref NS) = some false)
    (yNTNF : PySem.W.kitOne K (.ref NF) (.ref NT) = some false)
    (yvNF : PySem.W.kitOne K (.ref NF) (.type "ValueError") = some true)
    (ymNF : PySem.W.kitOne K (.ref NF) (.ref NM) = some false)
    (yfNF : PySem.W.kitOne K (.ref NF) (.ref NF) = some true)
    (x1NM : K.lookup NM = some oNM)
    (x2NM : ∃ (nm qn : Str) (N : Addr) (bs : List Value) (sn : List Str) (sub : List Value) (ab : Bool) (col : Option Bool) (dd : Option Addr) (k0 k1 k2 k3 k5 : Option Value), oNM = excClassObj nm qn NM N bs (.ref FE :: bmV) true sn sub ab col dd k0 k1 k2 k3 k5 "ValueError.__new__")
    (x3NM : PySem.W.findIn K (.ref NM) "__setattr__" = some (some (.builtin "object.__setattr__")))
    (x4NM : PySem.W.findIn K (.ref NM) "place" = some none)
    (x5NM : PySem.W.mroIn K NM (.ref FE) = some true)
    (g1NM : PySem.W.findIn K (.ref NM) "__getattribute__" = some (some (.builtin "BaseException.__getattribute__")))
    (g2NM : PySem.W.findIn K (.ref NM) "__getattr__" = some none)
    (g3NM : PySem.W.mroIn K NM (.type "BaseException") = some true)
    (g4NM : PySem.W.mroIn K NM (.type "object") = some true)
    (g5NM : PySem.W.hasDictIn K NM = true)
    (g6NM : PySem.W.findIn K (.ref NM) "__class__" = some (some (.builtin "object.__class__")))
    (g7NM : PySem.W.specialIn K (.builtin "object.__class__") "__get__" = some (some (.builtin "getset_descriptor.__get__")))
    (g8NM : PySem.W.takesIn K (.builtin "object.__class__") = some true)
    (yNBNM : PySem.W.kitOne K (.ref NM) (.ref NB) = some false)
    (yNDNM : PySem.W.kitOne K (.ref NM) (.ref ND) = some false)
    (yNLNM : PySem.W.kitOne K (.ref NM) (.ref NL) = some false)
    (yNPNM : PySem.W.kitOne K (.ref NM) (.ref NP) = some false)
    (yNQNM : PySem.W.kitOne K (.ref NM) (.ref NQ) = some false)
    (yNSNM : PySem.W.kitOne K (.ref NM) (.ref NS) = some false)
    (yNTNM : PySem.W.kitOne K (.ref NM) (.ref NT) = some false)
    (yvNM : PySem.W.kitOne K (.ref NM) (.type "ValueError") = some true)
    (ymNM : PySem.W.kitOne K (.ref NM) (.ref NM) = some true)
    (yfNM : PySem.W.kitOne K (.ref NM) (.ref NF) = some false)
    (p1 : PySem.W.plainGet K PC Str.empty = true)
    (p2 : PySem.W.hasDictIn K PC = true)
    (p3 : PySem.W.plainOver K PC = true)
    (p4 : PySem.W.findIn K (.ref PC) "__setattr__" = some (some (.builtin "object.__setattr__")))
    (p5 : PySem.W.makesIn K PC = true)
    (q0 : PySem.W.findIn K (.ref PC) "own_makes" = some none)
    (q1 : PySem.W.findIn K (.ref PC) "by_field" = some none)
    (q2 : PySem.W.findIn K (.ref PC) "lengths" = some none)
    (s1 : PySem.W.nsIn K mainGlobals "MOST_NAME_SIGNS" = some (some (.int 12 tk1)))
    (z1 : PySem.W.nsIn K mainGlobals "len" = some none)
    (z2 : PySem.W.nsIn K mainGlobals "range" = some none)
    (z3 : PySem.W.nsIn K mainGlobals "all" = some none)
    (z4 : PySem.W.nsIn K mainGlobals "enumerate" = some none)
    (z5 : PySem.W.nsIn K mainGlobals "isinstance" = some none)
    (z6 : PySem.W.nsIn K mainGlobals "int" = some none)
    (z7 : PySem.W.nsIn K mainGlobals "bool" = some none)
    (z8 : PySem.W.nsIn K mainGlobals "abs" = some none)
    (z9 : PySem.W.nsIn K mainGlobals "list" = some none)
    (z10 : PySem.W.nsIn K mainGlobals "min" = some none)
    (z11 : PySem.W.nsIn K mainGlobals "sorted" = some none)
    (z12 : PySem.W.nsIn K mainGlobals "reversed" = some none)
    (z13 : PySem.W.nsIn K mainGlobals "ValueError" = some none)
    : ∃ fd : FuncData, (∀ (s : Shared) (v : Value), BindsTo s fd ⟨[v], []⟩ [("_law_script", v)]) ∧ ∀ base : Heap, K.In base → base.Ns mainGlobals mg → FnOk l.prog w K mg base CX0 9 fa fd ["_law_script"] (spLaw K) := by
  have e := hfa.symm.trans (PySem.W.mg_of X G a23)
  cases e
  have t1 := PySem.W.mg_none_of X G z1
  have t2 := PySem.W.mg_none_of X G z2
  have t3 := PySem.W.mg_none_of X G z3
  have t4 := PySem.W.mg_none_of X G z4
  have t5 := PySem.W.mg_none_of X G z5
  have t6 := PySem.W.mg_none_of X G z6
  have t7 := PySem.W.mg_none_of X G z7
  have t8 := PySem.W.mg_none_of X G z8
  have t9 := PySem.W.mg_none_of X G z9
  have t10 := PySem.W.mg_none_of X G z10
  have t11 := PySem.W.mg_none_of X G z11
  have t12 := PySem.W.mg_none_of X G z12
  have t13 := PySem.W.mg_none_of X G z13
  have u1 := PySem.W.mg_of X G s1
  have mFE := PySem.W.mg_of X G nFE
  have mNF := PySem.W.mg_of X G nNF
  have mNM := PySem.W.mg_of X G nNM
  have mNB := PySem.W.mg_of X G nNB
  have mND := PySem.W.mg_of X G nND
  have mNL := PySem.W.mg_of X G nNL
  have mNP := PySem.W.mg_of X G nNP
  have mNQ := PySem.W.mg_of X G nNQ
  have mNS := PySem.W.mg_of X G nNS
  have mNT := PySem.W.mg_of X G nNT
  have mPC := PySem.W.mg_of X G nPC
  have T : Txt mg := { len := t1, range := t2, all := t3, enumerate := t4, isinstance := t5, int := t6, bool := t7, abs := t8, list := t9, min := t10, sorted := t11, reversed := t12, valueError := t13, most := ⟨_, u1⟩ }
  have F1 := fun_mk (st := sSmall) l1 c1 k1
  have m1 := PySem.W.mg_of X G a1
  have b1 := F1.binds (ps := ["sign"]) fun _ _ _ _ _ _ us hl => match us, hl with | [_], _ => rfl
  have F2 := fun_mk (st := sFig) l2 c2 k2
  have m2 := PySem.W.mg_of X G a2
  have b2 := F2.binds (ps := ["sign"]) fun _ _ _ _ _ _ us hl => match us, hl with | [_], _ => rfl
  have F3 := fun_mk (st := sBare) l3 c3 k3
  have m3 := PySem.W.mg_of X G a3
  have b3 := F3.binds (ps := ["text"]) fun _ _ _ _ _ _ us hl => match us, hl with | [_], _ => rfl
  have F4 := fun_mk (st := sSign) l4 c4 k4
  have m4 := PySem.W.mg_of X G a4
  have b4 := F4.binds (ps := ["sign"]) fun _ _ _ _ _ _ us hl => match us, hl with | [_], _ => rfl
  have F5 := fun_mk (st := sName) l5 c5 k5
  have m5 := PySem.W.mg_of X G a5
  have b5 := F5.binds (ps := ["text"]) fun _ _ _ _ _ _ us hl => match us, hl with | [_], _ => rfl
  have F6 := fun_mk (st := sLook) l6 c6 k6
  have m6 := PySem.W.mg_of X G a6
  have b6 := F6.binds (ps := ["document"]) fun _ _ _ _ _ _ us hl => match us, hl with | [_], _ => rfl
  have F7 := fun_mk (st := sEnd) l7 c7 k7
  have m7 := PySem.W.mg_of X G a7
  have b7 := F7.binds (ps := ["text", "begin"]) fun _ _ _ _ _ _ us hl => match us, hl with | [_, _], _ => rfl
  have F8 := fun_mk (st := sWords) l8 c8 k8
  have m8 := PySem.W.mg_of X G a8
  have b8 := F8.binds (ps := ["text"]) fun _ _ _ _ _ _ us hl => match us, hl with | [_], _ => rfl
  have F9 := fun_mk (st := sWhole) l9 c9 k9
  have m9 := PySem.W.mg_of X G a9
  have b9 := F9.binds (ps := ["value"]) fun _ _ _ _ _ _ us hl => match us, hl with | [_], _ => rfl
  have F10 := fun_mk (st := sMakes) l10 c10 k10
  have m10 := PySem.W.mg_of X G a10
  have b10 := F10.binds (ps := ["makes"]) fun _ _ _ _ _ _ us hl => match us, hl with | [_], _ => rfl
  have F11 := fun_mk (st := sPlaces) l11 c11 k11
  have m11 := PySem.W.mg_of X G a11
  have b11 := F11.binds (ps := ["words"]) fun _ _ _ _ _ _ us hl => match us, hl with | [_], _ => rfl
  have F12 := fun_mk (st := sAdd) l12 c12 k12
  have m12 := PySem.W.mg_of X G a12
  have b12 := F12.binds (ps := ["by_word", "make", "words"]) fun _ _ _ _ _ _ us hl => match us, hl with | [_, _, _], _ => rfl
  have F13 := fun_mk (st := sCell) l13 c13 k13
  have m13 := PySem.W.mg_of X G a13
  have b13 := F13.binds (ps := ["_law_script", "_law_k"]) fun _ _ _ _ _ _ us hl => match us, hl with | [_, _], _ => rfl
  have F14 := fun_mk (st := sDraws) l14 c14 k14
  have m14 := PySem.W.mg_of X G a14
  have b14 := F14.binds (ps := ["_law_cell", "_law_many", "_law_base", "_law_free"]) fun _ _ _ _ _ _ us hl => match us, hl with | [_, _, _, _], _ => rfl
  have F15 := fun_mk (st := sText) l15 c15 k15
  have m15 := PySem.W.mg_of X G a15
  have b15 := F15.binds (ps := ["_law_cell"]) fun _ _ _ _ _ _ us hl => match us, hl with | [_], _ => rfl
  have F16 := fun_mk (st := sDoc) l16 c16 k16
  have m16 := PySem.W.mg_of X G a16
  have b16 := F16.binds (ps := ["_law_cell", "_law_more"]) fun _ _ _ _ _ _ us hl => match us, hl with | [_, _], _ => rfl
  have F17 := fun_mk (st := sMks) l17 c17 k17
  have m17 := PySem.W.mg_of X G a17
  have b17 := F17.binds (ps := ["_law_script"]) fun _ _ _ _ _ _ us hl => match us, hl with | [_], _ => rfl
  have F18 := fun_mk (st := sIsNm) l18 c18 k18
  have m18 := PySem.W.mg_of X G a18
  have b18 := F18.binds (ps := ["_law_text_here"]) fun _ _ _ _ _ _ us hl => match us, hl with | [_], _ => rfl
  have F19 := fun_mk (st := sWrong) l19 c19 k19
  have m19 := PySem.W.mg_of X G a19
  have b19 := F19.binds (ps := ["_law_document_here"]) fun _ _ _ _ _ _ us hl => match us, hl with | [_], _ => rfl
  have F20 := fun_mk (st := sDue) l20 c20 k20
  have m20 := PySem.W.mg_of X G a20
  have b20 := F20.binds (ps := ["_law_makes_here"]) fun _ _ _ _ _ _ us hl => match us, hl with | [_], _ => rfl
  have F21 := fun_mk (st := sBent) l21 c21 k21
  have m21 := PySem.W.mg_of X G a21
  have b21 := F21.binds (ps := ["_law_makes_here", "_law_cell"]) fun _ _ _ _ _ _ us hl => match us, hl with | [_, _], _ => rfl
  have F22 := fun_mk (st := sCaught) l22 c22 k22
  have m22 := PySem.W.mg_of X G a22
  have b22 := F22.binds (ps := ["_law_makes_here"]) fun _ _ _ _ _ _ us hl => match us, hl with | [_], _ => rfl
  have F23 := fun_mk (st := sLaw) l23 c23 k23
  have m23 := PySem.W.mg_of X G a23
  have FF := fun_mk (st := sXF) lF cF kF
  have bF := FF.binds (ps := ["self", "place"]) fun _ _ _ _ _ _ us hl => match us, hl with | [_, _], _ => rfl
  have FM := fun_mk (st := sXM) lM cM kM
  have bM := FM.binds (ps := ["self", "place"]) fun _ _ _ _ _ _ us hl => match us, hl with | [_, _], _ => rfl
  have FP := fun_mk (st := sInit) lP cP kP
  have bP := FP.binds (ps := ["self", "makes"]) fun _ _ _ _ _ _ us hl => match us, hl with | [_, _], _ => rfl
  have xcNF : XCls K NF FE := ⟨by obtain ⟨nm, qn, N, bs, sn, sub, ab, col, dd, k0, k1, k2, k3, k5, e⟩ := x2NF; exact ⟨nm, qn, N, bs, sn, sub, ab, col, dd, k0, k1, k2, k3, k5, by rw [x1NF, e]⟩, ⟨_, _, _, _, _, _, _, _, _, eE, by rw [eN]; exact eL, eK, eI⟩, x3NF⟩
  have xaNF : XAttr K NF := ⟨g1NF, g2NF, g3NF, g4NF, g5NF, g6NF, g7NF, g8NF⟩
  have xkNF : XKit K FE NF NM NB ND NL NP NQ NS NT NF false := ⟨x5NF, xaNF, x4NF, yNBNF, yNDNF, yNLNF, yNPNF, yNQNF, yNSNF, yNTNF, yvNF, ymNF, yfNF⟩
  have xcNM : XCls K NM FE := ⟨by obtain ⟨nm, qn, N, bs, sn, sub, ab, col, dd, k0, k1, k2, k3, k5, e⟩ := x2NM; exact ⟨nm, qn, N, bs, sn, sub, ab, col, dd, k0, k1, k2, k3, k5, by rw [x1NM, e]⟩, ⟨_, _, _, _, _, _, _, _, _, eE, by rw [eN]; exact eL, eK, eI⟩, x3NM⟩
  have xaNM : XAttr K NM := ⟨g1NM, g2NM, g3NM, g4NM, g5NM, g6NM, g7NM, g8NM⟩
  have xkNM : XKit K FE NF NM NB ND NL NP NQ NS NT NM true := ⟨x5NM, xaNM, x4NM, yNBNM, yNDNM, yNLNM, yNPNM, yNQNM, yNSNM, yNTNM, yvNM, ymNM, yfNM⟩
  refine ⟨PySem.W.fnOf "law" "law" (defArgs sLaw) (defBody sLaw) (defScope sLaw) .none kV23 dc23 pm23 an23 cd23 ct23, fun s v => .of_eq rfl, fun base _ _ => ?_⟩
  have o1 := ok_small F1 (P := l.prog) (w := w) (mg := mg) (base := base)
  have oS := ok_sign F4 o1 b1 k1 m1 (ok_fig F2) b2 k2 m2
  have o5 := ok_end F7 T oS b4 k4 m4
  have o6 := ok_words F8 T o5 b7 k7 m7
  have oBa := ok_bare F3 T o6 b8 k8 m8
  have o4 := ok_look F6 T (ok_name F5 T o1 b1 k1 m1) b5 k5 m5 xcNF iF jF kcF x4NF (ok_xinitF FF) bF mNF
  have o8 := ok_makes F10 T (ok_whole F9 T) b9 k9 m9 o4 b6 k6 m6 xcNM iM jM kcM x4NM (ok_xinitM FM) bM mNM
  have oI := ok_init FP T ⟨p1, p2, p3, p4⟩ q0 q1 q2 o8 b10 k10 m10 oBa b3 k3 m3 (ok_add F12 T (ok_places F11 T) b11 k11 m11) b12 k12 m12
  have oC := ok_caught F22 T ⟨p5, iP, jP, kcP⟩ oI bP mPC ⟨mFE, mNF, mNM, mNB, mND, mNL, mNP, mNQ, mNS, mNT⟩ ⟨⟨_, _, _, eE⟩, bE⟩ xkNM xkNF
  have oD := ok_draws F14 T (P := l.prog) (w := w) (base := base)
  have oT := ok_text F15 T oD b14 k14 m14
  have oDc := ok_doc F16 T oD b14 k14 m14 oT b15 k15 m15
  have oMk := ok_mks F17 T oDc b16 k16 m16
  have oDu := ok_due (P := l.prog) (w := w) (base := base) F20 T (ok_wrong F19 T (ok_isnm F18 T) b18 k18 m18) b19 k19 m19
  exact ok_law F23 T oMk b17 k17 m17 (ok_cell F13 T) b13 k13 m13 (ok_bent F21 T) b21 k21 m21 oDu b20 k20 m20 oC b22 k22 m22
theorem walk {l : PySem.W.OpenLaw} {q : Program} {loose : List Str} {XP : (Str → Option Value) → Heap → Prop} {YP : World → Heap → Prop} {d : DefRec} {K : Params → PySem.W.Frag} (hn : l.most = some 63) (hdf : d.params.defaults = [])
    (hY : ∀ (w : World) (h : Heap), YP w h → (K w.params).In h)
    (F : ∀ (w : World) (mg : Str → Option Value) (fa : Addr) (h : Heap), (K w.params).In h → h.Ns mainGlobals mg → mg d.name = some (.ref fa) →
      ∃ fd : FuncData, (∀ (s : Shared) (u : Value), BindsTo s fd ⟨[u], []⟩ [("_law_script", u)]) ∧ ∀ base : Heap, (K w.params).In base → base.Ns mainGlobals mg → FnOk l.prog w (K w.params) mg base CX0 9 fa fd ["_law_script"] (spLaw (K w.params))) :
    PySem.W.WalkO q loose XP YP l.row.toRowW d [] (fun f vs => PySem.call f vs) :=
  L2.walk_of (n := 63) (k := 9) (x := "_law_script") (CX := fun _ => CX0) (sp := fun w => spLaw (K w.params)) hn (by decide) hdf ⟨rfl, by decide, by decide⟩ hY F (fun _ _ a ns hl _ hS => ⟨a, ns, rfl, hS, hl, fun _ => rfl⟩) fun _ _ _ _ _ z => z
end K7
open PySem PySem.W PyProof.Rows
def PySem.Challenge.cw_findcourt_k07_makes_refused_holds.tw18282282553703425969 : Nat := 0
def PySem.Challenge.cw_findcourt_k07_makes_refused_holds.tw13752844467418211651 : Nat := 0
def PySem.Challenge.cw_findcourt_k07_makes_refused_holds.tw4207380780317667792 : Nat := 0
def PySem.Challenge.cw_findcourt_k07_makes_refused_holds.tw97150966707774930 : Nat := 0
def PySem.Challenge.cw_findcourt_k07_makes_refused_holds.tw2337208670781017202 : Nat := 0
def PySem.Challenge.cw_findcourt_k07_makes_refused_holds.tw13903942691619991126 : Nat := 0
def PySem.Challenge.cw_findcourt_k07_makes_refused_holds.tw3433611117180542296 : Nat := 0
def PySem.Challenge.cw_findcourt_k07_makes_refused_holds.tw11195437229134865951 : Nat := 0
def PySem.Challenge.cw_findcourt_k07_makes_refused_holds.tw13729500500027986738 : Nat := 0
def PySem.Challenge.cw_findcourt_k07_makes_refused_holds.tw7384785894636156826 : Nat := 0
def PySem.Challenge.cw_findcourt_k07_makes_refused_holds.tw11715947271478650639 : Nat := 0
def PySem.Challenge.cw_findcourt_k07_makes_refused_holds.tw8930432224758287324 : Nat := 0
def PySem.Challenge.cw_findcourt_k07_makes_refused_holds.tw13066780189651328936 : Nat := 0
def PySem.Challenge.cw_findcourt_k07_makes_refused_holds.tw439509634731571792 : Nat := 0
def PySem.Challenge.cw_findcourt_k07_makes_refused_holds.tw7315389233315176756 : Nat := 0
def PySem.Challenge.cw_findcourt_k07_makes_refused_holds.tw15599043087669837660 : Nat := 0
def PySem.Challenge.cw_findcourt_k07_makes_refused_holds.tw2127086886971194162 : Nat := 0
def PySem.Challenge.cw_findcourt_k07_makes_refused_holds.tw6135193755444465751 : Nat := 0
def PySem.Challenge.cw_findcourt_k07_makes_refused_holds.tw10221005870199412564 : Nat := 0
def PySem.Challenge.cw_findcourt_k07_makes_refused_holds.tw8592160262265613856 : Nat := 0
def PySem.Challenge.cw_findcourt_k07_makes_refused_holds.tw9561241775921989597 : Nat := 0
def PySem.Challenge.cw_findcourt_k07_makes_refused_holds.tw14236885617358607126 : Nat := 0
def PySem.Challenge.cw_findcourt_k07_makes_refused_holds.tw4688835464484326928 : Nat := 0
def PySem.Challenge.cw_findcourt_k07_makes_refused_holds.tw2497797116756736700 : Nat := 0
def PySem.Challenge.cw_findcourt_k07_makes_refused_holds.tw15115262056996702711 : Nat := 0
def PySem.Challenge.cw_findcourt_k07_makes_refused_holds.tw11342243903074573218 : Nat := 0
def PySem.Challenge.cw_findcourt_k07_makes_refused_holds.tw9068794209431559289 : Nat := 0
def PySem.Challenge.cw_findcourt_k07_makes_refused_holds.tw15392425500261706069 : Nat := 0
def PySem.Challenge.cw_findcourt_k07_makes_refused_holds.tw12997066310875309720 : Nat := 0
def PySem.Challenge.cw_findcourt_k07_makes_refused_holds.tw12433888787349974163 : Nat := 0
def PySem.Challenge.cw_findcourt_k07_makes_refused_holds.tw1321162725578602253 : Nat := 0
def PySem.Challenge.cw_findcourt_k07_makes_refused_holds.tw1639163485665374321 : Nat := 0
def PySem.W.Fast.tw10335317643191939544 : Nat := 0
def PySem.W.Fast.tw5067053398568500179 : Nat := 0
def PySem.W.Fast.tw14118884196934608032 : Nat := 0
def PySem.W.Fast.tw97150966707774930 : Nat := 0
def PySem.W.Fast.tw11948953779929713857 : Nat := 0
def PySem.W.Fast.tw16617899120239125400 : Nat := 0
def PySem.W.Fast.tw11033511268762489074 : Nat := 0
def PySem.W.Fast.tw11592961215598456647 : Nat := 0
def PySem.W.Fast.tw9857807772748187727 : Nat := 0
def PySem.W.Fast.tw12317789780696081030 : Nat := 0
def PySem.W.Fast.tw16043412423985236434 : Nat := 0
def PySem.W.Fast.tw2834140297712027069 : Nat := 0
def PySem.W.Fast.tw1027636320548942184 : Nat := 0
def PySem.W.Fast.tw5564838019905462528 : Nat := 0
def PySem.W.Fast.tw17213269798092090049 : Nat := 0
def PySem.W.Fast.tw17224424649097796553 : Nat := 0
def PySem.W.Fast.tw12188631116485163882 : Nat := 0
def PySem.W.Fast.tw2024899422478617857 : Nat := 0
def PySem.W.Fast.tw1622905837824764427 : Nat := 0
def PySem.W.Fast.tw11943033306162434323 : Nat := 0
def PySem.W.Fast.tw964113065526882352 : Nat := 0
def PySem.W.Fast.tw9469739990701880454 : Nat := 0
def PySem.W.Fast.tw11704561185756473667 : Nat := 0
def PySem.W.Fast.tw11200210018228140117 : Nat := 0
def PySem.W.Fast.tw13468168550749481408 : Nat := 0
def PySem.W.Fast.tw6969365736336176309 : Nat := 0
def PySem.W.Fast.tw6758889274823478219 : Nat := 0
def PySem.W.Fast.tw2988355054296721817 : Nat := 0
def PySem.W.Fast.tw5883180680561365922 : Nat := 0
def PySem.W.Fast.tw10554910340971929228 : Nat := 0
def PySem.W.Fast.tw4728156113209681786 : Nat := 0
def PySem.W.Fast.tw9929855922699426429 : Nat := 0
set_option maxRecDepth 100000 in
set_option maxHeartbeats 0 in
theorem PySem.Challenge.cw_findcourt_k07_makes_refused_holds : PySem.Challenge.rw_findcourt_k07_makes_refused.Holds := by
  w_on; o_law; k_head; (case hw => w_witness2)
  k_fill
  refine K7.walk (l := PySem.Challenge.rw_findcourt_k07_makes_refused) rfl rfl (fun w h Y => PySem.W.kIn_of Y) ?F
  case F =>
    intro w mg fa h KX G hmg
    refine' K7.all_mk (tk0 := 0) KX G hmg ?a1 ?l1 ?c1 ?k1 ?a2 ?l2 ?c2 ?k2 ?a3 ?l3 ?c3 ?k3 ?a4 ?l4 ?c4 ?k4 ?a5 ?l5 ?c5 ?k5 ?a6 ?l6 ?c6 ?k6 ?a7 ?l7 ?c7 ?k7 ?a8 ?l8 ?c8 ?k8 ?a9 ?l9 ?c9 ?k9 ?a10 ?l10 ?c10 ?k10 ?a11 ?l11 ?c11 ?k11 ?a12 ?l12 ?c12 ?k12 ?a13 ?l13 ?c13 ?k13 ?a14 ?l14 ?c14 ?k14 ?a15 ?l15 ?c15 ?k15 ?a16 ?l16 ?c16 ?k16 ?a17 ?l17 ?c17 ?k17 ?a18 ?l18 ?c18 ?k18 ?a19 ?l19 ?c19 ?k19 ?a20 ?l20 ?c20 ?k20 ?a21 ?l21 ?c21 ?k21 ?a22 ?l22 ?c22 ?k22 ?a23 ?l23 ?c23 ?k23 ?nFE ?nNF ?nNM ?nNB ?nND ?nNL ?nNP ?nNQ ?nNS ?nNT ?nPC ?iF ?jF ?lF ?cF ?kF ?kcF ?iM ?jM ?lM ?cM ?kM ?kcM ?iP ?jP ?lP ?cP ?kP ?kcP ?eE ?eN ?eL ?eK ?eI ?bE ?x1NF ?x2NF ?x3NF ?x4NF ?x5NF ?g1NF ?g2NF ?g3NF ?g4NF ?g5NF ?g6NF ?g7NF ?g8NF ?yNBNF ?yNDNF ?yNLNF ?yNPNF ?yNQNF ?yNSNF ?yNTNF ?yvNF ?ymNF ?yfNF ?x1NM ?x2NM ?x3NM ?x4NM ?x5NM ?g1NM ?g2NM ?g3NM ?g4NM ?g5NM ?g6NM ?g7NM ?g8NM ?yNBNM ?yNDNM ?yNLNM ?yNPNM ?yNQNM ?yNSNM ?yNTNM ?yvNM ?ymNM ?yfNM ?p1 ?p2 ?p3 ?p4 ?p5 ?q0 ?q1 ?q2 ?s1 ?z1 ?z2 ?z3 ?z4 ?z5 ?z6 ?z7 ?z8 ?z9 ?z10 ?z11 ?z12 ?z13
    (case a1 => first | k_is | kernel_rfl)
    (case l1 => first | k_is | kernel_rfl)
    (case c1 => first | k_is | kernel_rfl)
    (case k1 => first | k_is | kernel_rfl)
    (case a2 => first | k_is | kernel_rfl)
    (case l2 => first | k_is | kernel_rfl)
    (case c2 => first | k_is | kernel_rfl)
    (case k2 => first | k_is | kernel_rfl)
    (case a3 => first | k_is | kernel_rfl)
    (case l3 => first | k_is | kernel_rfl)
    (case c3 => first | k_is | kernel_rfl)
    (case k3 => first | k_is | kernel_rfl)
    (case a4 => first | k_is | kernel_rfl)
    (case l4 => first | k_is | kernel_rfl)
    (case c4 => first | k_is | kernel_rfl)
    (case k4 => first | k_is | kernel_rfl)
    (case a5 => first | k_is | kernel_rfl)
    (case l5 => first | k_is | kernel_rfl)
    (case c5 => first | k_is | kernel_rfl)
    (case k5 => first | k_is | kernel_rfl)
    (case a6 => first | k_is | kernel_rfl)
    (case l6 => first | k_is | kernel_rfl)
    (case c6 => first | k_is | kernel_rfl)
    (case k6 => first | k_is | kernel_rfl)
    (case a7 => first | k_is | kernel_rfl)
    (case l7 => first | k_is | kernel_rfl)
    (case c7 => first | k_is | kernel_rfl)
    (case k7 => first | k_is | kernel_rfl)
    (case a8 => first | k_is | kernel_rfl)
    (case l8 => first | k_is | kernel_rfl)
    (case c8 => first | k_is | kernel_rfl)
    (case k8 => first | k_is | kernel_rfl)
    (case a9 => first | k_is | kernel_rfl)
    (case l9 => first | k_is | kernel_rfl)
    (case c9 => first | k_is | kernel_rfl)
    (case k9 => first | k_is | kernel_rfl)
    (case a10 => first | k_is | kernel_rfl)
    (case l10 => first | k_is | kernel_rfl)
    (case c10 => first | k_is | kernel_rfl)
    (case k10 => first | k_is | kernel_rfl)
    (case a11 => first | k_is | kernel_rfl)
    (case l11 => first | k_is | kernel_rfl)
    (case c11 => first | k_is | kernel_rfl)
    (case k11 => first | k_is | kernel_rfl)
    (case a12 => first | k_is | kernel_rfl)
    (case l12 => first | k_is | kernel_rfl)
    (case c12 => first | k_is | kernel_rfl)
    (case k12 => first | k_is | kernel_rfl)
    (case a13 => first | k_is | kernel_rfl)
    (case l13 => first | k_is | kernel_rfl)
    (case c13 => first | k_is | kernel_rfl)
    (case k13 => first | k_is | kernel_rfl)
    (case a14 => first | k_is | kernel_rfl)
    (case l14 => first | k_is | kernel_rfl)
    (case c14 => first | k_is | kernel_rfl)
    (case k14 => first | k_is | kernel_rfl)
    (case a15 => first | k_is | kernel_rfl)
    (case l15 => first | k_is | kernel_rfl)
    (case c15 => first | k_is | kernel_rfl)
    (case k15 => first | k_is | kernel_rfl)
    (case a16 => first | k_is | kernel_rfl)
    (case l16 => first | k_is | kernel_rfl)
    (case c16 => first | k_is | kernel_rfl)
    (case k16 => first | k_is | kernel_rfl)
    (case a17 => first | k_is | kernel_rfl)
    (case l17 => first | k_is | kernel_rfl)
    (case c17 => first | k_is | kernel_rfl)
    (case k17 => first | k_is | kernel_rfl)
    (case a18 => first | k_is | kernel_rfl)
    (case l18 => first | k_is | kernel_rfl)
    (case c18 => first | k_is | kernel_rfl)
    (case k18 => first | k_is | kernel_rfl)
    (case a19 => first | k_is | kernel_rfl)
    (case l19 => first | k_is | kernel_rfl)
    (case c19 => first | k_is | kernel_rfl)
    (case k19 => first | k_is | kernel_rfl)
    (case a20 => first | k_is | kernel_rfl)
    (case l20 => first | k_is | kernel_rfl)
    (case c20 => first | k_is | kernel_rfl)
    (case k20 => first | k_is | kernel_rfl)
    (case a21 => first | k_is | kernel_rfl)
    (case l21 => first | k_is | kernel_rfl)
    (case c21 => first | k_is | kernel_rfl)
    (case k21 => first | k_is | kernel_rfl)
    (case a22 => first | k_is | kernel_rfl)
    (case l22 => first | k_is | kernel_rfl)
    (case c22 => first | k_is | kernel_rfl)
    (case k22 => first | k_is | kernel_rfl)
    (case a23 => first | k_is | kernel_rfl)
    (case l23 => first | k_is | kernel_rfl)
    (case c23 => first | k_is | kernel_rfl)
    (case k23 => first | k_is | kernel_rfl)
    (case nFE => first | k_is | kernel_rfl)
    (case nNF => first | k_is | kernel_rfl)
    (case nNM => first | k_is | kernel_rfl)
    (case nNB => first | k_is | kernel_rfl)
    (case nND => first | k_is | kernel_rfl)
    (case nNL => first | k_is | kernel_rfl)
    (case nNP => first | k_is | kernel_rfl)
    (case nNQ => first | k_is | kernel_rfl)
    (case nNS => first | k_is | kernel_rfl)
    (case nNT => first | k_is | kernel_rfl)
    (case nPC => first | k_is | kernel_rfl)
    (case iF => first | k_is | kernel_rfl)
    (case jF => first | k_is | kernel_rfl)
    (case lF => first | k_is | kernel_rfl)
    (case cF => first | k_is | kernel_rfl)
    (case kF => first | k_is | kernel_rfl)
    (case kcF => first | k_is | kernel_rfl)
    (case iM => first | k_is | kernel_rfl)
    (case jM => first | k_is | kernel_rfl)
    (case lM => first | k_is | kernel_rfl)
    (case cM => first | k_is | kernel_rfl)
    (case kM => first | k_is | kernel_rfl)
    (case kcM => first | k_is | kernel_rfl)
    (case iP => first | k_is | kernel_rfl)
    (case jP => first | k_is | kernel_rfl)
    (case lP => first | k_is | kernel_rfl)
    (case cP => first | k_is | kernel_rfl)
    (case kP => first | k_is | kernel_rfl)
    (case kcP => first | k_is | kernel_rfl)
    (case eE => first | k_is | kernel_rfl)
    (case eN => exact rfl)
    (case eL => first | k_is | kernel_rfl)
    (case eK => exact rfl)
    (case eI => exact rfl)
    (case bE => first | k_is | kernel_rfl)
    (case x1NF => first | k_is | kernel_rfl)
    (case x2NF => exact ⟨_, _, _, _, _, _, _, _, _, _, _, _, _, _, rfl⟩)
    (case x3NF => first | k_is | kernel_rfl)
    (case x4NF => first | k_is | kernel_rfl)
    (case x5NF => first | k_is | kernel_rfl)
    (case g1NF => first | k_is | kernel_rfl)
    (case g2NF => first | k_is | kernel_rfl)
    (case g3NF => first | k_is | kernel_rfl)
    (case g4NF => first | k_is | kernel_rfl)
    (case g5NF => first | k_is | kernel_rfl)
    (case g6NF => first | k_is | kernel_rfl)
    (case g7NF => first | k_is | kernel_rfl)
    (case g8NF => first | k_is | kernel_rfl)
    (case yNBNF => first | k_is | kernel_rfl)
    (case yNDNF => first | k_is | kernel_rfl)
    (case yNLNF => first | k_is | kernel_rfl)
    (case yNPNF => first | k_is | kernel_rfl)
    (case yNQNF => first | k_is | kernel_rfl)
    (case yNSNF => first | k_is | kernel_rfl)
    (case yNTNF => first | k_is | kernel_rfl)
    (case yvNF => first | k_is | kernel_rfl)
    (case ymNF => first | k_is | kernel_rfl)
    (case yfNF => first | k_is | kernel_rfl)
    (case x1NM => first | k_is | kernel_rfl)
    (case x2NM => exact ⟨_, _, _, _, _, _, _, _, _, _, _, _, _, _, rfl⟩)
    (case x3NM => first | k_is | kernel_rfl)
    (case x4NM => first | k_is | kernel_rfl)
    (case x5NM => first | k_is | kernel_rfl)
    (case g1NM => first | k_is | kernel_rfl)
    (case g2NM => first | k_is | kernel_rfl)
    (case g3NM => first | k_is | kernel_rfl)
    (case g4NM => first | k_is | kernel_rfl)
    (case g5NM => first | k_is | kernel_rfl)
    (case g6NM => first | k_is | kernel_rfl)
    (case g7NM => first | k_is | kernel_rfl)
    (case g8NM => first | k_is | kernel_rfl)
    (case yNBNM => first | k_is | kernel_rfl)
    (case yNDNM => first | k_is | kernel_rfl)
    (case yNLNM => first | k_is | kernel_rfl)
    (case yNPNM => first | k_is | kernel_rfl)
    (case yNQNM => first | k_is | kernel_rfl)
    (case yNSNM => first | k_is | kernel_rfl)
    (case yNTNM => first | k_is | kernel_rfl)
    (case yvNM => first | k_is | kernel_rfl)
    (case ymNM => first | k_is | kernel_rfl)
    (case yfNM => first | k_is | kernel_rfl)
    (case p1 => first | k_is | kernel_rfl)
    (case p2 => first | k_is | kernel_rfl)
    (case p3 => first | k_is | kernel_rfl)
    (case p4 => first | k_is | kernel_rfl)
    (case p5 => first | k_is | kernel_rfl)
    (case q0 => first | k_is | kernel_rfl)
    (case q1 => first | k_is | kernel_rfl)
    (case q2 => first | k_is | kernel_rfl)
    (case s1 => first | k_is | kernel_rfl)
    (case z1 => first | k_is | kernel_rfl)
    (case z2 => first | k_is | kernel_rfl)
    (case z3 => first | k_is | kernel_rfl)
    (case z4 => first | k_is | kernel_rfl)
    (case z5 => first | k_is | kernel_rfl)
    (case z6 => first | k_is | kernel_rfl)
    (case z7 => first | k_is | kernel_rfl)
    (case z8 => first | k_is | kernel_rfl)
    (case z9 => first | k_is | kernel_rfl)
    (case z10 => first | k_is | kernel_rfl)
    (case z11 => first | k_is | kernel_rfl)
    (case z12 => first | k_is | kernel_rfl)
    (case z13 => first | k_is | kernel_rfl)
