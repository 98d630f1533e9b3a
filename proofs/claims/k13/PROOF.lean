import PyProof.Rows.All
import Wide.All
import OpenK.AllK
import Wide.FinOn
import Lean
import PyProof.EqAt
import PyProof.EqKinds
import PyProof.TupleCall
import PyProof.EnumFor
import PyProof.EnumMake
import PyProof.EnumStmt
import PyProof.WalksEnum
import PyProof.NeKinds
import PyProof.CompFree
import PyProof.CompMap
import PyProof.Rows.Range3
import PyProof.Rows.ChunkEnd
import PyProof.Rows.StrCase
import PyProof.Rows.StrIndexOr
import PyProof.StrLawsIn
import PyProof.StrLawsIdx
import PyProof.SliceStr2
import PyProof.StrWalks
import PyProof.StationsW
import PyProof.ExcClass3
import PyProof.RulesAs
import PyProof.NsDelKeeps
import PyProof.ExcInit
import PyProof.ExcArgsOwn
import PyProof.InstStore
import PyProof.InstLoad
import PyProof.ExcBaseAll.ValueError
import PyProof.InstStoreFacts
import PyProof.ExcAttrAll.ValueError
import PyProof.Rows.StrJoinMade
import PyProof.ConsumeWalk
import PyProof.Rows.StrRev
import PyProof.StrOps2
import PyProof.Rows.RuleIs
import PyProof.ExcClass2
import PyProof.SumAny
import PySem.Challenge.RW_findcourt_k13_rows_of_bytes_looked_at
set_option Elab.async false
set_option linter.all false
set_option maxRecDepth 100000
/-! THE HAND LAYER, for ints, bools, texts, own classes, LISTS and tuples (index, slices, in, append, pop ..), calls, loops. Paste it whole ahead of your own text; what your proof does not reach may be deleted. -/
namespace L2
open PySem PySem.Spec PyProof.Rows

/-- a key: an int or a str -/
abbrev Key := Sum Int Str
def keyIs : Key → Value → Bool
  | .inl k, v => Value.isInt k v
  | .inr x, v => Value.isStrOf x v
def keyH (w : World) : Key → Int
  | .inl k => hashInt k
  | .inr x => hashStr w x
theorem keyIs_shape : ∀ {k : Key} {v : Value}, keyIs k v = true → (∃ i t, k = Sum.inl i ∧ v = Value.int i t) ∨ (∃ x t, k = Sum.inr x ∧ v = Value.str x t)
  | .inl i, v, h => by
    obtain ⟨t, e⟩ := Value.isInt_shape (k := i) (v := v) h
    exact .inl ⟨i, t, rfl, e⟩
  | .inr x, v, h => by
    obtain ⟨t, e⟩ := Value.isStrOf_shape (x := x) (v := v) h
    exact .inr ⟨x, t, rfl, e⟩
theorem key_ll (a b : Int) : decide ((Sum.inl a : Key) = Sum.inl b) = (a == b) := by
  by_cases e : a = b
  · subst e; simp
  · have h : ¬ (Sum.inl a : Key) = Sum.inl b := fun q => e (Sum.inl.inj q)
    rw [decide_eq_false h]
    exact (beq_eq_false_iff_ne.mpr e).symm
theorem key_rr (a b : Str) : decide ((Sum.inr a : Key) = Sum.inr b) = decide (a = b) := by
  by_cases e : a = b
  · subst e; simp
  · have h : ¬ (Sum.inr a : Key) = Sum.inr b := fun q => e (Sum.inr.inj q)
    rw [decide_eq_false h, decide_eq_false e]
theorem key_lr (a : Int) (b : Str) : decide ((Sum.inl a : Key) = Sum.inr b) = false := decide_eq_false (fun q => nomatch q)
theorem key_rl (a : Str) (b : Int) : decide ((Sum.inr a : Key) = Sum.inl b) = false := decide_eq_false (fun q => nomatch q)

def mixKind (prog : Program) (w : World) : PySem.KeyKind prog w Key where
  is := keyIs
  hash := keyH w
  inj := fun v a b ha hb => by
    rcases keyIs_shape ha with ⟨i, t, rfl, rfl⟩ | ⟨x, t, rfl, rfl⟩
    · rcases keyIs_shape hb with ⟨j, u, rfl, e⟩ | ⟨y, u, rfl, e⟩
      · injection e with e1 _; rw [e1]
      · exact nomatch e
    · rcases keyIs_shape hb with ⟨j, u, rfl, e⟩ | ⟨y, u, rfl, e⟩
      · exact nomatch e
      · injection e with e1 _; rw [e1]
  byValue := fun k v h => by
    rcases keyIs_shape h with ⟨i, t, rfl, rfl⟩ | ⟨x, t, rfl, rfl⟩ <;> rfl
  pyHash := fun hv h => by
    rcases keyIs_shape hv with ⟨i, t, rfl, rfl⟩ | ⟨x, t, rfl, rfl⟩
    · exact wpAny_pyHash_int h
    · exact wpAny_pyHash_str h
  eqBool := fun hu hv h => by
    rcases keyIs_shape hu with ⟨i, t, rfl, rfl⟩ | ⟨x, t, rfl, rfl⟩
    · rcases keyIs_shape hv with ⟨j, u, rfl, rfl⟩ | ⟨y, u, rfl, rfl⟩
      · rw [key_ll] at h; exact wpAny_eqBool_int h
      · rw [key_lr] at h; exact SeqAt.EqAt.int_str i t y u _ _ _ _ h
    · rcases keyIs_shape hv with ⟨j, u, rfl, rfl⟩ | ⟨y, u, rfl, rfl⟩
      · rw [key_rl] at h; exact SeqAt.EqAt.str_int x t j u _ _ _ _ h
      · rw [key_rr] at h; exact wpAny_eqBool_str h
  «strs» := fun k x t v h => by
    rcases keyIs_shape h with ⟨i, u, rfl, e⟩ | ⟨y, u, rfl, e⟩
    · exact nomatch e
    · injection e with e1 _
      subst e1
      cases v <;> rfl

end L2

namespace L2
open PySem PySem.Spec PyProof.Rows

/-- a value, without the heap -/
inductive V where
  | non | bl (b : Bool) | int (i : Int) | str (x : Str) | byt (b : Array UInt8) | flt (b : UInt64) | ref (a : Addr) | ty (n : String)
  deriving DecidableEq

def RelV : V → Value → Prop
  | .non, u => u = Value.none
  | .bl b, u => u = Value.bool b
  | .int i, u => ∃ t, u = Value.int i t
  | .str x, u => ∃ t, u = Value.str x t
  | .byt b, u => ∃ t, u = Value.bytes b t
  | .flt b, u => ∃ t, u = Value.float b t
  | .ref a, u => u = Value.ref a
  | .ty n, u => u = Value.type n

abbrev Vals : List V → List Value → Prop := Paired RelV
theorem Vals.length {xs : List V} {us : List Value} (r : Vals xs us) : xs.length = us.length := Paired.length r
theorem Vals.get : ∀ {xs : List V} {us : List Value} {i : Nat} {x : V}, Vals xs us → xs[i]? = some x → ∃ u, us[i]? = some u ∧ RelV x u
  | _, _, _, _, .nil, e => by simp at e
  | _, _, 0, _, .cons r _, e => by simp at e; subst e; exact ⟨_, rfl, r⟩
  | _, _, i + 1, x, .cons _ t, e => by
    obtain ⟨u, h1, h2⟩ := Vals.get (i := i) (x := x) t (by simpa using e)
    exact ⟨u, by simpa using h1, h2⟩
theorem Vals.set {x : V} {u : Value} (r : RelV x u) : ∀ {xs : List V} {us : List Value} (i : Nat), Vals xs us → Vals (xs.set i x) (us.set i u)
  | _, _, _, .nil => .nil
  | _, _, 0, .cons _ t => .cons r t
  | _, _, i + 1, .cons q t => .cons q (Vals.set r i t)
theorem Vals.append : ∀ {xs ys : List V} {us ws : List Value}, Vals xs us → Vals ys ws → Vals (xs ++ ys) (us ++ ws)
  | _, _, _, _, .nil, s => s
  | _, _, _, _, .cons r t, s => .cons r (Vals.append t s)
theorem Vals.take : ∀ {xs : List V} {us : List Value} (n : Nat), Vals xs us → Vals (xs.take n) (us.take n)
  | _, _, 0, _ => .nil
  | _, _, _ + 1, .nil => .nil
  | _, _, n + 1, .cons r t => .cons r (Vals.take n t)
theorem Vals.drop : ∀ {xs : List V} {us : List Value} (n : Nat), Vals xs us → Vals (xs.drop n) (us.drop n)
  | _, _, 0, r => r
  | _, _, _ + 1, .nil => .nil
  | _, _, n + 1, .cons _ t => Vals.drop n t
theorem Vals.none_of : ∀ {xs : List V} {us : List Value} {i : Nat}, Vals xs us → xs[i]? = none → us[i]? = none := fun {xs us i} r e => by
  have h1 := r.length
  have h2 : xs.length ≤ i := List.getElem?_eq_none_iff.mp e
  exact List.getElem?_eq_none_iff.mpr (by omega)

def RelO : Option V → Option Value → Prop
  | some v, some u => RelV v u
  | none, none => True
  | _, _ => False
def KV {κ : Type} : List (κ × V) → List (κ × Value) → Prop := Paired fun (p : κ × V) (q : κ × Value) => p.1 = q.1 ∧ RelV p.2 q.2

/-- a key of a dict (00_mix): an int or a text -/
def kV : Key → V
  | .inl i => .int i
  | .inr x => .str x

/-- what stands at a tracked address -/
inductive HO where
  /-- a list -/
  | lst (xs : List V)
  /-- a tuple (never changes) -/
  | tup (xs : List V)
  /-- a dict whose keys are ints and texts; one whose keys are tuples of ints and texts (the empty one is both) -/
  | dK (kvs : List (Key × V)) | dT (kvs : List (List Key × V))
  /-- a set of ints: its members, its size -/
  | set (S : Int → Bool) (n : Nat)
  /-- an instance of the class at C, its dict at dx, its attributes -/
  | ins (C dx : Addr) (fs : List (Str × V))
  /-- the dict of the instance at x -/
  | own (x : Addr)
  /-- the dict of an exception -/
  | xd (fs : List (Str × V))
  /-- a bound method, f of x -/
  | met (f x : Addr)
  /-- a range object lo, lo + 1, .. below hi -/
  | rng (lo hi : Int)
  /-- a thing that is known to the object (the script; a dict while a loop walks it): read, never written while it is so -/
  | frz (o : Obj) (u : HO)
  /-- a code object's table -/
  | tbl (ps : Array Value)
  /-- any other thing, by what is true of its one object (a def of one's own: SetO a S n := HO.ext fun h => ..) -/
  | ext (φ : Heap → Prop)

abbrev Hp := Addr → Option HO
def upd (H : Hp) (a : Addr) (o : HO) : Hp := fun b => if b = a then some o else H b
theorem upd_same {H : Hp} {a : Addr} {o : HO} : upd H a o a = some o := by unfold upd; rw [if_pos rfl]
theorem upd_ne {H : Hp} {a b : Addr} {o : HO} (h : b ≠ a) : upd H a o b = H b := by unfold upd; rw [if_neg h]
theorem upd_upd {H : Hp} {a : Addr} {o u : HO} : upd (upd H a o) a u = upd H a u := by
  funext b; unfold upd; split <;> rfl
/-- two objects of different content stand apart -/
theorem ne_of {H : Hp} {a b : Addr} {o u : HO} (h : H a = some o) (h' : H b = some u) (d : o ≠ u) : a ≠ b := by
  intro e; subst e; rw [h] at h'; exact d (Option.some.inj h')
theorem ne_of_none {H : Hp} {a b : Addr} {o : HO} (h : H a = some o) (h' : H b = none) : a ≠ b := by
  intro e; subst e; rw [h] at h'; cases h'

section
variable (P : Program) (w : World)
def ObjOk (H : Hp) (h : Heap) (a : Addr) : HO → Prop
  | .lst xs => xs.length ≤ sizeLine ∧ ∃ (its : List Value) (n : Nat), Vals xs its ∧ h.get? a = some { cls := .type "list", data := .seq its.toArray n }
  | .tup xs => xs.length ≤ sizeLine ∧ ∃ its : List Value, Vals xs its ∧ IsTup h a its.toArray
  | .dK kvs => kvs.length ≤ sizeLine ∧ (a == sysModules) = false ∧ ∃ vs, KV kvs vs ∧ h.DictOf (mixKind P w) a vs
  | .dT kvs => kvs.length ≤ sizeLine ∧ (a == sysModules) = false ∧ ∃ xs : List (List Key × Addr × Value),
      Paired (fun (p : List Key × V) (q : List Key × Addr × Value) => p.1 = q.1 ∧ H q.2.1 = some (.tup (p.1.map kV)) ∧ RelV p.2 q.2.2) kvs xs ∧
      ∃ o es ep, h.get? a = some o ∧ o.ExactDict ∧ o.data = .dict es ep ∧ es.toList = xs.map (entryOfKey (tupleKind (mixKind P w))) ∧ (xs.map (·.1)).Nodup
  | .set S n => h.SetOf (intKind P w) a S n
  | .ins C dx fs => H dx = some (.own a) ∧ fs.length ≤ 1000 ∧ dx ≠ a ∧ h.get? a = some (PySem.W.instObj C dx) ∧
      ∃ mA, h.Ns1 dx mA ∧ (∀ f, RelO (fs.lookup f) (mA f)) ∧ PySem.Within mA (fs.map (·.1))
  | .own _ => ∃ o, h.get? a = some o
  | .xd fs => ∃ mA, h.Ns1 a mA ∧ ∀ f, RelO (fs.lookup f) (mA f)
  | .rng lo hi => ∃ t u v, h.get? a = some { cls := .type "range", data := .fields #[.int lo t, .int hi u, .int 1 v] }
  | .frz o u => h.get? a = some o ∧ ObjOk H h a u
  | .tbl ps => h.get? a = some { cls := .none, data := .fields ps }
  | .met f x => h.get? a = some (PySem.W.methodObj (.ref f) (.ref x))
  | .ext φ => φ h ∧ (∃ o, h.get? a = some o) ∧ ∀ h1 h2 : Heap, φ h1 → (∀ o, h1.get? a = some o → h2.get? a = some o) → φ h2
/-- the abstract heap is held -/
def HOk (H : Hp) (h : Heap) : Prop := ∀ a o, H a = some o → ObjOk P w H h a o
end

section
variable {P : Program} {w : World} {H H' : Hp} {h h' : Heap} {a : Addr} {o : HO}
theorem ObjOk.lt (x : ObjOk P w H h a o) : a < h.objs.size := by
  cases o with
  | lst xs => obtain ⟨_, _, _, _, e⟩ := x; exact Heap.lt_size e
  | tup xs => obtain ⟨_, _, _, p⟩ := x; exact p.lt
  | dK kvs => obtain ⟨_, _, _, _, o, _, _, e, _⟩ := x; exact Heap.lt_size e
  | dT kvs => obtain ⟨_, _, _, _, o, _, _, e, _⟩ := x; exact Heap.lt_size e
  | set S n => obtain ⟨o, _, _, _, e, _⟩ := x; exact Heap.lt_size e
  | ins C dx fs => obtain ⟨_, _, _, e, _⟩ := x; exact Heap.lt_size e
  | own y => obtain ⟨_, e⟩ := x; exact Heap.lt_size e
  | xd fs => obtain ⟨_, ⟨_, _, _, e, _⟩, _⟩ := x; exact Heap.lt_size e
  | rng lo hi => obtain ⟨_, _, _, e⟩ := x; exact Heap.lt_size e
  | frz ob u => obtain ⟨e, _⟩ := x; exact Heap.lt_size e
  | tbl ps => exact Heap.lt_size (show h.get? a = some _ from x)
  | met f y => exact Heap.lt_size (show h.get? a = some _ from x)
  | ext φ => obtain ⟨_, ⟨_, e⟩, _⟩ := x; exact Heap.lt_size e
theorem Paired.mapP {α β : Type} {F G : α → β → Prop} : ∀ {l₁ : List α} {l₂ : List β}, Paired F l₁ l₂ → (∀ a b, F a b → G a b) → Paired G l₁ l₂
  | _, _, .nil, _ => .nil
  | _, _, .cons r t, f => .cons (f _ _ r) (Paired.mapP t f)
/-- what an object's description leans on: its own object, its own dict, the tuples -/
theorem ObjOk.stay (x : ObjOk P w H h a o) (k : ∀ b u, (b = a ∨ H b = some (.own a)) → h.get? b = some u → h'.get? b = some u)
    (ho : ∀ b, H b = some (.own a) → H' b = some (.own a)) (ht : ∀ b xs, H b = some (.tup xs) → H' b = some (.tup xs)) : ObjOk P w H' h' a o := by
  induction o with
  | lst xs => obtain ⟨z, its, n, r, e⟩ := x; exact ⟨z, its, n, r, k _ _ (.inl rfl) e⟩
  | tup xs => obtain ⟨z, its, r, ob, e, c⟩ := x; exact ⟨z, its, r, ob, k _ _ (.inl rfl) e, c⟩
  | dK kvs => obtain ⟨z, y, vs, r, ob, es, ep, e, c⟩ := x; exact ⟨z, y, vs, r, ob, es, ep, k _ _ (.inl rfl) e, c⟩
  | dT kvs =>
    obtain ⟨z, y, xs, r, ob, es, ep, e, c⟩ := x
    exact ⟨z, y, xs, Paired.mapP r fun p q z => ⟨z.1, ht _ _ z.2.1, z.2.2⟩, ob, es, ep, k _ _ (.inl rfl) e, c⟩
  | set S n => obtain ⟨ob, es, ep, t, e, c⟩ := x; exact ⟨ob, es, ep, t, k _ _ (.inl rfl) e, c⟩
  | ins C dx fs =>
    obtain ⟨d, z, ne, e, mA, ⟨od, es, ep, e2, c⟩, r⟩ := x
    exact ⟨ho _ d, z, ne, k _ _ (.inl rfl) e, mA, ⟨od, es, ep, k _ _ (.inr d) e2, c⟩, r⟩
  | own y => obtain ⟨ob, e⟩ := x; exact ⟨ob, k _ _ (.inl rfl) e⟩
  | xd fs => obtain ⟨mA, ⟨od, es, ep, e, c⟩, r⟩ := x; exact ⟨mA, ⟨od, es, ep, k _ _ (.inl rfl) e, c⟩, r⟩
  | rng lo hi => obtain ⟨t, u, v, e⟩ := x; exact ⟨t, u, v, k _ _ (.inl rfl) e⟩
  | frz ob u ih => obtain ⟨e, q⟩ := x; exact ⟨k _ _ (.inl rfl) e, ih q⟩
  | tbl ps =>
    have e : h.get? a = some { cls := .none, data := .fields ps } := x
    show h'.get? a = some { cls := .none, data := .fields ps }
    exact k a _ (.inl rfl) e
  | met f y =>
    have e : h.get? a = some (PySem.W.methodObj (.ref f) (.ref y)) := x
    show h'.get? a = some (PySem.W.methodObj (.ref f) (.ref y))
    exact k a _ (.inl rfl) e
  | ext φ => obtain ⟨p, ⟨o, e⟩, st⟩ := x; exact ⟨st _ _ p fun o q => k _ _ (.inl rfl) q, ⟨o, k _ _ (.inl rfl) e⟩, st⟩
theorem HOk.lt (x : HOk P w H h) (e : H a = some o) : a < h.objs.size := (x a o e).lt
theorem HOk.fresh (x : HOk P w H h) (e : h.objs.size ≤ a) : H a = none := by
  cases q : H a with
  | none => rfl
  | some u => exact absurd (Nat.lt_of_lt_of_le (x.lt q) e) (Nat.lt_irrefl _)
/-- every object of the heap is kept -/
theorem HOk.kept (x : HOk P w H h) (k : ∀ b u, h.get? b = some u → h'.get? b = some u) : HOk P w H h' := fun a o e =>
  (x a o e).stay (fun b u _ q => k b u q) (fun _ q => q) fun _ _ q => q
/-- a new object is laid and tracked -/
theorem HOk.laid (x : HOk P w H h) (k : ∀ b u, h.get? b = some u → h'.get? b = some u) (hp : h.objs.size ≤ a) (new : ObjOk P w (upd H a o) h' a o) : HOk P w (upd H a o) h' := fun b u e => by
  have hn := x.fresh hp
  by_cases hb : b = a
  · subst hb; rw [upd_same] at e; cases e; exact new
  · rw [upd_ne hb] at e
    exact (x b u e).stay (fun c v _ q => k c v q) (fun c q => by rw [upd_ne (ne_of_none q hn)]; exact q) fun c xs q => by rw [upd_ne (ne_of_none q hn)]; exact q
end

/-- what may be read as u: it is u, or a known u -/
def Rd (H : Hp) (a : Addr) (u : HO) : Prop := H a = some u ∨ ∃ o, H a = some (.frz o u)
theorem Rd.of {H : Hp} {a : Addr} {u : HO} (h : H a = some u) : Rd H a u := .inl h
theorem Rd.ok {P : Program} {w : World} {H : Hp} {h : Heap} {a : Addr} {u : HO} (r : Rd H a u) (x : HOk P w H h) : ObjOk P w H h a u := by
  rcases r with r | ⟨o, r⟩
  · exact x a u r
  · obtain ⟨_, q⟩ := x a _ r
    exact q
/-- what may be written -/
def Mut : Option HO → Prop
  | some (.lst _) => True
  | some (.dK _) => True
  | some (.dT _) => True
  | some (.set _ _) => True
  | some (.ins _ _ _) => True
  | some (.ext _) => True
  | _ => False
section
variable {P : Program} {w : World} {H : Hp} {h h' : Heap} {x e : Addr} {o' : HO}
/-- the object at e is changed: x itself, or the dict of the instance x -/
theorem HOk.write (ok : HOk P w H h) (mu : Mut (H x)) (he : e = x ∨ H e = some (.own x)) (k : ∀ b u, b ≠ e → h.get? b = some u → h'.get? b = some u) (heo : ∃ u, h'.get? e = some u)
    (new : ObjOk P w (upd H x o') h' x o') : HOk P w (upd H x o') h' := fun b u q => by
  have nown : ∀ c y, H c = some (.own y) → c ≠ x := fun c y r z => by subst z; rw [r] at mu; exact mu
  have ntup : ∀ c xs, H c = some (.tup xs) → c ≠ x := fun c xs r z => by subst z; rw [r] at mu; exact mu
  by_cases hb : b = x
  · subst hb; rw [upd_same] at q; cases q; exact new
  · rw [upd_ne hb] at q
    by_cases hbe : b = e
    · have q' : H b = some (.own x) := by
        rcases he with z | z
        · exact absurd (hbe.trans z) hb
        · rw [hbe]; exact z
      rw [q] at q'; cases q'
      obtain ⟨v, hv⟩ := heo
      exact ⟨v, by rw [hbe]; exact hv⟩
    · refine (ok b u q).stay (fun c v hc r => k c v ?_ r) (fun c r => by rw [upd_ne (nown c b r)]; exact r) fun c xs r => by rw [upd_ne (ntup c xs r)]; exact r
      rcases hc with rfl | hc
      · exact hbe
      · rintro rfl
        rcases he with z | z
        · exact nown c b hc z
        · rw [hc] at z; cases z; exact hb rfl
end

/-! ### kept unless tracked; of the frames at fs (the callers') the slots may change (an exception that passes writes there); of the records at ex (iterators) nothing is said -/
structure Un (fs ex : List Addr) (H H' : Hp) (h h' : Heap) : Prop where
  keep : ∀ b o, h.get? b = some o → H b = none → b ∉ fs → b ∉ ex → h'.get? b = some o
  slot : ∀ b o, h.get? b = some o → H b = none → b ∈ fs → b ∉ ex → ∃ sl, h'.get? b = some { o with slots := sl }
  free : ∀ b o, h.get? b = some o → H b = none → b ∉ ex → H' b = none
  there : ∀ b o, h.get? b = some o → b ∉ ex → ∃ o', h'.get? b = some o'
  tups : ∀ b xs, H b = some (.tup xs) → H' b = some (.tup xs)
  frzs : ∀ b o u, H b = some (.frz o u) → H' b = some (.frz o u)
  tbls : ∀ b ps, H b = some (.tbl ps) → ∃ more, H' b = some (.tbl (ps ++ more))
section
variable {fs fs' ex ex' : List Addr} {H H1 H2 : Hp} {h h1 h2 h' : Heap} {a x e : Addr} {o : HO}
theorem Un.any (u : Un fs ex H H1 h h1) {b : Addr} {ob : Obj} (q : h.get? b = some ob) (n : H b = none) (hx : b ∉ ex) : ∃ sl, h1.get? b = some { ob with slots := sl } := by
  by_cases hb : b ∈ fs
  · exact u.slot b ob q n hb hx
  · exact ⟨ob.slots, u.keep b ob q n hb hx⟩
theorem Un.trans (a : Un fs ex H H1 h h1) (b : Un fs ex H1 H2 h1 h2) : Un fs ex H H2 h h2 where
  keep := fun c ob q n hc hx => b.keep c ob (a.keep c ob q n hc hx) (a.free c ob q n hx) hc hx
  slot := fun c ob q n hc hx => by
    obtain ⟨sl, e1⟩ := a.slot c ob q n hc hx
    obtain ⟨sl', e2⟩ := b.slot c _ e1 (a.free c ob q n hx) hc hx
    exact ⟨sl', e2⟩
  free := fun c ob q n hx => by
    obtain ⟨o', e1⟩ := a.there c ob q hx
    exact b.free c o' e1 (a.free c ob q n hx) hx
  there := fun c ob q hx => by
    obtain ⟨o', e1⟩ := a.there c ob q hx
    exact b.there c o' e1 hx
  tups := fun c xs q => b.tups c xs (a.tups c xs q)
  frzs := fun c ob xs q => b.frzs c ob xs (a.frzs c ob xs q)
  tbls := fun c ps q => by
    obtain ⟨m1, e1⟩ := a.tbls c ps q
    obtain ⟨m2, e2⟩ := b.tbls c _ e1
    exact ⟨m1 ++ m2, by rw [e2, Array.append_assoc]⟩
theorem Un.kept (k : ∀ b u, h.get? b = some u → h'.get? b = some u) : Un fs ex H H h h' :=
  ⟨fun b ob q _ _ _ => k b ob q, fun b ob q _ _ _ => ⟨ob.slots, k b ob q⟩, fun _ _ _ n _ => n, fun b ob q _ => ⟨ob, k b ob q⟩, fun _ _ q => q, fun _ _ _ q => q, fun _ ps q => ⟨#[], by rw [q]; simp⟩⟩
theorem Un.refl : Un fs ex H H h h := Un.kept fun _ _ q => q
theorem Un.laid (k : ∀ b u, h.get? b = some u → h'.get? b = some u) (hp : h.objs.size ≤ a) (hn : H a = none) : Un fs ex H (upd H a o) h h' where
  keep := fun b u q _ _ _ => k b u q
  slot := fun b u q _ _ _ => ⟨u.slots, k b u q⟩
  free := fun b u q n _ => by rw [upd_ne (Nat.ne_of_lt (Nat.lt_of_lt_of_le (Heap.lt_size q) hp))]; exact n
  there := fun b u q _ => ⟨u, k b u q⟩
  tups := fun b xs q => by rw [upd_ne (ne_of_none q hn)]; exact q
  frzs := fun b u xs q => by rw [upd_ne (ne_of_none q hn)]; exact q
  tbls := fun b ps q => ⟨#[], by rw [upd_ne (ne_of_none q hn), q]; simp⟩
theorem Un.write (mu : Mut (H x)) (he : e = x ∨ H e = some (.own x)) (k : ∀ b u, b ≠ e → h.get? b = some u → h'.get? b = some u) (heo : ∃ u, h'.get? e = some u) : Un fs ex H (upd H x o) h h' := by
  have hx : ∀ b, H b = none → b ≠ x := fun b n z => by subst z; rw [n] at mu; exact mu
  have hb : ∀ b, H b = none → b ≠ e := fun b n z => by
    subst z
    rcases he with r | r
    · exact hx b n r
    · rw [n] at r; cases r
  have hm : ∀ b u, H b = some u → ¬ Mut (some u) → b ≠ x := fun b u q nm z => by subst z; rw [q] at mu; exact nm mu
  refine ⟨fun b u q n _ _ => k b u (hb b n) q, fun b u q n _ _ => ⟨u.slots, k b u (hb b n) q⟩, fun b u q n _ => by rw [upd_ne (hx b n)]; exact n, fun b u q _ => ?_,
    fun b xs q => by rw [upd_ne (hm b _ q fun z => z)]; exact q, fun b u xs q => by rw [upd_ne (hm b _ q fun z => z)]; exact q, fun b ps q => ⟨#[], by rw [upd_ne (hm b _ q fun z => z), q]; simp⟩⟩
  by_cases hbe : b = e
  · subst hbe; exact heo
  · exact ⟨u, k b u hbe q⟩
theorem Un.mono (u : Un fs ex H H1 h h1) (hs : ∀ b ∈ fs, b ∈ fs') (hx : ∀ b ∈ ex, b ∈ ex') : Un fs' ex' H H1 h h1 :=
  ⟨fun b ob q n hb he => u.keep b ob q n (fun z => hb (hs b z)) fun z => he (hx b z), fun _ _ q n _ he => u.any q n fun z => he (hx _ z), fun b ob q n he => u.free b ob q n fun z => he (hx b z), fun b ob q he => u.there b ob q fun z => he (hx b z), u.tups, u.frzs, u.tbls⟩
end

/-! ### the heap without what is tracked -/
def trk (h : Heap) (H : Hp) : List Addr := (List.range h.objs.size).filter fun a => (H a).isSome
def hidT (h : Heap) (H : Hp) : Heap := PySem.W.hideAll h (trk h H)
theorem hidT_size (h : Heap) (H : Hp) : (hidT h H).objs.size = h.objs.size := PySem.W.hideAll_size _ _
theorem hidT_get {h : Heap} {H : Hp} {b : Addr} {o : Obj} (e : h.get? b = some o) (n : H b = none) : (hidT h H).get? b = some o :=
  PySem.W.hideAll_get _ e fun hm => by
    have q : (H b).isSome = true := (List.mem_filter.mp hm).2
    rw [n] at q; simp at q
theorem of_hidT {h : Heap} {H : Hp} {b : Addr} {o : Obj} (e : (hidT h H).get? b = some o) : h.get? b = some o ∧ H b = none := by
  have e' : h.get? b = some o := PySem.W.of_hideAll (trk h H) e
  refine ⟨e', ?_⟩
  cases q : H b with
  | none => rfl
  | some x =>
    have hm : b ∈ trk h H := List.mem_filter.mpr ⟨List.mem_range.mpr (Heap.lt_size e'), by simp [q]⟩
    have z : (hidT h H).get? b = none := PySem.W.hideAll_none (trk h H) hm
    rw [z] at e; cases e

/-! ### OpenK's ledger, filled with every new object but one -/
def allNews (g h : Heap) (L : Addr) : List (Addr × Obj) := (List.range h.objs.size).filterMap fun a => if a = L ∨ (g.get? a).isSome = true then none else (h.get? a).map fun o => (a, o)
def rest (g h : Heap) (L d : Addr) : List (Addr × Obj) := (allNews g h L).filter fun p => decide (p.1 ≠ d)
end L2

namespace L2
open PySem PySem.Spec PyProof.Rows

/-- the module's facts, over the base: the heap at the law's entry without what is tracked there -/
structure Mod (K : PySem.W.Frag) (mg : Str → Option Value) (base : Heap) : Prop where
  kin : K.In base
  glob : base.Ns mainGlobals mg
  blt : ∃ mb, base.Ns builtinsNs mb ∧ ∀ x : Str, x ≠ "__name__" → mb x = bootBuiltins x
  nolimit : base.NoLimit

/-- the context: a def's body (or a comprehension's block) running. base: fixed through the whole law; s₀, H₀: the entry; outer: the frames whose slots others may change (a def's callers); stack: all frames that run;
   ex: iterators that were made ahead of the entry and are walked here (a comprehension's); fn: the names whose cells were made at the entry (a def: all; a comprehension's block: its own); calm: not within an except suite; pn: pins that every state bears; xe: what is wanted of an exception that leaves the code -/
structure Cx where
  prog : Program
  w : World
  K : PySem.W.Frag
  mg : Str → Option Value
  base : Heap
  A : Around
  N : List Str
  s₀ : Shared
  H₀ : Hp
  env : Env
  outer : List Env
  stack : List Env
  ex : List Addr
  fn : Str → Bool
  calm : Bool
  pn : List (Addr × Obj)
  xe : Value → Shared → Prop
/-- the callers' frames -/
def frs (l : List Env) : List Addr := l.filterMap (·.frame)
abbrev Cx.fs (X : Cx) : List Addr := frs X.outer

def Vis (sc : Scope) (x : Str) : Prop := sc.names.lookup x = some .local ∨ sc.names.lookup x = some .cell ∨ sc.names.lookup x = some .free
def Loc (sc : Scope) (x : Str) : Prop := sc.names.lookup x = some .local ∨ sc.names.lookup x = some .cell
def Look (env : Env) (h : Heap) (m : Str → Option Value) (x : Str) (u : Value) : Prop :=
  (env.kindOf x = some .local ∧ m x = some u) ∨ ((env.kindOf x = some .cell ∨ env.kindOf x = some .free) ∧ ∃ c, env.cells.lookup x = some c ∧ h.IsCell c (some u))

structure Cx.Ok (X : Cx) : Prop where
  mod : Mod X.K X.mg X.base
  kind : X.env.scope.kind = .function
  glob : X.env.globals = mainGlobals
  blt : X.env.builtins = builtinsNs
  above : X.s₀.heap.objs.size ≤ X.env.locals
  inj : ∀ x y c, X.env.cells.lookup x = some c → X.env.cells.lookup y = some c → x = y
  has : ∀ x, (X.env.kindOf x = some .cell ∨ X.env.kindOf x = some .free) → ∃ c, X.env.cells.lookup x = some c
  cab : ∀ x c, X.fn x = true → X.env.cells.lookup x = some c → X.s₀.heap.objs.size ≤ c
  hd : X.calm = true → X.A.handled = none
  frames : X.A.frames = some X.stack
  stk : X.stack = X.outer ∨ (X.stack = X.env :: X.outer ∧ X.env.frame = some X.env.locals)
  exf : ∀ b ∈ X.ex, b ≠ X.env.locals ∧ ∀ x c, X.env.cells.lookup x = some c → c ≠ b
  bs : ∀ b o, X.base.get? b = some o → X.s₀.heap.get? b = some o ∧ X.H₀ b = none
  bsz : X.base.objs.size ≤ X.s₀.heap.objs.size
  noex : ∀ b o, X.base.get? b = some o → b ∉ X.ex
  exfs : ∀ b ∈ X.ex, b ∉ X.fs
  funs : X.s₀.heap.FunFrames X.base X.outer
  frf : ∀ b ∈ X.fs, X.H₀ b = none

structure Inv (X : Cx) (pins : List (Addr × Obj)) (σ : List (Option V)) (H : Hp) (s : Shared) : Prop where
  ok : X.Ok
  os : s.os = X.s₀.os
  bare : AllBare s.gens
  base : Un X.fs X.ex X.H₀ H X.s₀.heap s.heap
  loc : ∃ m, s.heap.Ns X.env.locals m ∧ ∀ (i : Nat) (x : Str) (v : V), X.N[i]? = some x → σ[i]? = some (some v) → Vis X.env.scope x → ∃ u, RelV v u ∧ Look X.env s.heap m x u
  cell : ∀ x c, X.env.cells.lookup x = some c → ∃ v, s.heap.IsCell c v
  free : H X.env.locals = none
  freeC : ∀ x c, X.env.cells.lookup x = some c → H c = none
  pin : ∀ p ∈ X.pn ++ pins, s.heap.get? p.1 = some p.2 ∧ H p.1 = none ∧ p.1 ≠ X.env.locals ∧ p.1 ∉ X.fs ∧ ∀ v, p.2.data ≠ .cell v
  hok : HOk X.prog X.w H s.heap
  len : σ.length = X.N.length

section
variable {X : Cx} {pins : List (Addr × Obj)} {σ : List (Option V)} {H H' : Hp} {s : Shared} {h' : Heap}

theorem Cx.Ok.nofr (ok : X.Ok) {b : Addr} {o : Obj} (e : X.base.get? b = some o) : b ∉ X.fs := fun hb => by
  have := (ok.funs.mem hb).1
  rw [e] at this; cases this
theorem Inv.bs (I : Inv X pins σ H s) : ∀ b o, X.base.get? b = some o → s.heap.get? b = some o ∧ H b = none := fun b o e =>
  ⟨I.base.keep b o (I.ok.bs b o e).1 (I.ok.bs b o e).2 (I.ok.nofr e) (I.ok.noex b o e), I.base.free b o (I.ok.bs b o e).1 (I.ok.bs b o e).2 (I.ok.noex b o e)⟩
theorem Inv.bk (I : Inv X pins σ H s) : ∀ b o, X.base.get? b = some o → s.heap.get? b = some o := fun b o e => (I.bs b o e).1
theorem Inv.mod (I : Inv X pins σ H s) : Mod X.K X.mg X.base := I.ok.mod
theorem Inv.kIn (I : Inv X pins σ H s) : X.K.In s.heap := I.ok.mod.kin.keeps I.bk
theorem Inv.nolimit (I : Inv X pins σ H s) : s.heap.NoLimit := I.ok.mod.nolimit.keeps I.bk
/-- the frame over the base: for OpenK's rules (K.In X.base is I.mod.kin) -/
theorem Inv.fr (I : Inv X pins σ H s) : ∃ m, Fr X.base X.env.locals s.heap m :=
  let ⟨m, hn, _⟩ := I.loc
  ⟨m, hn, I.bk, Nat.le_trans I.ok.bsz I.ok.above⟩
theorem Inv.lt (I : Inv X pins σ H s) : X.env.locals < s.heap.objs.size := let ⟨_, hn, _⟩ := I.loc; hn.lt
theorem Inv.sz (I : Inv X pins σ H s) : X.s₀.heap.objs.size ≤ s.heap.objs.size := Nat.le_trans I.ok.above (Nat.le_of_lt I.lt)
theorem Inv.nofs (I : Inv X pins σ H s) {a : Addr} (h : s.heap.objs.size ≤ a) : a ∉ X.fs := fun hb => by
  obtain ⟨_, o, ho, _⟩ := I.ok.funs.mem hb
  exact absurd (Nat.lt_of_lt_of_le (Heap.lt_size ho) (Nat.le_trans I.sz h)) (Nat.lt_irrefl _)
theorem Inv.cne (I : Inv X pins σ H s) : ∀ x c, X.env.cells.lookup x = some c → c ≠ X.env.locals := fun x c e z => by
  obtain ⟨v, o, ho, hd⟩ := I.cell x c e
  obtain ⟨m, ⟨o', es, ep, ho', hd', _⟩, _⟩ := I.loc
  rw [z, ho'] at ho; cases ho; rw [hd'] at hd; cases hd
theorem Inv.funs (I : Inv X pins σ H s) : s.heap.FunFrames X.base X.outer := by
  have all : ∀ (l : List Env), (∀ b ∈ frs l, b ∈ X.fs) → X.s₀.heap.FunFrames X.base l → s.heap.FunFrames X.base l := by
    intro l
    induction l with
    | nil => intro _ _; trivial
    | cons env r ih =>
      intro hs hl
      obtain ⟨hk, ⟨L, o, hf, hn, ho, hd⟩, hr⟩ := hl
      have hL : L ∈ X.fs := hs L (by unfold frs; rw [List.filterMap_cons, hf]; exact List.mem_cons_self)
      obtain ⟨sl, e⟩ := I.base.slot L o ho (I.ok.frf L hL) hL fun z => I.ok.exfs L z hL
      exact ⟨hk, ⟨L, _, hf, hn, e, hd⟩, ih (fun b hb => hs b (by unfold frs; rw [List.filterMap_cons, hf]; exact List.mem_cons_of_mem _ hb)) hr⟩
  exact all X.outer (fun _ hb => hb) I.ok.funs

/-- the frames that run, for a call -/
theorem Inv.stack (I : Inv X pins σ H s) : s.heap.FunFrames X.base X.stack := by
  rcases I.ok.stk with e | ⟨e, hf⟩
  · rw [e]; exact I.funs
  · rw [e]
    obtain ⟨m, hn, _⟩ := I.loc
    refine .cons (by rw [I.ok.kind]; decide) hf hn ?_ I.funs
    exact Heap.get?_none_of_le (Nat.le_trans I.ok.bsz I.ok.above)
theorem Inv.stkSub (I : Inv X pins σ H s) : ∀ b ∈ frs X.stack, b ∈ X.env.locals :: X.fs := fun b hb => by
  rcases I.ok.stk with e | ⟨e, hf⟩
  · rw [e] at hb; exact List.mem_cons_of_mem _ hb
  · rw [e] at hb
    unfold frs at hb
    rw [List.filterMap_cons, hf] at hb
    exact hb
theorem Inv.stkFree (I : Inv X pins σ H s) : ∀ b ∈ frs X.stack, H b = none := fun b hb => by
  rcases List.mem_cons.mp (I.stkSub b hb) with e | hb
  · rw [e]; exact I.free
  · obtain ⟨_, o, ho, _⟩ := I.ok.funs.mem hb
    exact I.base.free b o ho (I.ok.frf b hb) fun z => I.ok.exfs b z hb

/-- THE STEP: the untracked objects but the frame and the records at ch are kept (the callers' frames up to slots), the frame's map is kept, the new abstract heap is held -/
theorem Inv.step {g' : Array GenState} {t' : Nat} {d' : Drawn} {ch : List Addr} (I : Inv X pins σ H s)
    (hch : ∀ b ∈ ch, (b ∈ X.ex ∨ X.s₀.heap.objs.size ≤ b) ∧ b ≠ X.env.locals ∧ (∀ x c, X.env.cells.lookup x = some c → c ≠ b) ∧ ∀ p ∈ X.pn ++ pins, p.1 ≠ b)
    (keep : ∀ b o, b ≠ X.env.locals → b ∉ X.fs → b ∉ ch → s.heap.get? b = some o → H b = none → h'.get? b = some o)
    (slot : ∀ b o, b ≠ X.env.locals → b ∈ X.fs → b ∉ ch → s.heap.get? b = some o → H b = none → ∃ sl, h'.get? b = some { o with slots := sl }) (free : ∀ b o, b ∉ ch → s.heap.get? b = some o → H b = none → H' b = none)
    (there : ∀ b o, b ∉ ch → s.heap.get? b = some o → ∃ o', h'.get? b = some o')
    (tups : ∀ b xs, H b = some (.tup xs) → H' b = some (.tup xs)) (frzs : ∀ b o u, H b = some (.frz o u) → H' b = some (.frz o u)) (tbls : ∀ b ps, H b = some (.tbl ps) → ∃ more, H' b = some (.tbl (ps ++ more)))
    (ns : ∀ m, s.heap.Ns X.env.locals m → h'.Ns X.env.locals m) (hok : HOk X.prog X.w H' h') (hg : AllBare g') :
    Inv X pins σ H' { s with heap := h', gens := g', drawn := d', toks := t' } := by
  have neL : ∀ b o, X.s₀.heap.get? b = some o → b ≠ X.env.locals := fun b o e => Nat.ne_of_lt (Nat.lt_of_lt_of_le (Heap.lt_size e) I.ok.above)
  have neC : ∀ b o, X.s₀.heap.get? b = some o → b ∉ X.ex → b ∉ ch := fun b o e hx hb => by
    rcases (hch b hb).1 with z | z
    · exact hx z
    · exact absurd (Nat.lt_of_lt_of_le (Heap.lt_size e) z) (Nat.lt_irrefl _)
  have cellK : ∀ x c, X.env.cells.lookup x = some c → ∀ v, s.heap.IsCell c v → h'.IsCell c v := fun x c e v ⟨o, ho, hd⟩ => by
    have nch : c ∉ ch := fun z => (hch c z).2.2.1 x c e rfl
    by_cases hc : c ∈ X.fs
    · obtain ⟨sl, q⟩ := slot c o (I.cne x c e) hc nch ho (I.freeC x c e)
      exact ⟨_, q, hd⟩
    · exact ⟨o, keep c o (I.cne x c e) hc nch ho (I.freeC x c e), hd⟩
  refine ⟨I.ok, I.os, hg, ⟨fun b o e n hb hx => ?_, fun b o e n hb hx => ?_, fun b o e n hx => ?_, fun b o e hx => ?_, fun b xs e => tups b xs (I.base.tups b xs e), fun b o xs e => frzs b o xs (I.base.frzs b o xs e), fun b ps e => ?_⟩, ?_, fun x c e => ?_, ?_, fun x c e => ?_, fun p hp => ?_, hok, I.len⟩
  · exact keep b o (neL b o e) hb (neC b o e hx) (I.base.keep b o e n hb hx) (I.base.free b o e n hx)
  · obtain ⟨sl, e1⟩ := I.base.slot b o e n hb hx
    obtain ⟨sl', e2⟩ := slot b _ (neL b o e) hb (neC b o e hx) e1 (I.base.free b o e n hx)
    exact ⟨sl', e2⟩
  · obtain ⟨o', e1⟩ := I.base.there b o e hx
    exact free b o' (neC b o e hx) e1 (I.base.free b o e n hx)
  · obtain ⟨o', e1⟩ := I.base.there b o e hx
    exact there b o' (neC b o e hx) e1
  · obtain ⟨m1, e1⟩ := I.base.tbls b ps e
    obtain ⟨m2, e2⟩ := tbls b _ e1
    exact ⟨m1 ++ m2, by rw [e2, Array.append_assoc]⟩
  · obtain ⟨m, hn, hl⟩ := I.loc
    refine ⟨m, ns m hn, fun i x v e1 e2 e3 => ?_⟩
    obtain ⟨u, r, l⟩ := hl i x v e1 e2 e3
    refine ⟨u, r, ?_⟩
    rcases l with l | ⟨k, c, e, z⟩
    · exact .inl l
    · exact .inr ⟨k, c, e, cellK x c e _ z⟩
  · obtain ⟨v, z⟩ := I.cell x c e
    exact ⟨v, cellK x c e v z⟩
  · obtain ⟨m, ⟨o, _, _, ho, _⟩, _⟩ := I.loc
    exact free _ o (fun z => (hch _ z).2.1 rfl) ho I.free
  · obtain ⟨v, o, ho, hd⟩ := I.cell x c e
    exact free c o (fun z => (hch c z).2.2.1 x c e rfl) ho (I.freeC x c e)
  · obtain ⟨e, n, ne, nf, d⟩ := I.pin p hp
    have nch : p.1 ∉ ch := fun z => (hch p.1 z).2.2.2 p hp rfl
    exact ⟨keep p.1 p.2 ne nf nch e n, free p.1 p.2 nch e n, ne, nf, d⟩
/-- .. where the frame's own object is kept too -/
theorem Inv.un {t' : Nat} (I : Inv X pins σ H s) (u : Un X.fs [] H H' s.heap h') (hok : HOk X.prog X.w H' h') : Inv X pins σ H' { s with heap := h', toks := t' } := by
  obtain ⟨m, ⟨o, es, ep, ho, r⟩, _⟩ := id I.loc
  obtain ⟨sl, hL⟩ := u.any ho I.free (by simp)
  exact I.step (g' := s.gens) (d' := s.drawn) (ch := []) (fun _ z => nomatch z) (fun b o _ hb _ e n => u.keep b o e n hb (by simp)) (fun b o _ hb _ e n => u.slot b o e n hb (by simp)) (fun b o _ e n => u.free b o e n (by simp)) (fun b o _ e => u.there b o e (by simp)) u.tups u.frzs u.tbls (fun m' hm => by
    obtain ⟨o', es', ep', ho', r'⟩ := hm
    rw [ho] at ho'; cases ho'
    exact ⟨_, es', ep', hL, r'⟩) hok I.bare
/-- behind a call (or a comprehension's block): the slots of this frame may have changed too, the records at ch may have turned -/
theorem Inv.call {g' : Array GenState} {t' : Nat} {d' : Drawn} {ch : List Addr} (I : Inv X pins σ H s) (u : Un (frs X.stack) ch H H' s.heap h') (hok : HOk X.prog X.w H' h') (hg : AllBare g')
    (hch : ∀ b ∈ ch, (b ∈ X.ex ∨ X.s₀.heap.objs.size ≤ b) ∧ b ≠ X.env.locals ∧ (∀ x c, X.env.cells.lookup x = some c → c ≠ b) ∧ ∀ p ∈ X.pn ++ pins, p.1 ≠ b) :
    Inv X pins σ H' { s with heap := h', gens := g', drawn := d', toks := t' } := by
  obtain ⟨m, ⟨o, es, ep, ho, r⟩, _⟩ := id I.loc
  obtain ⟨sl, hL⟩ := u.any ho I.free fun z => (hch _ z).2.1 rfl
  exact I.step (ch := ch) hch (fun b o hL hb hc e n => u.keep b o e n (fun z => (List.mem_cons.mp (I.stkSub b z)).elim hL hb) hc) (fun b o _ _ hc e n => u.any e n hc) (fun b o hc e n => u.free b o e n hc) (fun b o hc e => u.there b o e hc) u.tups u.frzs u.tbls (fun m' hm => by
    obtain ⟨o', es', ep', ho', r'⟩ := hm
    rw [ho] at ho'; cases ho'
    exact ⟨_, es', ep', hL, r'⟩) hok hg
/-- an untracked record of ours (an iterator) has turned -/
theorem Inv.turned {t' : Nat} {it : Addr} (I : Inv X pins σ H s) (k : ∀ b o, b ≠ it → s.heap.get? b = some o → h'.get? b = some o) (hn : H it = none) (hL : it ≠ X.env.locals)
    (h1 : it ∈ X.ex ∨ X.s₀.heap.objs.size ≤ it) (h2 : ∀ x c, X.env.cells.lookup x = some c → c ≠ it) (h3 : ∀ p ∈ X.pn ++ pins, p.1 ≠ it) : Inv X pins σ H { s with heap := h', toks := t' } := by
  have nit : ∀ b u, H b = some u → b ≠ it := fun b u e z => by rw [z, hn] at e; cases e
  refine I.step (g' := s.gens) (d' := s.drawn) (ch := [it]) (fun b hb => ?_) (fun b o _ _ hc e _ => k b o (fun z => hc (by simp [z])) e) (fun b o _ _ hc e _ => ⟨o.slots, k b o (fun z => hc (by simp [z])) e⟩) (fun _ _ _ _ n => n)
    (fun b o hc e => ⟨o, k b o (fun z => hc (by simp [z])) e⟩) (fun _ _ e => e) (fun _ _ _ e => e) (fun b ps e => ⟨#[], by rw [e]; simp⟩) (fun m hm => ?_) (fun b u e => ?_) I.bare
  · have e : b = it := by simpa using hb
    subst e
    exact ⟨h1, hL, h2, h3⟩
  · obtain ⟨o, es, ep, ho, r⟩ := hm
    exact ⟨o, es, ep, k _ o (Ne.symm hL) ho, r⟩
  · refine (I.hok b u e).stay (fun c v hc q => k c v ?_ q) (fun _ q => q) fun _ _ q => q
    rcases hc with z | z
    · rw [z]; exact nit b u e
    · exact nit c _ z
theorem Inv.tok (I : Inv X pins σ H s) (t : Nat) : Inv X pins σ H { s with toks := t } := I.un (h' := s.heap) (t' := t) Un.refl I.hok
/-- all objects kept -/
theorem Inv.kept {t' : Nat} (I : Inv X pins σ H s) (k : ∀ b u, s.heap.get? b = some u → h'.get? b = some u) : Inv X pins σ H { s with heap := h', toks := t' } := I.un (Un.kept k) (I.hok.kept k)
/-- a new object laid and tracked -/
theorem Inv.laid {a : Addr} {o : HO} {t' : Nat} (I : Inv X pins σ H s) (k : ∀ b u, s.heap.get? b = some u → h'.get? b = some u) (hp : s.heap.objs.size ≤ a) (new : ObjOk X.prog X.w (upd H a o) h' a o) :
    Inv X pins σ (upd H a o) { s with heap := h', toks := t' } := I.un (Un.laid k hp (I.hok.fresh hp)) (I.hok.laid k hp new)
/-- an object written -/
theorem Inv.write {x e : Addr} {o : HO} {t' : Nat} (I : Inv X pins σ H s) (mu : Mut (H x)) (he : e = x ∨ H e = some (.own x)) (k : ∀ b u, b ≠ e → s.heap.get? b = some u → h'.get? b = some u) (heo : ∃ u, h'.get? e = some u)
    (new : ObjOk X.prog X.w (upd H x o) h' x o) : Inv X pins σ (upd H x o) { s with heap := h', toks := t' } := I.un (Un.write mu he k heo) (I.hok.write mu he k heo new)
theorem Inv.pins_of {pins' : List (Addr × Obj)} (I : Inv X pins σ H s) (h : ∀ p ∈ pins', s.heap.get? p.1 = some p.2 ∧ H p.1 = none ∧ p.1 ≠ X.env.locals ∧ p.1 ∉ X.fs ∧ ∀ v, p.2.data ≠ .cell v) : Inv X pins' σ H s :=
  ⟨I.ok, I.os, I.bare, I.base, I.loc, I.cell, I.free, I.freeC, fun p hp => (List.mem_append.mp hp).elim (fun z => I.pin p (List.mem_append_left _ z)) (h p), I.hok, I.len⟩

theorem nodup_ix {N : List Str} (hN : N.Nodup) {i j : Nat} {x : Str} (a : N[i]? = some x) (b : N[j]? = some x) : i = j := by
  obtain ⟨h1, e1⟩ := List.getElem?_eq_some_iff.mp a
  obtain ⟨h2, e2⟩ := List.getElem?_eq_some_iff.mp b
  exact (List.getElem_inj hN).mp (e1.trans e2.symm)

/-- a name is stored; what changed -/
theorem store_ok2 {M : Model} {A : Around} {E : Value → Shared → Prop} {i : Nat} {x : Str} {v : V} {u : Value} {Q : Unit → Shared → Prop} (I : Inv X pins σ H s) (hN : X.N.Nodup) (hi : X.N[i]? = some x) (hx : Loc X.env.scope x) (r : RelV v u)
    (h : ∀ s', Inv X pins (σ.set i (some v)) H s' → (∃ a, Heap.SameBut a s.heap s'.heap ∧ (a = X.env.locals ∨ X.env.cells.lookup x = some a)) → Q () s') (hf : X.fn x = true ∨ X.env.scope.names.lookup x = some .local := by first | exact .inl rfl | exact .inr rfl | assumption) : wpAny M A (storeName X.env x u) Q E s := by
  obtain ⟨m, hn, hl⟩ := id I.loc
  have hcls : (X.env.scope.kind == .class || (X.env.scope.kind == .module && X.env.locals != X.env.globals)) = false := by rw [I.ok.kind]; rfl
  have hiσ : i < σ.length := by rw [I.len]; exact (List.getElem?_eq_some_iff.mp hi).1
  have cne := I.cne
  have tracked : ∀ {a : Addr} {h' : Heap}, (∃ o, s.heap.get? a = some o ∧ H a = none) → Heap.SameBut a s.heap h' → HOk X.prog X.w H h' := fun {a h'} ha hs b ob e => by
    obtain ⟨_, _, hfree⟩ := ha
    refine (I.hok b ob e).stay (fun c w' hc q => (hs.2 c ?_).trans q) (fun _ q => q) fun _ _ q => q
    rintro rfl
    rcases hc with rfl | hc
    · rw [hfree] at e; cases e
    · rw [hfree] at hc; cases hc
  rcases hx with hk | hk
  · refine wpAny_storeName_local hk hn (fun h' hn' hs => ?_) hcls
    obtain ⟨oL, _, _, hoL, _⟩ := id hn
    refine h _ ⟨I.ok, I.os, I.bare, ⟨fun b o e n hb hx => ?_, fun b o e n hb hx => ?_, I.base.free, fun b o e hx => ?_, I.base.tups, I.base.frzs, I.base.tbls⟩, ⟨_, hn', fun j y v' e1 e2 e3 => ?_⟩, fun y c e => ?_, I.free, I.freeC, fun p hp => ?_, tracked ⟨oL, hoL, I.free⟩ hs, by simpa using I.len⟩ ⟨_, hs, .inl rfl⟩
    · exact (hs.2 b (Nat.ne_of_lt (Nat.lt_of_lt_of_le (Heap.lt_size e) I.ok.above))).trans (I.base.keep b o e n hb hx)
    · obtain ⟨sl, e1⟩ := I.base.slot b o e n hb hx
      exact ⟨sl, (hs.2 b (Nat.ne_of_lt (Nat.lt_of_lt_of_le (Heap.lt_size e) I.ok.above))).trans e1⟩
    · obtain ⟨o', e1⟩ := I.base.there b o e hx
      exact ⟨o', (hs.2 b (Nat.ne_of_lt (Nat.lt_of_lt_of_le (Heap.lt_size e) I.ok.above))).trans e1⟩
    · by_cases hj : j = i
      · subst hj
        rw [hi] at e1; cases e1
        rw [List.getElem?_set_self hiσ] at e2
        cases e2
        exact ⟨u, r, .inl ⟨hk, by simp⟩⟩
      · rw [List.getElem?_set_ne (Ne.symm hj)] at e2
        obtain ⟨u', r', q⟩ := hl j y v' e1 e2 e3
        refine ⟨u', r', ?_⟩
        rcases q with ⟨k, e⟩ | ⟨k, c, e, z⟩
        · refine .inl ⟨k, ?_⟩
          have : y ≠ x := fun e => hj (nodup_ix hN e1 (e ▸ hi))
          simp [this, e]
        · exact .inr ⟨k, c, e, z.sameBut hs (cne y c e)⟩
    · obtain ⟨w', z⟩ := I.cell y c e
      exact ⟨w', z.sameBut hs (cne y c e)⟩
    · obtain ⟨e, n, ne, nf, d⟩ := I.pin p hp
      exact ⟨(hs.2 p.1 ne).trans e, n, ne, nf, d⟩
  · have hfn : X.fn x = true := by
      rcases hf with z | z
      · exact z
      · rw [z] at hk; cases hk
    obtain ⟨c, hc⟩ := I.ok.has x (.inl hk)
    obtain ⟨w', z⟩ := I.cell x c hc
    refine wpAny_storeName_cell I.ok.kind hk hc z (fun h' hc' hs => ?_)
    obtain ⟨oc, hoc, hocd⟩ := id z
    refine h { s with heap := h' } ⟨I.ok, I.os, I.bare, ⟨fun b o e n hb hx => ?_, fun b o e n hb hx => ?_, I.base.free, fun b o e hx => ?_, I.base.tups, I.base.frzs, I.base.tbls⟩, ⟨m, hn.sameBut hs (Ne.symm (cne x c hc)), fun j y v' e1 e2 e3 => ?_⟩, fun y c' e => ?_, I.free, I.freeC, fun p hp => ?_, tracked ⟨oc, hoc, I.freeC x c hc⟩ hs, by simpa using I.len⟩ ⟨c, hs, .inr hc⟩
    · exact (hs.2 b (Nat.ne_of_lt (Nat.lt_of_lt_of_le (Heap.lt_size e) (I.ok.cab x c hfn hc)))).trans (I.base.keep b o e n hb hx)
    · obtain ⟨sl, e1⟩ := I.base.slot b o e n hb hx
      exact ⟨sl, (hs.2 b (Nat.ne_of_lt (Nat.lt_of_lt_of_le (Heap.lt_size e) (I.ok.cab x c hfn hc)))).trans e1⟩
    · obtain ⟨o', e1⟩ := I.base.there b o e hx
      exact ⟨o', (hs.2 b (Nat.ne_of_lt (Nat.lt_of_lt_of_le (Heap.lt_size e) (I.ok.cab x c hfn hc)))).trans e1⟩
    · by_cases hj : j = i
      · subst hj
        rw [hi] at e1; cases e1
        rw [List.getElem?_set_self hiσ] at e2
        cases e2
        exact ⟨u, r, .inr ⟨.inl hk, c, hc, hc'⟩⟩
      · rw [List.getElem?_set_ne (Ne.symm hj)] at e2
        obtain ⟨u', r', q⟩ := hl j y v' e1 e2 e3
        refine ⟨u', r', ?_⟩
        rcases q with q | ⟨k, c', e, z'⟩
        · exact .inl q
        · refine .inr ⟨k, c', e, z'.sameBut hs ?_⟩
          rintro rfl
          exact hj (nodup_ix hN e1 (I.ok.inj _ _ _ e hc ▸ hi))
    · by_cases hcc : c' = c
      · subst hcc; exact ⟨_, hc'⟩
      · obtain ⟨w2, z2⟩ := I.cell y c' e
        exact ⟨w2, z2.sameBut hs hcc⟩
    · obtain ⟨e, n, ne, nf, d⟩ := I.pin p hp
      refine ⟨(hs.2 p.1 ?_).trans e, n, ne, nf, d⟩
      intro q
      rw [q, hoc] at e
      have q' : oc = p.2 := Option.some.inj e
      exact d w' (by rw [← q']; exact hocd)
theorem store_ok {M : Model} {A : Around} {E : Value → Shared → Prop} {i : Nat} {x : Str} {v : V} {u : Value} {Q : Unit → Shared → Prop} (I : Inv X pins σ H s) (hN : X.N.Nodup) (hi : X.N[i]? = some x) (hx : Loc X.env.scope x) (r : RelV v u)
    (h : ∀ s', Inv X pins (σ.set i (some v)) H s' → Q () s') (hf : X.fn x = true ∨ X.env.scope.names.lookup x = some .local := by first | exact .inl rfl | exact .inr rfl | assumption) : wpAny M A (storeName X.env x u) Q E s :=
  store_ok2 I hN hi hx r (fun s' I' _ => h s' I') hf
/-- behind a call or a block, the state as it is -/
theorem Inv.call' {s' : Shared} {ch : List Addr} (I : Inv X pins σ H s) (ho : s'.os = s.os) (u : Un (frs X.stack) ch H H' s.heap s'.heap) (hok : HOk X.prog X.w H' s'.heap) (hg : AllBare s'.gens)
    (hch : ∀ b ∈ ch, (b ∈ X.ex ∨ X.s₀.heap.objs.size ≤ b) ∧ b ≠ X.env.locals ∧ (∀ x c, X.env.cells.lookup x = some c → c ≠ b) ∧ ∀ p ∈ X.pn ++ pins, p.1 ≠ b) : Inv X pins σ H' s' := by
  obtain ⟨h', g', d', t', o'⟩ := s'
  have e : o' = s.os := ho
  subst e
  exact I.call (g' := g') (t' := t') (d' := d') u hok hg hch
end

/-! ### the judgements -/
/-- an exception: its class, its own dict's address (where it has one), the abstract heap behind it -/
abbrev XK := Value → Option Addr → Hp → Prop
abbrev St := List (Option V)
abbrev VK := V → Hp → Prop
/-- an expression's reading; a test's; an argument list's -/
abbrev TE := St → Hp → VK → Prop
abbrev TT := St → Hp → (Bool → Hp → Prop) → Prop
abbrev TA := St → Hp → (List V → Hp → Prop) → Prop
/-- what is wanted behind a statement -/
structure Ends where
  nx : St → Hp → Prop
  rt : VK
  bk : St → Hp → Prop := fun _ _ => False
  ct : St → Hp → Prop := fun _ _ => False
abbrev TS := Ends → St → Hp → Prop

def EP (X : Cx) (pins : List (Addr × Obj)) (σ : St) (Q : VK) (u : Value) (s' : Shared) : Prop := ∃ v H', Inv X pins σ H' s' ∧ RelV v u ∧ Q v H'
def TP (X : Cx) (pins : List (Addr × Obj)) (σ : St) (Q : Bool → Hp → Prop) (b : Bool) (s' : Shared) : Prop := ∃ H', Inv X pins σ H' s' ∧ Q b H'
def AP (X : Cx) (pins : List (Addr × Obj)) (σ : St) (Q : List V → Hp → Prop) (us : List Value) (s' : Shared) : Prop := ∃ vs H', Inv X pins σ H' s' ∧ Vals vs us ∧ Q vs H'
def SP (X : Cx) (pins : List (Addr × Obj)) (D : Ends) (f : Flow) (s' : Shared) : Prop :=
  match f with
  | .next => ∃ σ' H', Inv X pins σ' H' s' ∧ D.nx σ' H'
  | .brk => ∃ σ' H', Inv X pins σ' H' s' ∧ D.bk σ' H'
  | .cont => ∃ σ' H', Inv X pins σ' H' s' ∧ D.ct σ' H'
  | .ret u => ∃ v σ' H', Inv X pins σ' H' s' ∧ RelV v u ∧ D.rt v H'

def PE (X : Cx) (e : Expr) (t : TE) : Prop :=
  ∀ (pins : List (Addr × Obj)) (s : Shared) (σ : St) (H : Hp) (Q : VK), Inv X pins σ H s → t σ H Q → wpAny (model X.prog X.w) X.A (eval e X.env) (EP X pins σ Q) X.xe s
def PT (X : Cx) (e : Expr) (t : TT) : Prop :=
  ∀ (pins : List (Addr × Obj)) (s : Shared) (σ : St) (H : Hp) (Q : Bool → Hp → Prop), Inv X pins σ H s → t σ H Q → wpAny (model X.prog X.w) X.A (isTrue e X.env (eval e X.env)) (TP X pins σ Q) X.xe s
/-- a test whatever its 'whole' is (and, or) -/
def PW (X : Cx) (e : Expr) (t : TT) : Prop :=
  ∀ (whole : Sem Value) (pins : List (Addr × Obj)) (s : Shared) (σ : St) (H : Hp) (Q : Bool → Hp → Prop), Inv X pins σ H s → t σ H Q → wpAny (model X.prog X.w) X.A (isTrue e X.env whole) (TP X pins σ Q) X.xe s
theorem PW.pt {X : Cx} {e : Expr} {t : TT} (h : PW X e t) : PT X e t := h _
/-- an argument list (no star), from the left -/
def PA (X : Cx) (es : List Expr) (t : TA) : Prop :=
  ∀ (pos : Pos) (pins : List (Addr × Obj)) (s : Shared) (σ : St) (H : Hp) (Q : List V → Hp → Prop), Inv X pins σ H s → t σ H Q → wpAny (model X.prog X.w) X.A (spliced (backTo pos (starEach es X.env))) (AP X pins σ Q) X.xe s
def PS (X : Cx) (st : Stmt) (t : TS) : Prop :=
  ∀ (pins : List (Addr × Obj)) (s : Shared) (σ : St) (H : Hp) (D : Ends), Inv X pins σ H s → t D σ H → wpAny (model X.prog X.w) X.A (exec st X.env) (SP X pins D) X.xe s
def PSs (X : Cx) (st : List Stmt) (t : TS) : Prop :=
  ∀ (pins : List (Addr × Obj)) (s : Shared) (σ : St) (H : Hp) (D : Ends), Inv X pins σ H s → t D σ H → wpAny (model X.prog X.w) X.A (execs st X.env) (SP X pins D) X.xe s
/-- weaken the end -/
theorem thn {α : Type} {t : Sem α} {Q Q' : α → Shared → Prop} {M : Model} {A : Around} {E : Value → Shared → Prop} {s : Shared} (h : wpAny M A t Q E s) (hQ : ∀ a s, Q a s → Q' a s) : wpAny M A t Q' E s := wpAny_mono h hQ fun _ _ x => x
end L2

namespace L2
open PySem PySem.Spec PyProof.Rows
section
variable {X : Cx}


/-! ### names and constants -/
def tVar (i : Nat) : TE := fun σ H Q => ∃ v, σ[i]? = some (some v) ∧ Q v H
def tC (v : V) : TE := fun _ H Q => Q v H
theorem pe_var {i : Nat} {x : Str} {pos : Pos} (hN : X.N[i]? = some x) (hv : Vis X.env.scope x) (hd : (x == ("__debug__" : Str)) = false := by decide) (hcd : (x == ("__classdict__" : Str)) = false := by decide) : PE X (.Name x pos) (tVar i) := by
  intro pins s σ H Q I h
  obtain ⟨v, e, h⟩ := h
  obtain ⟨m, hn, hl⟩ := I.loc
  obtain ⟨u, r, l⟩ := hl i x v hN e hv
  have fin : EP X pins σ Q u s := ⟨v, H, I, r, h⟩
  rcases l with ⟨hk, hm⟩ | ⟨hk, c, hc, hcell⟩
  · exact wpAny_Name (wpAny_loadName_local I.ok.kind hk hn hm fin) hd
  · rcases hk with hk | hk
    · exact wpAny_Name (wpAny_loadName_cell I.ok.kind hk hc hcell fin) hd
    · exact wpAny_Name (wpAny_loadName_free I.ok.kind hk hc hcell fin hcd) hd
theorem pe_int {i j pos} : PE X (.Constant (.int i) j pos) (tC (.int i)) := fun _ _ _ H _ I h => wpAny_Constant_int ⟨.int i, H, I.tok _, ⟨_, rfl⟩, h⟩
theorem pe_bl {b j pos} : PE X (.Constant (.bool b) j pos) (tC (.bl b)) := fun _ _ _ H _ I h => Constant_bool ⟨.bl b, H, I, rfl, h⟩
theorem pe_non {j pos} : PE X (.Constant .none j pos) (tC .non) := fun _ _ _ H _ I h => Constant_none ⟨.non, H, I, rfl, h⟩
theorem pe_str {x j pos} : PE X (.Constant (.str x) j pos) (tC (.str x)) := fun _ _ _ H _ I h => Calls.Constant_str ⟨.str x, H, I.tok _, ⟨_, rfl⟩, h⟩

/-- a global name of the def -/
def Gl (X : Cx) (x : Str) : Prop := X.env.kindOf x = some .globalImplicit
theorem ld_glob {E : Value → Shared → Prop} {pins : List (Addr × Obj)} {s : Shared} {σ : St} {H : Hp} {x : Str} {u : Value} {pos : Pos} {Q : Value → Shared → Prop} (I : Inv X pins σ H s) (hg : Gl X x) (hm : X.mg x = some u) (h : Q u s)
    (hd : (x == ("__debug__" : Str)) = false := by decide) : wpAny (model X.prog X.w) X.A (eval (.Name x pos) X.env) Q E s :=
  Calls.Name_function_global I.ok.kind hg (Calls.loadGlobal_global (by rw [I.ok.glob]; exact I.mod.glob.keeps I.bk) hm h) hd
theorem ld_blt {E : Value → Shared → Prop} {pins : List (Addr × Obj)} {s : Shared} {σ : St} {H : Hp} {x : Str} {u : Value} {pos : Pos} {Q : Value → Shared → Prop} (I : Inv X pins σ H s) (hg : Gl X x) (hm : X.mg x = none) (hv : bootBuiltins x = some u) (h : Q u s)
    (hn : x ≠ "__name__" := by decide) (hd : (x == ("__debug__" : Str)) = false := by decide) : wpAny (model X.prog X.w) X.A (eval (.Name x pos) X.env) Q E s := by
  obtain ⟨mb, h1, h2⟩ := I.mod.blt
  exact Calls.Name_function_global I.ok.kind hg (Calls.loadGlobal_builtin (by rw [I.ok.glob]; exact I.mod.glob.keeps I.bk) hm (by rw [I.ok.blt]; exact h1.keeps I.bk) ((h2 x hn).trans hv) h) hd
theorem pe_bltn {x : Str} {v : V} {u : Value} {pos : Pos} (hg : Gl X x) (hm : X.mg x = none) (hv : bootBuiltins x = some u) (r : RelV v u) (hn : x ≠ "__name__" := by decide) (hd : (x == ("__debug__" : Str)) = false := by decide) : PE X (.Name x pos) (tC v) :=
  fun _ _ _ H _ I h => ld_blt I hg hm hv ⟨v, H, I, r, h⟩ hn hd

/-! ### arithmetic -/
/-- two ints -/
def t2I (ta tb : TE) (k : Int → Int → Hp → Prop) : St → Hp → Prop := fun σ H => ta σ H fun x H1 => tb σ H1 fun y H2 => ∃ i j, x = .int i ∧ y = .int j ∧ k i j H2
def tAdd (ta tb : TE) : TE := fun σ H Q => t2I ta tb (fun i j H2 => Q (.int (i + j)) H2) σ H
def tSub (ta tb : TE) : TE := fun σ H Q => t2I ta tb (fun i j H2 => Q (.int (i - j)) H2) σ H
/-- the left factor below 2^64 -/
def tMul (ta tb : TE) : TE := fun σ H Q => t2I ta tb (fun i j H2 => (-(2 ^ 64) < i ∧ i < 2 ^ 64) ∧ Q (.int (i * j)) H2) σ H
variable {a b : Expr} {ta tb : TE} {pos : Pos}

/-! ### comparisons -/
def PC (X : Cx) (op : CmpOp) (a b : Expr) (t : TE) : Prop :=
  ∀ (pins : List (Addr × Obj)) (s : Shared) (σ : St) (H : Hp) (Q : VK), Inv X pins σ H s → t σ H Q →
    wpAny (model X.prog X.w) X.A (eval a X.env) (fun v s₁ => wpAny (model X.prog X.w) X.A (eval b X.env) (fun u s₂ => wpAny (model X.prog X.w) X.A (compareOp op v u) (EP X pins σ Q) X.xe s₂) X.xe s₁) X.xe s
def tCmp (p : Int → Int → Bool) (ta tb : TE) : TE := fun σ H Q => t2I ta tb (fun i j H2 => Q (.bl (p i j)) H2) σ H
abbrev tLt : TE → TE → TE := tCmp fun i j => decide (i < j)
abbrev tLe : TE → TE → TE := tCmp fun i j => decide (i ≤ j)
abbrev tGt : TE → TE → TE := tCmp fun i j => decide (j < i)
abbrev tGe : TE → TE → TE := tCmp fun i j => decide (j ≤ i)
abbrev tEqI : TE → TE → TE := tCmp fun i j => decide (i = j)
abbrev tNeI : TE → TE → TE := tCmp fun i j => !decide (i = j)
/-- is None -/
def tIsN (ta : TE) : TE := fun σ H Q => ta σ H fun x H1 => Q (.bl (decide (x = .non))) H1
def tNotN (ta : TE) : TE := fun σ H Q => ta σ H fun x H1 => Q (.bl (!decide (x = .non))) H1
/-- a comparison as a value, as a test -/
def tB (t : TE) : TT := fun σ H Q => t σ H fun x H1 => ∃ c, x = .bl c ∧ Q c H1
/-- an expression whose value is a bool, as a test -/
theorem pt_val {e : Expr} {t : TE} (h : PE X e t) (he : ∀ whole, isTrue e X.env whole = (do let v ← whole; standAt e.pos; holding [v] (truthy v)) := by intro _; rfl) : PT X e (tB t) := by
  intro pins s σ H Q I hw
  refine isTrue_plain (thn (h pins s σ H _ I hw) fun v s1 ⟨x, H1, I1, r1, q1⟩ => ?_) (he _)
  obtain ⟨d, rfl, q⟩ := q1
  cases r1
  exact wpAny_truthy_bool ⟨H1, I1, q⟩

/-! ### and, or, not -/
variable {tA tB' : TT} {rest : List Expr}
def tAnd (t u : TT) : TT := fun σ H Q => t σ H fun c H1 => if c = true then u σ H1 Q else Q false H1
def tOr (t u : TT) : TT := fun σ H Q => t σ H fun c H1 => if c = true then Q true H1 else u σ H1 Q
def tNot (t : TT) : TT := fun σ H Q => t σ H fun c H1 => Q (!c) H1
theorem pw_and1 (ha : PT X a tA) : PW X (.BoolOp .And [a] pos) tA := by
  intro wh pins s σ H Q I h
  refine isTrue_and (thn (ha pins s σ H Q I h) fun c s1 e => ?_)
  cases c with
  | true => exact isTrue_and_nil e
  | false => exact e
theorem pw_or1 (ha : PT X a tA) : PW X (.BoolOp .Or [a] pos) tA := by
  intro wh pins s σ H Q I h
  refine isTrue_or (thn (ha pins s σ H Q I h) fun c s1 e => ?_)
  cases c with
  | false => exact isTrue_or_nil e
  | true => exact e
theorem pw_and (ha : PT X a tA) (hb : PW X (.BoolOp .And (b :: rest) pos) tB') : PW X (.BoolOp .And (a :: b :: rest) pos) (tAnd tA tB') := by
  intro wh pins s σ H Q I h
  refine isTrue_and (thn (ha pins s σ H _ I h) fun c s1 ⟨H1, I1, q1⟩ => ?_)
  cases c with
  | true => exact hb wh pins s1 σ H1 Q I1 q1
  | false => exact ⟨H1, I1, q1⟩
theorem pw_or (ha : PT X a tA) (hb : PW X (.BoolOp .Or (b :: rest) pos) tB') : PW X (.BoolOp .Or (a :: b :: rest) pos) (tOr tA tB') := by
  intro wh pins s σ H Q I h
  refine isTrue_or (thn (ha pins s σ H _ I h) fun c s1 ⟨H1, I1, q1⟩ => ?_)
  cases c with
  | true => exact ⟨H1, I1, q1⟩
  | false => exact hb wh pins s1 σ H1 Q I1 q1
theorem pt_not (ha : PT X a tA) : PT X (.UnaryOp .Not a pos) (tNot tA) := by
  intro pins s σ H Q I h
  exact isTrue_not (ha pins s σ H (fun c H1 => Q (!c) H1) I h)
/-- .. as values (bools) -/
def tAndV (ta tb : TE) : TE := fun σ H Q => ta σ H fun x H1 => ∃ c, x = .bl c ∧ if c = true then tb σ H1 Q else Q (.bl false) H1
def tOrV (ta tb : TE) : TE := fun σ H Q => ta σ H fun x H1 => ∃ c, x = .bl c ∧ if c = true then Q (.bl true) H1 else tb σ H1 Q
def tNotV (ta : TE) : TE := fun σ H Q => ta σ H fun x H1 => ∃ c, x = .bl c ∧ Q (.bl (!c)) H1
theorem pe_one {op} {t : TE} (h : PE X a t) : PE X (.BoolOp op [a] pos) t := fun pins s σ H Q I hw => BoolOp_one (h pins s σ H Q I hw)
theorem pe_and (ha : PE X a ta) (hb : PE X (.BoolOp .And (b :: rest) pos) tb) : PE X (.BoolOp .And (a :: b :: rest) pos) (tAndV ta tb) := by
  intro pins s σ H Q I h
  refine BoolOp_and (thn (ha pins s σ H _ I h) fun v s1 ⟨x, H1, I1, r1, q1⟩ => ?_)
  obtain ⟨c, rfl, q1⟩ := q1
  cases r1
  refine wpAny_truthy_bool ?_
  cases c with
  | true => exact hb pins s1 σ H1 Q I1 q1
  | false => exact ⟨.bl false, H1, I1, rfl, q1⟩
theorem pe_not (ha : PE X a ta) : PE X (.UnaryOp .Not a pos) (tNotV ta) := by
  intro pins s σ H Q I h
  refine UnaryOp_ (thn (ha pins s σ H _ I h) fun v s1 ⟨x, H1, I1, r1, q1⟩ => ?_)
  obtain ⟨c, rfl, q1⟩ := q1
  cases r1
  exact not_of (wpAny_truthy_bool ⟨.bl (!c), H1, I1, rfl, q1⟩)
/-- a if t else b -/
def tIf (t : TT) (ta tb : TE) : TE := fun σ H Q => t σ H fun c H1 => if c = true then ta σ H1 Q else tb σ H1 Q
end
end L2

namespace L2
open PySem PySem.Spec PyProof.Rows

/-! ### a list, a tuple that is read: tracked, frozen, or an object of the module -/
def SqL (K : PySem.W.Frag) (H : Hp) (a : Addr) (xs : List V) : Prop :=
  Rd H a (.lst xs) ∨
    ∃ (o : Obj) (its : Array Value) (n : Nat), K.lookup a = some o ∧ o.cls = .type "list" ∧ o.dict = none ∧ o.data = .seq its n ∧ its.size ≤ sizeLine ∧ Vals xs its.toList
def SqT (K : PySem.W.Frag) (H : Hp) (a : Addr) (xs : List V) : Prop :=
  Rd H a (.tup xs) ∨
    ∃ (o : Obj) (its : Array Value) (n : Nat), K.lookup a = some o ∧ o.cls = .type "tuple" ∧ o.data = .seq its n ∧ its.size ≤ sizeLine ∧ Vals xs its.toList
def absV : Value → Option V
  | .none => some .non
  | .bool b => some (.bl b)
  | .int i _ => some (.int i)
  | .str x _ => some (.str x)
  | .bytes b _ => some (.byt b)
  | .float b _ => some (.flt b)
  | .ref a => some (.ref a)
  | .type n => some (.ty n)
  | _ => none
theorem RelV.abs {x : V} {u : Value} (r : RelV x u) : absV u = some x := by
  cases x with
  | non => cases r; rfl
  | bl _ => cases r; rfl
  | int _ => obtain ⟨t, rfl⟩ := r; rfl
  | str _ => obtain ⟨t, rfl⟩ := r; rfl
  | byt _ => obtain ⟨t, rfl⟩ := r; rfl
  | flt _ => obtain ⟨t, rfl⟩ := r; rfl
  | ref _ => cases r; rfl
  | ty _ => cases r; rfl
theorem RelV.inj {x y : V} {u : Value} (r : RelV x u) (q : RelV y u) : x = y := Option.some.inj (r.abs.symm.trans q.abs)
theorem Vals.inj : ∀ {xs ys : List V} {us : List Value}, Vals xs us → Vals ys us → xs = ys
  | _, _, _, .nil, .nil => rfl
  | _, _, _, .cons r t, .cons r' t' => by rw [r.inj r', Vals.inj t t']
section
variable {X : Cx} {pins : List (Addr × Obj)} {σ : St} {H : Hp} {s : Shared} {a : Addr} {xs ys : List V}
theorem SqL.of {K : PySem.W.Frag} (h : H a = some (.lst xs)) : SqL K H a xs := .inl (.inl h)
theorem SqT.of {K : PySem.W.Frag} (h : H a = some (.tup xs)) : SqT K H a xs := .inl (.inl h)
theorem Inv.list (I : Inv X pins σ H s) (h : SqL X.K H a xs) : ∃ its : List Value, Vals xs its ∧ PlainL s.heap a its.toArray ∧ xs.length ≤ sizeLine := by
  rcases h with h | ⟨o, its, n, hk, hc, hd, hs, hz, r⟩
  · obtain ⟨z, its, n, r, e⟩ := h.ok I.hok
    exact ⟨its, r, ⟨_, n, e, rfl, rfl, rfl⟩, z⟩
  · refine ⟨its.toList, r, ⟨o, n, I.kIn a o hk, hc, hd, by simpa using hs⟩, ?_⟩
    have e := r.length
    simp only [Array.length_toList] at e
    omega
theorem Inv.tuple (I : Inv X pins σ H s) (h : SqT X.K H a xs) : ∃ its : List Value, Vals xs its ∧ IsTup s.heap a its.toArray ∧ xs.length ≤ sizeLine := by
  rcases h with h | ⟨o, its, n, hk, hc, hs, hz, r⟩
  · obtain ⟨z, its, r, p⟩ := h.ok I.hok
    exact ⟨its, r, p, z⟩
  · refine ⟨its.toList, r, ⟨o, I.kIn a o hk, hc, n, by simpa using hs⟩, ?_⟩
    have e := r.length
    simp only [Array.length_toList] at e
    omega
theorem Inv.list_inj (I : Inv X pins σ H s) (h : SqL X.K H a xs) (h' : SqL X.K H a ys) : xs = ys := by
  obtain ⟨its, r, ⟨o, n, e, _, _, d⟩, _⟩ := I.list h
  obtain ⟨its', r', ⟨o', n', e', _, _, d'⟩, _⟩ := I.list h'
  rw [e] at e'; cases e'
  rw [d] at d'
  injection d' with d1 _
  have : its = its' := by simpa using congrArg Array.toList d1
  subst this
  exact r.inj r'
end

/-! ### another wish about exceptions -/
abbrev Cx.wish (X : Cx) (E : Value → Shared → Prop) : Cx := { X with xe := E }
/-- no exception leaves -/
abbrev Cx.nox (X : Cx) : Cx := X.wish fun _ _ => False
theorem Cx.Ok.wish {X : Cx} (ok : X.Ok) (E : Value → Shared → Prop) : (X.wish E).Ok :=
  ⟨ok.mod, ok.kind, ok.glob, ok.blt, ok.above, ok.inj, ok.has, ok.cab, ok.hd, ok.frames, ok.stk, ok.exf, ok.bs, ok.bsz, ok.noex, ok.exfs, ok.funs, ok.frf⟩
theorem Cx.Ok.unwish {X : Cx} {E : Value → Shared → Prop} (ok : (X.wish E).Ok) : X.Ok :=
  ⟨ok.mod, ok.kind, ok.glob, ok.blt, ok.above, ok.inj, ok.has, ok.cab, ok.hd, ok.frames, ok.stk, ok.exf, ok.bs, ok.bsz, ok.noex, ok.exfs, ok.funs, ok.frf⟩
section
variable {X : Cx} {pins : List (Addr × Obj)} {σ : St} {H : Hp} {s : Shared} {E : Value → Shared → Prop}
theorem Inv.wish (I : Inv X pins σ H s) (E : Value → Shared → Prop) : Inv (X.wish E) pins σ H s := ⟨I.ok.wish E, I.os, I.bare, I.base, I.loc, I.cell, I.free, I.freeC, I.pin, I.hok, I.len⟩
theorem Inv.unwish (I : Inv (X.wish E) pins σ H s) : Inv X pins σ H s := ⟨I.ok.unwish, I.os, I.bare, I.base, I.loc, I.cell, I.free, I.freeC, I.pin, I.hok, I.len⟩
theorem SP.unwish {D : Ends} {f : Flow} {s' : Shared} (h : SP (X.wish E) pins D f s') : SP X pins D f s' := by
  cases f with
  | next => obtain ⟨σ', H', I, q⟩ := h; exact ⟨σ', H', I.unwish, q⟩
  | brk => obtain ⟨σ', H', I, q⟩ := h; exact ⟨σ', H', I.unwish, q⟩
  | cont => obtain ⟨σ', H', I, q⟩ := h; exact ⟨σ', H', I.unwish, q⟩
  | ret u => obtain ⟨v, σ', H', I, r, q⟩ := h; exact ⟨v, σ', H', I.unwish, r, q⟩
theorem PE.nox {e : Expr} {t : TE} (h : PE X.nox e t) : PE X e t := fun pins s σ H Q I hw =>
  wpAny_mono (h pins s σ H Q (I.wish _) hw) (fun _ _ ⟨v, H', I', r, q⟩ => ⟨v, H', I'.unwish, r, q⟩) fun _ _ z => False.elim z
theorem PT.nox {e : Expr} {t : TT} (h : PT X.nox e t) : PT X e t := fun pins s σ H Q I hw =>
  wpAny_mono (h pins s σ H Q (I.wish _) hw) (fun _ _ ⟨H', I', q⟩ => ⟨H', I'.unwish, q⟩) fun _ _ z => False.elim z
theorem PSs.nox {st : List Stmt} {t : TS} (h : PSs X.nox st t) : PSs X st t := fun pins s σ H D I hw =>
  wpAny_mono (h pins s σ H D (I.wish _) hw) (fun _ _ q => q.unwish) fun _ _ z => False.elim z
end

/-! ### blocks and small statements -/
section
variable {X : Cx} {st : Stmt} {rest : List Stmt} {t u : TS} {e : Expr} {te : TE} {pos : Pos}
def tNext : TS := fun D σ H => D.nx σ H
def tSeq (t u : TS) : TS := fun D σ H => t { D with nx := u D } σ H
theorem pss_nil : PSs X [] tNext := fun _ _ σ H _ I h => wpAny_execs_nil ⟨σ, H, I, h⟩
theorem pss_cons (h1 : PS X st t) (h2 : PSs X rest u) : PSs X (st :: rest) (tSeq t u) := by
  intro pins s σ H D I h
  refine wpAny_execs_cons (thn (h1 pins s σ H { D with nx := u D } I h) fun f s1 q => ?_)
  cases f with
  | next =>
    obtain ⟨σ', H', I', q⟩ := q
    exact h2 pins s1 σ' H' D I' q
  | ret v => exact q
  | brk => exact q
  | cont => exact q
theorem pss_one (h1 : PS X st t) : PSs X [st] t := by
  intro pins s σ H D I h
  refine wpAny_execs_cons (thn (h1 pins s σ H D I h) fun f s1 q => ?_)
  cases f with
  | next => exact wpAny_execs_nil q
  | ret v => exact q
  | brk => exact q
  | cont => exact q
def tBreak : TS := fun D σ H => D.bk σ H
def tCont : TS := fun D σ H => D.ct σ H
/-- in a def's body nothing is shown -/
theorem Inv.quiet {pins : List (Addr × Obj)} {σ : St} {H : Hp} {s : Shared} (I : Inv X pins σ H s) : interactive X.env = false := by simp [interactive, I.ok.kind]
/-- an expression whose value is dropped -/
def tDrop (te : TE) : TS := fun D σ H => te σ H fun _ H1 => D.nx σ H1
theorem ps_expr (he : PE X e te) (hs : swapsWith e none pos.line X.env = pure false := by rfl) : PS X (.Expr e pos) (tDrop te) := by
  intro pins s σ H D I h
  exact wpAny_Expr_any (thn (he pins s σ H _ I h) fun v s1 ⟨x, H1, I1, r1, q1⟩ => ⟨σ, H1, I1, q1⟩) I.quiet hs
def tRet (te : TE) : TS := fun D σ H => te σ H D.rt
theorem ps_ret (he : PE X e te) : PS X (.Return (some e) pos) (tRet te) := by
  intro pins s σ H D I h
  exact wpAny_Return_some (thn (he pins s σ H _ I h) fun v s1 ⟨x, H1, I1, r1, q1⟩ => ⟨x, σ, H1, I1, r1, q1⟩)
def tRetN : TS := fun D _ H => D.rt .non H
def tIfS (c : TT) (t u : TS) : TS := fun D σ H => c σ H fun b H1 => if b = true then t D σ H1 else u D σ H1
theorem ps_if {c : Expr} {a b : List Stmt} {tc : TT} (hc : PT X c tc) (ha : PSs X a t) (hb : PSs X b u) : PS X (.If c a b pos) (tIfS tc t u) := by
  intro pins s σ H D I h
  refine wpAny_If (thn (hc pins s σ H _ I h) fun d s1 ⟨H1, I1, q1⟩ => ?_)
  cases d with
  | true => exact ha pins s1 σ H1 D I1 q1
  | false => exact hb pins s1 σ H1 D I1 q1
/-- code that the proof never comes to -/
def tNever : TS := fun _ _ _ => False
theorem ps_never : PS X st tNever := fun _ _ _ _ _ _ h => h.elim
end

/-! ### targets -/
abbrev TG := V → St → Hp → (St → Hp → Prop) → Prop
abbrev TGs := List V → St → Hp → (St → Hp → Prop) → Prop
def PG (X : Cx) (target : Expr) (t : TG) : Prop :=
  ∀ (pins : List (Addr × Obj)) (s : Shared) (σ : St) (H : Hp) (v : V) (u : Value) (Q : St → Hp → Prop), Inv X pins σ H s → RelV v u → t v σ H Q →
    wpAny (model X.prog X.w) X.A (assign target X.env u) (fun _ s' => ∃ σ' H', Inv X pins σ' H' s' ∧ Q σ' H') X.xe s
/-- several targets, one after another -/
def PGs (X : Cx) (ts : List Expr) (t : TGs) : Prop :=
  ∀ (pins : List (Addr × Obj)) (s : Shared) (σ : St) (H : Hp) (vs : List V) (us : List Value) (Q : St → Hp → Prop), Inv X pins σ H s → Vals vs us → t vs σ H Q →
    wpAny (model X.prog X.w) X.A (assignInOrder ((assignEach ts X.env).map (·.2)) us) (fun _ s' => ∃ σ' H', Inv X pins σ' H' s' ∧ Q σ' H') X.xe s
/-- o[i] = v, by values -/
abbrev TSet := V → V → V → Hp → (Hp → Prop) → Prop
def PSet (X : Cx) (t : TSet) : Prop :=
  ∀ (pins : List (Addr × Obj)) (s : Shared) (σ : St) (H : Hp) (o i v : V) (ov iv u : Value) (Q : Hp → Prop), Inv X pins σ H s → RelV o ov → RelV i iv → RelV v u → t o i v H Q →
    wpAny (model X.prog X.w) X.A (setItem ov iv u) (fun _ s' => ∃ H', Inv X pins σ H' s' ∧ Q H') X.xe s
/-- a op= b, by values -/
abbrev TIp := V → V → Hp → VK → Prop
def PIp (X : Cx) (op : Operator) (t : TIp) : Prop :=
  ∀ (pins : List (Addr × Obj)) (s : Shared) (σ : St) (H : Hp) (x y : V) (v u : Value) (Q : VK), Inv X pins σ H s → RelV x v → RelV y u → t x y H Q →
    wpAny (model X.prog X.w) X.A (inplaceOp op v u) (EP X pins σ Q) X.xe s
section
variable {X : Cx} {pos : Pos}
def gName (i : Nat) : TG := fun v σ H Q => Q (σ.set i (some v)) H
theorem pg_name {i : Nat} {x : Str} (hN : X.N.Nodup) (hi : X.N[i]? = some x) (hx : Loc X.env.scope x) (hf : X.fn x = true ∨ X.env.scope.names.lookup x = some .local := by first | exact .inl rfl | exact .inr rfl | assumption) : PG X (.Name x pos) (gName i) := by
  intro pins s σ H v u Q I r h
  exact wpAny_assign_Name (store_ok I hN hi hx r (fun s' I' => ⟨_, H, I', h⟩) hf)
def gNil : TGs := fun vs σ H Q => vs = [] ∧ Q σ H
def gCons (t : TG) (u : TGs) : TGs := fun vs σ H Q => ∃ v r, vs = v :: r ∧ t v σ H fun σ' H' => u r σ' H' Q
theorem pgs_nil : PGs X [] gNil := by
  intro pins s σ H vs us Q I r h
  obtain ⟨e, h⟩ := h
  subst e
  cases r
  exact assignInOrder_nil ⟨σ, H, I, h⟩
theorem pgs_cons {e : Expr} {es : List Expr} {t : TG} {u : TGs} (h1 : PG X e t) (h2 : PGs X es u)
    (hs : (assignEach (e :: es) X.env).map (·.2) = assign e X.env :: (assignEach es X.env).map (·.2) := by rfl) : PGs X (e :: es) (gCons t u) := by
  intro pins s σ H vs us Q I r h
  obtain ⟨v, vr, e1, h⟩ := h
  subst e1
  cases r with
  | cons r rr =>
    rw [hs]
    refine assignInOrder_cons (thn (h1 pins s σ H _ _ _ I r h) fun _ s1 ⟨σ1, H1, I1, q1⟩ => ?_)
    exact h2 pins s1 σ1 H1 _ _ Q I1 rr q1
/-- (a, b, ..) = a tuple of that length -/
def gTup (K : PySem.W.Frag) (n : Nat) (t : TGs) : TG := fun v σ H Q => ∃ a xs, v = .ref a ∧ SqT K H a xs ∧ xs.length = n ∧ t xs σ H Q
theorem pg_tup {es : List Expr} {k : Nat} {t : TGs} {n : Nat} (hc : X.calm = true) (h : PGs X es t)
    (hn : (assignEach es X.env).length = n := by rfl) (hst : (assignEach es X.env).findIdx? (·.1) = none := by rfl) : PG X (.Tuple es k pos) (gTup X.K n t) := by
  intro pins s σ H v u Q I r hw
  obtain ⟨a, xs, e1, hq, hl, hw⟩ := hw
  subst e1
  cases r
  obtain ⟨its, rv, ht, hz⟩ := I.tuple hq
  refine assign_Tuple_tuple (I.ok.hd hc) ht (by simp [hn, ← hl, rv.length]) hst fun h' hx => ?_
  have I1 : Inv X pins σ H { s with heap := h' } := I.kept (t' := s.toks) fun b o e => hx b o (Nat.ne_of_lt (Heap.lt_size e)) e
  exact h pins _ σ H xs _ Q I1 (by simpa using rv) hw
/-- o[i] = .. -/
def gSub (to ti : TE) (t : TSet) : TG := fun v σ H Q => to σ H fun o H1 => ti σ H1 fun i H2 => t o i v H2 fun H3 => Q σ H3
theorem pg_sub {o i : Expr} {to ti : TE} {t : TSet} (ho : PE X o to) (hi : PE X i ti) (hs : PSet X t)
    (ha : ∀ v, assign (.Subscript o i pos) X.env v = (do
      let ov ← holding [v] (eval o X.env)
      let iv ← holding [v, ov] (eval i X.env)
      standAt pos
      holding [v, ov, iv] (setItem ov iv v)
      release [v, ov, iv] []) := by intro _; rfl) : PG X (.Subscript o i pos) (gSub to ti t) := by
  intro pins s σ H v u Q I r h
  rw [ha]
  refine wpAny_bind (wpAny_holding (thn (ho pins s σ H _ I h) fun ov s1 ⟨x, H1, I1, r1, q1⟩ => ?_))
  refine wpAny_bind (wpAny_holding (thn (hi pins s1 σ H1 _ I1 q1) fun iv s2 ⟨y, H2, I2, r2, q2⟩ => ?_))
  refine wpAny_bind (wpAny_standAt (wpAny_bind (wpAny_holding (thn (hs pins s2 σ H2 x y v ov iv u _ I2 r1 r2 r q2) fun _ s3 ⟨H3, I3, q3⟩ => ?_))))
  exact wpAny_release ⟨σ, H3, I3, q3⟩
/-- target = value -/
def tAsg (te : TE) (g : TG) : TS := fun D σ H => te σ H fun x H1 => g x σ H1 D.nx
theorem ps_asg {tg e : Expr} {te : TE} {g : TG} (he : PE X e te) (hg : PG X tg g) (hs : swapsWithSole [tg] e pos.line X.env = pure false := by rfl) (hw : swappedStores [tg] e X.env = pure none := by rfl)
    (h1 : (assignEach [tg] X.env).map (·.2) = [assign tg X.env] := by rfl) : PS X (.Assign [tg] e pos) (tAsg te g) := by
  intro pins s σ H D I h
  refine wpAny_Assign_stores (thn (he pins s σ H _ I h) fun v s1 ⟨x, H1, I1, r1, q1⟩ => ?_) hs hw
  rw [h1]
  exact thn (hg pins s1 σ H1 x v _ I1 r1 q1) fun _ s2 q => q
/-- name = value -/
theorem ps_set {i : Nat} {x : Str} {e : Expr} {te : TE} {pos' : Pos} (hN : X.N.Nodup) (hi : X.N[i]? = some x) (hx : Loc X.env.scope x) (he : PE X e te) (hs : swapsWith e (some (.Name x pos')) pos.line X.env = pure false := by rfl) (hf : X.fn x = true ∨ X.env.scope.names.lookup x = some .local := by first | exact .inl rfl | exact .inr rfl | assumption) :
    PS X (.Assign [.Name x pos'] e pos) (tAsg te (gName i)) := by
  intro pins s σ H D I h
  refine wpAny_Assign_Name (thn (he pins s σ H _ I h) fun v s1 ⟨y, H1, I1, r1, q1⟩ => ?_) hs
  exact store_ok I1 hN hi hx r1 (fun s2 I2 => ⟨_, H1, I2, q1⟩) hf
/-- a, b = x, y with plain local names: stored from the right; the pair itself is not tracked (the opening rows as in PyProof/Rows/TupAssign.lean:23) -/
def tPar (i j : Nat) (ta : TA) : TS := fun D σ H => ta σ H fun vs H1 => ∃ v w, vs = [v, w] ∧ D.nx ((σ.set i (some v)).set j (some w)) H1
/-- name op= e -/
def tAug (i : Nat) (te : TE) (ti : TIp) : TS := fun D σ H => ∃ x, σ[i]? = some (some x) ∧ te σ H fun y H1 => ti x y H1 fun z H2 => D.nx (σ.set i (some z)) H2
theorem ps_aug {i : Nat} {x : Str} {e : Expr} {te : TE} {op : Operator} {ti : TIp} {pos' : Pos} (hN : X.N.Nodup) (hi : X.N[i]? = some x) (hx : Loc X.env.scope x) (he : PE X e te) (ho : PIp X op ti) (hf : X.fn x = true ∨ X.env.scope.names.lookup x = some .local := by first | exact .inl rfl | exact .inr rfl | assumption) :
    PS X (.AugAssign (.Name x pos') op e pos) (tAug i te ti) := by
  intro pins s σ H D I h
  obtain ⟨v, e1, h⟩ := h
  obtain ⟨m, hn, hl⟩ := I.loc
  have vis : Vis X.env.scope x := by rcases hx with k | k; exact .inl k; exact .inr (.inl k)
  obtain ⟨u, r, l⟩ := hl i x v hi e1 vis
  refine wpAny_AugAssign_Name ?_
  have go : wpAny (model X.prog X.w) X.A (eval e X.env) (fun w s₂ => wpAny (model X.prog X.w) X.A (inplaceOp op u w) (fun r s₃ => wpAny (model X.prog X.w) X.A (storeName X.env x r) (fun _ => SP X pins D .next) X.xe s₃) X.xe s₂) X.xe s := by
    refine thn (he pins s σ H _ I h) fun w s1 ⟨y, H1, I1, r1, q1⟩ => ?_
    refine thn (ho pins s1 σ H1 v y u w _ I1 r r1 q1) fun z s2 ⟨zv, H2, I2, r2, q2⟩ => ?_
    exact store_ok I2 hN hi hx r2 (fun s3 I3 => ⟨_, H2, I3, q2⟩) hf
  rcases l with ⟨hk, hm⟩ | ⟨hk, c, hc, hcell⟩
  · exact wpAny_loadName_local I.ok.kind hk hn hm go
  · rcases hk with hk | hk
    · exact wpAny_loadName_cell I.ok.kind hk hc hcell go
    · rcases hx with k | k
      · have : X.env.scope.names.lookup x = some .free := hk
        rw [k] at this; cases this
      · have : X.env.scope.names.lookup x = some .free := hk
        rw [k] at this; cases this
/-- o[i] op= e -/
def tAugS (to ti te : TE) (tget : V → V → Hp → VK → Prop) (tip : TIp) (tset : TSet) : TS := fun D σ H => to σ H fun o H1 => ti σ H1 fun i H2 => tget o i H2 fun x H3 => te σ H3 fun y H4 => tip x y H4 fun z H5 => tset o i z H5 fun H6 => D.nx σ H6
/-- o[i], by values -/
def PGet (X : Cx) (t : V → V → Hp → VK → Prop) : Prop :=
  ∀ (pins : List (Addr × Obj)) (s : Shared) (σ : St) (H : Hp) (o i : V) (ov iv : Value) (Q : VK), Inv X pins σ H s → RelV o ov → RelV i iv → t o i H Q →
    wpAny (model X.prog X.w) X.A (getItem ov iv) (EP X pins σ Q) X.xe s
/-- ints -/
def ipI (f : Int → Int → Int) : TIp := fun x y H Q => ∃ i j, x = .int i ∧ y = .int j ∧ Q (.int (f i j)) H
theorem ip_add : PIp X .Add (ipI fun i j => i + j) := by
  intro pins s σ H x y v u Q I r1 r2 h
  obtain ⟨i, j, e1, e2, q⟩ := h
  subst e1; subst e2
  obtain ⟨t, rfl⟩ := r1
  obtain ⟨t', rfl⟩ := r2
  exact iadd_int ⟨.int _, H, I.tok _, ⟨_, rfl⟩, q⟩
end

/-! ### while -/
section
variable {X : Cx} {pos : Pos}
/-- the invariant W with its measure -/
def tWhile (c : TT) (tb : TS) : TS := fun D σ H => ∃ W : Nat → St → Hp → Prop, (∃ m, W m σ H) ∧ ∀ m σ H, W m σ H →
  c σ H fun b H1 => if b = true then ∃ N : St → Hp → Prop, (∀ σ' H', N σ' H' → ∃ m', m' < m ∧ W m' σ' H') ∧ tb { D with nx := N, ct := N, bk := D.nx } σ H1 else D.nx σ H1
theorem ps_while {c : Expr} {body : List Stmt} {tc : TT} {tb : TS} (hp : PassesOwn (model X.prog X.w) X.A X.env X.xe) (hc : PT X c tc) (hb : PSs X body tb) : PS X (.While c body [] pos) (tWhile tc tb) := by
  intro pins s σ H D I h
  obtain ⟨W, ⟨m0, w0⟩, turn⟩ := h
  refine wpAny_While (codeAny_whileLoop (fun n s' => ∃ σ' H', Inv X pins σ' H' s' ∧ W n σ' H') ?_ m0 ⟨σ, H, I, w0⟩)
  rintro n s1 ⟨σ1, H1, I1, w1⟩
  refine wpAny_passesOwn hp (thn (hc pins s1 σ1 H1 _ I1 (turn n σ1 H1 w1)) fun b s2 ⟨H2, I2, q2⟩ => ?_)
  cases b with
  | true =>
    obtain ⟨N, hN, q2⟩ := q2
    rw [if_pos rfl]
    refine wpAny_passesOwn hp (thn (hb pins s2 σ1 H2 _ I2 q2) fun f s3 q3 => ?_)
    cases f with
    | next =>
      obtain ⟨σ3, H3, I3, n3⟩ := q3
      obtain ⟨m', hm, w3⟩ := hN σ3 H3 n3
      exact ⟨m', hm, σ3, H3, I3, w3⟩
    | cont =>
      obtain ⟨σ3, H3, I3, n3⟩ := q3
      obtain ⟨m', hm, w3⟩ := hN σ3 H3 n3
      exact ⟨m', hm, σ3, H3, I3, w3⟩
    | brk => exact q3
    | ret v => exact q3
  | false =>
    rw [if_neg Bool.false_ne_true]
    exact wpAny_execs_nil ⟨σ1, H2, I2, q2⟩
end

/-! ### what a loop or a comprehension walks -/
/-- at turn i: it yields x (the heap may grow), or it stops -/
structure It where
  go : Nat → Hp → Prop
  yld : Nat → Hp → V → Hp → Prop
  stop : Nat → Hp → Prop
/-- the iterator's own objects may turn: they are not the frame's, not pinned, younger than the entry (or a comprehension's own) -/
def FpOk (X : Cx) (pins : List (Addr × Obj)) (H : Hp) (b : Addr) : Prop :=
  H b = none ∧ b ≠ X.env.locals ∧ b ∉ X.fs ∧ (b ∈ X.ex ∨ X.s₀.heap.objs.size ≤ b) ∧ (∀ x c, X.env.cells.lookup x = some c → c ≠ b) ∧ ∀ p ∈ X.pn ++ pins, p.1 ≠ b
theorem Inv.fpOk {X : Cx} {pins : List (Addr × Obj)} {σ : St} {H H' : Hp} {s : Shared} {b : Addr} (I : Inv X pins σ H s) (hb : s.heap.objs.size ≤ b) (hn : H' b = none) : FpOk X pins H' b := by
  refine ⟨hn, Nat.ne_of_gt (Nat.lt_of_lt_of_le I.lt hb), I.nofs hb, .inr (Nat.le_trans I.sz hb), fun x c e z => ?_, fun p hp z => ?_⟩
  · obtain ⟨v, q⟩ := I.cell x c e
    exact absurd (Nat.lt_of_lt_of_le q.lt (by rw [z]; exact hb)) (Nat.lt_irrefl _)
  · exact absurd (Nat.lt_of_lt_of_le (Heap.lt_size (I.pin p hp).1) (by rw [z]; exact hb)) (Nat.lt_irrefl _)
structure Turn (P : Program) (w : World) (K : PySem.W.Frag) (tg : Expr) (J : It) (fp : List Addr) (it : Addr) (tn : Nat → Heap → Prop) : Prop where
  mem : it ∈ fp
  obj : ∀ i h, tn i h → ∀ b ∈ fp, ∃ o, h.get? b = some o ∧ ∀ v, o.data ≠ .cell v
  keep : ∀ i h h', tn i h → (∀ b ∈ fp, ∀ o, h.get? b = some o → h'.get? b = some o) → tn i h'
  item : ∀ (X : Cx), X.prog = P → X.w = w → X.K = K → X.calm = true → ∀ (i : Nat) (pins : List (Addr × Obj)) (s : Shared) (σ : St) (H : Hp) (E : Value → Shared → Prop), Inv X pins σ H s → (∀ b ∈ fp, FpOk X pins H b) → tn i s.heap → J.go i H →
    wpAny (model P w) X.A (pyNext (.ref it)) (fun r s1 => ∃ u, r = some u ∧
      wpAny (model P w) X.A (letOwnedTupleGo tg (.ref it) u) (fun _ s2 => ∃ x H', Inv X pins σ H' s2 ∧ RelV x u ∧ J.yld i H x H' ∧ tn (i + 1) s2.heap ∧ ∀ b ∈ fp, H' b = none) E s1) E s
  done : ∀ (X : Cx), X.prog = P → X.w = w → X.K = K → X.calm = true → ∀ (i : Nat) (pins : List (Addr × Obj)) (s : Shared) (σ : St) (H : Hp) (E : Value → Shared → Prop), Inv X pins σ H s → (∀ b ∈ fp, FpOk X pins H b) → tn i s.heap → J.stop i H →
    wpAny (model P w) X.A (pyNext (.ref it)) (fun r s1 => r = none ∧ Inv X pins σ H s1) E s
  self : ∀ (A : Around) (i : Nat) (s : Shared) (Q : Value → Shared → Prop) (E : Value → Shared → Prop), tn i s.heap → Q (.ref it) s → wpAny (model P w) A (pyIter (.ref it)) Q E s
abbrev TI := St → Hp → (It → Hp → Prop) → Prop
/-- an iterator has come -/
def PIE (X : Cx) (pins : List (Addr × Obj)) (σ : St) (tg : Expr) (R : It → Hp → Prop) (itv : Value) (s2 : Shared) : Prop :=
  ∃ (it : Addr) (fp : List Addr) (tn : Nat → Heap → Prop) (J : It) (H' : Hp), itv = .ref it ∧ Inv X pins σ H' s2 ∧ Turn X.prog X.w X.K tg J fp it tn ∧ tn 0 s2.heap ∧ (∀ b ∈ fp, FpOk X pins H' b) ∧ R J H'
def PI (X : Cx) (tg iter : Expr) (wi : TI) : Prop :=
  ∀ (pins : List (Addr × Obj)) (s : Shared) (σ : St) (H : Hp) (R : It → Hp → Prop), Inv X pins σ H s → wi σ H R →
    wpAny (model X.prog X.w) X.A (eval iter X.env) (fun v s1 => wpAny (model X.prog X.w) X.A (pyIter v) (PIE X pins σ tg R) X.xe s1) X.xe s

/-- the step ahead of the store is nothing for an iterator that keeps no tuple -/
theorem go_of {M : Model} {A : Around} {E : Value → Shared → Prop} {s : Shared} {tg : Expr} {it : Addr} {u : Value} {o : Obj} {n : String} {vs : Array Value} {Q : Unit → Shared → Prop} (ho : s.heap.get? it = some o) (hc : o.cls = .type n) (hd : o.data = .fields vs)
    (hn : ["enumerate", "zip", "dict_itemiterator", "dict_reverseitemiterator", "odict_iterator", "itertools.zip_longest", "itertools.pairwise"].contains n = false) (hQ : Q () s) : wpAny M A (letOwnedTupleGo tg (.ref it) u) Q E s := by
  unfold letOwnedTupleGo
  cases tg <;> first
    | exact wpAny_pure hQ
    | (cases u <;> first
        | exact wpAny_pure hQ
        | (refine wpAny_bind (wpAny_load ho ?_)
           rw [hc, hd]
           show wpAny M A (if (["enumerate", "zip", "dict_itemiterator", "dict_reverseitemiterator", "odict_iterator", "itertools.zip_longest", "itertools.pairwise"].contains n && vs[0]? == some (rawInt _)) = true then _ else _) Q E s
           rw [if_neg (by intro h; rw [hn, Bool.false_and] at h; cases h)]
           exact wpAny_pure hQ))

/-- the list at a, as it stands at each turn (a loop may append to it) -/
def Itl (K : PySem.W.Frag) (a : Addr) : It :=
  ⟨fun i H => ∃ xs x, SqL K H a xs ∧ xs[i]? = some x, fun i H x H' => H' = H ∧ ∀ xs, SqL K H a xs → xs[i]? = some x, fun i H => ∃ xs, SqL K H a xs ∧ xs.length ≤ i⟩
def Itt (K : PySem.W.Frag) (a : Addr) : It :=
  ⟨fun i H => ∃ xs x, SqT K H a xs ∧ xs[i]? = some x, fun i H x H' => H' = H ∧ ∀ xs, SqT K H a xs → xs[i]? = some x, fun i H => ∃ xs, SqT K H a xs ∧ xs.length ≤ i⟩
/-- lo, lo + 1, .. (n of them) -/
def Itr (lo : Int) (n : Nat) : It := ⟨fun i _ => i < n, fun i H x H' => H' = H ∧ x = .int (lo + i), fun i _ => n ≤ i⟩
theorem turn_list {P : Program} {w : World} {K : PySem.W.Frag} {tg : Expr} (a it : Addr) : Turn P w K tg (Itl K a) [it] it (fun i h => h.IsListIter it a i) where
  mem := by simp
  obj := fun i h st b hb => by
    have e : b = it := by simpa using hb
    subst e
    obtain ⟨o, e, c, d⟩ := st
    exact ⟨o, e, fun v z => by rw [d] at z; cases z⟩
  keep := fun i h h' st k => st.at fun o e => k it (by simp) o e
  item := by
    intro X hP hw hK hc i pins s σ H E I hf st hg
    subst hP hw hK
    obtain ⟨xs, x, hq, hx⟩ := hg
    obtain ⟨its, rv, p, hz⟩ := I.list hq
    obtain ⟨u, hu, ru⟩ := rv.get hx
    obtain ⟨f0, f1, f2, f3, f4, f5⟩ := hf it (by simp)
    refine wpAny_pyNext_list_item st p.isList (x := u) (by simpa using hu) fun h' st' sb => ?_
    have I1 : Inv X pins σ H { s with heap := h' } := I.turned (t' := s.toks) (fun b o hb e => (sb.2 b hb).trans e) f0 f1 f3 f4 f5
    obtain ⟨o, e, c, d⟩ := id st'
    exact ⟨u, rfl, go_of (s := { s with heap := h' }) e c d (by decide) ⟨x, H, I1, ru, ⟨rfl, fun ys hy => by rw [I.list_inj hy hq]; exact hx⟩, st', fun b hb => (hf b hb).1⟩⟩
  done := by
    intro X hP hw hK hc i pins s σ H E I hf st hg
    subst hP hw hK
    obtain ⟨xs, hq, hx⟩ := hg
    obtain ⟨its, rv, p, hz⟩ := I.list hq
    obtain ⟨f0, f1, f2, f3, f4, f5⟩ := hf it (by simp)
    have hl := rv.length
    exact wpAny_pyNext_list_end (I.ok.hd hc) st p.isList (by simp; omega) fun h' eb => ⟨rfl, I.turned (t' := s.toks) (fun b o hb e => eb b o hb e) f0 f1 f3 f4 f5⟩
  self := fun _ _ _ _ _ st h => wpAny_pyIter_listiter st h
theorem turn_range {P : Program} {w : World} {K : PySem.W.Frag} {tg : Expr} (it : Addr) (lo : Int) (n : Nat) : Turn P w K tg (Itr lo n) [it] it (fun i h => IsRangeIter h it (lo + (i : Nat) * 1) ((n : Int) - (i : Nat)) 1) where
  mem := by simp
  obj := fun i h st b hb => by
    have e : b = it := by simpa using hb
    subst e
    exact ⟨_, st, fun v z => by
      have z' : Data.fields _ = Data.cell v := z
      cases z'⟩
  keep := fun i h h' st k => k it (by simp) _ st
  item := by
    intro X hP hw hK hc i pins s σ H E I hf st hg
    subst hP hw hK
    obtain ⟨f0, f1, f2, f3, f4, f5⟩ := hf it (by simp)
    have W := Walks.range (prog := X.prog) (w := X.w) (I.ok.hd hc) it lo 1 n
    refine W.item i s _ _ hg st fun v h' tk hv st' kk => ?_
    obtain ⟨t, rfl⟩ := hv
    have I1 : Inv X pins σ H { s with heap := h', toks := tk } := I.turned (fun b o hb e => kk b o (by simpa using hb) e) f0 f1 f3 f4 f5
    refine ⟨_, rfl, go_of (s := { s with heap := h', toks := tk }) (n := "range_iterator") st' rfl rfl (by decide) ⟨.int (lo + i), H, I1, ⟨t, ?_⟩, ⟨rfl, rfl⟩, st', fun b hb => (hf b hb).1⟩⟩
    rw [Int.mul_one]
  done := by
    intro X hP hw hK hc i pins s σ H E I hf st hg
    subst hP hw hK
    obtain ⟨f0, f1, f2, f3, f4, f5⟩ := hf it (by simp)
    exact wpAny_pyNext_range_end (I.ok.hd hc) st (by have : n ≤ i := hg; omega) fun h' eb => ⟨rfl, I.turned (t' := s.toks) (fun b o hb e => eb b o hb e) f0 f1 f3 f4 f5⟩
  self := fun _ _ _ _ _ st h => wpAny_pyIter_rangeiter st h
end L2

namespace L2
open PySem PySem.Spec PyProof.Rows
section
variable {X : Cx} {tg : Expr}
def iList (K : PySem.W.Frag) (tl : TE) : TI := fun σ H R => tl σ H fun x H1 => ∃ a, x = .ref a ∧ (∃ xs, SqL K H1 a xs) ∧ R (Itl K a) H1
def iTup (K : PySem.W.Frag) (tl : TE) : TI := fun σ H R => tl σ H fun x H1 => ∃ a, x = .ref a ∧ (∃ xs, SqT K H1 a xs) ∧ R (Itt K a) H1
theorem pi_list {l : Expr} {tl : TE} (hl : PE X l tl) : PI X tg l (iList X.K tl) := by
  intro pins s σ H R I h
  refine thn (hl pins s σ H _ I h) fun v s1 ⟨x, H1, I1, r1, q1⟩ => ?_
  obtain ⟨a, e, ⟨xs, hq⟩, q⟩ := q1
  subst e
  cases r1
  obtain ⟨its, rv, p, hz⟩ := I1.list hq
  refine wpAny_pyIter_list p.isList ?_
  refine ⟨s1.heap.objs.size, [s1.heap.objs.size], _, _, H1, rfl, I1.kept (t' := s1.toks) fun b o e => Heap.get?_push_of_some _ e, turn_list a _, ⟨_, Heap.get?_push_size _ rfl, rfl, rfl⟩, fun b hb => ?_, q⟩
  have e : b = s1.heap.objs.size := by simpa using hb
  subst e
  exact I1.fpOk (Nat.le_refl _) (I1.hok.fresh (Nat.le_refl _))
/-- a range object just made, walked -/
theorem range_it {pins : List (Addr × Obj)} {σ : St} {H : Hp} {s : Shared} {R : It → Hp → Prop} {E : Value → Shared → Prop} {lo hi : Int} {t u v : Tok} {tk : Nat} (I : Inv X pins σ H s) (h1 : -(2 ^ 62) ≤ lo) (h2 : lo < 2 ^ 62) (h3 : -(2 ^ 62) ≤ hi) (h4 : hi < 2 ^ 62)
    (q : R (Itr lo (hi - lo).toNat) H) : wpAny (model X.prog X.w) X.A (pyIter (.ref s.heap.objs.size)) (PIE X pins σ tg R) E { s with heap := s.heap.push { cls := .type "range", data := .fields #[.int lo t, .int hi u, .int 1 v] }, toks := tk } := by
  refine wpAny_pyIter_range (IsRange.new ..) (small_one h1 h2 h3 h4) ?_
  have I1 : Inv X pins σ H { s with heap := s.heap.push { cls := .type "range", data := .fields #[.int lo t, .int hi u, .int 1 v] }, toks := tk } := I.kept fun b o e => Heap.get?_push_of_some _ e
  refine ⟨(s.heap.push { cls := .type "range", data := .fields #[.int lo t, .int hi u, .int 1 v] }).objs.size, [(s.heap.push { cls := .type "range", data := .fields #[.int lo t, .int hi u, .int 1 v] }).objs.size], _, _, H, rfl,
    I1.kept (t' := tk) fun b o e => Heap.get?_push_of_some _ e, turn_range _ lo (hi - lo).toNat, ?_, fun b hb => ?_, q⟩
  · have e1 : lo + ((0 : Nat) : Int) * 1 = lo := by simp
    have e2 : (((hi - lo).toNat : Nat) : Int) - ((0 : Nat) : Int) = Builtin.Range.rangeSize lo hi 1 := by rw [rangeSize_one]; split <;> omega
    show IsRangeIter _ _ (lo + ((0 : Nat) : Int) * 1) ((((hi - lo).toNat : Nat) : Int) - ((0 : Nat) : Int)) 1
    rw [e1, e2]
    exact Heap.get?_push_size _ rfl
  · have e : b = (s.heap.push { cls := .type "range", data := .fields #[.int lo t, .int hi u, .int 1 v] }).objs.size := by simpa using hb
    subst e
    exact I1.fpOk (Nat.le_refl _) (I1.hok.fresh (Nat.le_refl _))
def iRng1 (ta : TA) : TI := fun σ H R => ta σ H fun vs H1 => ∃ j : Int, vs = [.int j] ∧ -(2 ^ 62) ≤ j ∧ j < 2 ^ 62 ∧ R (Itr 0 j.toNat) H1
def iRng2 (ta : TA) : TI := fun σ H R => ta σ H fun vs H1 => ∃ i j : Int, vs = [.int i, .int j] ∧ (-(2 ^ 62) ≤ i ∧ i < 2 ^ 62 ∧ -(2 ^ 62) ≤ j ∧ j < 2 ^ 62) ∧ R (Itr i (j - i).toNat) H1
theorem pi_range1 {a : Expr} {ta : TA} {p pos : Pos} (hg : Gl X "range") (hm : X.mg "range" = none) (ha : PA X [a] ta) (hs : starEach [a] X.env = [(false, eval a X.env)] := by rfl) : PI X tg (.Call (.Name "range" p) [a] [] pos) (iRng1 ta) := by
  intro pins s σ H R I h
  refine Call_ (ld_blt I hg hm boot_range (PyProof.Rows.callWith_type1 (thn (ha pos pins s σ H _ I h) fun us s1 ⟨vs, H1, I1, r1, q1⟩ => ?_) hs rfl))
  obtain ⟨j, e, q1, q2, q⟩ := q1
  subst e
  cases r1 with
  | cons r rr =>
    cases rr
    obtain ⟨t, rfl⟩ := r
    exact call_range_1 (range_it I1 (by omega) (by omega) q1 q2 (by simpa using q))

/-! ### for -/
/-- W: the invariant by the turn and a measure; N: what the body is to reach -/
def tFor (wi : TI) (g : TG) (tb : TS) : TS := fun D σ H => wi σ H fun J H1 => ∃ W : Nat → Nat → St → Hp → Prop, (∃ m, W 0 m σ H1) ∧ ∀ i m σ H, W i m σ H →
  (J.stop i H ∧ D.nx σ H) ∨ (J.go i H ∧ ∃ N : St → Hp → Prop, (∀ σ' H', N σ' H' → ∃ m', m' < m ∧ W (i + 1) m' σ' H') ∧ ∀ x H', J.yld i H x H' → g x σ H' fun σ2 H2 => tb { D with nx := N, ct := N, bk := D.nx } σ2 H2)
/-- the records at fp as they stand -/
def pinsAt (fp : List Addr) (h : Heap) : List (Addr × Obj) := fp.filterMap fun b => (h.get? b).map fun o => (b, o)
theorem mem_pinsAt {fp : List Addr} {h : Heap} {b : Addr} {o : Obj} (hb : b ∈ fp) (e : h.get? b = some o) : (b, o) ∈ pinsAt fp h := List.mem_filterMap.mpr ⟨b, hb, by rw [e]; rfl⟩
theorem of_pinsAt {fp : List Addr} {h : Heap} {p : Addr × Obj} (hp : p ∈ pinsAt fp h) : p.1 ∈ fp ∧ h.get? p.1 = some p.2 := by
  obtain ⟨b, hb, e⟩ := List.mem_filterMap.mp hp
  cases q : h.get? b with
  | none => rw [q] at e; cases e
  | some o =>
    rw [q] at e
    have e' : (b, o) = p := Option.some.inj e
    subst e'
    exact ⟨hb, q⟩
theorem Inv.pinned {pins : List (Addr × Obj)} {σ : St} {H : Hp} {s : Shared} {fp : List Addr} (I : Inv X pins σ H s) (hf : ∀ b ∈ fp, FpOk X pins H b) (ho : ∀ b ∈ fp, ∃ o, s.heap.get? b = some o ∧ ∀ v, o.data ≠ .cell v) : Inv X (pins ++ pinsAt fp s.heap) σ H s :=
  I.pins_of fun p hp => (List.mem_append.mp hp).elim (fun z => I.pin p (List.mem_append_right _ z)) fun z => by
    obtain ⟨hb, e⟩ := of_pinsAt z
    obtain ⟨f0, f1, f2, _⟩ := hf p.1 hb
    obtain ⟨o, e', d⟩ := ho p.1 hb
    rw [e] at e'; cases e'
    exact ⟨e, f0, f1, f2, d⟩
theorem Inv.unpinned {pins pl : List (Addr × Obj)} {σ : St} {H : Hp} {s : Shared} (I : Inv X (pins ++ pl) σ H s) : Inv X pins σ H s := I.pins_of fun p hp => I.pin p (List.mem_append_right _ (List.mem_append_left _ hp))
theorem ps_for {iter : Expr} {body : List Stmt} {wi : TI} {g : TG} {tb : TS} {pos : Pos} (hp : PassesOwn (model X.prog X.w) X.A X.env X.xe) (hc : X.calm = true) (hi : PI X tg iter wi) (hg : PG X tg g) (hb : PSs X body tb)
    (hs : ∀ x, foldedSetIterable iter X.env x = pure x := by intro _; rfl) : PS X (.For tg iter body [] pos) (tFor wi g tb) := by
  intro pins s σ H D I h
  refine wpAny_For (thn (hi pins s σ H _ I h) fun v s1 h1 => thn h1 fun itv s2 h2 => ?_) hs
  obtain ⟨it, fp, tn, J, H2, e, I2, T, st2, f2, W, ⟨m0, w0⟩, turn⟩ := h2
  subst e
  -- what stays true of the iterator's objects through the loop
  have stat : ∀ {H' : Hp}, (∀ b ∈ fp, H' b = none) → ∀ b ∈ fp, FpOk X pins H' b := fun hn b hb => ⟨hn b hb, (f2 b hb).2⟩
  refine codeAny_forLoop_any (fun n s' => ∃ i σ' H', Inv X pins σ' H' s' ∧ tn i s'.heap ∧ (∀ b ∈ fp, H' b = none) ∧ W i n σ' H') ?_ m0 ⟨0, σ, H2, I2, st2, fun b hb => (f2 b hb).1, w0⟩
  rintro n s3 ⟨i, σ3, H3, I3, st3, fr3, w3⟩
  rcases turn i n σ3 H3 w3 with ⟨stop, qn⟩ | ⟨go, N, hN, step⟩
  · refine wpAny_passesOwn hp (thn (T.done X rfl rfl rfl hc i pins s3 σ3 H3 X.xe I3 (stat fr3) st3 stop) fun r s4 ⟨hr, I4⟩ => ?_)
    subst hr
    exact wpAny_execs_nil ⟨σ3, H3, I4, qn⟩
  · refine wpAny_passesOwn hp (thn (T.item X rfl rfl rfl hc i pins s3 σ3 H3 X.xe I3 (stat fr3) st3 go) fun r s4 ⟨u, hr, h4⟩ => ?_)
    subst hr
    refine wpAny_passesOwn hp (thn h4 fun _ s5 ⟨x, H5, I5, r5, y5, st5, fr5⟩ => ?_)
    have I5' := I5.pinned (stat fr5) (T.obj _ _ st5)
    refine wpAny_passesOwn hp (thn (hg _ s5 σ3 H5 x u _ I5' r5 (step x H5 y5)) fun _ s6 ⟨σ6, H6, I6, q6⟩ => ?_)
    refine wpAny_passesOwn hp (thn (hb _ s6 σ6 H6 _ I6 q6) fun f s7 q7 => ?_)
    have again : ∀ {σ7 : St} {H7 : Hp}, Inv X (pins ++ pinsAt fp s5.heap) σ7 H7 s7 → N σ7 H7 → ∃ m, m < n ∧ ∃ i σ' H', Inv X pins σ' H' s7 ∧ tn i s7.heap ∧ (∀ b ∈ fp, H' b = none) ∧ W i m σ' H' := fun {σ7 H7} I7 n7 => by
      obtain ⟨m', hm, w7⟩ := hN σ7 H7 n7
      refine ⟨m', hm, i + 1, σ7, H7, I7.unpinned, T.keep _ _ _ st5 fun b hb o e => (I7.pin (b, o) (List.mem_append_right _ (List.mem_append_right _ (mem_pinsAt hb e)))).1, fun b hb => ?_, w7⟩
      obtain ⟨o, e, d⟩ := T.obj _ _ st5 b hb
      exact (I7.pin (b, o) (List.mem_append_right _ (List.mem_append_right _ (mem_pinsAt hb e)))).2.1
    cases f with
    | next => obtain ⟨σ7, H7, I7, n7⟩ := q7; exact again I7 n7
    | cont => obtain ⟨σ7, H7, I7, n7⟩ := q7; exact again I7 n7
    | brk => obtain ⟨σ7, H7, I7, q7⟩ := q7; exact ⟨σ7, H7, I7.unpinned, q7⟩
    | ret v => obtain ⟨x7, σ7, H7, I7, r7, q7⟩ := q7; exact ⟨x7, σ7, H7, I7.unpinned, r7, q7⟩
end

/-! ### the forms one uses -/
/-- over a list that the body leaves as it is -/
theorem for_list {K : PySem.W.Frag} {a : Addr} {xs : List V} {g : TG} {tb : TS} {D : Ends} {σ : St} {H : Hp} (Pv : Nat → St → Hp → Prop) (h0 : Pv 0 σ H) (hl : ∀ i σ H, i ≤ xs.length → Pv i σ H → SqL K H a xs)
    (hs : ∀ i x σ H, xs[i]? = some x → Pv i σ H → g x σ H fun σ2 H2 => tb { D with nx := Pv (i + 1), ct := Pv (i + 1), bk := D.nx } σ2 H2) (hd : ∀ σ H, Pv xs.length σ H → D.nx σ H) :
    ∃ W : Nat → Nat → St → Hp → Prop, (∃ m, W 0 m σ H) ∧ ∀ i m σ H, W i m σ H →
      ((Itl K a).stop i H ∧ D.nx σ H) ∨ ((Itl K a).go i H ∧ ∃ N : St → Hp → Prop, (∀ σ' H', N σ' H' → ∃ m', m' < m ∧ W (i + 1) m' σ' H') ∧ ∀ x H', (Itl K a).yld i H x H' → g x σ H' fun σ2 H2 => tb { D with nx := N, ct := N, bk := D.nx } σ2 H2) := by
  refine ⟨fun i m σ H => m = xs.length - i ∧ i ≤ xs.length ∧ Pv i σ H, ⟨xs.length, by simp, Nat.zero_le _, h0⟩, ?_⟩
  rintro i m σ H ⟨rfl, hi, p⟩
  have q := hl i σ H hi p
  by_cases hlt : i < xs.length
  · refine .inr ⟨⟨xs, xs[i], q, by simp [hlt]⟩, Pv (i + 1), fun σ' H' p' => ⟨xs.length - (i + 1), by omega, rfl, hlt, p'⟩, fun x H' y => ?_⟩
    obtain ⟨e, y⟩ := y
    subst e
    exact hs i x σ _ (y xs q) p
  · have e : i = xs.length := by omega
    subst e
    exact .inl ⟨⟨xs, q, Nat.le_refl _⟩, hd σ H p⟩
theorem for_range {lo : Int} {n : Nat} {g : TG} {tb : TS} {D : Ends} {σ : St} {H : Hp} (Pv : Nat → St → Hp → Prop) (h0 : Pv 0 σ H)
    (hs : ∀ i σ H, i < n → Pv i σ H → g (.int (lo + i)) σ H fun σ2 H2 => tb { D with nx := Pv (i + 1), ct := Pv (i + 1), bk := D.nx } σ2 H2) (hd : ∀ σ H, Pv n σ H → D.nx σ H) :
    ∃ W : Nat → Nat → St → Hp → Prop, (∃ m, W 0 m σ H) ∧ ∀ i m σ H, W i m σ H →
      ((Itr lo n).stop i H ∧ D.nx σ H) ∨ ((Itr lo n).go i H ∧ ∃ N : St → Hp → Prop, (∀ σ' H', N σ' H' → ∃ m', m' < m ∧ W (i + 1) m' σ' H') ∧ ∀ x H', (Itr lo n).yld i H x H' → g x σ H' fun σ2 H2 => tb { D with nx := N, ct := N, bk := D.nx } σ2 H2) := by
  refine ⟨fun i m σ H => m = n - i ∧ i ≤ n ∧ Pv i σ H, ⟨n, by simp, Nat.zero_le _, h0⟩, ?_⟩
  rintro i m σ H ⟨rfl, hi, p⟩
  by_cases hlt : i < n
  · refine .inr ⟨hlt, Pv (i + 1), fun σ' H' p' => ⟨n - (i + 1), by omega, rfl, hlt, p'⟩, fun x H' y => ?_⟩
    obtain ⟨e, y⟩ := y
    subst e y
    exact hs i σ _ hlt p
  · have e : i = n := by omega
    subst e
    exact .inl ⟨Nat.le_refl _, hd σ H p⟩
end L2

namespace L2
open PySem PySem.Spec PyProof.Rows

abbrev R2 := V → V → Hp → VK → Prop
/-- a two-place operation on values: f is binaryOp op, inplaceOp op or compareOp op -/
def OpR (X : Cx) (f : Value → Value → Sem Value) (r : R2) : Prop :=
  ∀ (pins : List (Addr × Obj)) (s : Shared) (σ : St) (H : Hp) (x y : V) (v u : Value) (Q : VK), Inv X pins σ H s → RelV x v → RelV y u → r x y H Q →
    wpAny (model X.prog X.w) X.A (f v u) (EP X pins σ Q) X.xe s
/-- a one-place operation -/
def UnR (X : Cx) (f : Value → Sem Value) (r : V → Hp → VK → Prop) : Prop :=
  ∀ (pins : List (Addr × Obj)) (s : Shared) (σ : St) (H : Hp) (x : V) (v : Value) (Q : VK), Inv X pins σ H s → RelV x v → r x H Q →
    wpAny (model X.prog X.w) X.A (f v) (EP X pins σ Q) X.xe s
/-- a call of a value that is known (a builtin, a type) with values -/
def CallR (X : Cx) (f : Value) (r : List V → Hp → VK → Prop) : Prop :=
  ∀ (pins : List (Addr × Obj)) (s : Shared) (σ : St) (H : Hp) (xs : List V) (us : List Value) (Q : VK), Inv X pins σ H s → Vals xs us → r xs H Q →
    wpAny (model X.prog X.w) X.A (call f us) (EP X pins σ Q) X.xe s
/-- a value's truth -/
def TruR (X : Cx) (r : V → Hp → (Bool → Hp → Prop) → Prop) : Prop :=
  ∀ (pins : List (Addr × Obj)) (s : Shared) (σ : St) (H : Hp) (x : V) (v : Value) (Q : Bool → Hp → Prop), Inv X pins σ H s → RelV x v → r x H Q →
    wpAny (model X.prog X.w) X.A (truthy v) (TP X pins σ Q) X.xe s

def tOp (r : R2) (ta tb : TE) : TE := fun σ H Q => ta σ H fun x H1 => tb σ H1 fun y H2 => r x y H2 Q
def tUn (r : V → Hp → VK → Prop) (ta : TE) : TE := fun σ H Q => ta σ H fun x H1 => r x H1 Q
/-- ints in, under C, and a value out -/
def rI (C : Int → Int → Prop) (g : Int → Int → V) : R2 := fun x y H Q => ∃ i j, x = .int i ∧ y = .int j ∧ C i j ∧ Q (g i j) H
def rI0 (g : Int → Int → V) : R2 := fun x y H Q => ∃ i j, x = .int i ∧ y = .int j ∧ Q (g i j) H
def rU (g : Int → V) : V → Hp → VK → Prop := fun x H Q => ∃ i, x = .int i ∧ Q (g i) H

section
variable {X : Cx} {a b c : Expr} {ta tb tc : TE} {pos : Pos}

theorem binT (ha : PE X a ta) (hb : PE X b tb) {pins : List (Addr × Obj)} {s : Shared} {σ : St} {H : Hp} {R : V → V → Hp → Prop} (I : Inv X pins σ H s)
    (h : ta σ H fun x H1 => tb σ H1 fun y H2 => R x y H2) {Q : Value → Shared → Prop} {f : Value → Value → Sem Value}
    (hf : ∀ v u s2 x y H2, Inv X pins σ H2 s2 → RelV x v → RelV y u → R x y H2 → wpAny (model X.prog X.w) X.A (f v u) Q X.xe s2) :
    wpAny (model X.prog X.w) X.A (eval a X.env) (fun v s₁ => wpAny (model X.prog X.w) X.A (eval b X.env) (fun u s₂ => wpAny (model X.prog X.w) X.A (f v u) Q X.xe s₂) X.xe s₁) X.xe s := by
  refine thn (ha pins s σ H _ I h) fun v s1 ⟨x, H1, I1, r1, q1⟩ => ?_
  refine thn (hb pins s1 σ H1 _ I1 q1) fun u s2 ⟨y, H2, I2, r2, q2⟩ => ?_
  exact hf v u s2 x y H2 I2 r1 r2 q2

theorem pe_op {op : Operator} {r : R2} (ho : OpR X (binaryOp op) r) (ha : PE X a ta) (hb : PE X b tb) : PE X (.BinOp a op b pos) (tOp r ta tb) := by
  intro pins s σ H Q I h
  exact wpAny_BinOp (binT ha hb I h fun v u s2 x y H2 I2 rx ry q => ho pins s2 σ H2 x y v u Q I2 rx ry q)
theorem pe_un {op : UnaryOp} {r : V → Hp → VK → Prop} (ho : UnR X (unaryOp op) r) (ha : PE X a ta) : PE X (.UnaryOp op a pos) (tUn r ta) := by
  intro pins s σ H Q I h
  exact UnaryOp_ (thn (ha pins s σ H _ I h) fun v s1 ⟨x, H1, I1, r1, q1⟩ => ho pins s1 σ H1 x v Q I1 r1 q1)

/-! ### ints -/
theorem opI {f : Value → Value → Sem Value} {C : Int → Int → Prop} {g : Int → Int → Int}
    (rule : ∀ (i j : Int) (t u : Tok) (s : Shared) (Q : Value → Shared → Prop) (E : Value → Shared → Prop), C i j → Q (.int (g i j) s.toks) { s with toks := s.toks + 1 } → wpAny (model X.prog X.w) X.A (f (.int i t) (.int j u)) Q E s) :
    OpR X f (rI C fun i j => .int (g i j)) := by
  intro pins s σ H x y v u Q I rx ry h
  obtain ⟨i, j, rfl, rfl, hc, q⟩ := h
  obtain ⟨t, rfl⟩ := rx
  obtain ⟨t', rfl⟩ := ry
  exact rule i j t t' s _ _ hc ⟨.int (g i j), H, I.tok _, ⟨_, rfl⟩, q⟩
theorem opI0 {f : Value → Value → Sem Value} {g : Int → Int → Int}
    (rule : ∀ (i j : Int) (t u : Tok) (s : Shared) (Q : Value → Shared → Prop) (E : Value → Shared → Prop), Q (.int (g i j) s.toks) { s with toks := s.toks + 1 } → wpAny (model X.prog X.w) X.A (f (.int i t) (.int j u)) Q E s) :
    OpR X f (rI0 fun i j => .int (g i j)) := by
  intro pins s σ H x y v u Q I rx ry h
  obtain ⟨i, j, rfl, rfl, q⟩ := h
  obtain ⟨t, rfl⟩ := rx
  obtain ⟨t', rfl⟩ := ry
  exact rule i j t t' s _ _ ⟨.int (g i j), H, I.tok _, ⟨_, rfl⟩, q⟩
theorem opB0 {f : Value → Value → Sem Value} {g : Int → Int → Bool}
    (rule : ∀ (i j : Int) (t u : Tok) (s : Shared) (Q : Value → Shared → Prop) (E : Value → Shared → Prop), Q (.bool (g i j)) s → wpAny (model X.prog X.w) X.A (f (.int i t) (.int j u)) Q E s) :
    OpR X f (rI0 fun i j => .bl (g i j)) := by
  intro pins s σ H x y v u Q I rx ry h
  obtain ⟨i, j, rfl, rfl, q⟩ := h
  obtain ⟨t, rfl⟩ := rx
  obtain ⟨t', rfl⟩ := ry
  exact rule i j t t' s _ _ ⟨.bl (g i j), H, I, rfl, q⟩

def CDiv (i j : Int) : Prop := 0 < j ∧ j < 1073741824
def CDivN (i j : Int) : Prop := j ≠ 0 ∧ j.natAbs < 1073741824
def CPow (i j : Int) : Prop := 0 ≤ j ∧ j ≤ 1000000 ∧ i.natAbs < 2 ^ 64
def CMul (i j : Int) : Prop := (-(2 ^ 64) < i ∧ i < 2 ^ 64) ∨ (-(2 ^ 64) < j ∧ j < 2 ^ 64)
theorem CMul.ok {i j : Int} (h : CMul i j) : IntMulOk i j := by
  rcases h with ⟨h1, h2⟩ | ⟨h1, h2⟩
  · exact .of_left (intBits_le_64 h1 h2)
  · exact .of_right (intBits_le_64 h1 h2)

theorem op_add : OpR X (binaryOp .Add) (rI0 fun i j => .int (i + j)) := opI0 fun _ _ _ _ _ _ _ q => add_int q
theorem op_sub : OpR X (binaryOp .Sub) (rI0 fun i j => .int (i - j)) := opI0 fun _ _ _ _ _ _ _ q => sub_int q
theorem op_mul : OpR X (binaryOp .Mult) (rI CMul fun i j => .int (i * j)) := opI fun _ _ _ _ _ _ _ hc q => mul_int q hc.ok
/-- // by a positive divisor -/
theorem op_fdiv : OpR X (binaryOp .FloorDiv) (rI CDiv fun i j => .int (i / j)) := opI fun i j _ _ _ _ _ hc q => by
  have h1 : (0 : Int) < j := hc.1
  have h2 : j < 1073741824 := hc.2
  exact floordiv_int (by omega) (by rw [Int.fdiv_eq_ediv_of_nonneg i (by omega)]; exact q) (.inl (PyProof.noPylong_small (by omega)))
/-- % by a positive divisor of any size -/
theorem op_mod : OpR X (binaryOp .Mod) (rI (fun _ j => 0 < j) fun i j => .int (i % j)) := opI fun i j _ _ _ _ _ hc q => by
  have h1 : (0 : Int) < j := hc
  exact mod_int' (by omega) (by rw [Int.fmod_eq_emod_of_nonneg i (by omega)]; exact q)
theorem op_pow : OpR X (binaryOp .Pow) (rI CPow fun i j => .int (i ^ j.toNat)) := opI fun _ _ _ _ _ _ _ hc q => pow_int_small hc.1 hc.2.1 hc.2.2 q


theorem unI {f : Value → Sem Value} {g : Int → Int}
    (rule : ∀ (i : Int) (t : Tok) (s : Shared) (Q : Value → Shared → Prop) (E : Value → Shared → Prop), Q (.int (g i) s.toks) { s with toks := s.toks + 1 } → wpAny (model X.prog X.w) X.A (f (.int i t)) Q E s) :
    UnR X f (rU fun i => .int (g i)) := by
  intro pins s σ H x v Q I rx h
  obtain ⟨i, rfl, q⟩ := h
  obtain ⟨t, rfl⟩ := rx
  exact rule i t s _ _ ⟨.int (g i), H, I.tok _, ⟨_, rfl⟩, q⟩
theorem un_neg : UnR X (unaryOp .USub) (rU fun i => .int (-i)) := unI fun _ _ _ _ _ q => neg_int q

/-! ### bools among ints: n += (a < b) -/
end

/-! ### comparisons -/
/-- the scalars that == tells apart as data does -/
def scal : V → V → Bool
  | .non, .non => true | .non, .int _ => true | .int _, .non => true | .non, .bl _ => true | .bl _, .non => true | .non, .str _ => true | .str _, .non => true
  | .int _, .int _ => true | .bl _, .bl _ => true | .str _, .str _ => true | .byt _, .byt _ => true
  | .int _, .str _ => true | .str _, .int _ => true | .bl _, .str _ => true | .str _, .bl _ => true
  | _, _ => false
def rEq : R2 := fun x y H Q => scal x y = true ∧ Q (.bl (decide (x = y))) H
def rNe : R2 := fun x y H Q => scal x y = true ∧ Q (.bl (!decide (x = y))) H

theorem dec_int {i j : Int} : decide (V.int i = V.int j) = (i == j) := by
  rw [Bool.eq_iff_iff]
  simp
theorem dec_bl {i j : Bool} : decide (V.bl i = V.bl j) = (i == j) := by
  rw [Bool.eq_iff_iff]
  simp
theorem dec_str {i j : Str} : decide (V.str i = V.str j) = (i == j) := by
  rw [Bool.eq_iff_iff]
  simp
theorem dec_byt {i j : Array UInt8} : decide (V.byt i = V.byt j) = (i.toList == j.toList) := by
  rw [Bool.eq_iff_iff]
  cases i
  cases j
  simp

section
variable {X : Cx} {a b c : Expr} {ta tb tc : TE} {pos : Pos}
theorem fin_bl {pins : List (Addr × Obj)} {σ : St} {H : Hp} {s : Shared} {Q : VK} {k k' : Bool} (I : Inv X pins σ H s) (q : Q (.bl k) H) (e : k = k') : EP X pins σ Q (.bool k') s := by
  subst e
  exact ⟨.bl k, H, I, rfl, q⟩
theorem op_eq : OpR X (compareOp .Eq) rEq := by
  intro pins s σ H x y v u Q I rx ry h
  obtain ⟨hs, q⟩ := h
  cases x with
  | non =>
    cases rx
    cases y with
    | non => cases ry; exact PySem.EqNone.eq_none_none (fin_bl I q (by simp))
    | bl j => cases ry; exact PySem.EqNone.eq_none_bool (fin_bl I q (by simp))
    | int j => obtain ⟨t', rfl⟩ := ry; exact PySem.EqNone.eq_none_int (fin_bl I q (by simp))
    | str j => obtain ⟨t', rfl⟩ := ry; exact PySem.EqNone.eq_none_str (fin_bl I q (by simp))
    | _ => exact absurd (show false = true from hs) Bool.false_ne_true
  | bl i =>
    cases rx
    cases y with
    | non => cases ry; exact PySem.EqNone.eq_bool_none (fin_bl I q (by simp))
    | bl j => cases ry; exact eq_bool (fin_bl I q dec_bl)
    | str j => obtain ⟨t', rfl⟩ := ry; exact PySem.EqMixed.eq_bool_str (fin_bl I q (by simp))
    | _ => exact absurd (show false = true from hs) Bool.false_ne_true
  | int i =>
    obtain ⟨t, rfl⟩ := rx
    cases y with
    | non => cases ry; exact PySem.EqNone.eq_int_none (fin_bl I q (by simp))
    | int j => obtain ⟨t', rfl⟩ := ry; exact eq_int (fin_bl I q dec_int)
    | str j => obtain ⟨t', rfl⟩ := ry; exact PySem.EqMixed.eq_int_str (fin_bl I q (by simp))
    | _ => exact absurd (show false = true from hs) Bool.false_ne_true
  | str i =>
    obtain ⟨t, rfl⟩ := rx
    cases y with
    | non => cases ry; exact PySem.EqNone.eq_str_none (fin_bl I q (by simp))
    | bl j => cases ry; exact PySem.EqMixed.eq_str_bool (fin_bl I q (by simp))
    | int j => obtain ⟨t', rfl⟩ := ry; exact PySem.EqMixed.eq_str_int (fin_bl I q (by simp))
    | str j => obtain ⟨t', rfl⟩ := ry; exact eq_str (fin_bl I q dec_str)
    | _ => exact absurd (show false = true from hs) Bool.false_ne_true
  | byt i =>
    obtain ⟨t, rfl⟩ := rx
    cases y with
    | byt j => obtain ⟨t', rfl⟩ := ry; exact PySem.W.eq_bytes (fin_bl I q dec_byt)
    | _ => exact absurd (show false = true from hs) Bool.false_ne_true
  | _ => cases y <;> exact absurd (show false = true from hs) Bool.false_ne_true
theorem op_ne : OpR X (compareOp .NotEq) rNe := by
  intro pins s σ H x y v u Q I rx ry h
  obtain ⟨hs, q⟩ := h
  cases x with
  | non =>
    cases rx
    cases y with
    | non => cases ry; exact PySem.EqNone.ne_none_none (fin_bl I q (by simp))
    | bl j => cases ry; exact PySem.EqNone.ne_none_bool (fin_bl I q (by simp))
    | int j => obtain ⟨t', rfl⟩ := ry; exact PySem.EqNone.ne_none_int (fin_bl I q (by simp))
    | str j => obtain ⟨t', rfl⟩ := ry; exact PySem.EqNone.ne_none_str (fin_bl I q (by simp))
    | _ => exact absurd (show false = true from hs) Bool.false_ne_true
  | bl i =>
    cases rx
    cases y with
    | non => cases ry; exact PySem.EqNone.ne_bool_none (fin_bl I q (by simp))
    | bl j => cases ry; exact ne_bool (fin_bl I q (congrArg not dec_bl))
    | str j => obtain ⟨t', rfl⟩ := ry; exact PySem.EqMixed.ne_bool_str (fin_bl I q (by simp))
    | _ => exact absurd (show false = true from hs) Bool.false_ne_true
  | int i =>
    obtain ⟨t, rfl⟩ := rx
    cases y with
    | non => cases ry; exact PySem.EqNone.ne_int_none (fin_bl I q (by simp))
    | int j => obtain ⟨t', rfl⟩ := ry; exact ne_int (fin_bl I q (congrArg not dec_int))
    | str j => obtain ⟨t', rfl⟩ := ry; exact PySem.EqMixed.ne_int_str (fin_bl I q (by simp))
    | _ => exact absurd (show false = true from hs) Bool.false_ne_true
  | str i =>
    obtain ⟨t, rfl⟩ := rx
    cases y with
    | non => cases ry; exact PySem.EqNone.ne_str_none (fin_bl I q (by simp))
    | bl j => cases ry; exact PySem.EqMixed.ne_str_bool (fin_bl I q (by simp))
    | int j => obtain ⟨t', rfl⟩ := ry; exact PySem.EqMixed.ne_str_int (fin_bl I q (by simp))
    | str j => obtain ⟨t', rfl⟩ := ry; exact ne_str (fin_bl I q (congrArg not dec_str))
    | _ => exact absurd (show false = true from hs) Bool.false_ne_true
  | byt i =>
    obtain ⟨t, rfl⟩ := rx
    cases y with
    | byt j => obtain ⟨t', rfl⟩ := ry; exact PySem.W.ne_bytes (fin_bl I q (congrArg not dec_byt))
    | _ => exact absurd (show false = true from hs) Bool.false_ne_true
  | _ => cases y <;> exact absurd (show false = true from hs) Bool.false_ne_true

theorem op_lt : OpR X (compareOp .Lt) (rI0 fun i j => .bl (decide (i < j))) := opB0 fun _ _ _ _ _ _ _ q => lt_int q
theorem op_le : OpR X (compareOp .LtE) (rI0 fun i j => .bl (decide (i ≤ j))) := opB0 fun _ _ _ _ _ _ _ q => le_int q
theorem op_gt : OpR X (compareOp .Gt) (rI0 fun i j => .bl (decide (j < i))) := opB0 fun _ _ _ _ _ _ _ q => gt_int q
theorem op_ge : OpR X (compareOp .GtE) (rI0 fun i j => .bl (decide (j ≤ i))) := opB0 fun _ _ _ _ _ _ _ q => ge_int q

/-- is None, is not None: the right side a value none -/
theorem op_isN : OpR X (compareOp .Is) (fun x y H Q => y = .non ∧ Q (.bl (decide (x = .non))) H) := by
  intro pins s σ H x y v u Q I rx ry h
  obtain ⟨rfl, q⟩ := h
  cases ry
  refine is_none_gen (fin_bl I q ?_)
  cases x <;> first
    | (cases rx; rfl)
    | (obtain ⟨t, rfl⟩ := rx; rfl)
theorem op_notN : OpR X (compareOp .IsNot) (fun x y H Q => y = .non ∧ Q (.bl (!decide (x = .non))) H) := by
  intro pins s σ H x y v u Q I rx ry h
  obtain ⟨rfl, q⟩ := h
  cases ry
  refine isnot_none_gen (fin_bl I q ?_)
  cases x <;> first
    | (cases rx; rfl)
    | (obtain ⟨t, rfl⟩ := rx; rfl)

/-- is, is not of two objects that are tracked lists or instances -/
def isObj : HO → Bool
  | .lst _ => true
  | .ins _ _ _ => true
  | _ => false

/-- two rules for one operation: by cases -/
theorem OpR.or {f : Value → Value → Sem Value} {r r' : R2} (h : OpR X f r) (h' : OpR X f r') : OpR X f (fun x y H Q => r x y H Q ∨ r' x y H Q) := by
  intro pins s σ H x y v u Q I rx ry q
  rcases q with q | q
  · exact h pins s σ H x y v u Q I rx ry q
  · exact h' pins s σ H x y v u Q I rx ry q

theorem nomark (b : Expr) {op : CmpOp} (h : op ≠ .In := by decide) (h2 : op ≠ .NotIn := by decide) : behindInMarks op b = false := by
  have e1 : (op == CmpOp.In) = false := by cases op <;> first | rfl | exact absurd rfl h
  have e2 : (op == CmpOp.NotIn) = false := by cases op <;> first | rfl | exact absurd rfl h2
  cases b <;> simp [behindInMarks, e1, e2]
/-- a comparison as a value; hm: nomark b, or (for in, not in) by with_unfolding_all rfl -/
theorem pe_cmpR {op : CmpOp} {r : R2} (ho : OpR X (compareOp op) r) (ha : PE X a ta) (hb : PE X b tb) (hm : behindInMarks op b = false) : PE X (.Compare a [op] [b] pos) (tOp r ta tb) := by
  intro pins s σ H Q I h
  exact wpAny_Compare1 (binT ha hb I h fun v u s2 x y H2 I2 rx ry q => ho pins s2 σ H2 x y v u Q I2 rx ry q) hm
/-- a reading of a value as a test -/
def tTest (t : TE) : TT := fun σ H Q => t σ H fun x H' => ∃ k, x = .bl k ∧ Q k H'
theorem pt_cmpR {op : CmpOp} {r : R2} (ho : OpR X (compareOp op) r) (ha : PE X a ta) (hb : PE X b tb) (hm : behindInMarks op b = false) : PT X (.Compare a [op] [b] pos) (tTest (tOp r ta tb)) := by
  intro pins s σ H Q I h
  refine wpAny_isTrue_Compare1 (thn (ha pins s σ H _ I h) fun v s1 ⟨x, H1, I1, r1, q1⟩ => thn (hb pins s1 σ H1 _ I1 q1) fun u s2 ⟨y, H2, I2, r2, q2⟩ =>
    thn (ho pins s2 σ H2 x y v u _ I2 r1 r2 q2) fun c s3 ⟨z, H3, I3, r3, k, e, q3⟩ => ?_) hm
  subst e
  cases r3
  exact wpAny_truthy_bool ⟨H3, I3, q3⟩
/-- a op1 b op2 c -/
def tChain (r r' : R2) (ta tb tc : TE) : TE := fun σ H Q => ta σ H fun x H1 => tb σ H1 fun y H2 => r x y H2 fun z H3 => ∃ k, z = .bl k ∧
  (if k = true then tc σ H3 fun w' H4 => r' y w' H4 Q else Q (.bl false) H3)
theorem pt_chain {op op' : CmpOp} {r r' : R2} (ho : OpR X (compareOp op) r) (ho' : OpR X (compareOp op') r') (ha : PE X a ta) (hb : PE X b tb) (hc : PE X c tc)
    (hm : lastMarks [op, op'] [b, c] = false := by with_unfolding_all rfl) : PT X (.Compare a [op, op'] [b, c] pos) (tTest (tChain r r' ta tb tc)) := by
  intro pins s σ H Q I h
  refine isTrue_chain (thn (ha pins s σ H _ I h) fun v s1 ⟨x, H1, I1, r1, q1⟩ => test_link (thn (hb pins s1 σ H1 _ I1 q1) fun u s2 ⟨y, H2, I2, r2, q2⟩ =>
    thn (ho pins s2 σ H2 x y v u _ I2 r1 r2 q2) fun d s3 ⟨z, H3, I3, r3, k, e, q3⟩ => ?_)) hm
  subst e
  cases r3
  refine wpAny_truthy_bool ?_
  cases k with
  | false =>
    obtain ⟨k', e', q'⟩ := q3
    cases e'
    exact ite_ff ⟨H3, I3, q'⟩
  | true =>
    refine ite_tt (test_last (thn (hc pins s3 σ H3 _ I3 q3) fun w' s4 ⟨z', H4, I4, r4, q4⟩ => thn (ho' pins s4 σ H4 y z' u w' _ I4 r2 r4 q4) fun d' s5 ⟨z2, H5, I5, r5, k2, e2, q5⟩ => ?_))
    subst e2
    cases r5
    exact wpAny_truthy_bool ⟨H5, I5, q5⟩

/-! ### truth -/
/-- a value's truth by the abstract heap -/
def TruV (K : PySem.W.Frag) (x : V) (H : Hp) (k : Bool) : Prop :=
  match x with
  | .non => k = false
  | .bl b => k = b
  | .int i => k = (i != 0)
  | .str y => y.length ≤ sizeLine ∧ k = ((y.length : Int) != 0)
  | .byt y => y.size ≤ sizeLine ∧ k = ((y.size : Int) != 0)
  | .ref p => (∃ xs, SqL K H p xs ∧ k = !xs.isEmpty) ∨ (∃ xs, SqT K H p xs ∧ k = !xs.isEmpty) ∨ ∃ kvs, H p = some (.dK kvs) ∧ k = !kvs.isEmpty
  | _ => False
theorem isEmpty_kv {κ : Type} {kvs : List (κ × V)} {vs : List (κ × Value)} (r : KV kvs vs) : (!vs.isEmpty) = !kvs.isEmpty := by
  cases r <;> rfl
theorem isEmpty_of {xs : List V} {its : List Value} (r : Vals xs its) : (!its.toArray.isEmpty) = !xs.isEmpty := by
  cases r <;> simp
theorem line63 : (sizeLine : Nat) < 2 ^ 63 := by rw [sizeLine_eq]; decide
theorem tru_ok : TruR X (fun x H Q => ∃ k, TruV X.K x H k ∧ Q k H) := by
  intro pins s σ H x v Q I rx h
  obtain ⟨k, e, q⟩ := h
  have hl := line63
  have hs : sizeLine = 16777216 := sizeLine_eq
  cases x with
  | non =>
    cases rx
    have e' : k = false := e
    subst e'
    exact truthy_none ⟨H, I, q⟩
  | bl b =>
    cases rx
    have e' : k = b := e
    subst e'
    exact wpAny_truthy_bool ⟨H, I, q⟩
  | int i =>
    obtain ⟨t, rfl⟩ := rx
    have e' : k = (i != 0) := e
    subst e'
    exact PySem.P.truthy_int ⟨H, I, q⟩
  | str y =>
    obtain ⟨t, rfl⟩ := rx
    obtain ⟨hy, e'⟩ : y.length ≤ sizeLine ∧ k = ((y.length : Int) != 0) := e
    subst e'
    exact PySem.P.truthy_str (by omega) ⟨H, I.tok _, q⟩
  | byt y =>
    obtain ⟨t, rfl⟩ := rx
    obtain ⟨hy, e'⟩ : y.size ≤ sizeLine ∧ k = ((y.size : Int) != 0) := e
    subst e'
    exact PySem.W.truthy_bytes (by omega) ⟨H, I.tok _, q⟩
  | ref p =>
    cases rx
    have e' : (∃ xs, SqL X.K H p xs ∧ k = !xs.isEmpty) ∨ (∃ xs, SqT X.K H p xs ∧ k = !xs.isEmpty) ∨ ∃ kvs, H p = some (.dK kvs) ∧ k = !kvs.isEmpty := e
    rcases e' with ⟨xs, hx, e'⟩ | ⟨xs, hx, e'⟩ | ⟨kvs, hx, e'⟩
    · subst e'
      obtain ⟨its, r, pl, hz⟩ := I.list hx
      have hlen := r.length
      exact wpAny_truthy_list pl.isList (by simp only [List.size_toArray]; omega) ⟨H, I.tok _, by rw [isEmpty_of r]; exact q⟩
    · subst e'
      obtain ⟨its, r, pl, hz⟩ := I.tuple hx
      have hlen := r.length
      exact truthy_tuple pl (by simp only [List.size_toArray]; omega) ⟨H, I.tok _, by rw [isEmpty_of r]; exact q⟩
    · subst e'
      obtain ⟨hz, hS, vs, r, m⟩ : kvs.length ≤ sizeLine ∧ (p == sysModules) = false ∧ ∃ vs, KV kvs vs ∧ s.heap.DictOf (mixKind X.prog X.w) p vs := I.hok p _ hx
      have hlen : kvs.length = vs.length := Paired.length r
      exact wpAny_truthy_dict hS m (by omega) ⟨H, I.tok _, by rw [isEmpty_kv r]; exact q⟩
  | _ => exact (show False from e).elim
/-- any expression whose test is its value's truth (a name, a call, a subscript, a field ..: he by fun _ => rfl) -/
theorem pt_truth (ha : PE X a ta) (he : ∀ whole, isTrue a X.env whole = (do let v ← whole; standAt a.pos; holding [v] (truthy v))) :
    PT X a (fun σ H Q => ta σ H fun x H' => ∃ k, TruV X.K x H' k ∧ Q k H') := by
  intro pins s σ H Q I h
  exact isTrue_plain (thn (ha pins s σ H _ I h) fun v s1 ⟨x, H1, I1, r1, q1⟩ => tru_ok pins s1 σ H1 x v Q I1 r1 q1) (he _)

/-! ### strs and bytes -/
theorem op_add_str : OpR X (binaryOp .Add) (fun x y H Q => ∃ i j, x = .str i ∧ y = .str j ∧ i.length + j.length ≤ sizeLine ∧ Q (.str (i ++ j)) H) := by
  intro pins s σ H x y v u Q I rx ry h
  obtain ⟨i, j, rfl, rfl, hz, q⟩ := h
  obtain ⟨t, rfl⟩ := rx
  obtain ⟨t', rfl⟩ := ry
  exact add_str (fun t' tk => ⟨.str (i ++ j), H, I.tok _, ⟨_, rfl⟩, q⟩) hz

def PlainIxT (b : Expr) : Prop := ∀ o i, subscripted b false o i = operate [o, i] (getItem o i)

/-! ### scalar builtins, by CallR -/
theorem vals1 {x : V} {us : List Value} (r : Vals [x] us) : ∃ u, us = [u] ∧ RelV x u := by
  cases r with
  | cons r1 r2 => cases r2; exact ⟨_, rfl, r1⟩
theorem vals2 {x y : V} {us : List Value} (r : Vals [x, y] us) : ∃ u w', us = [u, w'] ∧ RelV x u ∧ RelV y w' := by
  cases r with
  | cons r1 r2 =>
    cases r2 with
    | cons r3 r4 => cases r4; exact ⟨_, _, rfl, r1, r3⟩
theorem call_max2 (hc : X.calm = true) : CallR X (.builtin "max") (fun xs H Q => ∃ i j, xs = [.int i, .int j] ∧ Q (.int (if j > i then j else i)) H) := by
  intro pins s σ H xs us Q I r h
  obtain ⟨i, j, rfl, q⟩ := h
  obtain ⟨u, w', rfl, ⟨t, rfl⟩, ⟨t', rfl⟩⟩ := vals2 r
  refine max_two_ints (I.ok.hd hc) fun h' tk k => ⟨_, H, I.kept k, ?_, q⟩
  by_cases hj : j > i
  · rw [if_pos hj, if_pos hj]; exact ⟨_, rfl⟩
  · rw [if_neg hj, if_neg hj]; exact ⟨_, rfl⟩
theorem call_int1 : CallR X (.type "int") (fun xs H Q => (∃ i, xs = [.int i] ∧ Q (.int i) H) ∨ ∃ k, xs = [.bl k] ∧ Q (.int (if k then 1 else 0)) H) := by
  intro pins s σ H xs us Q I r h
  rcases h with ⟨i, rfl, q⟩ | ⟨k, rfl, q⟩
  · obtain ⟨u, rfl, t, rfl⟩ := vals1 r
    exact call_int_int ⟨.int i, H, I, ⟨_, rfl⟩, q⟩
  · obtain ⟨u, rfl, r1⟩ := vals1 r
    cases r1
    exact call_int_bool ⟨.int (if k then 1 else 0), H, I.tok _, ⟨_, rfl⟩, q⟩
theorem call_ord : CallR X (.builtin "ord") (fun xs H Q => ∃ x, xs = [.str x] ∧ x.length = 1 ∧ Q (.int (x.cps.getD 0 0 : Nat)) H) := by
  intro pins s σ H xs us Q I r h
  obtain ⟨x, rfl, hz, q⟩ := h
  obtain ⟨u, rfl, t, rfl⟩ := vals1 r
  exact ord_of_one hz ⟨.int _, H, I.tok _, ⟨_, rfl⟩, q⟩
/-- len of a str, a bytes, a list, a tuple -/
def LenV (K : PySem.W.Frag) (x : V) (H : Hp) (n : Nat) : Prop :=
  match x with
  | .str y => y.length ≤ sizeLine ∧ n = y.length
  | .byt y => y.size ≤ sizeLine ∧ n = y.size
  | .ref p => (∃ xs, SqL K H p xs ∧ n = xs.length) ∨ ∃ xs, SqT K H p xs ∧ n = xs.length
  | _ => False
end
end L2

namespace L2
open PySem PySem.Spec PyProof.Rows

/-! ### an instance, its attributes a map -/
structure ObjM (h : Heap) (x dx C : Addr) (mA : Str → Option Value) : Prop where
  obj : h.get? x = some (PySem.W.instObj C dx)
  ns : h.Ns1 dx mA
  ne : dx ≠ x

theorem lookIn_ns {h : Heap} {dx : Addr} {mA : Str → Option Value} (n : h.Ns1 dx mA) : ∃ od, h.get? dx = some od ∧ ∀ name, PySem.W.lookIn name od = some (mA name) := by
  obtain ⟨o, es, ep, ho, hd, hk, _, hm⟩ := n
  refine ⟨o, ho, fun name => ?_⟩
  have e := hm name
  unfold nsFind findBy at e
  rw [← Array.find?_toList] at e
  unfold PySem.W.lookIn
  rw [hd]
  dsimp only
  split
  · rename_i y q
    rw [q] at e
    exact congrArg some e
  · rename_i q
    rw [q] at e
    have a : es.toList.any (·.refKey) = false := by
      rw [List.any_eq_false]
      intro y hy
      obtain ⟨z, t, hkey⟩ := hk y (Array.mem_toList_iff.mp hy)
      simp [DictEntry.refKey, hkey]
    have a' : ¬ es.toList.any (·.refKey) = true := by rw [a]; exact Bool.false_ne_true
    rw [if_neg a']
    exact congrArg some e

theorem ObjM.look {h : Heap} {x dx C : Addr} {mA : Str → Option Value} (I : ObjM h x dx C mA) : ∃ od, PySem.W.InstAt h x (PySem.W.instObj C dx) C (some od) ∧ ∀ name, PySem.W.lookIn name od = some (mA name) :=
  let ⟨od, ho, hl⟩ := lookIn_ns I.ns
  ⟨od, ⟨I.obj, rfl, rfl, ho⟩, hl⟩

section
variable {prog : Program} {w : World} {A : Around} {E : Value → Shared → Prop} {s : Shared} {K : PySem.W.Frag} {x dx C f : Addr} {mA : Str → Option Value} {name : Str} {v : Value}

theorem get_map {expr : Bool} {Q : Value → Shared → Prop} (X : K.In s.heap) (I : ObjM s.heap x dx C mA) (hg : PySem.W.plainGet K C name = true) (hh : PySem.W.hasDictIn K C = true)
    (ha : PySem.W.findIn K (.ref C) name = some none) (hv : mA name = some v) (hv' : PySem.W.handedIn v = true) (h : Q v { s with toks := s.toks + 1 }) :
    wpAny (model prog w) A (getAttr (.ref x) name expr) Q E s := by
  obtain ⟨od, J, hl⟩ := I.look
  exact PySem.W.get_value X J (PySem.W.plainGet_of hg).1 (PySem.W.findObj_own hh ha rfl (by rw [hl, hv])) hv' h


theorem get_meth {pl : Sem Bool} {Q : Value × List Value → Shared → Prop} (X : K.In s.heap) (I : ObjM s.heap x dx C mA) (hg : PySem.W.plainGet K C name = true)
    (hf : PySem.W.findIn K (.ref C) name = some (some (.ref f))) (ht : PySem.W.isFn K (.ref f) = true) (hv : mA name = none) (h : Q (.ref f, [.ref x]) s) :
    wpAny (model prog w) A (getMethod (.ref x) name pl) Q E s := by
  obtain ⟨od, J, hl⟩ := I.look
  exact PySem.W.method_fn X J (PySem.W.plainGet_of hg).1 (PySem.W.plainGet_of hg).2 hf (beq_iff_eq.mp ht) (by show (PySem.W.lookIn name od).map (·.isSome) = some false; rw [hl, hv]; rfl) h

theorem set_map {ns : List Str} {Q : Unit → Shared → Prop} (X : K.In s.heap) (I : ObjM s.heap x dx C mA)
    (hs : PySem.W.findIn K (.ref C) "__setattr__" = some (some (.builtin "object.__setattr__"))) (hp : PySem.W.plainOver K C = true) (ht : PySem.W.takerIn K C name = some none) (hh : PySem.W.hasDictIn K C = true)
    (hw : PySem.Within mA ns) (hsz : ns.length ≤ sizeLine)
    (h : ∀ h', ObjM h' x dx C (fun y => if y = name then some v else mA y) → Heap.SameBut dx s.heap h' → Q () { s with heap := h', toks := s.toks + 2 }) :
    wpAny (model prog w) A (setAttr (.ref x) name v) Q E s := by
  obtain ⟨od, J, hl⟩ := I.look
  refine PySem.W.set_plain X J hs (PySem.W.osa_open (s := { s with toks := s.toks + 1 }) (r := none) X J hp ht fun b => ?_)
  obtain ⟨cd, hc, hd'⟩ := PySem.W.any_some hh
  have hx : s.heap.get? x = some ⟨.ref C, some dx, .plain, #[]⟩ := I.obj
  refine wpAny_bind (wpAny_pure (wpAny_bind (wpAny_bind (wpAny_loadPart hx (wpAny_bind (PySem.W.Looks.here (s := { s with toks := s.toks + 1 }) (PySem.W.looks_clsIn X hc) ?_))))))
  rw [hd']
  refine wpAny_pure (a := some dx) (wpAny_bind (wpAny_pure (wpAny_bind ?_)))
  refine wpAny_nsSet1 (s := { s with toks := s.toks + 1 }) I.ns fun h' hn2 hs2 => ?_
  obtain ⟨oD, esD, epD, hoD, hdD, hcD⟩ := hn2.count (PySem.Within.cons name v hw)
  refine wpAny_bind (wpAny_lookBehind hoD (by rw [hdD]; exact pastItsLine_dict (Nat.le_trans hcD (by rw [List.length_cons]; omega))) ?_)
  exact wpAny_pure (h _ ⟨(hs2.2 _ (Ne.symm I.ne)).trans I.obj, hn2, I.ne⟩ hs2)

/-- C(..): the dict at the heap's end, the instance behind it; then its __init__ -/
theorem make_map {R : Result → Shared → Prop} {vs : List Value} {kw : List (Str × Value)} (X : K.In s.heap) (hm : PySem.W.makesIn K C = true)
    (hi : PySem.W.findIn K (.ref C) "__init__" = some (some (.ref f))) (hf : PySem.W.typeIn K (.ref f) = some (.type "function"))
    (h : codeAny (model prog w) (A.under (.builtin "type.__call__" ⟨.ref C :: vs, kw⟩)) (.call (.ref f) ⟨.ref (s.heap.objs.size + 1) :: vs, kw⟩) (PySem.W.InitBack (s.heap.objs.size + 1) R)
      { s with heap := (s.heap.push PySem.W.emptyDict).push (PySem.W.instObj C s.heap.objs.size) }) :
    codeAny (model prog w) A (.call (.ref C) ⟨vs, kw⟩) R s := by
  obtain ⟨hh, g, d, t, os⟩ := s
  exact PySem.W.make_core (PySem.W.makes_of X hm) (PySem.W.looks_findIn X hi) (fun self => PySem.W.bind_fn X self hf) (.inl rfl) h
end

/-! ### the attributes as a list of pairs -/
def putF (f : Str) (v : V) : List (Str × V) → List (Str × V)
  | [] => [(f, v)]
  | (g, x) :: r => if g = f then (g, v) :: r else (g, x) :: putF f v r
theorem lookup_putF (f g : Str) (v : V) : ∀ fs : List (Str × V), (putF f v fs).lookup g = if g = f then some v else fs.lookup g
  | [] => by
    show List.lookup g [(f, v)] = _
    by_cases h : g = f
    · have hb : (g == f) = true := beq_iff_eq.mpr h
      simp only [List.lookup, hb, if_pos h]
    · have hb : (g == f) = false := beq_eq_false_iff_ne.mpr h
      simp only [List.lookup, hb, if_neg h]
  | (k, x) :: r => by
    have ih := lookup_putF f g v r
    rw [show putF f v ((k, x) :: r) = (if k = f then (k, v) :: r else (k, x) :: putF f v r) from rfl]
    by_cases hk : k = f
    · rw [if_pos hk]
      by_cases h : g = k
      · have hb : (g == k) = true := beq_iff_eq.mpr h
        simp only [List.lookup, hb, if_pos (h.trans hk)]
      · have hb : (g == k) = false := beq_eq_false_iff_ne.mpr h
        simp only [List.lookup, hb, if_neg (fun e : g = f => h (e.trans hk.symm))]
    · rw [if_neg hk]
      by_cases h : g = k
      · have hb : (g == k) = true := beq_iff_eq.mpr h
        simp only [List.lookup, hb, if_neg (fun e : g = f => hk (h.symm.trans e))]
      · have hb : (g == k) = false := beq_eq_false_iff_ne.mpr h
        simp only [List.lookup, hb]
        exact ih
theorem keys_putF (f : Str) (v : V) : ∀ fs : List (Str × V), f ∈ (putF f v fs).map (·.1) ∧ ∀ g, g ∈ fs.map (·.1) → g ∈ (putF f v fs).map (·.1)
  | [] => ⟨by simp [putF], fun g h => by simp at h⟩
  | (k, x) :: r => by
    obtain ⟨i1, i2⟩ := keys_putF f v r
    rw [show putF f v ((k, x) :: r) = (if k = f then (k, v) :: r else (k, x) :: putF f v r) from rfl]
    by_cases hk : k = f
    · rw [if_pos hk]
      subst hk
      exact ⟨by simp, fun g h => by simpa using h⟩
    · rw [if_neg hk]
      refine ⟨?_, fun g h => ?_⟩
      · rw [List.map_cons]
        exact List.mem_cons_of_mem _ i1
      · rw [List.map_cons] at h ⊢
        rcases List.mem_cons.mp h with e | e
        · exact List.mem_cons.mpr (.inl e)
        · exact List.mem_cons_of_mem _ (i2 g e)
theorem length_putF (f : Str) (v : V) : ∀ fs : List (Str × V), (putF f v fs).length ≤ fs.length + 1
  | [] => by simp [putF]
  | (k, x) :: r => by
    have ih := length_putF f v r
    rw [show putF f v ((k, x) :: r) = (if k = f then (k, v) :: r else (k, x) :: putF f v r) from rfl]
    by_cases hk : k = f
    · rw [if_pos hk, List.length_cons, List.length_cons]; omega
    · rw [if_neg hk, List.length_cons, List.length_cons]; omega

theorem RelO.some_of {v : V} {o : Option Value} (r : RelO (some v) o) : ∃ u, o = some u ∧ RelV v u := by
  cases o with
  | none => exact (show False from r).elim
  | some u => exact ⟨u, rfl, r⟩
theorem RelO.none_of {o : Option Value} (r : RelO none o) : o = none := by
  cases o with
  | none => rfl
  | some u => exact (show False from r).elim
theorem handed_of {v : V} {u : Value} (r : RelV v u) : PySem.W.handedIn u = true := by
  cases v with
  | non => cases (show u = Value.none from r); rfl
  | bl b => cases (show u = Value.bool b from r); rfl
  | int i => obtain ⟨t, e⟩ := (show ∃ t, u = Value.int i t from r); cases e; rfl
  | str x => obtain ⟨t, e⟩ := (show ∃ t, u = Value.str x t from r); cases e; rfl
  | byt b => obtain ⟨t, e⟩ := (show ∃ t, u = Value.bytes b t from r); cases e; rfl
  | flt b => obtain ⟨t, e⟩ := (show ∃ t, u = Value.float b t from r); cases e; rfl
  | ref a => cases (show u = Value.ref a from r); rfl
  | ty n => cases (show u = Value.type n from r); rfl

section
variable {P : Program} {w : World} {H H' : Hp} {h h' : Heap} {a C dx : Addr} {fs fs' : List (Str × V)}
theorem ins_get (hok : HOk P w H h) (e : H a = some (.ins C dx fs)) : ∃ mA, ObjM h a dx C mA ∧ (∀ f, RelO (fs.lookup f) (mA f)) ∧ PySem.Within mA (fs.map (·.1)) ∧ fs.length ≤ 1000 ∧ H dx = some (.own a) := by
  obtain ⟨d, z, ne, ob, mA, n, r, q⟩ := (show ObjOk P w H h a (.ins C dx fs) from hok a _ e)
  exact ⟨mA, ⟨ob, n, ne⟩, r, q, z, d⟩
end

/-! ### what of the text a class must have -/
structure Cls (K : PySem.W.Frag) (C : Addr) : Prop where
  pg : PySem.W.plainGet K C Str.empty = true
  hd : PySem.W.hasDictIn K C = true
  po : PySem.W.plainOver K C = true
  sa : PySem.W.findIn K (.ref C) "__setattr__" = some (some (.builtin "object.__setattr__"))
theorem Cls.get {K : PySem.W.Frag} {C : Addr} (c : Cls K C) (f : Str) : PySem.W.plainGet K C f = true := c.pg
/-- no class of it has the name -/
def NoAttr (K : PySem.W.Frag) (C : Addr) (f : Str) : Prop := PySem.W.findIn K (.ref C) f = some none
theorem NoAttr.taker {K : PySem.W.Frag} {C : Addr} {f : Str} (n : NoAttr K C f) : PySem.W.takerIn K C f = some none := by
  unfold PySem.W.takerIn
  rw [show PySem.W.findIn K (.ref C) f = some none from n]
  rfl
/-- a constant of the class -/
structure Con (K : PySem.W.Frag) (C : Addr) (f : Str) (v : V) (u : Value) : Prop where
  at_ : PySem.W.findIn K (.ref C) f = some (some u)
  rel : RelV v u
  get : PySem.W.specialIn K u "__get__" = some none
  cp : PySem.W.copiedNames.contains f = false
/-- a method: a plain def of the class or of one above it -/
structure Meth (K : PySem.W.Frag) (C : Addr) (m : Str) (f : Addr) : Prop where
  at_ : PySem.W.findIn K (.ref C) m = some (some (.ref f))
  fn : PySem.W.isFn K (.ref f) = true
  kp : PySem.W.keepIn K (.ref f) = true

section
variable {X : Cx} {pins : List (Addr × Obj)} {σ : St} {H : Hp} {s : Shared} {a C dx : Addr} {fs : List (Str × V)} {f : Str} {v : V} {A : Around} {E : Value → Shared → Prop}

theorem getattr_ok {b : Bool} {Q : Value → Shared → Prop} (I : Inv X pins σ H s) (e : H a = some (.ins C dx fs)) (c : Cls X.K C) (n : NoAttr X.K C f) (l : fs.lookup f = some v)
    (h : ∀ u s', Inv X pins σ H s' → RelV v u → Q u s') : wpAny (model X.prog X.w) A (getAttr (.ref a) f b) Q E s := by
  obtain ⟨mA, O, r, _, _, _⟩ := ins_get I.hok e
  obtain ⟨u, hu, ru⟩ := RelO.some_of (v := v) (o := mA f) (by rw [← l]; exact r f)
  exact get_map I.kIn O (c.get f) c.hd n hu (handed_of ru) (h u _ (I.tok _) ru)


theorem getmeth_ok {m : Str} {g : Addr} {pl : Sem Bool} {Q : Value × List Value → Shared → Prop} (I : Inv X pins σ H s) (e : H a = some (.ins C dx fs)) (c : Cls X.K C) (k : Meth X.K C m g) (l : fs.lookup m = none)
    (h : Q (.ref g, [.ref a]) s) : wpAny (model X.prog X.w) A (getMethod (.ref a) m pl) Q E s := by
  obtain ⟨mA, O, r, _, _, _⟩ := ins_get I.hok e
  have hn : mA m = none := RelO.none_of (by rw [← l]; exact r m)
  exact get_meth I.kIn O (c.get m) k.at_ k.fn hn h

theorem setattr_ok {y : V} {u : Value} {Q : Unit → Shared → Prop} (I : Inv X pins σ H s) (e : H a = some (.ins C dx fs)) (c : Cls X.K C) (n : NoAttr X.K C f) (hl : fs.length < 1000) (ry : RelV y u)
    (h : ∀ s', Inv X pins σ (upd H a (.ins C dx (putF f y fs))) s' → Q () s') : wpAny (model X.prog X.w) A (setAttr (.ref a) f u) Q E s := by
  obtain ⟨mA, O, r, wi, _, ho⟩ := ins_get I.hok e
  have hz : (fs.map (·.1)).length ≤ sizeLine := by rw [List.length_map, sizeLine_eq]; omega
  refine set_map I.kIn O c.sa c.po n.taker c.hd wi hz fun h' O' sb => h _ ?_
  have hd : ∃ o, h'.get? dx = some o := let ⟨o, _, _, e', _⟩ := O'.ns; ⟨o, e'⟩
  refine I.write (x := a) (e := dx) (by rw [e]; exact True.intro) (.inr ho) (fun b q hb z => (sb.2 b hb).trans z) hd ?_
  refine ⟨by rw [upd_ne O.ne]; exact ho, ?_, O.ne, O'.obj, _, O'.ns, fun g => ?_, fun g hg => ?_⟩
  · have := length_putF f y fs; omega
  · show RelO ((putF f y fs).lookup g) (if g = f then some u else mA g)
    rw [lookup_putF]
    by_cases q : g = f
    · rw [if_pos q, if_pos q]; exact ry
    · rw [if_neg q, if_neg q]; exact r g
  · by_cases q : g = f
    · rw [q]; exact (keys_putF f y fs).1
    · refine (keys_putF f y fs).2 g (wi g fun z => hg ?_)
      show (if g = f then some u else mA g) = none
      rw [if_neg q]; exact z

/-- a new instance, tracked, without attributes -/
theorem Inv.made (I : Inv X pins σ H s) : Inv X pins σ (upd (upd H s.heap.objs.size (.own (s.heap.objs.size + 1))) (s.heap.objs.size + 1) (.ins C s.heap.objs.size []))
    { s with heap := (s.heap.push PySem.W.emptyDict).push (PySem.W.instObj C s.heap.objs.size) } := by
  have e1 : (s.heap.push PySem.W.emptyDict).get? s.heap.objs.size = some PySem.W.emptyDict := Heap.get?_push_size s.heap rfl
  have e2 : ((s.heap.push PySem.W.emptyDict).push (PySem.W.instObj C s.heap.objs.size)).get? (s.heap.objs.size + 1) = some (PySem.W.instObj C s.heap.objs.size) := by
    have := Heap.get?_push_size (s.heap.push PySem.W.emptyDict) (o := PySem.W.instObj C s.heap.objs.size) rfl
    rwa [Heap.size_push] at this
  have e3 : (s.heap.push PySem.W.emptyDict).Ns s.heap.objs.size (fun _ => none) := ⟨PySem.W.emptyDict, #[], _, e1, rfl, (fun e he => absurd he (by simp)), fun _ => rfl⟩
  have I1 := I.laid (a := s.heap.objs.size) (o := .own (s.heap.objs.size + 1)) (h' := s.heap.push PySem.W.emptyDict) (t' := s.toks) (fun b u q => Heap.get?_push_of_some _ q) (Nat.le_refl _) ⟨_, e1⟩
  refine I1.laid (a := s.heap.objs.size + 1) (o := .ins C s.heap.objs.size []) (t' := s.toks) (fun b u q => Heap.get?_push_of_some _ q) (Nat.le_of_eq (Heap.size_push _ _)) ?_
  have ne : s.heap.objs.size ≠ s.heap.objs.size + 1 := Nat.ne_of_lt (Nat.lt_succ_self _)
  refine ⟨by rw [upd_ne ne, upd_same], Nat.zero_le _, ne, e2, fun _ => none, (Heap.Ns1.of_empty e3).at fun o q => Heap.get?_push_of_some _ q, fun _ => True.intro, fun y hy => absurd rfl hy⟩

/-- e.f where nothing but the object is asked: through attributeBase (super) and the last hold -/
theorem attr_of {prog : Program} {w : World} {env : Env} {e : Expr} {f : Str} {pos : Pos} {s : Shared} {Q : Value → Shared → Prop} (hb : attributeBase e f env (eval e env) = eval e env)
    (h : wpAny (model prog w) A (eval e env) (fun o s₁ => wpAny (model prog w) A (getAttr o f true) Q E s₁) E s) : wpAny (model prog w) A (eval (.Attribute e f pos) env) Q E s :=
  Attribute_any_ h (by rw [arm_eval_Attribute, hb])
end

/-! ### readings and rules -/
/-- e.f, an attribute of the instance -/
def tFld (K : PySem.W.Frag) (ta : TE) (f : Str) : TE := fun σ H Q => ta σ H fun x H1 => ∃ a C dx fs v, x = .ref a ∧ H1 a = some (.ins C dx fs) ∧ Cls K C ∧ NoAttr K C f ∧ fs.lookup f = some v ∧ Q v H1
/-- e.f, a constant of the class -/
def tCon (K : PySem.W.Frag) (ta : TE) (f : Str) : TE := fun σ H Q => ta σ H fun x H1 => ∃ a C dx fs v u, x = .ref a ∧ H1 a = some (.ins C dx fs) ∧ Cls K C ∧ Con K C f v u ∧ fs.lookup f = none ∧ Q v H1
/-- e.f = value -/
def sFld (K : PySem.W.Frag) (ta tv : TE) (f : Str) : TS := fun D σ H => tv σ H fun y H1 => ta σ H1 fun x H2 => ∃ a C dx fs, x = .ref a ∧ H2 a = some (.ins C dx fs) ∧ Cls K C ∧ NoAttr K C f ∧ fs.length < 1000 ∧
  D.nx σ (upd H2 a (.ins C dx (putF f y fs)))
/-- an augmented operator on two values -/
def InOp (X : Cx) (op : Operator) (rd : V → V → Hp → VK → Prop) : Prop :=
  ∀ (pins : List (Addr × Obj)) (s : Shared) (σ : St) (H : Hp) (x y : V) (u v : Value) (Q : VK), Inv X pins σ H s → RelV x u → RelV y v → rd x y H Q → wpAny (model X.prog X.w) X.A (inplaceOp op u v) (EP X pins σ Q) X.xe s
/-- e.f op= value -/
def sFldAug (K : PySem.W.Frag) (ta tv : TE) (rd : V → V → Hp → VK → Prop) (f : Str) : TS := fun D σ H => ta σ H fun x H1 => ∃ a C dx fs v, x = .ref a ∧ H1 a = some (.ins C dx fs) ∧ Cls K C ∧ NoAttr K C f ∧ fs.lookup f = some v ∧
  tv σ H1 fun y H2 => rd v y H2 fun z H3 => ∃ dx' fs', H3 a = some (.ins C dx' fs') ∧ fs'.length < 1000 ∧ D.nx σ (upd H3 a (.ins C dx' (putF f z fs')))

section
variable {X : Cx} {o e value : Expr} {f : Str} {pos pos' tpos : Pos} {ta tv : TE}
theorem pe_fld (he : PE X e ta) (hb : attributeBase e f X.env (eval e X.env) = eval e X.env) : PE X (.Attribute e f pos) (tFld X.K ta f) := by
  intro pins s σ H Q I h
  refine attr_of hb (thn (he pins s σ H _ I h) fun u s1 ⟨x, H1, I1, rx, a, C, dx, fs, v, ex, ea, c, n, l, q⟩ => ?_)
  subst ex
  obtain rfl : u = Value.ref a := rx
  exact getattr_ok I1 ea c n l fun u' s2 I2 ru => ⟨v, H1, I2, ru, q⟩
theorem ps_fld (ha : PE X o ta) (hv : PE X value tv) (hs : swapsWith value (some (.Attribute o f pos')) pos.line X.env = pure false) : PS X (.Assign [.Attribute o f pos'] value pos) (sFld X.K ta tv f) := by
  intro pins s σ H D I h
  refine plainObj_wpAny_Assign_Attribute (thn (hv pins s σ H _ I h) fun u s1 ⟨y, H1, I1, ry, q⟩ => thn (ha pins s1 σ H1 _ I1 q) fun ov s2 ⟨x, H2, I2, rx, a, C, dx, fs, ex, ea, c, n, l, q2⟩ => ?_) hs
  subst ex
  obtain rfl : ov = Value.ref a := rx
  exact setattr_ok I2 ea c n l ry fun s3 I3 => ⟨σ, _, I3, q2⟩
theorem ps_fldaug {op : Operator} {rd : V → V → Hp → VK → Prop} (ha : PE X o ta) (hv : PE X value tv) (hop : InOp X op rd) : PS X (.AugAssign (.Attribute o f tpos) op value pos) (sFldAug X.K ta tv rd f) := by
  intro pins s σ H D I h
  refine wpAny_AugAssign_AttributeAny (thn (ha pins s σ H _ I h) fun ov s1 ⟨x, H1, I1, rx, a, C, dx, fs, v, ex, ea, c, n, l, q⟩ => ?_)
  subst ex
  obtain rfl : ov = Value.ref a := rx
  refine getattr_ok I1 ea c n l fun u s2 I2 ru => thn (hv pins s2 σ H1 _ I2 q) fun w3 s3 ⟨y, H2, I3, ry, q3⟩ => thn (hop pins s3 σ H2 v y u w3 _ I3 ru ry q3) fun w4 s4 ⟨z, H3, I4, rz, dx', fs', ea', l', q4⟩ => ?_
  exact setattr_ok I4 ea' c n l' rz fun s5 I5 => ⟨σ, _, I5, q4⟩
def rAdd : V → V → Hp → VK → Prop := fun x y H Q => ∃ i j, x = .int i ∧ y = .int j ∧ Q (.int (i + j)) H
def rSub : V → V → Hp → VK → Prop := fun x y H Q => ∃ i j, x = .int i ∧ y = .int j ∧ Q (.int (i - j)) H
theorem in_add : InOp X .Add rAdd := by
  rintro pins s σ H x y u v Q I rx ry ⟨i, j, rfl, rfl, q⟩
  obtain ⟨t, rfl⟩ := (show ∃ t, u = Value.int i t from rx)
  obtain ⟨t', rfl⟩ := (show ∃ t', v = Value.int j t' from ry)
  exact PyProof.Rows.iadd_int ⟨.int (i + j), H, I.tok _, ⟨_, rfl⟩, q⟩

end

/-! ### isinstance -/
section
variable {X : Cx} {pins : List (Addr × Obj)} {σ : St} {H : Hp} {s : Shared} {A : Around} {E : Value → Shared → Prop} {Q : Value → Shared → Prop} {c : Value} {b : Bool}
/-- the type of a value, as the fragment's deciders take it; for an instance its class -/
inductive TyOf (K : PySem.W.Frag) (H : Hp) : V → Value → Prop where
  | non : TyOf K H .non (.type "NoneType")
  | bl (x : Bool) : TyOf K H (.bl x) (.type "bool")
  | int (i : Int) : TyOf K H (.int i) (.type "int")
  | str (x : Str) : TyOf K H (.str x) (.type "str")
  | flt (x : UInt64) : TyOf K H (.flt x) (.type "float")
  | lst {a : Addr} {xs : List V} (e : H a = some (.lst xs)) : TyOf K H (.ref a) (.type "list")
  | frz {a : Addr} {o : Obj} {xs : List V} (e : H a = some (.frz o (.lst xs))) : TyOf K H (.ref a) (.type "list")
  | tup {a : Addr} {xs : List V} (e : H a = some (.tup xs)) : TyOf K H (.ref a) (.type "tuple")
  | dK {a : Addr} {kvs : List (Key × V)} (e : H a = some (.dK kvs)) : TyOf K H (.ref a) (.type "dict")
  | dT {a : Addr} {kvs : List (List Key × V)} (e : H a = some (.dT kvs)) : TyOf K H (.ref a) (.type "dict")
  | ins {a C dx : Addr} {fs : List (Str × V)} (e : H a = some (.ins C dx fs)) (cl : Cls K C) (ha : PySem.W.findIn K (.ref C) "__class__" = some (some (.builtin "object.__class__")))
      (hn : PySem.W.specialIn K (.builtin "object.__class__") "__get__" = some (some (.builtin "getset_descriptor.__get__"))) (htk : PySem.W.takesIn K (.builtin "object.__class__") = some true)
      (hm : PySem.W.mroIn K C (.type "object") = some true) : TyOf K H (.ref a) (.ref C)
/-- isinstance(x, c) for one class c, a built-in or an own one: kitOne's answer -/
theorem isinst_ok {x : V} {u t : Value} (I : Inv X pins σ H s) (rx : RelV x u) (ty : TyOf X.K H x t) (e : PySem.W.kitOne X.K t c = some b) (h : ∀ tk, Q (.bool b) { s with toks := tk }) :
    wpAny (model X.prog X.w) A (call (.builtin "isinstance") [u, c]) Q E s := by
  cases ty with
  | non => cases (show u = Value.none from rx); exact PySem.W.kia_one PySem.W.kitx_none I.kIn True.intro e (fun z => nomatch z) h
  | bl y => cases (show u = Value.bool y from rx); exact PySem.W.kia_one PySem.W.kitx_bool I.kIn True.intro e (fun z => nomatch z) h
  | int i => obtain ⟨t, q⟩ := (show ∃ t, u = Value.int i t from rx); cases q; exact PySem.W.kia_one PySem.W.kitx_int I.kIn True.intro e (fun z => nomatch z) h
  | str y => obtain ⟨t, q⟩ := (show ∃ t, u = Value.str y t from rx); cases q; exact PySem.W.kia_one PySem.W.kitx_str I.kIn True.intro e (fun z => nomatch z) h
  | flt y => obtain ⟨t, q⟩ := (show ∃ t, u = Value.float y t from rx); cases q; exact PySem.W.kia_one PySem.W.kitx_float I.kIn True.intro e (fun z => nomatch z) h
  | @lst a xs ea =>
    cases (show u = Value.ref a from rx)
    obtain ⟨_, _, n, _, h1⟩ := (show ObjOk X.prog X.w H s.heap a (.lst xs) from I.hok a _ ea)
    exact PySem.W.kia_one PySem.W.kitx_list I.kIn ⟨_, h1, rfl⟩ e (fun z => nomatch z) h
  | @frz a ob xs ea =>
    cases (show u = Value.ref a from rx)
    obtain ⟨_, _, _, n, _, h1⟩ := (show ObjOk X.prog X.w H s.heap a (.frz ob (.lst xs)) from I.hok a _ ea)
    exact PySem.W.kia_one PySem.W.kitx_list I.kIn ⟨_, h1, rfl⟩ e (fun z => nomatch z) h
  | @tup a xs ea =>
    cases (show u = Value.ref a from rx)
    obtain ⟨_, _, _, p⟩ := (show ObjOk X.prog X.w H s.heap a (.tup xs) from I.hok a _ ea)
    obtain ⟨o, h1, h2, _⟩ := p
    exact PySem.W.kia_one PySem.W.kitx_tuple I.kIn ⟨o, h1, h2⟩ e (fun z => nomatch z) h
  | @dK a kvs ea =>
    cases (show u = Value.ref a from rx)
    obtain ⟨_, _, vs, _, p⟩ := (show ObjOk X.prog X.w H s.heap a (.dK kvs) from I.hok a _ ea)
    obtain ⟨o, es, ep, h1, h2, _⟩ := p
    exact PySem.W.kia_one PySem.W.kitx_dict I.kIn ⟨o, h1, h2.1⟩ e (fun z => nomatch z) h
  | @dT a kvs ea =>
    cases (show u = Value.ref a from rx)
    obtain ⟨_, _, xs, _, o, es, ep, h1, h2, _⟩ := (show ObjOk X.prog X.w H s.heap a (.dT kvs) from I.hok a _ ea)
    exact PySem.W.kia_one PySem.W.kitx_dict I.kIn ⟨o, h1, h2.1⟩ e (fun z => nomatch z) h
  | @ins a C dx fs ea cl ha hn htk hm =>
    cases (show u = Value.ref a from rx)
    obtain ⟨mA, O, _⟩ := ins_get I.hok ea
    obtain ⟨od, J, _⟩ := O.look
    exact PySem.W.kia_one (PySem.W.kitx_own (cl.get _) cl.hd ha hn htk hm) I.kIn J e (fun z => nomatch z) h
end
end L2

namespace L2
open PySem PySem.Spec PyProof.Rows

/-! ### room -/
structure Room (k : Nat) (A : Around) : Prop where
  hd : A.handled = none
  dp : A.depth + 3 * k + 5 < recursionLimit
  un : A.units + 16 * k + 200 < cLine
theorem Room.mono {j k : Nat} {A : Around} (r : Room k A) (h : j ≤ k) : Room j A := ⟨r.hd, by have := r.dp; omega, by have := r.un; omega⟩
theorem Room.deeper {k : Nat} {A : Around} (r : Room (k + 1) A) (env : Env) : Room k (A.deeper env) :=
  ⟨r.hd, by have := r.dp; show A.depth + 1 + 3 * k + 5 < _; omega, by have := r.un; show A.units + 3 + 16 * k + 200 < _; omega⟩
theorem Room.in1 {k : Nat} {A : Around} (r : Room (k + 1) A) : Room k A.in1 :=
  ⟨r.hd, by have := r.dp; show A.depth + 3 * k + 5 < _; omega, by have := r.un; show A.units + 1 + 16 * k + 200 < _; omega⟩
theorem make_depth {A : Around} {C : Addr} {us : List Value} {kw : List (Str × Value)} : (A.under (.builtin "type.__call__" ⟨.ref C :: us, kw⟩)).depth = A.depth + 1 := by
  first | rfl | simp [Around.under, Code.weight, Code.isCreation, Code.isGuard, Code.isCaller, Code.frames, Code.isFrame, guardIds]
theorem make_units {A : Around} {C : Addr} {us : List Value} {kw : List (Str × Value)} : (A.under (.builtin "type.__call__" ⟨.ref C :: us, kw⟩)).units = A.units + 1 := by
  first | rfl | simp [Around.under, Code.cUnits, Code.frames, Code.isFrame]
theorem Room.make {k : Nat} {A : Around} (r : Room (k + 1) A) (C : Addr) (us : List Value) (kw : List (Str × Value)) : Room k (A.under (.builtin "type.__call__" ⟨.ref C :: us, kw⟩)) :=
  ⟨r.hd, by have := r.dp; rw [make_depth]; omega, by have := r.un; rw [make_units]; omega⟩
theorem Room.depth {k : Nat} {A : Around} (r : Room k A) : A.depth < recursionLimit := by have := r.dp; omega
theorem Room.units {k : Nat} {A : Around} (r : Room k A) : A.units + 64 < cLine := by have := r.un; omega

/-! ### argument lists and displays -/
def tNil : TA := fun _ H Q => Q [] H
def tCons (ta : TE) (tr : TA) : TA := fun σ H Q => ta σ H fun x H1 => tr σ H1 fun xs H2 => Q (x :: xs) H2
section
variable {X : Cx} {e : Expr} {es : List Expr} {te : TE} {t : TA} {pos : Pos}
theorem pa_nil : PA X [] tNil := fun _ _ _ _ H Q I h => Calls.spliced_nil ⟨[], H, I, .nil, h⟩
theorem pa_cons (ha : PE X e te) (hr : PA X es t) (hs : starEach (e :: es) X.env = (false, eval e X.env) :: starEach es X.env := by rfl) : PA X (e :: es) (tCons te t) := by
  intro pos pins s σ H Q I h
  rw [hs]
  show wpAny _ _ (spliced ((false, eval e X.env) :: backTo pos (starEach es X.env))) _ _ s
  refine Calls.spliced_cons (thn (ha pins s σ H _ I h) fun u s1 ⟨x, H1, I1, r1, q1⟩ => ?_)
  exact thn (hr pos pins s1 σ H1 _ I1 q1) fun us s2 ⟨xs, H2, I2, r2, q2⟩ => ⟨x :: xs, H2, I2, .cons r1 r2, q2⟩

/-- a tuple, a list of written items -/
def tTup (t : TA) : TE := fun σ H Q => t σ H fun xs H1 => xs.length ≤ sizeLine ∧ ∀ p, H1 p = none → Q (.ref p) (upd H1 p (.tup xs))
def tLst (t : TA) : TE := fun σ H Q => t σ H fun xs H1 => xs.length ≤ sizeLine ∧ ∀ p, H1 p = none → Q (.ref p) (upd H1 p (.lst xs))
theorem pe_tup {x1} (h : PA X es t) : PE X (.Tuple es x1 pos) (tTup t) := by
  intro pins s σ H Q I hq
  refine wpAny_Tuple_spliced (thn (h pos pins s σ H _ I hq) fun us s1 ⟨xs, H1, I1, r, z, q⟩ => ⟨by rw [← r.length]; exact z, ?_⟩)
  have hf : H1 s1.heap.objs.size = none := I1.hok.fresh (Nat.le_refl _)
  refine ⟨.ref s1.heap.objs.size, upd H1 s1.heap.objs.size (.tup xs), I1.laid (t' := s1.toks) (fun b u e => Heap.get?_push_of_some _ e) (Nat.le_refl _) ?_, rfl, q _ hf⟩
  exact ⟨z, us, r, ⟨_, Heap.get?_push_size _ rfl, rfl, _, rfl⟩⟩
theorem pe_lst (h : PA X es t) : PE X (.List es pos) (tLst t) := by
  intro pins s σ H Q I hq
  refine wpAny_List_spliced (thn (h pos pins s σ H _ I hq) fun us s1 ⟨xs, H1, I1, r, z, q⟩ => ⟨by rw [← r.length]; exact z, ?_⟩)
  have hf : H1 s1.heap.objs.size = none := I1.hok.fresh (Nat.le_refl _)
  refine ⟨.ref s1.heap.objs.size, upd H1 s1.heap.objs.size (.lst xs), I1.laid (t' := s1.toks) (fun b u e => Heap.get?_push_of_some _ e) (Nat.le_refl _) ?_, rfl, q _ hf⟩
  exact ⟨z, us, 0, r, Heap.get?_push_size _ rfl⟩
end

/-! ### what a def promises -/
/-- a def's promise: the bound arguments in the parameters' order, the heap, the wanted end, the wanted exception -/
abbrev Sp := List V → Hp → VK → XK → Prop
/-- how an exception lies behind a call (file 08 gives it): the callers' frames, abstract heap and state ahead of the call, the wish, the exception, the state -/
abbrev CXT := List Env → Hp → Shared → XK → Value → Shared → Prop

/-- the state at a call -/
structure Env0 (P : Program) (w : World) (K : PySem.W.Frag) (mg : Str → Option Value) (base : Heap) (A : Around) (outer : List Env) (s : Shared) (H : Hp) : Prop where
  frames : A.frames = some outer
  mod : Mod K mg base
  bs : ∀ b o, base.get? b = some o → s.heap.get? b = some o ∧ H b = none
  bsz : base.objs.size ≤ s.heap.objs.size
  funs : s.heap.FunFrames base outer
  frf : ∀ b ∈ frs outer, H b = none
  hok : HOk P w H s.heap
  bare : AllBare s.gens
/-- a call's end -/
def CE (outer : List Env) (P : Program) (w : World) (H : Hp) (s : Shared) (Q : VK) (u : Value) (s' : Shared) : Prop :=
  ∃ v H', s'.os = s.os ∧ AllBare s'.gens ∧ Un (frs outer) [] H H' s.heap s'.heap ∧ HOk P w H' s'.heap ∧ RelV v u ∧ Q v H'
def CR (CX : CXT) (outer : List Env) (P : Program) (w : World) (H : Hp) (s : Shared) (Q : VK) (E : XK) (r : Result) (s' : Shared) : Prop :=
  match r with
  | .ok (.ret u) => CE outer P w H s Q u s'
  | .ok _ => False
  | .error e => CX outer H s E e s'
structure FnOk (P : Program) (w : World) (K : PySem.W.Frag) (mg : Str → Option Value) (base : Heap) (CX : CXT) (k : Nat) (f : Addr) (fd : FuncData) (ps : List Str) (sp : Sp) : Prop where
  len : ∀ vs H Q E, sp vs H Q E → vs.length = ps.length
  run : ∀ (A : Around) (outer : List Env) (s : Shared) (H : Hp) (args : Args) (us : List Value) (vs : List V) (Q : VK) (E : XK), Room k A → Env0 P w K mg base A outer s H → BindsTo s fd args (ps.zip us) → Vals vs us → sp vs H Q E →
    codeAny (model P w) A (.call (.ref f) args) (CR CX outer P w H s Q E) s
theorem FnOk.mono {P : Program} {w : World} {K : PySem.W.Frag} {mg : Str → Option Value} {base : Heap} {CX : CXT} {j k : Nat} {f : Addr} {fd : FuncData} {ps : List Str} {sp : Sp} (F : FnOk P w K mg base CX j f fd ps sp) (h : j ≤ k) :
    FnOk P w K mg base CX k f fd ps sp := ⟨F.len, fun A outer s H args us vs Q E hr => F.run A outer s H args us vs Q E (hr.mono h)⟩

theorem Env0.make {P : Program} {w : World} {K : PySem.W.Frag} {mg : Str → Option Value} {base : Heap} {A : Around} {outer : List Env} {s : Shared} {H : Hp} (e : Env0 P w K mg base A outer s H) (C : Addr) (us : List Value) (kw : List (Str × Value)) :
    Env0 P w K mg base (A.under (.builtin "type.__call__" ⟨.ref C :: us, kw⟩)) outer s H := ⟨by first | exact e.frames | (simpa [Around.under, Code.envs, Code.isFrame, pushEnvs] using e.frames), e.mod, e.bs, e.bsz, e.funs, e.frf, e.hok, e.bare⟩
theorem Env0.in1 {P : Program} {w : World} {K : PySem.W.Frag} {mg : Str → Option Value} {base : Heap} {A : Around} {outer : List Env} {s : Shared} {H : Hp} (e : Env0 P w K mg base A outer s H) :
    Env0 P w K mg base A.in1 outer s H := ⟨e.frames, e.mod, e.bs, e.bsz, e.funs, e.frf, e.hok, e.bare⟩

section
variable {X : Cx} {pins : List (Addr × Obj)} {σ : St} {H : Hp} {s s' : Shared}
/-- from a body: what a callee wants -/
theorem Inv.env0 (I : Inv X pins σ H s) : Env0 X.prog X.w X.K X.mg X.base X.A X.stack s H :=
  ⟨I.ok.frames, I.ok.mod, I.bs, Nat.le_trans I.ok.bsz I.sz, I.stack, I.stkFree, I.hok, I.bare⟩
/-- behind a call -/
theorem Inv.after {Q : VK} {u : Value} (I : Inv X pins σ H s) (h : CE X.stack X.prog X.w H s Q u s') : EP X pins σ Q u s' := by
  obtain ⟨v, H', os, bare, un, hok, r, q⟩ := h
  obtain ⟨hh, g, d, t, os'⟩ := s'
  obtain rfl : os' = s.os := os
  exact ⟨v, H', I.call (h' := hh) (g' := g) (d' := d) (t' := t) (ch := []) un hok bare (fun b z => absurd z (by simp)), r, q⟩
end

/-! ### calls -/
/-- f(..): the written arguments, then the defaults dvs; E: what is wanted of an exception -/
def tCall (sp : Sp) (dvs : List V) (E : XK) (t : TA) : TE := fun σ H Q => t σ H fun vs H1 => sp (vs ++ dvs) H1 Q E
/-- o.m(..) of an instance of the class at C -/
def tMeth (C : Addr) (m : Str) (sp : Sp) (dvs : List V) (E : XK) (ta : TE) (t : TA) : TE := fun σ H Q => ta σ H fun x H1 => ∃ a dx fs, x = .ref a ∧ H1 a = some (.ins C dx fs) ∧ fs.lookup m = none ∧
  t σ H1 fun vs H2 => sp (x :: (vs ++ dvs)) H2 Q E
/-- C(..): a new instance and its dict, then __init__ -/
def tMake (C : Addr) (sp : Sp) (dvs : List V) (E : XK) (t : TA) : TE := fun σ H Q => t σ H fun vs H1 => ∀ x dx, H1 x = none → H1 dx = none → dx ≠ x →
  sp (.ref x :: (vs ++ dvs)) (upd (upd H1 dx (.own x)) x (.ins C dx [])) (fun v H2 => v = .non ∧ Q (.ref x) H2) E

/-- how the parameters are bound: us the positional arguments, kw the keywords' values by name, ds the defaults that fill up -/
def Binds (K : PySem.W.Frag) (fd : FuncData) (ps : List Str) (ds : List Value) : Prop :=
  ∀ (s : Shared) (us : List Value), K.In s.heap → (us ++ ds).length = ps.length → BindsTo s fd ⟨us, []⟩ (ps.zip (us ++ ds))
/-- every parameter is given -/
theorem Binds.all {K : PySem.W.Frag} {fd : FuncData} {ps : List Str} (h : ∀ us : List Value, us.length = ps.length → bindArgs fd ⟨us, []⟩ = pure (ps.zip us)) : Binds K fd ps [] := fun s us _ hl => by
  rw [List.append_nil] at hl ⊢
  exact .of_eq (h us hl)

/-- an exception of a callee reaches what this body wants of exceptions -/
def Passes (CX : CXT) (X : Cx) (E : XK) : Prop := ∀ (pins : List (Addr × Obj)) (σ : St) (H : Hp) (s : Shared) (e : Value) (s' : Shared), Inv X pins σ H s → CX X.stack H s E e s' → X.xe e s'

section
variable {X : Cx} {CX : CXT} {k : Nat} {f C : Addr} {fd : FuncData} {ps : List Str} {sp : Sp} {dvs : List V} {ds : List Value} {E : XK} {x m : Str} {p pos apos : Pos} {e o : Expr} {es : List Expr} {ta : TE} {t : TA}

/-- the callee runs -/
theorem run_fn {pins : List (Addr × Obj)} {σ : St} {H : Hp} {s : Shared} {Q : VK} {us : List Value} {vs : List V} (F : FnOk X.prog X.w X.K X.mg X.base CX k f fd ps sp) (hr : Room k X.A) (hb : Binds X.K fd ps ds) (hd : Vals dvs ds) (hx : Passes CX X E)
    (I : Inv X pins σ H s) (r : Vals vs us) (h : sp (vs ++ dvs) H Q E) : wpAny (model X.prog X.w) X.A (call (.ref f) us) (EP X pins σ Q) X.xe s := by
  have r2 : Vals (vs ++ dvs) (us ++ ds) := r.append hd
  have hl : (us ++ ds).length = ps.length := by rw [← r2.length]; exact F.len _ _ _ _ h
  refine wpAny_call (codeAny_mono (F.run X.A X.stack s H ⟨us, []⟩ (us ++ ds) (vs ++ dvs) Q E hr I.env0 (hb s us I.kIn hl) r2 h) fun r s' hq => ?_)
  cases r with
  | error e => exact hx pins σ H s e s' I hq
  | ok fl =>
    cases fl with
    | ret u => exact I.after hq
    | next => exact False.elim hq
    | brk => exact False.elim hq
    | cont => exact False.elim hq

theorem pe_call (F : FnOk X.prog X.w X.K X.mg X.base CX k f fd ps sp) (hr : Room k X.A) (hg : Gl X x) (hm : X.mg x = some (.ref f)) (hk : PySem.W.keepIn X.K (.ref f) = true) (hb : Binds X.K fd ps ds) (hd : Vals dvs ds) (hx : Passes CX X E)
    (ha : PA X (e :: es) t) (hdb : (x == ("__debug__" : Str)) = false := by decide) (he : starEach (e :: es) X.env = (false, eval e X.env) :: starEach es X.env := by rfl) (hpl : (backTo pos (starEach es X.env)).any (·.1) = false := by rfl) :
    PE X (.Call (.Name x p) (e :: es) [] pos) (tCall sp dvs E t) := by
  intro pins s σ H Q I h
  refine wpAny_Call_Name_kw (ld_glob I hg hm ?_ hdb)
  refine PySem.W.callWith_K (h₀ := X.base) I.ok.mod.kin hk (thn (ha pos pins s σ H _ I h) fun us s1 ⟨vs, H1, I1, r, q⟩ => ⟨I1.kIn, ?_⟩) he hpl
  exact run_fn F hr hb hd hx I1 r q
theorem pe_call0 (F : FnOk X.prog X.w X.K X.mg X.base CX k f fd ps sp) (hr : Room k X.A) (hg : Gl X x) (hm : X.mg x = some (.ref f)) (hk : PySem.W.keepIn X.K (.ref f) = true) (hb : Binds X.K fd ps ds) (hd : Vals dvs ds) (hx : Passes CX X E)
    (hdb : (x == ("__debug__" : Str)) = false := by decide) : PE X (.Call (.Name x p) [] [] pos) (tCall sp dvs E tNil) := by
  intro pins s σ H Q I h
  refine wpAny_Call_Name_kw (ld_glob I hg hm ?_ hdb)
  exact PySem.W.callWith_K0 I.kIn hk (run_fn (us := []) F hr hb hd hx I .nil h)

/-- o.m(e, ..) -/
theorem pe_meth {pl : Sem Bool} (he : PE X o ta) (c : Cls X.K C) (hm : Meth X.K C m f) (F : FnOk X.prog X.w X.K X.mg X.base CX k f fd ps sp) (hr : Room k X.A) (hb : Binds X.K fd ps ds) (hd : Vals dvs ds) (hx : Passes CX X E) (ha : PA X (e :: es) t)
    (hst : starEach (e :: es) X.env = (false, eval e X.env) :: starEach es X.env := by rfl) (hpl : (backTo pos (starEach es X.env)).any (·.1) = false := by rfl)
    (ht : eval (.Call (.Attribute o m apos) (e :: es) [] pos) X.env = (do
      let ov ← eval o X.env
      standAt apos.atName
      let (f, first) ← holding [ov] (getMethod ov m pl)
      callWith pos f first (backTo pos (starEach (e :: es) X.env)) (backToKw pos (keywordEach [] X.env))) := by rfl) :
    PE X (.Call (.Attribute o m apos) (e :: es) [] pos) (tMeth C m sp dvs E ta t) := by
  intro pins s σ H Q I h
  refine PySem.W.methodCall_KW (pl := pl) (thn (he pins s σ H _ I h) fun u s1 ⟨x, H1, I1, rx, a, dx, fs, ex, ea, l, q⟩ => ?_) ht
  subst ex
  obtain rfl : u = Value.ref a := rx
  refine getmeth_ok I1 ea c hm l ?_
  refine PySem.W.callWith_K (first := [.ref a]) (h₀ := X.base) I.ok.mod.kin hm.kp (thn (ha pos pins s1 σ H1 _ I1 q) fun us s2 ⟨vs, H2, I2, r, q2⟩ => ⟨I2.kIn, ?_⟩) hst hpl
  exact run_fn (us := .ref a :: us) (vs := .ref a :: vs) F hr hb hd hx I2 (.cons rfl r) q2
/-- o.m() -/
theorem pe_meth0 {pl : Sem Bool} (he : PE X o ta) (c : Cls X.K C) (hm : Meth X.K C m f) (F : FnOk X.prog X.w X.K X.mg X.base CX k f fd ps sp) (hr : Room k X.A) (hb : Binds X.K fd ps ds) (hd : Vals dvs ds) (hx : Passes CX X E)
    (ht : eval (.Call (.Attribute o m apos) [] [] pos) X.env = (do
      let ov ← eval o X.env
      standAt apos.atName
      let (f, first) ← holding [ov] (getMethod ov m pl)
      callWith pos f first (backTo pos (starEach [] X.env)) (backToKw pos (keywordEach [] X.env))) := by rfl) :
    PE X (.Call (.Attribute o m apos) [] [] pos) (tMeth C m sp dvs E ta tNil) := by
  intro pins s σ H Q I h
  refine PySem.W.methodCall_KW (pl := pl) (thn (he pins s σ H _ I h) fun u s1 ⟨x, H1, I1, rx, a, dx, fs, ex, ea, l, q⟩ => ?_) ht
  subst ex
  obtain rfl : u = Value.ref a := rx
  refine getmeth_ok I1 ea c hm l ?_
  exact PySem.W.callWith_K0 (first := [.ref a]) I1.kIn hm.kp (run_fn (us := [.ref a]) (vs := [.ref a]) F hr hb hd hx I1 (.cons rfl .nil) q)

/-- what a class must have to be made -/
structure Mk (K : PySem.W.Frag) (C f : Addr) : Prop where
  makes : PySem.W.makesIn K C = true
  init : PySem.W.findIn K (.ref C) "__init__" = some (some (.ref f))
  fn : PySem.W.isFn K (.ref f) = true
  kp : PySem.W.keepIn K (.ref C) = true

theorem run_make {pins : List (Addr × Obj)} {σ : St} {H : Hp} {s : Shared} {Q : VK} {us : List Value} {vs : List V} (M : Mk X.K C f) (F : FnOk X.prog X.w X.K X.mg X.base CX k f fd ps sp) (hr : Room (k + 1) X.A) (hb : Binds X.K fd ps ds) (hd : Vals dvs ds)
    (hx : Passes CX X E) (I : Inv X pins σ H s) (r : Vals vs us)
    (h : ∀ x dx, H x = none → H dx = none → dx ≠ x → sp (.ref x :: (vs ++ dvs)) (upd (upd H dx (.own x)) x (.ins C dx [])) (fun v H2 => v = .non ∧ Q (.ref x) H2) E) :
    wpAny (model X.prog X.w) X.A (call (.ref C) us) (EP X pins σ Q) X.xe s := by
  have hq := h (s.heap.objs.size + 1) s.heap.objs.size (I.hok.fresh (Nat.le_succ _)) (I.hok.fresh (Nat.le_refl _)) (Nat.ne_of_lt (Nat.lt_succ_self _))
  have I2 := Inv.made (C := C) I
  have r2 : Vals (V.ref (s.heap.objs.size + 1) :: (vs ++ dvs)) (Value.ref (s.heap.objs.size + 1) :: (us ++ ds)) := .cons rfl (r.append hd)
  have hl : (Value.ref (s.heap.objs.size + 1) :: us ++ ds).length = ps.length := by
    have e := r2.length
    rw [F.len _ _ _ _ hq] at e
    exact e.symm
  refine wpAny_call (make_map (f := f) I.kIn M.makes M.init (beq_iff_eq.mp M.fn) (codeAny_mono (F.run _ X.stack _ _ ⟨Value.ref (s.heap.objs.size + 1) :: us, []⟩ (Value.ref (s.heap.objs.size + 1) :: (us ++ ds)) _ _ E (hr.make C us [])
    (I2.env0.make C us []) (hb _ (Value.ref (s.heap.objs.size + 1) :: us) I2.kIn hl) r2 hq) fun r s' hq' => ?_))
  cases r with
  | error e => exact hx pins σ _ _ e s' I2 hq'
  | ok fl =>
    cases fl with
    | ret u =>
      obtain ⟨v, H', I3, rv, ev, q3⟩ := I2.after hq'
      subst ev
      exact ⟨rv, ⟨V.ref (s.heap.objs.size + 1), H', I3, rfl, q3⟩⟩
    | next => exact False.elim hq'
    | brk => exact False.elim hq'
    | cont => exact False.elim hq'
theorem pe_make (M : Mk X.K C f) (F : FnOk X.prog X.w X.K X.mg X.base CX k f fd ps sp) (hr : Room (k + 1) X.A) (hg : Gl X x) (hm : X.mg x = some (.ref C)) (hb : Binds X.K fd ps ds) (hd : Vals dvs ds) (hx : Passes CX X E)
    (ha : PA X (e :: es) t) (hdb : (x == ("__debug__" : Str)) = false := by decide) (he : starEach (e :: es) X.env = (false, eval e X.env) :: starEach es X.env := by rfl) (hpl : (backTo pos (starEach es X.env)).any (·.1) = false := by rfl) :
    PE X (.Call (.Name x p) (e :: es) [] pos) (tMake C sp dvs E t) := by
  intro pins s σ H Q I h
  refine wpAny_Call_Name_kw (ld_glob I hg hm ?_ hdb)
  refine PySem.W.callWith_K (h₀ := X.base) I.ok.mod.kin M.kp (thn (ha pos pins s σ H _ I h) fun us s1 ⟨vs, H1, I1, r, q⟩ => ⟨I1.kIn, ?_⟩) he hpl
  exact run_make M F hr hb hd hx I1 r q
end

/-! ### keywords -/
/-- the values of the keywords, from the left -/
def PK (X : Cx) (kws : List Keyword) (t : TA) : Prop :=
  ∀ (pos : Pos) (pins : List (Addr × Obj)) (s : Shared) (σ : St) (H : Hp) (Q : List V → Hp → Prop), Inv X pins σ H s → t σ H Q → wpAny (model X.prog X.w) X.A (evalAll ((backToKw pos (keywordEach kws X.env)).map (·.2))) (AP X pins σ Q) X.xe s
section
variable {X : Cx} {CX : CXT} {k : Nat} {f C : Addr} {fd : FuncData} {ps ks : List Str} {sp : Sp} {E : XK} {x m : Str} {p pos apos kpos : Pos} {e o : Expr} {es : List Expr} {kws : List Keyword} {te ta : TE} {t tk : TA} {nm : Option Str}

/-- how a call with keywords binds: g puts the positional values us and the keywords' values ws (names ks) in the parameters' order, defaults among them -/
structure KBinds (K : PySem.W.Frag) (fd : FuncData) (ps ks : List Str) (g : List Value → List Value → List Value) (gV : List V → List V → List V) : Prop where
  to : ∀ (s : Shared) (us ws : List Value), K.In s.heap → (g us ws).length = ps.length → BindsTo s fd ⟨us, ks.zip ws⟩ (ps.zip (g us ws))
  rel : ∀ {vs : List V} {us : List Value} {zs : List V} {ws : List Value}, Vals vs us → Vals zs ws → Vals (gV vs zs) (g us ws)
def tCallK (sp : Sp) (gV : List V → List V → List V) (E : XK) (t tk : TA) : TE := fun σ H Q => t σ H fun vs H1 => tk σ H1 fun zs H2 => sp (gV vs zs) H2 Q E
variable {g : List Value → List Value → List Value} {gV : List V → List V → List V}
end

/-! ### a def's body keeps its promise -/
/-- names: the parameters first -/
structure FnScope (N P : List Str) (sc : Scope) : Prop where
  kind : sc.kind = .function
  co : sc.isCoroutine = false
  gen : sc.isGenerator = false
  nd : N.Nodup
  pre : N.take P.length = P
  par : ∀ x ∈ P, sc.names.lookup x = some .local ∨ sc.names.lookup x = some .cell
  nofree : ∀ y ∈ sc.names, y.2 ≠ .free

theorem bindL_out {kindOf : Str → Option NameKind} {x : Str} : ∀ {binds : List (Str × Value)} {m : Str → Option Value}, (∀ v, (x, v) ∉ binds) → bindL kindOf binds m x = m x
  | [], _, _ => rfl
  | (n, v) :: r, m, h => by
    unfold bindL
    rw [bindL_out fun w hw => h w (List.mem_cons_of_mem _ hw)]
    split
    · have : x ≠ n := by rintro rfl; exact h v List.mem_cons_self
      simp [this]
    · rfl
theorem bindC_out {kindOf : Str → Option NameKind} {x : Str} : ∀ {binds : List (Str × Value)} {m : Str → Option Value}, (∀ v, (x, v) ∉ binds) → bindC kindOf binds m x = m x
  | [], _, _ => rfl
  | (n, v) :: r, m, h => by
    unfold bindC
    rw [bindC_out fun w hw => h w (List.mem_cons_of_mem _ hw)]
    split
    · rfl
    · have : x ≠ n := by rintro rfl; exact h v List.mem_cons_self
      simp [this]
theorem bindL_get {kindOf : Str → Option NameKind} {x : Str} {v : Value} : ∀ {P : List Str} {vs : List Value} {i : Nat} {m : Str → Option Value}, P.Nodup → P[i]? = some x → vs[i]? = some v → kindOf x = some .local →
    bindL kindOf (P.zip vs) m x = some v
  | [], _, _, _, _, h, _, _ => by simp at h
  | _ :: _, [], _, _, _, _, h, _ => by simp at h
  | p :: P, w :: vs, 0, m, nd, h1, h2, hk => by
    simp at h1 h2; subst h1; subst h2
    show bindL kindOf ((p, w) :: P.zip vs) m p = _
    unfold bindL
    rw [bindL_out fun v hv => (List.nodup_cons.mp nd).1 (List.of_mem_zip hv).1, if_pos hk]
    simp
  | p :: P, w :: vs, i + 1, m, nd, h1, h2, hk => by
    show bindL kindOf ((p, w) :: P.zip vs) m x = _
    unfold bindL
    exact bindL_get (i := i) (List.nodup_cons.mp nd).2 (by simpa using h1) (by simpa using h2) hk
theorem bindC_get {kindOf : Str → Option NameKind} {x : Str} {v : Value} : ∀ {P : List Str} {vs : List Value} {i : Nat} {m : Str → Option Value}, P.Nodup → P[i]? = some x → vs[i]? = some v → kindOf x ≠ some .local →
    bindC kindOf (P.zip vs) m x = some v
  | [], _, _, _, _, h, _, _ => by simp at h
  | _ :: _, [], _, _, _, _, h, _ => by simp at h
  | p :: P, w :: vs, 0, m, nd, h1, h2, hk => by
    simp at h1 h2; subst h1; subst h2
    show bindC kindOf ((p, w) :: P.zip vs) m p = _
    unfold bindC
    rw [bindC_out fun v hv => (List.nodup_cons.mp nd).1 (List.of_mem_zip hv).1, if_neg hk]
    simp
  | p :: P, w :: vs, i + 1, m, nd, h1, h2, hk => by
    show bindC kindOf ((p, w) :: P.zip vs) m x = _
    unfold bindC
    exact bindC_get (i := i) (List.nodup_cons.mp nd).2 (by simpa using h1) (by simpa using h2) hk

/-- the names' values at the entry -/
def start (N : List Str) (vs : List V) : St := vs.map some ++ List.replicate (N.length - vs.length) none

/-- the context of a def's body, at its entry; an exception leaves the frame, then lies as CX says -/
def cxOf (CX : CXT) (P : Program) (w : World) (K : PySem.W.Frag) (mg : Str → Option Value) (base : Heap) (N : List Str) (qual : Str) (scope : Scope) (f : Addr) (cd : Value) (A : Around) (outer : List Env) (s : Shared) (H : Hp) (E : XK) : Cx where
  prog := P
  w := w
  K := K
  mg := mg
  base := base
  A := A.deeper (envOfC qual scope s.heap.objs.size f cd)
  N := N
  s₀ := s
  H₀ := H
  env := envOfC qual scope s.heap.objs.size f cd
  outer := outer
  stack := envOfC qual scope s.heap.objs.size f cd :: outer
  ex := []
  calm := true
  fn := fun _ => true
  pn := []
  xe := fun e s' => wpAny (model P w) (A.deeper (envOfC qual scope s.heap.objs.size f cd)) (leaving (envOfC qual scope s.heap.objs.size f cd) e) (fun _ s'' => CX outer H s E e s'') (fun e' s'' => CX outer H s E e' s'') s'

theorem cell_has {sc : Scope} {n : Nat} {x : Str} (h : sc.names.lookup x = some .cell) : ∃ c, (cellsFrom n sc.names []).lookup x = some c := by
  have q := PySem.W.cellsFrom_some sc.names n [] (.inl h)
  exact Option.isSome_iff_exists.mp q

theorem inv_start {CX : CXT} {P : Program} {w : World} {K : PySem.W.Frag} {mg : Str → Option Value} {base : Heap} {N ps : List Str} {qual : Str} {scope : Scope} {f : Addr} {cd : Value} {A : Around} {outer : List Env} {s s1 : Shared} {H : Hp} {E : XK} {us : List Value} {vs : List V}
    (S : FnScope N ps scope) (hd : A.handled = none) (e0 : Env0 P w K mg base A outer s H) (hl : vs.length = ps.length) (r : Vals vs us)
    (x : InCallC s s.heap.objs.size (bindL (envOfC qual scope s.heap.objs.size f cd).kindOf (ps.zip us) fun _ => none) (cellsFrom (s.heap.objs.size + 1) scope.names []) (bindC (envOfC qual scope s.heap.objs.size f cd).kindOf (ps.zip us) fun _ => none) s1) :
    Inv (cxOf CX P w K mg base N qual scope f cd A outer s H E) [] (start N vs) H s1 := by
  have hpl : ps.length ≤ N.length := by have := congrArg List.length S.pre; rw [List.length_take] at this; omega
  obtain ⟨h1, tk, rfl, hk⟩ := x.done
  have noA : ∀ b : Addr, b ∉ (cxOf CX P w K mg base N qual scope f cd A outer s H E).ex := fun b z => absurd (show b ∈ ([] : List Addr) from z) (by simp)
  refine ⟨⟨e0.mod, S.kind, rfl, rfl, Nat.le_refl _, fun y z c h1 h2 => ?_, fun y hy => ?_, fun y c _ h => ?_, fun _ => hd, Around.frames_deeper e0.frames, .inr ⟨rfl, rfl⟩, fun b z => absurd z (noA b), e0.bs, e0.bsz, fun b _ _ => noA b, fun b z => absurd z (noA b), e0.funs, e0.frf⟩,
    rfl, e0.bare, Un.kept hk, ⟨_, x.toInCall.ns, fun i y v h1 h2 h3 => ?_⟩, fun y c h => ⟨_, x.cell y c h⟩, e0.hok.fresh (Nat.le_refl _), fun y c h => ?_, fun p hp => absurd (show p ∈ ([] : List (Addr × Obj)) from hp) (by simp), e0.hok.kept hk, ?_⟩
  · exact name_of_addr x.apart (PySem.mem_of_lookup h1) (PySem.mem_of_lookup h2)
  · have hy : scope.names.lookup y = some .cell ∨ scope.names.lookup y = some .free := hy
    rcases hy with hy | hy
    · exact cell_has hy
    · exact absurd rfl (S.nofree _ (PySem.mem_of_lookup hy))
  · exact Nat.le_of_lt (x.above y c (PySem.mem_of_lookup h))
  · have hi : i < vs.length := by
      unfold start at h2
      by_cases hi : i < vs.length
      · exact hi
      · rw [List.getElem?_append_right (by simpa using hi)] at h2
        rw [List.getElem?_replicate] at h2
        split at h2 <;> cases h2
    have ha : vs[i]? = some v := by
      unfold start at h2
      rw [List.getElem?_append_left (by simpa using hi), List.getElem?_map] at h2
      cases e : vs[i]? with
      | none => rw [e] at h2; cases h2
      | some a => rw [e] at h2; cases h2; rfl
    obtain ⟨u, hu, rv⟩ := r.get ha
    have hp : ps[i]? = some y := by
      rw [← S.pre, List.getElem?_take_of_lt (by omega)]; exact h1
    have ndP : ps.Nodup := by rw [← S.pre]; exact S.nd.sublist (List.take_sublist _ _)
    refine ⟨u, rv, ?_⟩
    rcases S.par y (List.mem_of_getElem? hp) with k | k
    · exact .inl ⟨k, bindL_get ndP hp hu k⟩
    · obtain ⟨c, e⟩ := cell_has (n := s.heap.objs.size + 1) k
      refine .inr ⟨.inl k, c, e, ?_⟩
      have q := x.cell y c e
      rw [bindC_get ndP hp hu (by show scope.names.lookup y ≠ _; rw [k]; decide)] at q
      exact q
  · exact e0.hok.fresh (Nat.le_of_lt (x.above y c (PySem.mem_of_lookup h)))
  · unfold start
    show _ = N.length
    rw [List.length_append, List.length_map, List.length_replicate]
    omega

/-- THE RULE: a def (or a method) of the text, by its body. The body's reading t is chosen for each entry; it is run at the parameters' values -/
theorem fn_of {CX : CXT} {P : Program} {w : World} {K : PySem.W.Frag} {mg : Str → Option Value} {base : Heap} {k : Nat} {f : Addr} {name qual : Str} {params : Arguments} {body : List Stmt} {scope : Scope} {dV kV doc pm cdv ct oc : Value} {an od : Option Addr}
    {osl : Array (Option Value)} {N ps : List Str} {sp : Sp} (lk : K.lookup f = some ⟨oc, od, .func (PySem.W.fnOf name qual params body scope dV kV doc pm an cdv ct), osl⟩) (hcd : PySem.W.codeIn K cdv qual = true) (S : FnScope N ps scope)
    (len : ∀ vs H Q E, sp vs H Q E → vs.length = ps.length)
    (hbody : ∀ (A : Around) (outer : List Env) (s : Shared) (H : Hp) (vs : List V) (Q : VK) (E : XK), Room k (A.deeper (envOfC qual scope s.heap.objs.size f cdv)) → sp vs H Q E →
      ∃ t, PSs (cxOf CX P w K mg base N qual scope f cdv A outer s H E) body t ∧ t { nx := fun _ H' => Q .non H', rt := Q } (start N vs) H) :
    FnOk P w K mg base CX (k + 1) f (PySem.W.fnOf name qual params body scope dV kV doc pm an cdv ct) ps sp := by
  refine ⟨len, fun A outer s H args us vs Q E hr e0 hb r hsp => ?_⟩
  have hl := len _ _ _ _ hsp
  have KX : K.In s.heap := e0.mod.kin.keeps fun b o e => (e0.bs b o e).1
  have lim : s.heap.NoLimit := e0.mod.nolimit.keeps fun b o e => (e0.bs b o e).1
  have hkind : ∀ y ∈ ps.zip us, scope.names.lookup y.1 = some .local ∨ (scope.names.lookup y.1 = some .cell ∧ ((cellsFrom (s.heap.objs.size + 1) scope.names []).lookup y.1).isSome = true) := fun ⟨n, v⟩ hy => by
    rcases S.par n (List.of_mem_zip hy).1 with q | q
    · exact .inl q
    · exact .inr ⟨q, PySem.W.cellsFrom_some _ _ _ (.inl q)⟩
  refine codeAny_call_function hr.depth (KX _ _ lk) rfl S.co S.gen rfl (PySem.W.codeRec_of KX hcd) (hb _ _ _ _ ?_)
  refine wpAny_newFunctionEnv_cells S.kind hkind fun env he s1 x => ?_
  subst he
  refine ⟨lim.keeps x.toInCall.keep, codeAny_func ?_⟩
  obtain ⟨t, ht, hq⟩ := hbody A outer s H vs Q E (hr.deeper _) hsp
  have I : Inv (cxOf CX P w K mg base N qual scope f cdv A outer s H E) [] (start N vs) H s1 := inv_start S hr.hd e0 hl r x
  refine wpAny_mono (ht [] s1 (start N vs) H _ I hq) (fun fl s' hs => ?_) fun e s' hs => hs
  have fin : ∀ {σ' : St} {H' : Hp} {v : V} {u : Value}, Inv (cxOf CX P w K mg base N qual scope f cdv A outer s H E) [] σ' H' s' → RelV v u → Q v H' → CE outer P w H s Q u s' :=
    fun {σ' H' v u} J rv q => ⟨v, H', J.os, J.bare, J.base, J.hok, rv, q⟩
  cases fl with
  | ret u =>
    obtain ⟨v, σ', H', J, rv, q⟩ := hs
    exact fin J rv q
  | next =>
    obtain ⟨σ', H', J, q⟩ := hs
    exact fin (v := V.non) (u := Value.none) J rfl q
  | brk =>
    obtain ⟨_, _, _, q⟩ := hs
    exact False.elim q
  | cont =>
    obtain ⟨_, _, _, q⟩ := hs
    exact False.elim q
end L2

namespace L2
open PySem PySem.Spec PyProof.Rows
section
variable {X : Cx} {x : Str} {p pos : Pos} {e : Expr} {es : List Expr} {t : TA} {id T : String} {r : List V → Hp → VK → Prop}

def tCB (r : List V → Hp → VK → Prop) (t : TA) : TE := fun σ H Q => t σ H fun vs H1 => r vs H1 Q
/-- f(e, ..), f a built-in function -/
theorem pe_callB (hc : CallR X (.builtin id) r) (hg : Gl X x) (hm : X.mg x = none) (hv : bootBuiltins x = some (.builtin id)) (ha : PA X (e :: es) t) (hn : x ≠ "__name__" := by decide) (hdb : (x == ("__debug__" : Str)) = false := by decide)
    (he : starEach (e :: es) X.env = (false, eval e X.env) :: starEach es X.env := by rfl) (hpl : (backTo pos (starEach es X.env)).any (·.1) = false := by rfl) : PE X (.Call (.Name x p) (e :: es) [] pos) (tCB r t) := by
  intro pins s σ H Q I h
  refine wpAny_Call_Name_kw (ld_blt I hg hm hv ?_ hn hdb)
  exact PyProof.Rows.callWith_builtin1 (thn (ha pos pins s σ H _ I h) fun us s1 ⟨vs, H1, I1, r1, q1⟩ => hc pins s1 σ H1 vs us Q I1 r1 q1) he hpl
/-- T(e, ..), T a built-in type -/
theorem pe_callTy (hc : CallR X (.type T) r) (hg : Gl X x) (hm : X.mg x = none) (hv : bootBuiltins x = some (.type T)) (ha : PA X (e :: es) t) (hn : x ≠ "__name__" := by decide) (hdb : (x == ("__debug__" : Str)) = false := by decide)
    (he : starEach (e :: es) X.env = (false, eval e X.env) :: starEach es X.env := by rfl) (hpl : (backTo pos (starEach es X.env)).any (·.1) = false := by rfl) : PE X (.Call (.Name x p) (e :: es) [] pos) (tCB r t) := by
  intro pins s σ H Q I h
  refine wpAny_Call_Name_kw (ld_blt I hg hm hv ?_ hn hdb)
  exact PyProof.Rows.callWith_type1 (thn (ha pos pins s σ H _ I h) fun us s1 ⟨vs, H1, I1, r1, q1⟩ => hc pins s1 σ H1 vs us Q I1 r1 q1) he hpl
end
end L2

namespace HT
open PySem PyProof.Rows

/-- t < u of tuples of ints -/
def lexLt : List Int → List Int → Bool
  | [], [] => false
  | [], _ :: _ => true
  | _ :: _, [] => false
  | x :: xs, y :: ys => if x = y then lexLt xs ys else decide (x < y)


section
open PySem.SeqAt
open PySem.AutoSeq1 (wpAny_loadPart')
open PySem.MeetsSeq PySem.MeetsSeq2 PySem.MeetsSeq3

end

section
variable {prog : Program} {w : World} {A : Around} {E : Value → Shared → Prop} {s : Shared}



/-! ### t[a:b], not the whole -/
/-- a slice's bound as a place among n (d where it is left out) -/
def sIx (n d : Nat) : Option Int → Nat
  | none => d
  | some v => if v < 0 then (v + (n : Int)).toNat else min v.toNat n
theorem sIx_none (n d : Nat) : sIx n d none = d := rfl
theorem sIx_nat (n d k : Nat) : sIx n d (some (k : Int)) = min k n := by
  show (if (k : Int) < 0 then ((k : Int) + (n : Int)).toNat else min (k : Int).toNat n) = min k n
  rw [if_neg (by omega), Int.toNat_natCast]

end
end HT

namespace L2
open PySem PySem.Spec PyProof.Rows

/-! ### the parts of a slice -/
abbrev TO := St → Hp → (Option Int → Hp → Prop) → Prop
/-- a slice's part (left out, or an int) -/
def PO (X : Cx) (e : Option Expr) (t : TO) : Prop :=
  ∀ (pins : List (Addr × Obj)) (s : Shared) (σ : St) (H : Hp) (Q : Option Int → Hp → Prop), Inv X pins σ H s → t σ H Q →
    wpAny (model X.prog X.w) X.A (evalPart e X.env) (fun u s' => ∃ o H', Inv X pins σ H' s' ∧ IsPart u o ∧ Q o H') X.xe s
def tNoPart : TO := fun _ H Q => Q none H
def tPart (t : TE) : TO := fun σ H Q => t σ H fun x H1 => ∃ i, x = .int i ∧ Q (some i) H1


section
variable {X : Cx} {e : Expr} {te : TE} {lo hi : Option Expr} {tl th : TO} {pos p2 : Pos}

theorem po_none : PO X none tNoPart := by
  intro pins s σ H Q I h
  rw [evalPart_none]
  exact wpAny_pure ⟨none, H, I, .none, h⟩
theorem po_some (h : PE X e te) : PO X (some e) (tPart te) := by
  intro pins s σ H Q I hw
  rw [evalPart_some]
  refine thn (h pins s σ H _ I hw) fun u s1 ⟨x, H1, I1, r1, q1⟩ => ?_
  obtain ⟨i, rfl, q⟩ := q1
  obtain ⟨t, rfl⟩ := r1
  exact ⟨some i, H1, I1, .int i t, q⟩

/-- what a slice of a value is, by values: the slice object stands at sl -/
def SlR (X : Cx) (r : V → Option Int → Option Int → Hp → VK → Prop) : Prop :=
  ∀ (pins : List (Addr × Obj)) (s : Shared) (σ : St) (H : Hp) (x : V) (v vl vu : Value) (lo hi : Option Int) (sl : Addr) (Q : VK), Inv X pins σ H s → RelV x v → s.heap.IsSliceOf sl vl vu .none → IsPart vl lo → IsPart vu hi → r x lo hi H Q →
    ∃ T id, typeLookup (.type T) "__getitem__" = pure (some (.builtin id)) ∧ s.TypeIs v T ∧ wpAny (model X.prog X.w) X.A (getItem v (.ref sl)) (EP X pins σ Q) X.xe s
theorem SlR.or {r r' : V → Option Int → Option Int → Hp → VK → Prop} (h : SlR X r) (h' : SlR X r') : SlR X (fun x lo hi H Q => r x lo hi H Q ∨ r' x lo hi H Q) := by
  intro pins s σ H x v vl vu lo hi sl Q I rx hs pl pu q
  rcases q with q | q
  · exact h pins s σ H x v vl vu lo hi sl Q I rx hs pl pu q
  · exact h' pins s σ H x v vl vu lo hi sl Q I rx hs pl pu q
def tSl (r : V → Option Int → Option Int → Hp → VK → Prop) (te : TE) (tl th : TO) : TE := fun σ H Q => te σ H fun x H1 => tl σ H1 fun l H2 => th σ H2 fun u H3 => r x l u H3 Q
/-- a[lo:hi], any a -/
theorem pe_slice {r : V → Option Int → Option Int → Hp → VK → Prop} (hr : SlR X r) (he : PE X e te) (hl : PO X lo tl) (hu : PO X hi th) : PE X (.Subscript e (.Slice lo hi none p2) pos) (tSl r te tl th) := by
  intro pins s σ H Q I h
  refine Subscript_ (thn (he pins s σ H _ I h) fun v s1 ⟨x, H1, I1, r1, q1⟩ => ?_)
  refine wpAny_Slice (thn (hl pins s1 σ H1 _ I1 q1) fun vl s2 ⟨l, H2, I2, pl, q2⟩ => thn (hu pins s2 σ H2 _ I2 q2) fun vu s3 ⟨u, H3, I3, pu, q3⟩ => ?_)
  rw [evalPart_none]
  refine wpAny_pure ?_
  have I4 : Inv X pins σ H3 { s3 with heap := s3.heap.push { cls := .type "slice", data := .fields #[vl, vu, .none] } } := I3.kept (t' := s3.toks) fun b ob q => Heap.get?_push_of_some _ q
  obtain ⟨T, id, hT, ht, hg⟩ := hr pins { s3 with heap := s3.heap.push { cls := .type "slice", data := .fields #[vl, vu, .none] } } σ H3 x v vl vu l u s3.heap.objs.size Q I4 r1 (Heap.IsSliceOf.new ..) pl pu q3
  show wpAny (model X.prog X.w) X.A (subscriptTail e (.Slice lo hi none p2) v (.ref s3.heap.objs.size)) (EP X pins σ Q) X.xe { s3 with heap := s3.heap.push { cls := .type "slice", data := .fields #[vl, vu, .none] } }
  exact tail_any (ops := [.ref s3.heap.objs.size, v]) ht hT hg (by with_unfolding_all rfl)

/-- the items of xs[lo:hi] -/
def cutV (xs : List V) (lo hi : Option Int) : List V := (xs.drop (HT.sIx xs.length 0 lo)).take (HT.sIx xs.length xs.length hi - HT.sIx xs.length 0 lo)
theorem cutV_length (xs : List V) (lo hi : Option Int) : (cutV xs lo hi).length ≤ xs.length := by
  unfold cutV
  rw [List.length_take, List.length_drop]
  omega
/-- t[lo:hi], not the whole of it (the whole would be t itself) -/
def rSlT (K : PySem.W.Frag) : V → Option Int → Option Int → Hp → VK → Prop := fun x lo hi H Q => ∃ a xs, x = .ref a ∧ SqT K H a xs ∧
  ¬ (HT.sIx xs.length 0 lo = 0 ∧ HT.sIx xs.length xs.length hi = xs.length) ∧ ∀ p, H p = none → Q (.ref p) (upd H p (.tup (cutV xs lo hi)))

/-! ### t < u, t + u -/
def rLtT (K : PySem.W.Frag) : R2 := fun x y H Q => ∃ a b ns ms, x = .ref a ∧ y = .ref b ∧ SqT K H a (ns.map V.int) ∧ SqT K H b (ms.map V.int) ∧ Q (.bl (HT.lexLt ns ms)) H
/-- t + u, t not empty: u empty gives t itself -/
def rCatT (K : PySem.W.Frag) : R2 := fun x y H Q => ∃ a b xs ys, x = .ref a ∧ y = .ref b ∧ SqT K H a xs ∧ SqT K H b ys ∧ xs ≠ [] ∧ xs.length + ys.length ≤ sizeLine ∧
  (ys = [] → Q (.ref a) H) ∧ (ys ≠ [] → ∀ p, H p = none → Q (.ref p) (upd H p (.tup (xs ++ ys))))
end
end L2

namespace L2
open PySem PySem.Spec PyProof.Rows

/-! ### places -/
/-- the place that an index of any sign means -/
def ixN (n : Nat) (i : Int) : Option Nat := if 0 ≤ i then (if i < n then some i.toNat else none) else if -(n : Int) ≤ i then some (i + n).toNat else none
def atI {α : Type} (xs : List α) (i : Int) : Option α := (ixN xs.length i).bind fun j => xs[j]?
theorem ixN_seq {n : Nat} {i : Int} {j : Nat} (h : ixN n i = some j) : seqIndex? i n = some j ∧ j < n ∧ -(n : Int) ≤ i ∧ i < n := by
  unfold ixN at h
  by_cases h0 : 0 ≤ i
  · rw [if_pos h0] at h
    by_cases h1 : i < n
    · rw [if_pos h1] at h
      have e : i.toNat = j := Option.some.inj h
      exact ⟨by rw [seqIndex_of h0 h1, e], by omega, by omega, h1⟩
    · rw [if_neg h1] at h; cases h
  · rw [if_neg h0] at h
    by_cases h1 : -(n : Int) ≤ i
    · rw [if_pos h1] at h
      have e : (i + n).toNat = j := Option.some.inj h
      exact ⟨by rw [seqIndex_neg (by omega) h1, e], by omega, h1, by omega⟩
    · rw [if_neg h1] at h; cases h
theorem atI_get {α : Type} {xs : List α} {i : Int} {v : α} (h : atI xs i = some v) : ∃ j, seqIndex? i xs.length = some j ∧ xs[j]? = some v ∧ j < xs.length ∧ -(xs.length : Int) ≤ i ∧ i < xs.length := by
  unfold atI at h
  cases e : ixN xs.length i with
  | none => rw [e] at h; cases h
  | some j =>
    rw [e] at h
    obtain ⟨h1, h2, h3, h4⟩ := ixN_seq e
    exact ⟨j, h1, h, h2, h3, h4⟩
theorem atI_nat {α : Type} {xs : List α} {j : Nat} {v : α} (h : xs[j]? = some v) : atI xs (j : Int) = some v := by
  have hj : j < xs.length := (List.getElem?_eq_some_iff.mp h).1
  have e : ixN xs.length (j : Int) = some j := by
    unfold ixN
    rw [if_pos (by omega), if_pos (by omega)]; simp
  unfold atI; rw [e]; exact h

/-! ### what may be subscripted -/
/-- what stands as an index of a plain subscript -/
def PlainIx (b : Expr) : Prop := ∀ o i, subscripted b false o i = operate [o, i] (getItem o i)
/-- a subscript by values -/
def IxR (X : Cx) (r : R2) : Prop :=
  ∀ (value slice : Expr) (pins : List (Addr × Obj)) (s : Shared) (σ : St) (H : Hp) (x y : V) (v u : Value) (Q : VK), Inv X pins σ H s → RelV x v → RelV y u → r x y H Q →
    subscripted slice false v u = operate [v, u] (getItem v u) → wpAny (model X.prog X.w) X.A (subscriptTail value slice v u) (EP X pins σ Q) X.xe s
/-- a call of a builtin's method by values: the receiver, the arguments -/
def MtR (X : Cx) (id : String) (r : V → List V → Hp → VK → Prop) : Prop :=
  ∀ (pins : List (Addr × Obj)) (s : Shared) (σ : St) (H : Hp) (x : V) (xs : List V) (v : Value) (us : List Value) (Q : VK), Inv X pins σ H s → RelV x v → Vals xs us → r x xs H Q →
    wpAny (model X.prog X.w) X.A (call (.builtin id) (v :: us)) (EP X pins σ Q) X.xe s
section
variable {X : Cx} {a b : Expr} {ta tb : TE} {pos : Pos}
theorem IxR.or {r r' : R2} (h : IxR X r) (h' : IxR X r') : IxR X (fun x y H Q => r x y H Q ∨ r' x y H Q) := by
  intro value slice pins s σ H x y v u Q I rx ry q hs
  rcases q with q | q
  · exact h value slice pins s σ H x y v u Q I rx ry q hs
  · exact h' value slice pins s σ H x y v u Q I rx ry q hs
theorem MtR.or {id : String} {r r' : V → List V → Hp → VK → Prop} (h : MtR X id r) (h' : MtR X id r') : MtR X id (fun x xs H Q => r x xs H Q ∨ r' x xs H Q) := by
  intro pins s σ H x xs v us Q I rx rs q
  rcases q with q | q
  · exact h pins s σ H x xs v us Q I rx rs q
  · exact h' pins s σ H x xs v us Q I rx rs q
/-- a[b] -/
theorem pe_ix {r : R2} (hr : IxR X r) (ha : PE X a ta) (hb : PE X b tb) (hs : PlainIx b) : PE X (.Subscript a b pos) (tOp r ta tb) := by
  intro pins s σ H Q I h
  exact Subscript_ (binT ha hb I h fun v u s2 x y H2 I2 rx ry q => hr a b pins s2 σ H2 x y v u Q I2 rx ry q (hs _ _))

def rIxL (K : PySem.W.Frag) : R2 := fun x y H Q => ∃ p xs i v, x = .ref p ∧ y = .int i ∧ SqL K H p xs ∧ atI xs i = some v ∧ Q v H
def rIxT (K : PySem.W.Frag) : R2 := fun x y H Q => ∃ p xs i v, x = .ref p ∧ y = .int i ∧ SqT K H p xs ∧ atI xs i = some v ∧ Q v H
def rIxS : R2 := fun x y H Q => ∃ z i c, x = .str z ∧ y = .int i ∧ z.length ≤ sizeLine ∧ atI z.cps.toList i = some c ∧ Q (.str ⟨#[c]⟩) H
theorem ix_list : IxR X (rIxL X.K) := by
  intro value slice pins s σ H x y v u Q I rx ry h hs
  obtain ⟨p, xs, i, z, rfl, rfl, hq, he, q⟩ := h
  cases rx
  obtain ⟨t, rfl⟩ := ry
  obtain ⟨its, r, pl, hz⟩ := I.list hq
  obtain ⟨j, h1, h2, h3, h4, h5⟩ := atI_get he
  obtain ⟨w, ew, rw'⟩ := r.get h2
  have hl := r.length
  have hn := line63
  have fin : EP X pins σ Q w s := ⟨z, H, I, rw', q⟩
  by_cases h0 : 0 ≤ i
  · have hj : i.toNat = j := by
      rw [seqIndex_of h0 h5] at h1
      exact Option.some.inj h1
    exact item_listR pl.isList h0 (by omega) (by rw [hj]; simpa using ew) fin hs
  · have hj : (i + (its.toArray.size : Int)).toNat = j := by
      rw [seqIndex_neg (by omega) h4] at h1
      rw [List.size_toArray, ← hl]
      exact Option.some.inj h1
    exact subscriptTail_builtinR (x := w) pl.isList.typeIs slot_list_getitem.lookup
      (wpAny_getItem_list_neg (Q := fun r s' => r = w ∧ EP X pins σ Q r s') pl.isList (by omega) (by rw [List.size_toArray] <;> omega) (by omega) (by rw [hj]; simpa using ew) ⟨rfl, fin⟩) hs
theorem ix_tup : IxR X (rIxT X.K) := by
  intro value slice pins s σ H x y v u Q I rx ry h hs
  obtain ⟨p, xs, i, z, rfl, rfl, hq, he, q⟩ := h
  cases rx
  obtain ⟨t, rfl⟩ := ry
  obtain ⟨its, r, pl, hz⟩ := I.tuple hq
  obtain ⟨j, h1, h2, h3, h4, h5⟩ := atI_get he
  obtain ⟨w, ew, rw'⟩ := r.get h2
  have hl := r.length
  have hn := line63
  have fin : EP X pins σ Q w s := ⟨z, H, I, rw', q⟩
  exact subscriptTail_builtinR (x := w) pl.typeIs slot_tuple_getitem.lookup
    (getItem_tuple (j := j) (Q := fun r s' => r = w ∧ EP X pins σ Q r s') pl (by omega) (by omega) (by rw [List.size_toArray, ← hl]; exact h1) (by simpa using ew) ⟨rfl, fin⟩) hs
theorem ix_str : IxR X rIxS := by
  intro value slice pins s σ H x y v u Q I rx ry h hs
  obtain ⟨z, i, c, rfl, rfl, hz, he, q⟩ := h
  obtain ⟨t, rfl⟩ := rx
  obtain ⟨t', rfl⟩ := ry
  obtain ⟨j, h1, h2, h3, h4, h5⟩ := atI_get he
  have hl : z.cps.toList.length = z.length := by simp [Str.length]
  rw [hl] at h1 h4 h5
  have hn := line63
  exact tail_any (typeIs_str s z t) slot_str_getitem.lookup (getItem_str (c := c) (by
    have e1 : decide (i < -(2 ^ 63 : Int)) = false := decide_eq_false (by omega)
    have e2 : decide (i ≥ 2 ^ 63) = false := decide_eq_false (by omega)
    rw [e1, e2, Bool.or_false]) (by rw [h1]; simpa using h2) ⟨.str ⟨#[c]⟩, H, I.tok _, ⟨_, rfl⟩, q⟩) hs
/-- list, tuple or str -/
def rIx (K : PySem.W.Frag) : R2 := fun x y H Q => rIxL K x y H Q ∨ rIxT K x y H Q ∨ rIxS x y H Q

/-! ### xs[i] = v, any sign -/
/-- the list's object behind a store -/
theorem mapSeq_set (its : List Value) (n j : Nat) (u : Value) : Obj.mapSeq (·.setIfInBounds j u) { cls := .type "list", data := .seq its.toArray n } = { cls := .type "list", data := .seq (its.set j u).toArray n } := by
  simp [Obj.mapSeq]
theorem Inv.lst {pins : List (Addr × Obj)} {σ : St} {H : Hp} {s : Shared} {p : Addr} {xs : List V} (I : Inv X pins σ H s) (h : H p = some (.lst xs)) :
    ∃ (its : List Value) (n : Nat), Vals xs its ∧ s.heap.get? p = some { cls := .type "list", data := .seq its.toArray n } ∧ xs.length ≤ sizeLine := by
  obtain ⟨z, its, n, r, e⟩ := I.hok p _ h
  exact ⟨its, n, r, e, z⟩
/-- the list at p is written by an update of its object -/
theorem Inv.lstUpd {pins : List (Addr × Obj)} {σ : St} {H : Hp} {s : Shared} {p : Addr} {xs ys : List V} {its its' : List Value} {n n' : Nat} {f : Obj → Obj} (I : Inv X pins σ H s) (h : H p = some (.lst xs))
    (ho : s.heap.get? p = some { cls := .type "list", data := .seq its.toArray n }) (hf : f { cls := .type "list", data := .seq its.toArray n } = { cls := .type "list", data := .seq its'.toArray n' }) (r : Vals ys its') (hz : ys.length ≤ sizeLine) (t : Nat) :
    Inv X pins σ (upd H p (.lst ys)) { s with heap := s.heap.update p f, toks := t } := by
  have e : (s.heap.update p f).get? p = some { cls := .type "list", data := .seq its'.toArray n' } := by
    rw [Heap.get?_update_self f ho (by rw [hf] <;> rfl), hf]
  refine I.write (x := p) (e := p) (by rw [h]; trivial) (.inl rfl) (fun b u hb q => (Heap.get?_update_other _ _ (Ne.symm hb)).trans q) ⟨_, e⟩ ?_
  exact ⟨hz, its', n', r, e⟩
def rSetL : V → V → V → Hp → (Hp → Prop) → Prop := fun o i v H Q => ∃ p xs k j, o = .ref p ∧ i = .int k ∧ H p = some (.lst xs) ∧ ixN xs.length k = some j ∧ Q (upd H p (.lst (xs.set j v)))
theorem set_list : PSet X rSetL := by
  intro pins s σ H o i v ov iv u Q I ro ri rv h
  obtain ⟨p, xs, k, j, rfl, rfl, hp, hj, q⟩ := h
  cases ro
  obtain ⟨t, rfl⟩ := ri
  obtain ⟨its, n, r, ho, hz⟩ := I.lst hp
  obtain ⟨h1, h2, h3, h4⟩ := ixN_seq hj
  have hl := r.length
  have hn := line63
  have I' : Inv X pins σ (upd H p (.lst (xs.set j v))) { s with heap := s.heap.update p (Obj.mapSeq (·.setIfInBounds j u)) } :=
    I.lstUpd hp ho (mapSeq_set its n j u) (r.set rv j) (by rw [List.length_set]; exact hz) s.toks
  by_cases h0 : 0 ≤ k
  · have hk : k.toNat = j := by
      rw [seqIndex_of h0 h4] at h1
      exact Option.some.inj h1
    exact PySem.W.ki_setAt ho h0 (by omega) (by rw [List.size_toArray, ← hl]; exact h4) (by rw [hk]; exact ⟨_, I', q⟩)
  · have hk : (k + (its.toArray.size : Int)).toNat = j := by
      rw [seqIndex_neg (by omega) h3] at h1
      rw [List.size_toArray, ← hl]
      exact Option.some.inj h1
    exact PySem.W.ki_setBack ho (by omega) (by rw [List.size_toArray, ← hl]; exact h3) (by omega) (by rw [hk]; exact ⟨_, I', q⟩)

/-! ### slices -/
theorem slice_bounds (lo hi : Option Int) (n : Nat) : (sliceBounds lo hi none n).1 = ((HT.sIx n 0 lo : Nat) : Int) ∧ (sliceBounds lo hi none n).2.1 = ((HT.sIx n n hi : Nat) : Int) ∧ (sliceBounds lo hi none n).2.2 = 1 := by
  refine ⟨?_, ?_, rfl⟩
  · cases lo with
    | none => simp [sliceBounds, HT.sIx]
    | some i =>
      simp only [sliceBounds, HT.sIx, Option.getD_none, show (1 : Int) > 0 by decide, if_true]
      by_cases h : i < 0
      · simp only [h, if_true] <;> omega
      · simp only [h, if_false] <;> omega
  · cases hi with
    | none => simp [sliceBounds, HT.sIx]
    | some i =>
      simp only [sliceBounds, HT.sIx, Option.getD_none, show (1 : Int) > 0 by decide, if_true]
      by_cases h : i < 0
      · simp only [h, if_true] <;> omega
      · simp only [h, if_false] <;> omega
theorem slicePick_cut (its : List Value) (lo hi : Option Int) : slicePick its.toArray lo hi none = ((its.drop (HT.sIx its.length 0 lo)).take (HT.sIx its.length its.length hi - HT.sIx its.length 0 lo)).toArray := by
  obtain ⟨h1, h2, h3⟩ := slice_bounds lo hi its.toArray.size
  unfold slicePick
  rw [h1, h2, h3]
  simp only [sliceRange_one, pick_run, List.size_toArray] <;> rfl
/-- xs[lo:hi] of a list: a new list -/
def rSlL (K : PySem.W.Frag) : V → Option Int → Option Int → Hp → VK → Prop := fun x lo hi H Q => ∃ a xs, x = .ref a ∧ SqL K H a xs ∧ ∀ p, H p = none → Q (.ref p) (upd H p (.lst (cutV xs lo hi)))
theorem sl_list : SlR X (rSlL X.K) := by
  intro pins s σ H x v vl vu lo hi sl Q I rx hs pl pu h
  obtain ⟨a, xs, rfl, hx, q⟩ := h
  cases rx
  obtain ⟨its, r, ht, hz⟩ := I.list hx
  have hlen := r.length
  refine ⟨"list", _, slot_list_getitem.lookup, ht.isList.typeIs, ?_⟩
  refine wpAny_getItem_list_slice ht.isList hs pl pu .none (by simp) ?_ (by rw [List.size_toArray] <;> omega)
  rw [slicePick_cut, ← hlen]
  refine ⟨.ref s.heap.objs.size, _, I.laid (t' := s.toks) (o := .lst (cutV xs lo hi)) (fun b ob q => Heap.get?_push_of_some _ q) (Nat.le_refl _) ?_, rfl, q _ (I.hok.fresh (Nat.le_refl _))⟩
  exact ⟨Nat.le_trans (cutV_length xs lo hi) hz, _, 0, (r.drop (HT.sIx xs.length 0 lo)).take (HT.sIx xs.length xs.length hi - HT.sIx xs.length 0 lo), Heap.get?_push_size _ rfl⟩

/-! ### in, not in: flat items -/
def flatV : V → Bool
  | .non => true
  | .bl _ => true
  | .int _ => true
  | .str _ => true
  | _ => false
/-- == of flat values -/
def eqV : V → V → Bool
  | .non, .non => true
  | .bl a, .bl b => a == b
  | .bl a, .int b => (if a then 1 else 0) == b
  | .int a, .bl b => a == (if b then 1 else 0)
  | .int a, .int b => a == b
  | .str a, .str b => a == b
  | _, _ => false
/-- the items' answers, read off the values (a value's own answer does not lean on its token) -/
def eqU (x : V) (u : Value) : Bool := match u with
  | .none => eqV .non x
  | .bool b => eqV (.bl b) x
  | .int i _ => eqV (.int i) x
  | .str z _ => eqV (.str z) x
  | _ => false
def inV (x : V) (xs : List V) : Bool := xs.any fun y => eqV y x
/-- x in a list or tuple of flat items -/
def rIn (K : PySem.W.Frag) (neg : Bool) : R2 := fun x y H Q => ∃ p xs, y = .ref p ∧ (SqL K H p xs ∨ SqT K H p xs) ∧ flatV x = true ∧ xs.all flatV = true ∧ Q (.bl (if neg then !inV x xs else inV x xs)) H

/-! ### len, list(x), tuple(x) of any list or tuple that is read -/
theorem call_len_seq : CallR X (.builtin "len") (fun xs H Q => ∃ p ys, xs = [.ref p] ∧ (SqL X.K H p ys ∨ SqT X.K H p ys) ∧ Q (.int ys.length) H) := by
  intro pins s σ H xs us Q I r h
  obtain ⟨p, ys, rfl, hq, q⟩ := h
  obtain ⟨u, rfl, rx⟩ := vals1 r
  cases rx
  have hn := line63
  rcases hq with hq | hq
  · obtain ⟨its, r', pl, hz⟩ := I.list hq
    have hlen := r'.length
    exact Calls.call_len_list pl.isList (by simp only [List.size_toArray] <;> omega) ⟨.int ys.length, H, I.tok _, ⟨s.toks + 1, by rw [List.size_toArray, hlen]⟩, q⟩
  · obtain ⟨its, r', pl, hz⟩ := I.tuple hq
    have hlen := r'.length
    exact len_tuple pl (by simp only [List.size_toArray] <;> omega) ⟨.int ys.length, H, I.tok _, ⟨s.toks + 1, by rw [List.size_toArray, hlen]⟩, q⟩
theorem call_len_str : CallR X (.builtin "len") (fun xs H Q => ∃ z, xs = [.str z] ∧ z.length ≤ sizeLine ∧ Q (.int z.length) H) := by
  intro pins s σ H xs us Q I r h
  obtain ⟨z, rfl, hz, q⟩ := h
  obtain ⟨u, rfl, t, rfl⟩ := vals1 r
  have hn := line63
  exact len_str (by omega) ⟨.int z.length, H, I.tok _, ⟨_, rfl⟩, q⟩
theorem CallR.or {f : Value} {r r' : List V → Hp → VK → Prop} (h : CallR X f r) (h' : CallR X f r') : CallR X f (fun xs H Q => r xs H Q ∨ r' xs H Q) := by
  intro pins s σ H xs us Q I rs q
  rcases q with q | q
  · exact h pins s σ H xs us Q I rs q
  · exact h' pins s σ H xs us Q I rs q
theorem call_list_of : CallR X (.type "list") (fun xs H Q => ∃ p ys, xs = [.ref p] ∧ (SqL X.K H p ys ∨ SqT X.K H p ys) ∧ ∀ l, H l = none → Q (.ref l) (upd H l (.lst ys))) := by
  intro pins s σ H xs us Q I r h
  obtain ⟨p, ys, rfl, hq, q⟩ := h
  obtain ⟨u, rfl, rx⟩ := vals1 r
  cases rx
  have fin : ∀ (its : List Value), Vals ys its → ys.length ≤ sizeLine → ∀ (h' : Heap) (c' : Nat), (∀ b o', s.heap.get? b = some o' → h'.get? b = some o') →
      h'.get? s.heap.objs.size = some { cls := .type "list", dict := none, data := .seq its.toArray c', slots := #[] } → EP X pins σ Q (.ref s.heap.objs.size) { s with heap := h' } := fun its r' hz h' c' kp e =>
    ⟨.ref s.heap.objs.size, _, I.laid (t' := s.toks) kp (Nat.le_refl _) (show ObjOk X.prog X.w _ h' _ (.lst ys) from ⟨hz, its, c', r', e⟩), rfl, q _ (I.hok.fresh (Nat.le_refl _))⟩
  rcases hq with hq | hq
  · obtain ⟨its, r', pl, hz⟩ := I.list hq
    have hlen := r'.length
    obtain ⟨o, ho, hc, n, hd⟩ := pl.isList
    exact call_list_seq p (.inl rfl) ho hc hd (fun h' c' kp e => fin its r' hz h' c' kp e) (by simp only [List.size_toArray] <;> omega)
  · obtain ⟨its, r', pl, hz⟩ := I.tuple hq
    have hlen := r'.length
    obtain ⟨o, ho, hc, n, hd⟩ := pl
    exact call_list_seq p (.inr rfl) ho hc hd (fun h' c' kp e => fin its r' hz h' c' kp e) (by simp only [List.size_toArray] <;> omega)

/-! ### the call of a builtin's method: o.m(..) -/
/-- the value is of that builtin type -/
def tyV (K : PySem.W.Frag) (T : String) (x : V) (H : Hp) : Prop := match x with
  | .str _ => T = "str"
  | .int _ => T = "int"
  | .ref p => (T = "list" ∧ ∃ xs, SqL K H p xs) ∨ (T = "tuple" ∧ ∃ o, K.lookup p = some o ∧ o.cls = .type "tuple" ∧ o.dict = none) ∨
      (T = "dict" ∧ ((∃ kvs, H p = some (.dK kvs)) ∨ ∃ kvs, H p = some (.dT kvs))) ∨ (T = "set" ∧ ∃ S n, H p = some (.set S n))
  | _ => False
theorem tyV_is {pins : List (Addr × Obj)} {σ : St} {H : Hp} {s : Shared} {T : String} {x : V} {v : Value} (I : Inv X pins σ H s) (r : RelV x v) (ty : tyV X.K T x H) :
    s.TypeIs v T ∧ ∀ a, v = .ref a → ∃ ob, s.heap.get? a = some ob ∧ ob.dict = none := by
  cases x with
  | str z =>
    obtain ⟨t, rfl⟩ := r
    cases (show T = "str" from ty)
    exact ⟨typeIs_str s z t, fun _ e => nomatch e⟩
  | int i =>
    obtain ⟨t, rfl⟩ := r
    cases (show T = "int" from ty)
    exact ⟨typeIs_int s i t, fun _ e => nomatch e⟩
  | ref p =>
    cases r
    rcases ty with ⟨rfl, xs, hq⟩ | ⟨rfl, o, hk, hc, hd⟩ | ⟨rfl, hk⟩ | ⟨rfl, S, n, hk⟩
    · obtain ⟨its, _, pl, _⟩ := I.list hq
      refine ⟨pl.isList.typeIs, fun a e => ?_⟩
      cases e
      obtain ⟨o, n, e, c, hd, _⟩ := pl
      exact ⟨o, e, hd⟩
    · refine ⟨⟨o, I.kIn p o hk, hc⟩, fun a e => ?_⟩
      cases e
      exact ⟨o, I.kIn _ o hk, hd⟩
    · have z : ∃ o, s.heap.get? p = some o ∧ o.ExactDict := by
        rcases hk with ⟨kvs, hk⟩ | ⟨kvs, hk⟩
        · obtain ⟨_, _, _, _, o, _, _, e, ex, _⟩ := I.hok p _ hk
          exact ⟨o, e, ex⟩
        · obtain ⟨_, _, _, _, o, _, _, e, ex, _⟩ := I.hok p _ hk
          exact ⟨o, e, ex⟩
      obtain ⟨o, e, ex⟩ := z
      refine ⟨⟨o, e, ex.1⟩, fun a e2 => ?_⟩
      cases e2
      exact ⟨o, e, ex.2.1⟩
    · obtain ⟨o, _, _, _, e, ex, _⟩ := I.hok p _ hk
      refine ⟨⟨o, e, ex.1⟩, fun a e2 => ?_⟩
      cases e2
      exact ⟨o, e, ex.2.1⟩
  | _ => exact False.elim ty
def tBM0 (K : PySem.W.Frag) (T : String) (r : V → List V → Hp → VK → Prop) (to : TE) : TE := fun σ H Q => to σ H fun x H1 => tyV K T x H1 ∧ r x [] H1 Q
def tBM (K : PySem.W.Frag) (T : String) (r : V → List V → Hp → VK → Prop) (to : TE) (t : TA) : TE := fun σ H Q => to σ H fun x H1 => tyV K T x H1 ∧ t σ H1 fun xs H2 => r x xs H2 Q
variable {o e : Expr} {es : List Expr} {to : TE} {t : TA} {name : Str} {apos cpos : Pos} {T id : String} {r : V → List V → Hp → VK → Prop}
theorem pe_bm0 (pa : PlainAttrs T) (slot : Slot T name id) (hty : typeOf (.builtin id) = pure (.type "method_descriptor")) (hm : MtR X id r) (ho : PE X o to)
    (hbase : attributeBase o name X.env (eval o X.env) = eval o X.env := by rfl) (hline : (apos.endLine == cpos.line) = true := by rfl) : PE X (.Call (.Attribute o name apos) [] [] cpos) (tBM0 X.K T r to) := by
  intro pins s σ H Q I h
  refine wpAny_Call_method0_late hbase hline (thn (ho pins s σ H _ I h) fun v s1 ⟨x, H1, I1, r1, ty, q1⟩ => ?_)
  obtain ⟨h1, h2⟩ := tyV_is I1 r1 ty
  exact ⟨T, id, pa, slot, hty, h1, h2, Calls.callWith_builtin rfl (PySem.evalArgs_none (hm pins s1 σ H1 x [] v [] Q I1 r1 .nil q1))⟩
theorem pe_bm (pa : PlainAttrs T) (slot : Slot T name id) (hty : typeOf (.builtin id) = pure (.type "method_descriptor")) (hm : MtR X id r) (ho : PE X o to) (ha : PA X (e :: es) t)
    (hbase : attributeBase o name X.env (eval o X.env) = eval o X.env := by rfl)
    (hfew : ((backTo cpos (starEach (e :: es) X.env)).all (fun x => !x.1) && (backToKw cpos (keywordEach [] X.env)).all (fun x => x.1.isSome)
      && decide ((e :: es).length + ([] : List Keyword).length + (if ([] : List Keyword).isEmpty then 0 else 1) < 30)) = true := by rfl)
    (hline : (apos.endLine == cpos.line) = true := by rfl) (hs : starEach (e :: es) X.env = (false, eval e X.env) :: starEach es X.env := by rfl) (hplain : (backTo cpos (starEach es X.env)).any (·.1) = false := by rfl) :
    PE X (.Call (.Attribute o name apos) (e :: es) [] cpos) (tBM X.K T r to t) := by
  intro pins s σ H Q I h
  refine wpAny_Call_method_late hbase hfew hline rfl (thn (ho pins s σ H _ I h) fun v s1 ⟨x, H1, I1, r1, ty, q1⟩ => ?_)
  obtain ⟨h1, h2⟩ := tyV_is I1 r1 ty
  refine ⟨T, id, pa, slot, hty, h1, h2, ?_⟩
  have hA := ha cpos pins s1 σ H1 _ I1 q1
  rw [hs] at hA ⊢
  refine Calls.callWith_builtin (by show (false || (backTo cpos (starEach es X.env)).any (·.1)) = false; rw [hplain] <;> rfl) (Calls.evalArgs_plain ?_)
  exact thn hA fun us s2 ⟨vs, H2, I2, r2, q2⟩ => hm pins s2 σ H2 x vs v us Q I2 r1 r2 q2
/- xs.append(e), list.index on a module's tuple .. are MtR facts of 06m -/
end
end L2

namespace L2
open PySem PySem.Spec PyProof.Rows

def MtM (X : Cx) (id : String) (r : V → List V → Hp → VK → Prop) : Prop :=
  ∀ (pins : List (Addr × Obj)) (s : Shared) (σ : St) (H : Hp) (x : V) (xs : List V) (v : Value) (us : List Value) (Q : VK), Inv X pins σ H s → RelV x v → Vals xs us → r x xs H Q →
    wpAny (model X.prog X.w) X.A (call (.builtin id) (v :: us)) (EP X pins σ Q) X.xe s

/-! ### lists of values -/
theorem Vals.one : ∀ {x : V} {us : List Value}, Vals [x] us → ∃ u, us = [u] ∧ RelV x u
  | _, _, .cons r .nil => ⟨_, rfl, r⟩
theorem Vals.two : ∀ {x y : V} {us : List Value}, Vals [x, y] us → ∃ u v, us = [u, v] ∧ RelV x u ∧ RelV y v
  | _, _, _, .cons r (.cons q .nil) => ⟨_, _, rfl, r, q⟩
theorem Vals.zero : ∀ {us : List Value}, Vals [] us → us = []
  | _, .nil => rfl
theorem Vals.dropLast {xs : List V} {us : List Value} (h : Vals xs us) : Vals xs.dropLast us.dropLast := by
  induction h with
  | nil => exact .nil
  | cons r t ih =>
    cases t with
    | nil => exact .nil
    | cons q t' => exact .cons r ih
theorem Vals.eraseIdx : ∀ {xs : List V} {us : List Value} (i : Nat), Vals xs us → Vals (xs.eraseIdx i) (us.eraseIdx i)
  | _, _, _, .nil => .nil
  | _, _, 0, .cons _ t => t
  | _, _, i + 1, .cons r t => .cons r (Vals.eraseIdx i t)
theorem Vals.reverse {xs : List V} {us : List Value} (h : Vals xs us) : Vals xs.reverse us.reverse := by
  induction h with
  | nil => exact .nil
  | cons r t ih => rw [List.reverse_cons, List.reverse_cons]; exact Vals.append ih (.cons r .nil)
theorem erase_last {α : Type} (l : List α) : l.eraseIdx (l.length - 1) = l.dropLast := by
  induction l with
  | nil => rfl
  | cons a r ih =>
    cases r with
    | nil => rfl
    | cons b r =>
      have e : (a :: b :: r).length - 1 = ((b :: r).length - 1) + 1 := by
        have h1 : (a :: b :: r).length = r.length + 2 := rfl
        have h2 : (b :: r).length = r.length + 1 := rfl
        omega
      rw [e, List.eraseIdx_cons_succ, ih]
      all_goals rfl

section
variable {X : Cx} {pins : List (Addr × Obj)} {σ : St} {H : Hp} {s : Shared} {l b : Addr} {xs ys zs : List V}

/-! ### the two steps: a tracked list is rewritten, a new list is laid -/
theorem Inv.lset {its its' : List Value} {n : Nat} {f : Array Value → Array Value} {t' : Nat} (I : Inv X pins σ H s) (hH : H l = some (.lst xs))
    (e : s.heap.get? l = some { cls := .type "list", data := .seq its.toArray n }) (hf : f its.toArray = its'.toArray) (hv : Vals ys its') (hz : ys.length ≤ sizeLine) :
    Inv X pins σ (upd H l (.lst ys)) { s with heap := s.heap.update l (Obj.mapSeq f), toks := t' } := by
  have q := PySem.IsL.update e f
  rw [hf] at q
  refine I.write (x := l) (e := l) (by rw [hH]; exact trivial) (.inl rfl) (fun b' u hb hu => (Heap.get?_update_other s.heap (Obj.mapSeq f) (Ne.symm hb)).trans hu) ⟨_, q⟩ ?_
  exact ⟨hz, its', _, hv, q⟩
theorem Inv.lnew {its : List Value} {t' : Nat} (I : Inv X pins σ H s) (hv : Vals ys its) (hz : ys.length ≤ sizeLine) :
    Inv X pins σ (upd H s.heap.objs.size (.lst ys)) { s with heap := s.heap.push { cls := .type "list", data := .seq its.toArray }, toks := t' } :=
  I.laid (fun _ _ q => Heap.get?_push_of_some _ q) (Nat.le_refl _) ⟨hz, its, 0, hv, Heap.get?_push_size _ rfl⟩
theorem Inv.fresh (I : Inv X pins σ H s) : H s.heap.objs.size = none := I.hok.fresh (Nat.le_refl _)
theorem Inv.lstM (I : Inv X pins σ H s) (hH : H l = some (.lst xs)) : xs.length ≤ sizeLine ∧ ∃ (its : List Value) (n : Nat), Vals xs its ∧ xs.length = its.length ∧ s.heap.get? l = some { cls := .type "list", data := .seq its.toArray n } := by
  obtain ⟨z, its, n, r, e⟩ := I.hok l _ hH
  exact ⟨z, its, n, r, r.length, e⟩

theorem notLongL {n : Nat} (h : n ≤ sizeLine) : Builtin.List.listTooLong n = false := by
  unfold Builtin.List.listTooLong
  exact decide_eq_false (by omega)
end

section
variable {X : Cx}

/-! ### methods -/
def rAppend : V → List V → Hp → VK → Prop := fun x vs H Q => ∃ l xs y, x = .ref l ∧ vs = [y] ∧ H l = some (.lst xs) ∧ xs.length < sizeLine ∧ Q .non (upd H l (.lst (xs ++ [y])))
theorem mt_append : MtM X "list.append" rAppend := by
  intro pins s σ H x vs v us Q I rx rv h
  obtain ⟨l, xs, y, rfl, rfl, hH, hz, q⟩ := h
  cases rx
  obtain ⟨u, rfl, ru⟩ := rv.one
  obtain ⟨z, its, n, r, hl, e⟩ := I.lstM hH
  refine call_meets F.slot_list_append ⟨_, e, rfl⟩ F.entry_list_append (F.args_list_append_2 _ _) (PySem.list_append l its.toArray n u (by rw [List.size_toArray]; omega)) ⟨e, ?_⟩
  refine ⟨.non, _, I.lset (its' := its ++ [u]) hH e (by simp) (r.append (.cons ru .nil)) ?_, rfl, q⟩
  rw [List.length_append, List.length_singleton]
  omega

def rExtend : V → List V → Hp → VK → Prop := fun x vs H Q => ∃ l b xs zs, x = .ref l ∧ vs = [.ref b] ∧ H l = some (.lst xs) ∧ H b = some (.lst zs) ∧ xs.length + zs.length ≤ sizeLine ∧ Q .non (upd H l (.lst (xs ++ zs)))
theorem mt_extend : MtM X "list.extend" rExtend := by
  intro pins s σ H x vs v us Q I rx rv h
  obtain ⟨l, b, xs, zs, rfl, rfl, hH, hB, hz, q⟩ := h
  cases rx
  obtain ⟨u, rfl, ru⟩ := rv.one
  cases ru
  obtain ⟨z, its, n, r, hl, e⟩ := I.lstM hH
  obtain ⟨z2, its2, n2, r2, hl2, e2⟩ := I.lstM hB
  have hsz : its.toArray.size + its2.toArray.size ≤ sizeLine := by rw [List.size_toArray, List.size_toArray]; omega
  have hlong : ¬ (!its.toArray.isEmpty && Builtin.List.listTooLong (its.toArray.size + its2.toArray.size)) = true := by
    rw [notLongL hsz, Bool.and_false]
    exact Bool.false_ne_true
  refine call_meets F.slot_list_extend ⟨_, e, rfl⟩ F.entry_list_extend (F.args_list_extend_2 _ _)
    (AutoSeq1.list_extend_list_list_0 l its.toArray n b its2.toArray n2 hlong (by rw [List.size_toArray]; omega) (by omega)) ⟨e, e2, ?_⟩
  refine ⟨.non, _, I.lset (its' := its ++ its2) hH e (by simp) (r.append r2) ?_, rfl, q⟩
  rw [List.length_append]
  omega

def rPop : V → List V → Hp → VK → Prop := fun x vs H Q => ∃ l xs y, x = .ref l ∧ vs = [] ∧ H l = some (.lst xs) ∧ xs[xs.length - 1]? = some y ∧ Q y (upd H l (.lst xs.dropLast))
theorem mt_pop : MtM X "list.pop" rPop := by
  intro pins s σ H x vs v us Q I rx rv h
  obtain ⟨l, xs, y, rfl, rfl, hH, hy, q⟩ := h
  cases rx
  have hus := rv.zero
  subst hus
  obtain ⟨z, its, n, r, hl, e⟩ := I.lstM hH
  obtain ⟨u, hu, ru⟩ := r.get hy
  have hy' : its.toArray[its.toArray.size - 1]? = some u := by
    show its.toArray[its.length - 1]? = some u
    rw [← Array.getElem?_toList, ← hl]
    exact hu
  refine call_meets F.slot_list_pop ⟨_, e, rfl⟩ F.entry_list_pop (F.args_list_pop_1 _) (MeetsSeq.list_pop_last l its.toArray n u hy' (by rw [List.size_toArray]; omega)) ⟨e, ?_⟩
  refine ⟨y, _, I.lset (its' := its.dropLast) hH e ?_ r.dropLast ?_, ru, q⟩
  · show its.toArray.eraseIdxIfInBounds (its.toArray.size - 1) = its.dropLast.toArray
    rw [List.size_toArray, List.eraseIdxIfInBounds_toArray, erase_last]
  · rw [List.length_dropLast]
    omega

def rPopAt : V → List V → Hp → VK → Prop := fun x vs H Q => ∃ l xs i k y, x = .ref l ∧ vs = [.int i] ∧ H l = some (.lst xs) ∧ -(2 ^ 63) ≤ i ∧ i < 2 ^ 63 ∧ seqIndex? i xs.length = some k ∧ xs[k]? = some y ∧ Q y (upd H l (.lst (xs.eraseIdx k)))

def rReverse : V → List V → Hp → VK → Prop := fun x vs H Q => ∃ l xs, x = .ref l ∧ vs = [] ∧ H l = some (.lst xs) ∧ Q .non (upd H l (.lst xs.reverse))

def rClear : V → List V → Hp → VK → Prop := fun x vs H Q => ∃ l xs, x = .ref l ∧ vs = [] ∧ H l = some (.lst xs) ∧ Q .non (upd H l (.lst []))

/-! ### list + list, list += list, list * int -/
def rCat : R2 := fun x y H Q => ∃ l b xs zs, x = .ref l ∧ y = .ref b ∧ H l = some (.lst xs) ∧ H b = some (.lst zs) ∧ xs.length + zs.length ≤ sizeLine ∧ ∀ p, H p = none → Q (.ref p) (upd H p (.lst (xs ++ zs)))
theorem op_cat : OpR X (binaryOp .Add) rCat := by
  intro pins s σ H x y v u Q I rx ry h
  obtain ⟨l, b, xs, zs, rfl, rfl, hH, hB, hz, q⟩ := h
  cases rx
  cases ry
  obtain ⟨z, its, n, r, hl, e⟩ := I.lstM hH
  obtain ⟨z2, its2, n2, r2, hl2, e2⟩ := I.lstM hB
  refine PySem.P.add_list e e2 ?_ (by rw [List.size_toArray, List.size_toArray]; omega)
  have ea : its.toArray ++ its2.toArray = (its ++ its2).toArray := by simp
  rw [ea]
  exact ⟨.ref _, _, I.lnew (t' := s.toks) (r.append r2) (by rw [List.length_append]; omega), rfl, q _ I.fresh⟩
/-- a list times an int (a negative one is nothing) -/
def rRep : R2 := fun x y H Q => ∃ l k xs, x = .ref l ∧ y = .int k ∧ H l = some (.lst xs) ∧ -(2 ^ 63) ≤ k ∧ k < 2 ^ 63 ∧ xs.length * k.toNat ≤ sizeLine ∧
  ∀ p, H p = none → Q (.ref p) (upd H p (.lst (List.replicate k.toNat xs).flatten))

/-! ### del xs[i] -/
end

/-! ### xs[a:b] = ys -/
section
variable {prog : Program} {w : World} {A : Around} {E : Value → Shared → Prop} {s : Shared}
set_option maxRecDepth 100000 in
end

section
variable {X : Cx}
end
end L2

namespace Att
open PySem PySem.W PySem.Calls PyProof.Rows

/-! ### the script -/
theorem ints_of_wellAll {P : Params} {h : Heap} : ∀ (ns : List Int) (vs : List Value), WellAll P h vs (ns.map WData.int) → IntsAre vs ns := by
  intro ns
  induction ns with
  | nil =>
    intro vs w
    rw [List.map_nil] at w
    cases w
    exact .nil
  | cons n ns ih =>
    intro vs w
    rw [List.map_cons] at w
    cases w with
    | cons a b =>
      cases a
      exact .cons _ _ (ih _ b)

theorem script_of {l : OpenLaw} {n : Nat} (hn : l.most = some n) {P : Params} {h : Heap} {args : List WData} {vals : List Value}
    (hpre : l.row.toRowW.claim.pre args = true) (hwl : WellAll P h vals args) :
    ∃ a vs ns, vals = [Value.ref a] ∧ args = [WData.list (ns.map WData.int)] ∧ h.get? a = some { cls := .type "list", data := .seq vs.toArray } ∧ IntsAre vs ns ∧ ns.length ≤ n := by
  have hsh : WShape.hasAll [] args [.list .int] = true := (pre_splitW hpre).1
  have hc : l.pre.holds [] { args := args } = true := (pre_splitW hpre).2
  obtain ⟨d, r, rfl, h1, h2⟩ := hasAllW_cons hsh
  obtain rfl := hasAllW_nil h2
  obtain ⟨xs, rfl, h3⟩ := hasW_list h1
  obtain ⟨ns, rfl⟩ := items_int h3
  have hlen : ns.length ≤ n := by
    unfold OpenLaw.pre at hc
    have h4 : (WTm.not (.lt (.lit (.int (n : Int))) (.len (.arg 0)))).holds [] { args := [.list (ns.map .int)] } = true := by
      have h4 := (holds_andW hc).1
      rw [hn] at h4
      exact h4
    have h5 := condW_of h4 (w_not (w_lt w_lit (w_len_list (w_arg rfl))))
    rw [List.length_map] at h5
    refine Nat.le_of_not_lt fun q => ?_
    have q' : (n : Int) < ((ns.length : Nat) : Int) := by omega
    first
      | (rw [decide_eq_true q'] at h5; exact absurd h5 (by decide))
      | (simp at h5; omega)
  cases hwl with
  | cons w1 w2 =>
    cases w2
    cases w1 with
    | list ho hall => exact ⟨_, _, ns, rfl, rfl, ho, ints_of_wellAll ns _ hall, hlen⟩

theorem post_true (l : OpenLaw) (args : List WData) : l.row.toRowW.claim.post args (.bool true) args = true :=
  postW_of (r := l.row.toRowW) (X := (true == true))
    (show WShape.has [] (.bool true) .bool = true by first | rfl | decide | simp [WShape.has, WShape.arms, WShape.armsAll])
    (show (WTm.eq .res (.lit (.bool true))).value [] { args := args, res := some (.bool true), after := args } = some (.bool (true == true)) from w_eq_bool (w_res rfl) w_lit) rfl

/-! ### the attachment: holds_open's last premise (the goal 'hc' behind k_head) from a wpAny of the law's body -/

/-- the same from a codeAny of the CALL (for a layer whose function contracts speak of calls) -/
theorem attach_call {l : OpenLaw} {n : Nat} {q : Program} {loose : List Str} {XP : (Str → Option Value) → Heap → Prop} {YP : World → Heap → Prop} {d : DefRec}
    (hn : l.most = some n) (hdf : d.params.defaults = [])
    (call : ∀ (w : World) (s₀ s₁ : Shared) (mg mb : Str → Option Value) (fa : Addr) (o : Obj) (pm cd doc : Value) (a : Addr) (vs : List Value) (ns : List Int),
      Ground q loose [] XP w s₀ mg mb s₁.heap → YP w s₁.heap →
      s₁.heap.get? fa = some o → o.data = .func (docDef d.name d.params d.body d.scope pm cd doc) → s₁.heap.CodeRec cd d.name → mg d.name = some (.ref fa) →
      s₁.heap.get? a = some { cls := .type "list", data := .seq vs.toArray } → IntsAre vs ns → ns.length ≤ n → s₁.gens = #[] →
      codeAny (model l.prog w) callerA (.call (.ref fa) ⟨[.ref a], []⟩) (fun r s' => r = .ok (.ret (.bool true)) ∧ OldK s₁.heap s'.heap ∧ s'.os = s₁.os ∧ AllBare s'.gens) s₁) :
    WalkO q loose XP YP l.row.toRowW d [] (fun f vs => PySem.call f vs) := by
  intro w s₀ s₁ mg mb G Y fa o pm cd doc dV kV ho hd hcd hD hmg hg args vals as hpre hlay hrd hwl hlo
  obtain rfl : dV = .none := Dflts.none hD hdf
  obtain rfl : kV = .none := Dflts.noKw hD
  obtain ⟨a, vs, ns, rfl, rfl, hobj, hints, hlen⟩ := script_of hn hpre hwl
  refine enter_call (codeAny_mono (call w s₀ s₁ mg mb fa o pm cd doc a vs ns G Y ho (fd_plain hd) hcd hmg hobj hints hlen hg) fun r s' hq => ?_)
  obtain ⟨rfl, h2, h3, h4⟩ := hq
  exact ⟨.inl ⟨.bool true, .bool true, [], rfl, fun _ => rfl, .bool true, post_true l _, fun _ => ⟨List.Pairwise.nil, fun _ hm => (nomatch hm)⟩⟩, h2, h3, h4⟩


/-! ### rules over ANY heap (no ledger) from facts about the written part K: the library's own take a ledger (News) for what they write -/
section
variable {prog : Program} {w : World} {A : Around} {E : Value → Shared → Prop} {s : Shared} {K : Frag}





/-! the whole heap as the ledger: makes every rule that writes through a ledger a rule over any heap -/
def noObjs (h : Heap) : Heap := { h with objs := #[] }
def ledger (h : Heap) (L d : Addr) : List (Addr × Obj) := (List.range h.objs.size).filterMap fun a => if a = L ∨ a = d then none else (h.get? a).map fun o => (a, o)

end
end Att

namespace L2
open PySem PySem.Spec PyProof.Rows

theorem vals_ints : ∀ {vs : List Value} {ns : List Int}, IntsAre vs ns → Vals (ns.map V.int) vs
  | _, _, .nil => .nil
  | _, _, .cons n t h => .cons ⟨t, rfl⟩ (vals_ints h)

/-- nothing is tracked but the script, known to the object (or it is an object of the module) -/
def Only (H : Hp) : Prop := ∀ b, H b = none ∨ ∃ o xs, H b = some (.frz o (.lst xs))

/-- THE HEAD: the law's promise, at the heap behind the top. F, the promise of the law's def, may use that base is part of the heap (so K.In base, base.Ns mainGlobals mg stand in Mod) -/
theorem law_call {P : Program} {w : World} {K : PySem.W.Frag} {mg mb : Str → Option Value} {CX : CXT} {k : Nat} {fa a : Addr} {fd : FuncData} {x : Str} {sp : Sp} {s₁ : Shared} {vs : List Value} {ns : List Int}
    (KX : K.In s₁.heap) (hns : s₁.heap.Ns mainGlobals mg) (hb : s₁.heap.Ns builtinsNs mb) (hbb : ∀ x : Str, x ≠ "__name__" → mb x = bootBuiltins x) (hlim : s₁.heap.NoLimit) (hg : s₁.gens = #[])
    (ha : s₁.heap.get? a = some { cls := .type "list", data := .seq vs.toArray }) (hi : IntsAre vs ns) (hl : ns.length ≤ sizeLine) (hr : Room k callerA)
    (F : ∀ base : Heap, K.In base → base.Ns mainGlobals mg → FnOk P w K mg base CX k fa fd [x] sp) (hbind : ∀ (s : Shared) (u : Value), BindsTo s fd ⟨[u], []⟩ [(x, u)])
    (hsp : ∀ H : Hp, Only H → SqL K H a (ns.map V.int) → sp [.ref a] H (fun v _ => v = .bl true) fun _ _ _ => False)
    (hCX : ∀ H e s', CX [] H s₁ (fun _ _ _ => False) e s' → False) :
    codeAny (model P w) callerA (.call (.ref fa) ⟨[.ref a], []⟩) (fun r s' => r = .ok (.ret (.bool true)) ∧ OldK s₁.heap s'.heap ∧ s'.os = s₁.os ∧ AllBare s'.gens) s₁ := by
  have rv := vals_ints hi
  have lenV := hi.length
  -- from an abstract heap in which nothing but the script may be tracked
  have core : ∀ H : Hp, Only H → SqL K H a (ns.map V.int) → HOk P w H s₁.heap → (∀ b, H b ≠ none → b = a) → (H a ≠ none → K.lookup a = none) →
      codeAny (model P w) callerA (.call (.ref fa) ⟨[.ref a], []⟩) (fun r s' => r = .ok (.ret (.bool true)) ∧ OldK s₁.heap s'.heap ∧ s'.os = s₁.os ∧ AllBare s'.gens) s₁ := by
    intro H hO hS hok hA hK
    have base_of : ∀ {b : Addr} {o : Obj}, s₁.heap.get? b = some o → H b = none → (hidT s₁.heap H).get? b = some o := fun e n => hidT_get e n
    have noA : ∀ {b : Addr} {o : Obj} {es : Array DictEntry} {ep : Nat}, s₁.heap.get? b = some o → o.data = .dict es ep → H b = none := fun {b o es ep} e d => by
      cases q : H b with
      | none => rfl
      | some u =>
        have e' : b = a := hA b (by rw [q]; simp)
        subst e'
        rw [ha] at e; cases e
        have d' : Data.seq vs.toArray _ = Data.dict es ep := d
        cases d'
    have nsK : ∀ {b : Addr} {m : Str → Option Value}, s₁.heap.Ns b m → (hidT s₁.heap H).Ns b m := fun {b m} ⟨o, es, ep, e, d, r⟩ => ⟨o, es, ep, base_of e (noA e d), d, r⟩
    have hKb : K.In (hidT s₁.heap H) := fun b o e => base_of (KX b o e) (by
      cases q : H b with
      | none => rfl
      | some u =>
        have e' : b = a := hA b (by rw [q]; simp)
        subst e'
        rw [hK (by rw [q]; simp)] at e; cases e)
    have hM : Mod K mg (hidT s₁.heap H) := ⟨hKb, nsK hns, ⟨mb, nsK hb, hbb⟩, let ⟨mc, h1, h2⟩ := hlim; ⟨mc, nsK h1, h2⟩⟩
    have e0 : Env0 P w K mg (hidT s₁.heap H) callerA [] s₁ H := ⟨rfl, hM, fun b o e => of_hidT e, Nat.le_of_eq (hidT_size _ _), trivial, fun b hb => absurd (show b ∈ ([] : List Addr) from hb) (by simp), hok, .of_eq hg⟩
    refine codeAny_mono ((F _ hKb (nsK hns)).run callerA [] s₁ H ⟨[.ref a], []⟩ [.ref a] [.ref a] _ _ hr e0 (hbind s₁ (.ref a)) (.cons rfl .nil) (hsp H hO hS)) fun r s' h => ?_
    cases r with
    | error e => exact (hCX H e s' h).elim
    | ok fl =>
      cases fl with
      | next => exact False.elim h
      | brk => exact False.elim h
      | cont => exact False.elim h
      | ret u =>
        obtain ⟨v, H', os, bare, un, hok', r', q⟩ := h
        have q' : v = .bl true := q
        subst q'
        obtain rfl : u = Value.bool true := r'
        refine ⟨rfl, OldK.of_keep fun b o e => ?_, os, bare⟩
        cases q : H b with
        | none => exact un.keep b o e q (by intro z; exact absurd (show b ∈ ([] : List Addr) from z) (by simp)) (by simp)
        | some u =>
          rcases hO b with z | ⟨ob, xs, z⟩
          · rw [q] at z; cases z
          · have z2 := un.frzs b ob _ z
            obtain ⟨e1, _⟩ := hok b _ z
            obtain ⟨e2, _⟩ := hok' b _ z2
            rw [e] at e1; cases e1
            exact e2
  cases hk : K.lookup a with
  | some o =>
    -- the script is one of the module's own objects
    have e := KX a o hk
    rw [ha] at e
    cases e
    refine core (fun _ => none) (fun _ => .inl rfl) (.inr ⟨_, vs.toArray, _, hk, rfl, rfl, rfl, by rw [List.size_toArray, lenV]; exact hl, by simpa using rv⟩) (fun b u z => by have z' : (none : Option HO) = some u := z; cases z') (fun b z => absurd rfl z) fun z => absurd rfl z
  | none =>
    refine core (fun b => if b = a then some (.frz { cls := .type "list", data := .seq vs.toArray } (.lst (ns.map V.int))) else none) (fun b => ?_) (.inl (.inr ⟨{ cls := .type "list", data := .seq vs.toArray }, if_pos rfl⟩)) (fun b u z => ?_) (fun b z => ?_) fun _ => hk
    · by_cases hb : b = a
      · exact .inr ⟨_, _, if_pos hb⟩
      · exact .inl (if_neg hb)
    · by_cases hb : b = a
      · have z' := (if_pos hb).symm.trans z
        cases z'
        subst hb
        exact ⟨ha, by rw [List.length_map]; exact hl, vs, _, rv, ha⟩
      · have z' := (if_neg hb).symm.trans z
        cases z'
    · by_cases hb : b = a
      · exact hb
      · exact absurd (if_neg hb) z
end L2

namespace L2
open PySem PySem.Spec PyProof.Rows

abbrev KOf {K : PySem.W.Frag} {h : Heap} (_ : K.In h) : PySem.W.Frag := K

/-- the goal that k_head leaves (case hc), from the law's promise. F gives the function object fd (K's own) once, then the promise over every base -/
theorem walk_of {l : PySem.W.OpenLaw} {n k : Nat} {q : Program} {loose : List Str} {XP : (Str → Option Value) → Heap → Prop} {YP : World → Heap → Prop} {d : DefRec} {K : Params → PySem.W.Frag} {CX : World → CXT} {sp : World → Sp} {x : Str}
    (hn : l.most = some n) (hn2 : n ≤ sizeLine) (hdf : d.params.defaults = []) (hr : Room k callerA)
    (hY : ∀ (w : World) (h : Heap), YP w h → (K w.params).In h)
    (F : ∀ (w : World) (mg : Str → Option Value) (fa : Addr) (h : Heap), (K w.params).In h → h.Ns mainGlobals mg → mg d.name = some (.ref fa) →
      ∃ fd : FuncData, (∀ (s : Shared) (u : Value), BindsTo s fd ⟨[u], []⟩ [(x, u)]) ∧
        ∀ base : Heap, (K w.params).In base → base.Ns mainGlobals mg → FnOk l.prog w (K w.params) mg base (CX w) k fa fd [x] (sp w))
    (hsp : ∀ (w : World) (H : Hp) (a : Addr) (ns : List Int), ns.length ≤ n → Only H → SqL (K w.params) H a (ns.map V.int) → sp w [.ref a] H (fun v _ => v = .bl true) fun _ _ _ => False)
    (hCX : ∀ (w : World) (H : Hp) (s : Shared) (e : Value) (s' : Shared), CX w [] H s (fun _ _ _ => False) e s' → False) :
    PySem.W.WalkO q loose XP YP l.row.toRowW d [] (fun f vs => PySem.call f vs) := by
  refine Att.attach_call hn hdf fun w s₀ s₁ mg mb fa o pm cd doc a vs ns G Y ho hd hcd hmg hobj hints hlen hg => ?_
  have KX := hY w _ Y
  obtain ⟨fd, hb, hF⟩ := F w mg fa _ KX G.T.g hmg
  exact law_call KX G.T.g G.T.b G.T.builtins G.T.nolimit hg hobj hints (Nat.le_trans hlen hn2) hr hF hb (fun H hO hS => hsp w H a ns hlen hO hS) fun H e s' => hCX w H s₁ e s'
end L2

/- THE LAST THEOREM (shape; LID, My.* are yours):
   My.Adr: a structure of the addresses that your layer names (classes, functions); My.Txt K t: a structure (Prop) of the equations over K;
   My.txt_mk : {K} {implicit addresses ..} (e1 : nsIn K mainGlobals "law" = some (some (.ref f))) (e2 : K.lookup f = some ⟨oc, od, .func (fnOf "law" "law" params body scope dV kV doc pm an cdv ct), sl⟩) (e3 : codeIn K cdv "law" = true) .. : ∃ t, My.Txt K t

set_option maxRecDepth 100000 in
set_option maxHeartbeats 0 in
theorem PySem.Challenge.cw_LID_holds : PySem.Challenge.rw_LID.Holds := by
  w_on; o_law; k_head; (case hw => w_witness2)
  k_fill
  refine L2.walk_of (l := PySem.Challenge.rw_LID) (n := 63) (k := 40) (x := "script") (CX := fun w => ..) (sp := fun _ => My.sp_law) rfl (by decide) rfl ⟨rfl, by decide, by decide⟩ (fun w h Y => PySem.W.kIn_of Y) ?F ?S ?C
  case F =>
    intro w mg fa h KX G hmg
    have T : ∃ t, My.Txt (L2.KOf KX) t := by
      dsimp only [L2.KOf]                          -- K must stand as «<heap const> w.params» for k_is
      refine' My.txt_mk ?e1 ?e2 ?e3 ..
      (case e1 => PySem.W.k_is)                    -- in the order: a name -> its address -> its object -> its parts
      (case e2 => PySem.W.k_is)
      ..
    obtain ⟨t, T⟩ := T
    have e0 := hmg.symm.trans (PySem.W.mg_of KX G T.law)
    cases e0                                       -- fa is the law's own address
    exact ⟨_, fun s u => .of_eq rfl, fun base kb nb => My.law_fn T kb nb⟩     -- if «.of_eq rfl» comes too early: refine' ⟨_, ?b, fun base kb nb => My.law_fn T kb nb⟩; exact fun s u => .of_eq rfl
  case S => exact fun w H a ns hl hO hS => ..
  case C => exact ..
(the tactic k_is has no namespace: write k_is) -/

/-! SHORT WORDS over the layer: a def of the text, its body, what a loop and a test want. -/
namespace L2
open PySem PySem.Spec PyProof.Rows

/-! ### the text by places -/
/-- the j-th statement of a class's body -/
def inClass (s : Stmt) (j : Nat) : Stmt := match s with
  | .ClassDef _ _ _ body _ _ _ _ _ _ _ => body.getD j (.Pass ⟨0, 0, 0, 0⟩)
  | _ => .Pass ⟨0, 0, 0, 0⟩
def defArgs (s : Stmt) : Arguments := match s with
  | .FunctionDef _ a _ _ _ _ _ _ _ _ => a
  | _ => { posonlyargs := [], args := [], vararg := none, kwonlyargs := [], kw_defaults := [], kwarg := none, defaults := [] }
def defBody (s : Stmt) : List Stmt := match s with
  | .FunctionDef _ _ b _ _ _ _ _ _ _ => b
  | _ => []
def defScope (s : Stmt) : Scope := match s with
  | .FunctionDef _ _ _ _ _ _ sc _ _ _ => sc
  | _ => { kind := .function, names := [], isGenerator := false, isCoroutine := false }

/-! ### no exception leaves a def -/
abbrev CX0 : CXT := fun _ _ _ _ _ _ => False
abbrev E0 : XK := fun _ _ _ => False
theorem pass0 {X : Cx} : Passes CX0 X E0 := fun _ _ _ _ _ _ _ h => h.elim

/-! ### a def (or method) of the text as it stands behind the top -/
structure Fun (K : PySem.W.Frag) (x qual : Str) (st : Stmt) (f : Addr) (fd : FuncData) : Prop where
  ex : ∃ (oc : Value) (od : Option Addr) (kV doc pm : Value) (an : Option Addr) (cdv ct : Value) (osl : Array (Option Value)),
    fd = PySem.W.fnOf x qual (defArgs st) (defBody st) (defScope st) .none kV doc pm an cdv ct ∧ K.lookup f = some ⟨oc, od, .func fd, osl⟩ ∧ PySem.W.codeIn K cdv qual = true
  kp : PySem.W.keepIn K (.ref f) = true
section
variable {P : Program} {w : World} {K : PySem.W.Frag} {mg : Str → Option Value} {base : Heap}
/-- THE RULE for a def: its body as a term of rules, and the reading of that term -/
theorem Fun.ok {x qual : Str} {st : Stmt} {f : Addr} {fd : FuncData} {N ps : List Str} {k : Nat} {sp : Sp} (F : Fun K x qual st f fd) (S : FnScope N ps (defScope st)) (len : ∀ vs H Q E, sp vs H Q E → vs.length = ps.length)
    (hbody : ∀ (cdv : Value) (A : Around) (outer : List Env) (s : Shared) (H : Hp) (vs : List V) (Q : VK) (E : XK), Room k (A.deeper (envOfC qual (defScope st) s.heap.objs.size f cdv)) → sp vs H Q E →
      ∃ t, PSs (cxOf CX0 P w K mg base N qual (defScope st) f cdv A outer s H E).nox (defBody st) t ∧ t { nx := fun _ H' => Q .non H', rt := Q } (start N vs) H) : FnOk P w K mg base CX0 (k + 1) f fd ps sp := by
  obtain ⟨oc, od, kV, doc, pm, an, cdv, ct, osl, rfl, lk, hcd⟩ := F.ex
  refine fn_of lk hcd S len fun A outer s H vs Q E hr hsp => ?_
  obtain ⟨t, h, q⟩ := hbody cdv A outer s H vs Q E hr hsp
  exact ⟨t, h.nox, q⟩
/-- how its arguments bind (no defaults): h is «fun _ _ _ _ _ _ us hl => match us, hl with | [_, _], _ => rfl», one _ a parameter -/
theorem Fun.binds {x qual : Str} {st : Stmt} {f : Addr} {fd : FuncData} {ps : List Str} (F : Fun K x qual st f fd)
    (h : ∀ (kV doc pm : Value) (an : Option Addr) (cdv ct : Value) (us : List Value), us.length = ps.length → bindArgs (PySem.W.fnOf x qual (defArgs st) (defBody st) (defScope st) .none kV doc pm an cdv ct) ⟨us, []⟩ = pure (ps.zip us)) : Binds K fd ps [] := by
  obtain ⟨oc, od, kV, doc, pm, an, cdv, ct, osl, rfl, lk, hcd⟩ := F.ex
  exact .all (h kV doc pm an cdv ct)
theorem fun_mk {x qual : Str} {st : Stmt} {f : Addr} {oc : Value} {od an : Option Addr} {osl : Array (Option Value)} {kV doc pm cdv ct : Value} (l : K.lookup f = some ⟨oc, od, .func (PySem.W.fnOf x qual (defArgs st) (defBody st) (defScope st) .none kV doc pm an cdv ct), osl⟩)
    (c : PySem.W.codeIn K cdv qual = true) (k : PySem.W.keepIn K (.ref f) = true) : Fun K x qual st f (PySem.W.fnOf x qual (defArgs st) (defBody st) (defScope st) .none kV doc pm an cdv ct) := ⟨⟨oc, od, kV, doc, pm, an, cdv, ct, osl, rfl, l, c⟩, k⟩
end
theorem small1000 {n : Nat} (h : n ≤ 1000) : n < sizeLine := Nat.lt_of_le_of_lt h (by decide)

/-! ### expressions in short: the name that stands in the i-th slot -/
section
variable {X : Cx}
theorem pv (i : Nat) {x : Str} {pos : Pos} (hN : X.N[i]? = some x := by rfl) (hv : Vis X.env.scope x := by first | exact Or.inl rfl | exact Or.inr (Or.inl rfl) | exact Or.inr (Or.inr rfl)) (hd : (x == ("__debug__" : Str)) = false := by decide)
    (hcd : (x == ("__classdict__" : Str)) = false := by decide) : PE X (.Name x pos) (tVar i) := pe_var hN hv hd hcd
end

/-! ### tests -/
theorem iteF {A B : Prop} (h : B) : if false = true then A else B := by
  rw [if_neg Bool.false_ne_true]
  exact h
theorem iteT {A B : Prop} (h : A) : if true = true then A else B := by
  rw [if_pos rfl]
  exact h
theorem ite2 {c A B : Prop} [Decidable c] (h1 : c → A) (h2 : ¬ c → B) : if c then A else B := by
  by_cases h : c
  · rw [if_pos h]
    exact h1 h
  · rw [if_neg h]
    exact h2 h
theorem iteNS {c A B : Prop} [Decidable c] (hc : c) (h : B) : if (!decide c) = true then A else B := by
  rw [decide_eq_true hc]
  exact iteF h

/-! ### heaps -/
/-- all that was tracked is as it was -/
def Same (H H' : Hp) : Prop := ∀ b o, H b = some o → H' b = some o
theorem Same.refl (H : Hp) : Same H H := fun _ _ h => h
theorem Same.trans {H H1 H2 : Hp} (a : Same H H1) (b : Same H1 H2) : Same H H2 := fun c o h => b c o (a c o h)
theorem Same.free {H H' : Hp} (e : Same H H') {l : Addr} (h : H' l = Option.none) : H l = Option.none := by
  cases q : H l with
  | none => rfl
  | some o =>
    rw [e l o q] at h
    cases h
theorem Same.seq {K : PySem.W.Frag} {H H' : Hp} {a : Addr} {xs : List V} (e : Same H H') (h : SqL K H a xs) : SqL K H' a xs := by
  rcases h with (h | ⟨o, h⟩) | h
  · exact .inl (.inl (e _ _ h))
  · exact .inl (.inr ⟨o, e _ _ h⟩)
  · exact .inr h

end L2

set_option maxHeartbeats 4000000
namespace L2
open PySem
def closOf (env : Env) : List (Str × NameKind) → List (Str × Addr) → List (Str × Addr)
  | [], cs => cs
  | (n, k) :: r, cs => if (k == .free) = true then closOf env r ((n, (env.cells.lookup n).getD 0) :: cs) else closOf env r cs
theorem closureFor_of {sc : Scope} {env : Env} (h : ∀ n, (n, NameKind.free) ∈ sc.names → ∃ c, env.cells.lookup n = some c) : closureFor sc env = pure (closOf env sc.names []) := by
  simp only [closureFor]
  generalize sc.names = l at h
  generalize ([] : List (Str × Addr)) = cs
  induction l generalizing cs with
  | nil => rfl
  | cons x r ih =>
    obtain ⟨n, k⟩ := x
    have hr : ∀ n, (n, NameKind.free) ∈ r → ∃ c, env.cells.lookup n = some c := fun n hn => h n (List.mem_cons_of_mem _ hn)
    rw [List.forIn_cons, closOf]
    by_cases hk : (k == NameKind.free) = true
    · have hk' : k = .free := by cases k <;> first | rfl | exact absurd hk (by decide)
      subst hk'
      obtain ⟨c, hc⟩ := h n List.mem_cons_self
      have e : cellOf env n = pure c := by unfold cellOf; rw [hc]
      simp only [e]
      rw [if_pos hk, if_pos hk, hc]
      exact ih hr _
    · rw [if_neg hk, if_neg hk]
      exact ih hr _
theorem closOf_lookup {env : Env} {x : Str} {c : Addr} : ∀ (l : List (Str × NameKind)) (cs : List (Str × Addr)), (∀ n, (n, NameKind.free) ∈ l → ∃ c, env.cells.lookup n = some c) → (∀ y d, cs.lookup y = some d → env.cells.lookup y = some d) →
    (closOf env l cs).lookup x = some c → env.cells.lookup x = some c
  | [], cs, _, hc, e => hc x c e
  | (n, k) :: r, cs, h, hc, e => by
    have hr : ∀ n, (n, NameKind.free) ∈ r → ∃ c, env.cells.lookup n = some c := fun n hn => h n (List.mem_cons_of_mem _ hn)
    rw [closOf] at e
    split at e
    · rename_i hk
      have hk' : k = .free := by cases k <;> first | rfl | exact absurd hk (by decide)
      subst hk'
      obtain ⟨c', hc'⟩ := h n List.mem_cons_self
      refine closOf_lookup r _ hr (fun y d hy => ?_) e
      rw [List.lookup_cons] at hy
      split at hy
      · rename_i hyn
        have : y = n := eq_of_beq hyn
        subst this
        rw [hc'] at hy
        rw [hc']; exact hy
      · exact hc y d hy
    · exact closOf_lookup r cs hr hc e
theorem closOf_has {env : Env} {x : Str} : ∀ (l : List (Str × NameKind)) (cs : List (Str × Addr)), ((x, NameKind.free) ∈ l ∨ ∃ d, cs.lookup x = some d) → ∃ d, (closOf env l cs).lookup x = some d
  | [], cs, h => by
    rcases h with h | h
    · cases h
    · exact h
  | (n, k) :: r, cs, h => by
    rw [closOf]
    split
    · rename_i hk
      refine closOf_has r _ ?_
      by_cases hx : x = n
      · subst hx; exact .inr ⟨_, by rw [List.lookup_cons]; simp; rfl⟩
      · rcases h with h | ⟨d, h⟩
        · rcases List.mem_cons.mp h with e | e
          · exact absurd (congrArg Prod.fst e) hx
          · exact .inl e
        · refine .inr ⟨d, ?_⟩
          rw [List.lookup_cons]
          have : (x == n) = false := by simpa using hx
          rw [this]; exact h
    · rename_i hk
      refine closOf_has r _ ?_
      rcases h with h | h
      · rcases List.mem_cons.mp h with e | e
        · have : k = .free := (congrArg Prod.snd e).symm
          subst this
          exact absurd rfl hk
        · exact .inl e
      · exact .inr h

theorem relabel_of {env : Env} {x : Str} {k' : NameKind} : ∀ {names : List (Str × NameKind)}, (names.map fun (n, k) => if (k == NameKind.free && env.scope.kind == .function && env.kindOf n == some .cell) then (n, NameKind.cell) else (n, k)).lookup x = some k' →
    ∃ k, names.lookup x = some k ∧ (k' = k ∨ (k = .free ∧ k' = .cell))
  | [], h => by simp at h
  | (n, k) :: r, h => by
    have ih := @relabel_of env x k' r
    have h' : List.lookup x ((if (k == NameKind.free && env.scope.kind == .function && env.kindOf n == some .cell) = true then (n, NameKind.cell) else (n, k)) :: (r.map fun (n, k) => if (k == NameKind.free && env.scope.kind == .function && env.kindOf n == some .cell) then (n, NameKind.cell) else (n, k))) = some k' := h
    cases hx : x == n with
    | true =>
      refine ⟨k, by rw [List.lookup_cons, hx], ?_⟩
      by_cases hc : (k == NameKind.free && env.scope.kind == .function && env.kindOf n == some .cell) = true
      · rw [if_pos hc, List.lookup_cons, hx] at h'
        have hk : (k == NameKind.free) = true := by
          rw [Bool.and_eq_true, Bool.and_eq_true] at hc
          exact hc.1.1
        exact .inr ⟨eq_of_beq hk, (Option.some.inj h').symm⟩
      · rw [if_neg hc, List.lookup_cons, hx] at h'
        exact .inl (Option.some.inj h').symm
    | false =>
      rw [List.lookup_cons, hx]
      by_cases hc : (k == NameKind.free && env.scope.kind == .function && env.kindOf n == some .cell) = true
      · rw [if_pos hc, List.lookup_cons, hx] at h'; exact ih h'
      · rw [if_neg hc, List.lookup_cons, hx] at h'; exact ih h'
theorem relabel_cell {env : Env} {x : Str} (hf : env.scope.kind = .function) (hx : env.kindOf x = some .cell) : ∀ {names : List (Str × NameKind)}, names.lookup x = some .free →
    (names.map fun (n, k) => if (k == NameKind.free && env.scope.kind == .function && env.kindOf n == some .cell) then (n, NameKind.cell) else (n, k)).lookup x = some .cell
  | [], h => by simp at h
  | (n, k) :: r, h => by
    have ih := @relabel_cell env x hf hx r
    show List.lookup x ((if (k == NameKind.free && env.scope.kind == .function && env.kindOf n == some .cell) = true then (n, NameKind.cell) else (n, k)) :: (r.map fun (n, k) => if (k == NameKind.free && env.scope.kind == .function && env.kindOf n == some .cell) then (n, NameKind.cell) else (n, k))) = some .cell
    cases hxn : x == n with
    | true =>
      rw [List.lookup_cons, hxn] at h
      have hk : k = .free := Option.some.inj h
      have hn : n = x := (eq_of_beq hxn).symm
      subst hk hn
      rw [if_pos (by rw [hf, hx]; decide), List.lookup_cons, hxn]
    | false =>
      rw [List.lookup_cons, hxn] at h
      by_cases hc : (k == NameKind.free && env.scope.kind == .function && env.kindOf n == some .cell) = true
      · rw [if_pos hc, List.lookup_cons, hxn]; exact ih h
      · rw [if_neg hc, List.lookup_cons, hxn]; exact ih h
/-- what is asked of a comprehension's names: NX, sX: the names and scope of the frame around; N, pick: the block's slots, and where those of the frame around stand there -/
def compOk (NX : List Str) (sX sc : Scope) (N : List Str) (pick : List (Option Nat)) : Bool :=
  decide (sc.kind = .function) && (sc.names.all fun y => decide (y.2 ≠ .cell)) && (sc.names.all fun y => decide (y.2 ≠ .local) || decide (sc.names.lookup y.1 = some .local)) &&
  (sc.names.all fun y => decide (y.2 ≠ .free) || decide (sX.names.lookup y.1 = some .cell)) && decide (pick.length = N.length) &&
  ((List.range N.length).all fun i => match pick[i]?, N[i]? with
    | some (some j), some x => decide (NX[j]? = some x) && decide (sc.names.lookup x = some .free) && decide (sX.names.lookup x = some .cell)
    | _, _ => true)
structure CompSc (NX : List Str) (sX sc : Scope) (N : List Str) (pick : List (Option Nat)) : Prop where
  kind : sc.kind = .function
  nocell : ∀ y ∈ sc.names, y.2 ≠ .cell
  names : ∀ y ∈ sc.names, y.2 = .local → sc.names.lookup y.1 = some .local
  free : ∀ n, (n, NameKind.free) ∈ sc.names → sX.names.lookup n = some .cell
  len : pick.length = N.length
  pk : ∀ (i j : Nat) (x : Str), pick[i]? = some (some j) → N[i]? = some x → NX[j]? = some x ∧ sc.names.lookup x = some .free ∧ sX.names.lookup x = some .cell
theorem compSc_of {NX : List Str} {sX sc : Scope} {N : List Str} {pick : List (Option Nat)} (h : compOk NX sX sc N pick = true) : CompSc NX sX sc N pick := by
  unfold compOk at h
  rw [Bool.and_eq_true, Bool.and_eq_true, Bool.and_eq_true, Bool.and_eq_true, Bool.and_eq_true] at h
  obtain ⟨⟨⟨⟨⟨h1, h2⟩, h3⟩, h4⟩, h5⟩, h6⟩ := h
  rw [List.all_eq_true] at h2 h3 h4 h6
  refine ⟨of_decide_eq_true h1, fun y hy => of_decide_eq_true (h2 y hy), fun y hy hl => ?_, fun n hn => ?_, of_decide_eq_true h5, fun i j x e1 e2 => ?_⟩
  · have q := h3 y hy
    rw [Bool.or_eq_true] at q
    rcases q with q | q
    · exact absurd hl (of_decide_eq_true q)
    · exact of_decide_eq_true q
  · have q := h4 _ hn
    rw [Bool.or_eq_true] at q
    rcases q with q | q
    · exact absurd rfl (of_decide_eq_true q)
    · exact of_decide_eq_true q
  · have q := h6 i (List.mem_range.mpr (List.getElem?_eq_some_iff.mp e2).1)
    rw [e1, e2] at q
    have q' : (decide (NX[j]? = some x) && decide (sc.names.lookup x = some .free) && decide (sX.names.lookup x = some .cell)) = true := q
    rw [Bool.and_eq_true, Bool.and_eq_true] at q'
    exact ⟨of_decide_eq_true q'.1.1, of_decide_eq_true q'.1.2, of_decide_eq_true q'.2⟩

section
variable {prog : Program} {w : World} {A : Around} {E : Value → Shared → Prop} {R : Result → Shared → Prop} {s : Shared}
theorem compLoop_any {elt target iter : Expr} {ifs : List Expr} {scope : Scope} {pos : Pos} {it acc : Value} {env : Env} (I : Nat → Shared → Prop)
    (turn : ∀ n s, I n s → wpAny (model prog w) A (pyNext it) (fun r s₁ => match r with
      | none => R (.ok .next) s₁
      | some v => wpAny (model prog w) A (letOwnedTupleGo target it v) (fun _ s₀ => wpAny (model prog w) A (assign target env v) (fun _ s₂ =>
          wpAny (model prog w) A (forIn ifs true fun c r => if r = true then do let ok ← isTrue c env (eval c env); pure (ForInStep.yield ok) else pure (ForInStep.yield r)) (fun ok s₃ =>
            if ok = true then wpAny (model prog w) A (eval elt env) (fun x s₄ =>
              wpAny (model prog w) A (call (.builtin "list.append") [acc, x]) (fun _ s₅ => ∃ m, m < n ∧ I m s₅) (notedBy (model prog w) A env fun e s' => R (.error e) s') s₄) (notedBy (model prog w) A env fun e s' => R (.error e) s') s₃
            else ∃ m, m < n ∧ I m s₃) (notedBy (model prog w) A env fun e s' => R (.error e) s') s₂) (notedBy (model prog w) A env fun e s' => R (.error e) s') s₀) (notedBy (model prog w) A env fun e s' => R (.error e) s') s₁) (notedBy (model prog w) A env fun e s' => R (.error e) s') s)
    (n : Nat) (h : I n s) :
    codeAny (model prog w) A (.compLoop (.ListComp elt [⟨target, iter, ifs, 0⟩] scope pos) 0 it acc env) R s := by
  refine codeAny_loop rfl I (fun n s hI => ?_) n h
  show wpAny _ A ((compTurn (.ListComp elt [⟨target, iter, ifs, 0⟩] scope pos) 0 it acc env).onRaise (fun x => do noteFrame x env; theTreesLotGoes x)) _ _ s
  refine wpAny_noted ?_
  rw [compTurn_list]
  refine wpAny_bind (wpAny_standAt (wpAny_bind (wpAny_mono (turn n s hI) (fun r s₁ h₁ => ?_) fun _ _ h' => h')))
  cases r with
  | none => exact wpAny_pure h₁
  | some v =>
    refine wpAny_bind (wpAny_mono h₁ (fun _ s₀ h₀ => ?_) fun _ _ h' => h')
    refine wpAny_bind (wpAny_mono h₀ (fun _ s₂ h₂ => wpAny_bind (wpAny_mono h₂ (fun ok s₃ h₃ => ?_) fun _ _ h' => h')) fun _ _ h' => h')
    cases ok with
    | false => exact wpAny_pure ⟨rfl, h₃⟩
    | true =>
      exact wpAny_bind (wpAny_bind (wpAny_mono h₃ (fun x s₄ h₄ => wpAny_bind (wpAny_mono h₄ (fun _ s₅ h₅ => wpAny_pure (wpAny_pure ⟨rfl, h₅⟩)) fun _ _ h' => h')) fun _ _ h' => h'))
end
end L2

namespace L2
open PySem PySem.Spec PyProof.Rows
/-! ### an object that is there, tracked from here on -/
theorem Inv.track {X : Cx} {pins : List (Addr × Obj)} {σ : St} {H : Hp} {s : Shared} {a : Addr} {o : HO} (I : Inv X pins σ H s) (hn : H a = none) (hL : a ≠ X.env.locals) (h1 : X.s₀.heap.objs.size ≤ a)
    (h2 : ∀ x c, X.env.cells.lookup x = some c → c ≠ a) (h3 : ∀ p ∈ X.pn ++ pins, p.1 ≠ a) (new : ObjOk X.prog X.w (upd H a o) s.heap a o) : Inv X pins σ (upd H a o) s := by
  have ne : ∀ b u, H b = some u → b ≠ a := fun b u e => ne_of_none e hn
  have old : ∀ b ob, X.s₀.heap.get? b = some ob → b ≠ a := fun b ob e z => by
    subst z; exact absurd (Nat.lt_of_lt_of_le (Heap.lt_size e) h1) (Nat.lt_irrefl _)
  refine ⟨I.ok, I.os, I.bare, ⟨I.base.keep, I.base.slot, fun b ob e n hx => ?_, I.base.there, fun b xs e => ?_, fun b ob u e => ?_, fun b ps e => ?_⟩, I.loc, I.cell, ?_, fun x c e => ?_, fun p hp => ?_, fun b u e => ?_, I.len⟩
  · rw [upd_ne (old b ob e)]; exact I.base.free b ob e n hx
  · have q := I.base.tups b xs e; rw [upd_ne (ne b _ q)]; exact q
  · have q := I.base.frzs b ob u e; rw [upd_ne (ne b _ q)]; exact q
  · obtain ⟨more, q⟩ := I.base.tbls b ps e; exact ⟨more, by rw [upd_ne (ne b _ q)]; exact q⟩
  · rw [upd_ne (Ne.symm hL)]; exact I.free
  · rw [upd_ne (h2 x c e)]; exact I.freeC x c e
  · obtain ⟨e, n, ne', nf, d⟩ := I.pin p hp
    exact ⟨e, by rw [upd_ne (h3 p hp)]; exact n, ne', nf, d⟩
  · by_cases hb : b = a
    · subst hb; rw [upd_same] at e; cases e; exact new
    · rw [upd_ne hb] at e
      exact (I.hok b u e).stay (fun _ _ _ q => q) (fun c q => by rw [upd_ne (ne c _ q)]; exact q) fun c xs q => by rw [upd_ne (ne c _ q)]; exact q

/-! ### a comprehension's block -/
def Cx.blk (X : Cx) (sc : Scope) (N : List Str) (C : Addr) (s₀ : Shared) (H₀ : Hp) (ex : List Addr) : Cx :=
  { X with N := N, s₀ := s₀, H₀ := H₀, env := compEnvC sc (closOf X.env sc.names []) C X.env, outer := X.stack, ex := ex, fn := fun _ => false, pn := [], xe := fun _ _ => False }
def pickS (pick : List (Option Nat)) (σ : St) : St := pick.map fun o => match o with
  | none => none
  | some j => match σ[j]? with
    | some (some v) => some v
    | _ => none
theorem pickS_get {pick : List (Option Nat)} {σ : St} {i : Nat} {v : V} (h : (pickS pick σ)[i]? = some (some v)) : ∃ j, pick[i]? = some (some j) ∧ σ[j]? = some (some v) := by
  unfold pickS at h
  rw [List.getElem?_map] at h
  cases e : pick[i]? with
  | none => rw [e] at h; cases h
  | some o =>
    rw [e] at h
    cases o with
    | none => cases h
    | some j =>
      refine ⟨j, rfl, ?_⟩
      have h' : (match σ[j]? with | some (some v) => some v | _ => none) = some v := Option.some.inj h
      cases e2 : σ[j]? with
      | none => rw [e2] at h'; cases h'
      | some o2 =>
        rw [e2] at h'
        cases o2 with
        | none => cases h'
        | some v' => cases h'; rfl
section
variable {X : Cx} {pins : List (Addr × Obj)} {σ : St} {H : Hp} {s₂ : Shared} {NX N : List Str} {sX sc : Scope} {pick : List (Option Nat)} {fp : List Addr}
theorem blk_cell (I : Inv X pins σ H s₂) (ck : CompSc NX sX sc N pick) (hX : X.env.scope = sX) {x : Str} {c : Addr} (e : (closOf X.env sc.names []).lookup x = some c) : X.env.cells.lookup x = some c :=
  closOf_lookup sc.names [] (fun n hn => I.ok.has n (.inl (by show X.env.scope.names.lookup n = _; rw [hX]; exact ck.free n hn))) (fun _ _ h => by simp at h) e
theorem blk_clos (I : Inv X pins σ H s₂) (ck : CompSc NX sX sc N pick) (hX : X.env.scope = sX) : closureFor sc X.env = pure (closOf X.env sc.names []) :=
  closureFor_of fun n hn => I.ok.has n (.inl (by show X.env.scope.names.lookup n = _; rw [hX]; exact ck.free n hn))
theorem blk_fp (I : Inv X pins σ H s₂) (ck : CompSc NX sX sc N pick) (hX : X.env.scope = sX) {C D : Addr} {od : Obj} {H' : Hp} (hC : s₂.heap.objs.size ≤ C) (hD : s₂.heap.objs.size ≤ D) (hf : ∀ b ∈ fp, FpOk X pins H b) (hfl : ∀ b ∈ fp, b < s₂.heap.objs.size) (hn : ∀ b ∈ fp, H' b = none) :
    ∀ b ∈ fp, FpOk (X.blk sc N C s₂ H fp) [(D, od)] H' b := fun b hb => by
  obtain ⟨f0, f1, f2, f3, f4, f5⟩ := hf b hb
  have hlt := hfl b hb
  refine ⟨hn b hb, Nat.ne_of_lt (Nat.lt_of_lt_of_le hlt hC), fun z => ?_, .inl hb, fun x c e => f4 x c (blk_cell I ck hX e), fun p hp => ?_⟩
  · rcases List.mem_cons.mp (I.stkSub b z) with e | e
    · exact f1 e
    · exact f2 e
  · have hp' : p ∈ [(D, od)] := hp
    rw [List.mem_singleton] at hp'
    subst hp'
    exact Nat.ne_of_gt (Nat.lt_of_lt_of_le hlt hD)
theorem blk_inv (I : Inv X pins σ H s₂) (ck : CompSc NX sX sc N pick) (hN : X.N = NX) (hX : X.env.scope = sX) (hf : ∀ b ∈ fp, FpOk X pins H b) (hfl : ∀ b ∈ fp, b < s₂.heap.objs.size) {h₁ : Heap} {C D : Addr} {od : Obj} {m : Str → Option Value} {tk : Nat}
    (old : ∀ b o, s₂.heap.get? b = some o → h₁.get? b = some o) (hD : s₂.heap.objs.size ≤ D) (hC : s₂.heap.objs.size ≤ C) (hDC : D ≠ C) (hod : h₁.get? D = some od) (hodc : ∀ v, od.data ≠ .cell v) (ns : h₁.Ns C m) :
    Inv (X.blk sc N C s₂ H fp) [(D, od)] (pickS pick σ) H { s₂ with heap := h₁, toks := tk } := by
  have kX : X.env.scope.kind = .function := I.ok.kind
  have noStk : ∀ b, s₂.heap.objs.size ≤ b → b ∉ frs X.stack := fun b hb z => by
    rcases List.mem_cons.mp (I.stkSub b z) with e | e
    · exact absurd (Nat.lt_of_lt_of_le I.lt (by rw [← e]; exact hb)) (Nat.lt_irrefl _)
    · exact I.nofs hb e
  have ok : (X.blk sc N C s₂ H fp).Ok := by
    refine ⟨I.ok.mod, ck.kind, I.ok.glob, I.ok.blt, hC, fun x y c h1 h2 => ?_, fun x hx => ?_, fun x c h _ => ?_, I.ok.hd, I.ok.frames, .inl rfl, fun b hb => ?_, I.bs, Nat.le_trans I.ok.bsz I.sz, fun b o e hb => ?_, fun b hb z => ?_, I.stack, I.stkFree⟩
    · exact I.ok.inj x y c (blk_cell I ck hX h1) (blk_cell I ck hX h2)
    · have hx' : (relabel sc X.env).names.lookup x = some .cell ∨ (relabel sc X.env).names.lookup x = some .free := hx
      refine closOf_has sc.names [] (.inl ?_)
      rcases hx' with h | h
      · obtain ⟨k, h1, h2⟩ := relabel_of h
        rcases h2 with h2 | ⟨h2, _⟩
        · exact absurd h2.symm (ck.nocell _ (PySem.mem_of_lookup h1))
        · rw [h2] at h1; exact PySem.mem_of_lookup h1
      · obtain ⟨k, h1, h2⟩ := relabel_of h
        rcases h2 with h2 | ⟨_, h2⟩
        · rw [← h2] at h1; exact PySem.mem_of_lookup h1
        · cases h2
    · cases h
    · have hlt := hfl b hb
      exact ⟨Nat.ne_of_lt (Nat.lt_of_lt_of_le hlt hC), fun x c e => (hf b hb).2.2.2.2.1 x c (blk_cell I ck hX e)⟩
    · rcases (hf b hb).2.2.2.1 with z | z
      · exact I.ok.noex b o e z
      · exact absurd (Nat.lt_of_lt_of_le (Heap.lt_size e) (Nat.le_trans I.ok.bsz z)) (Nat.lt_irrefl _)
    · rcases List.mem_cons.mp (I.stkSub b z) with e | e
      · exact (hf b hb).2.1 e
      · exact (hf b hb).2.2.1 e
  refine ⟨ok, rfl, I.bare, Un.kept old, ⟨m, ns, fun i x v h1 h2 h3 => ?_⟩, fun x c e => ?_, I.hok.fresh hC, fun x c e => I.freeC x c (blk_cell I ck hX e), fun p hp => ?_, I.hok.kept old, ?_⟩
  · obtain ⟨j, hp, hσ⟩ := pickS_get h2
    obtain ⟨hNX, hfr, hcl⟩ := ck.pk i j x hp h1
    have kx : X.env.kindOf x = some .cell := by show X.env.scope.names.lookup x = _; rw [hX]; exact hcl
    obtain ⟨mX, _, hl⟩ := I.loc
    obtain ⟨u, r, l⟩ := hl j x v (by rw [hN]; exact hNX) hσ (.inr (.inl kx))
    refine ⟨u, r, .inr ⟨.inl (relabel_cell kX kx hfr), ?_⟩⟩
    rcases l with ⟨k, _⟩ | ⟨_, c, e, z⟩
    · rw [kx] at k; cases k
    · obtain ⟨d, hd⟩ := closOf_has (env := X.env) (x := x) sc.names [] (.inl (PySem.mem_of_lookup hfr))
      have hd' := blk_cell I ck hX hd
      rw [e] at hd'; cases hd'
      obtain ⟨o, ho, hc⟩ := z
      exact ⟨c, hd, o, old _ _ ho, hc⟩
  · obtain ⟨v, o, ho, hc⟩ := I.cell x c (blk_cell I ck hX e)
    exact ⟨v, o, old _ _ ho, hc⟩
  · have hp' : p ∈ [(D, od)] := hp
    rw [List.mem_singleton] at hp'
    subst hp'
    exact ⟨hod, I.hok.fresh hD, hDC, noStk D hD, hodc⟩
  · unfold pickS
    rw [List.length_map]
    exact ck.len
end

/-- a comprehension's tests -/
def PIfs (X : Cx) (ifs : List Expr) (t : TT) : Prop :=
  ∀ (pins : List (Addr × Obj)) (s : Shared) (σ : St) (H : Hp) (Q : Bool → Hp → Prop), Inv X pins σ H s → t σ H Q →
    wpAny (model X.prog X.w) X.A (forIn ifs true fun c r => if r = true then do let ok ← isTrue c X.env (eval c X.env); pure (ForInStep.yield ok) else pure (ForInStep.yield r)) (TP X pins σ Q) X.xe s
def tYes : TT := fun _ H Q => Q true H
theorem pifs_nil {X : Cx} : PIfs X [] tYes := fun _ _ _ H _ I h => wpAny_tests_nil ⟨H, I, h⟩

/-- [elt for tg in iter if ifs]: W, the invariant by the turn, a measure, what is made so far, the block's slots and the heap -/
def tComp (wi : TI) (pick : List (Option Nat)) (g : TG) (ti : TT) (te : TE) : TE := fun σ H Q => wi σ H fun J H1 => ∃ W : Nat → Nat → List V → St → Hp → Prop, (∃ m, W 0 m [] (pickS pick σ) H1) ∧ ∀ i m ys σ' H', W i m ys σ' H' → ys.length ≤ sizeLine ∧
  ((J.stop i H' ∧ ∀ p, H' p = none → Q (.ref p) (upd H' p (.lst ys))) ∨
   (J.go i H' ∧ ∃ N : List V → St → Hp → Prop, (∀ zs τ L, N zs τ L → ∃ m', m' < m ∧ W (i + 1) m' zs τ L) ∧ ∀ x H2, J.yld i H' x H2 → g x σ' H2 fun σ3 H3 => ti σ3 H3 fun b H4 => if b = true then te σ3 H4 fun v H5 => N (ys ++ [v]) σ3 H5 else N ys σ3 H4))

section
variable {X : Cx} {tg iter elt : Expr} {ifs : List Expr} {NX N : List Str} {sX sc : Scope} {pick : List (Option Nat)} {wi : TI} {g : TG} {ti : TT} {te : TE} {pos : Pos}
theorem comp_block {pins : List (Addr × Obj)} {σ : St} {H : Hp} {s₂ : Shared} {it : Addr} {fp : List Addr} {tn : Nat → Heap → Prop} {J : It} {Qv : V → Hp → Prop} {E : Value → Shared → Prop} {RR : Value → Addr → Result → Shared → Prop}
    (ck : CompSc NX sX sc N pick) (hN : X.N = NX) (hX : X.env.scope = sX) (hc : X.calm = true)
    (hg : ∀ C s₀ H₀ ex, PG (X.blk sc N C s₀ H₀ ex) tg g) (hifs : ∀ C s₀ H₀ ex, PIfs (X.blk sc N C s₀ H₀ ex) ifs ti) (he : ∀ C s₀ H₀ ex, PE (X.blk sc N C s₀ H₀ ex) elt te)
    (I : Inv X pins σ H s₂) (T : Turn X.prog X.w X.K tg J fp it tn) (st : tn 0 s₂.heap) (hf : ∀ b ∈ fp, FpOk X pins H b)
    (hW : ∃ W : Nat → Nat → List V → St → Hp → Prop, (∃ m, W 0 m [] (pickS pick σ) H) ∧ ∀ i m ys σ' H', W i m ys σ' H' → ys.length ≤ sizeLine ∧
      ((J.stop i H' ∧ ∀ p, H' p = none → Qv (.ref p) (upd H' p (.lst ys))) ∨
       (J.go i H' ∧ ∃ N : List V → St → Hp → Prop, (∀ zs τ L, N zs τ L → ∃ m', m' < m ∧ W (i + 1) m' zs τ L) ∧ ∀ x H2, J.yld i H' x H2 → g x σ' H2 fun σ3 H3 => ti σ3 H3 fun b H4 => if b = true then te σ3 H4 fun v H5 => N (ys ++ [v]) σ3 H5 else N ys σ3 H4)))
    (fin : ∀ (D C : Addr) (s' : Shared) (H' : Hp) (ys : List V) (m : Str → Option Value), D ≠ C → s₂.heap.objs.size ≤ C → H' C = none → s'.heap.Ns C m → Inv X pins σ (upd H' D (.lst ys)) s' → Qv (.ref D) (upd H' D (.lst ys)) → RR (.ref D) C (.ok .next) s') :
    wpAny (model X.prog X.w) X.A (newList []) (fun acc s₃ => wpAny (model X.prog X.w) X.A (newFunctionEnv sc X.env.globals (closOf X.env sc.names []) [] X.env.qual none .none (some X.env)) (fun cenv s₄ =>
      codeAny (model X.prog X.w) X.A (.compStart (.ListComp elt [⟨tg, iter, ifs, 0⟩] sc pos) 0 (.ref it) acc { cenv with scope := relabel sc X.env }) (RR acc cenv.locals) s₄) E s₃) E s₂ := by
  obtain ⟨W, ⟨m0, w0⟩, turn⟩ := hW
  refine wpAny_newObj_type (wpAny_newFunctionEnv ck.nocell (by intro y hy; simp at hy) (fun h₁ hns₁ hsb₁ => ?_) ck.kind)
  dsimp only at hns₁ hsb₁ ⊢
  generalize hH2 : s₂.heap.push { cls := .type "list", dict := none, data := .seq ([] : List Value).toArray } = H2 at hns₁ hsb₁ ⊢
  have hC : H2.objs.size = s₂.heap.objs.size + 1 := by rw [← hH2, Heap.size_push]
  have hDC : s₂.heap.objs.size ≠ H2.objs.size := by rw [hC]; exact Nat.ne_of_lt (Nat.lt_succ_self _)
  have hCle : s₂.heap.objs.size ≤ H2.objs.size := by rw [hC]; exact Nat.le_succ _
  have old : ∀ b o, s₂.heap.get? b = some o → h₁.get? b = some o := fun b o e =>
    hsb₁.extBut b o (Nat.ne_of_lt (Nat.lt_of_lt_of_le (Heap.lt_size e) hCle)) (Heap.get?_push_of_some _ (hH2 ▸ Heap.get?_push_of_some _ e))
  have hacc : h₁.get? s₂.heap.objs.size = some { cls := .type "list", data := .seq ([] : List Value).toArray } := hsb₁.extBut _ _ hDC (Heap.get?_push_of_some _ (hH2 ▸ Heap.get?_push_size _ rfl))
  have hfl : ∀ b ∈ fp, b < s₂.heap.objs.size := fun b hb => by
    obtain ⟨o, e, _⟩ := T.obj 0 _ st b hb
    exact Heap.lt_size e
  have st₁ : tn 0 h₁ := T.keep 0 _ _ st fun b _ o e => old b o e
  generalize hDd : s₂.heap.objs.size = D at *
  generalize hCc : H2.objs.size = C at *
  have loop : ∀ s₃ : Shared, s₃ = { s₂ with heap := h₁, toks := s₂.toks + ([] : List (Str × Value)).length } →
      codeAny (model X.prog X.w) X.A (.compLoop (.ListComp elt [⟨tg, iter, ifs, 0⟩] sc pos) 0 (.ref it) (.ref D) (X.blk sc N C s₂ H fp).env) (RR (.ref D) C) s₃ := by
    rintro s₃ rfl
    have I0 : Inv (X.blk sc N C s₂ H fp) [(D, { cls := .type "list", data := .seq ([] : List Value).toArray })] (pickS pick σ) H { s₂ with heap := h₁, toks := s₂.toks + ([] : List (Str × Value)).length } :=
      blk_inv I ck hN hX hf (fun b hb => by rw [hDd]; exact hfl b hb) old (Nat.le_of_eq hDd) (by rw [hDd]; exact hCle) hDC hacc (fun v z => by cases z) hns₁
    have fpk : ∀ {od : Obj} {H' : Hp}, (∀ b ∈ fp, H' b = none) → ∀ b ∈ fp, FpOk (X.blk sc N C s₂ H fp) [(D, od)] H' b := fun {od H'} hn =>
      blk_fp I ck hX (by rw [hDd]; exact hCle) (Nat.le_of_eq hDd) hf (fun b hb => by rw [hDd]; exact hfl b hb) hn
    refine compLoop_any (fun n s' => ∃ (i : Nat) (ys : List V) (its : List Value) (c : Nat) (σ' : St) (H' : Hp), Inv (X.blk sc N C s₂ H fp) [(D, { cls := .type "list", data := .seq its.toArray c })] σ' H' s' ∧ Vals ys its ∧ tn i s'.heap ∧ (∀ b ∈ fp, H' b = none) ∧ W i n ys σ' H') ?_ m0
      ⟨0, [], [], 0, pickS pick σ, H, I0, .nil, st₁, fun b hb => (hf b hb).1, w0⟩
    rintro n s' ⟨i, ys, its, c, σ', H', I', rv, st', fr, w⟩
    obtain ⟨hlen, tw⟩ := turn i n ys σ' H' w
    rcases tw with ⟨stop, qn⟩ | ⟨go, Nx, hNx, step⟩
    · refine thn (T.done (X.blk sc N C s₂ H fp) rfl rfl rfl hc i _ s' σ' H' _ I' (fpk fr) st' stop) fun r s4 ⟨hr, I4⟩ => ?_
      subst hr
      obtain ⟨m, hn, _⟩ := I4.loc
      obtain ⟨p1, p2, p3, p4, _⟩ := I4.pin (D, _) (List.mem_append_right _ (List.mem_singleton.mpr rfl))
      have Jx : Inv X pins σ H' s4 := I.call' (ch := fp) I4.os I4.base I4.hok I4.bare fun b hb => ⟨(hf b hb).2.2.2.1, (hf b hb).2.1, (hf b hb).2.2.2.2.1, (hf b hb).2.2.2.2.2⟩
      obtain ⟨k0, k1, k2, k3, k4, k5⟩ := I.fpOk (H' := H') (b := D) (Nat.le_of_eq hDd) p2
      have Jt : Inv X pins σ (upd H' D (.lst ys)) s4 := Jx.track p2 k1 (by rw [← hDd]; exact I.sz) k4 k5 ⟨hlen, its, c, rv, p1⟩
      exact fin D C s4 H' ys m hDC hCle I4.free hn Jt (qn D p2)
    · refine thn (T.item (X.blk sc N C s₂ H fp) rfl rfl rfl hc i _ s' σ' H' _ I' (fpk fr) st' go) fun r s4 ⟨u, hr, h4⟩ => ?_
      subst hr
      refine thn h4 fun _ s5 ⟨x, H5, I5, r5, y5, st5, fr5⟩ => ?_
      have I5' := I5.pinned (fpk fr5) (T.obj _ _ st5)
      refine wpAny_mono (hg C s₂ H fp _ s5 σ' H5 x u _ I5' r5 (step x H5 y5)) (fun _ s6 ⟨σ6, H6, I6, q6⟩ => ?_) fun _ _ z => False.elim z
      refine wpAny_mono (hifs C s₂ H fp _ s6 σ6 H6 _ I6 q6) (fun b s7 ⟨H7, I7, q7⟩ => ?_) fun _ _ z => False.elim z
      -- what the pins say behind any step
      have keeps : ∀ {σ' : St} {H' : Hp} {s' : Shared}, Inv (X.blk sc N C s₂ H fp) ([(D, { cls := .type "list", data := .seq its.toArray c })] ++ pinsAt fp s5.heap) σ' H' s' →
          (∀ b ∈ fp, ∀ o, s5.heap.get? b = some o → s'.heap.get? b = some o) ∧ (∀ b ∈ fp, H' b = none) := fun {σ' H' s'} Iz =>
        ⟨fun b hb o e => (Iz.pin (b, o) (List.mem_append_right _ (List.mem_append_right _ (mem_pinsAt hb e)))).1, fun b hb => by
          obtain ⟨o, e, d⟩ := T.obj _ _ st5 b hb
          exact (Iz.pin (b, o) (List.mem_append_right _ (List.mem_append_right _ (mem_pinsAt hb e)))).2.1⟩
      cases b with
      | false =>
        rw [if_neg Bool.false_ne_true] at q7 ⊢
        obtain ⟨m', hm, w7⟩ := hNx _ _ _ q7
        obtain ⟨k1, k2⟩ := keeps I7
        exact ⟨m', hm, i + 1, ys, its, c, σ6, H7, I7.unpinned, rv, T.keep _ _ _ st5 k1, k2, w7⟩
      | true =>
        rw [if_pos rfl] at q7 ⊢
        refine wpAny_mono (he C s₂ H fp _ s7 σ6 H7 _ I7 q7) (fun y s8 ⟨v, H8, I8, r8, q8⟩ => ?_) fun _ _ z => False.elim z
        obtain ⟨m', hm, w8⟩ := hNx _ _ _ q8
        obtain ⟨k1, k2⟩ := keeps I8
        obtain ⟨p1, p2, p3, p4, p5⟩ := I8.pin (D, _) (List.mem_append_right _ (List.mem_append_left _ (List.mem_singleton.mpr rfl)))
        have hsz : its.toArray.size ≤ sizeLine := by
          rw [List.size_toArray, ← rv.length]; exact hlen
        refine wpAny_list_append_plain (hsz := hsz) ⟨c, p1⟩ fun h₉ ⟨c9, e9⟩ hs₉ => ?_
        have J0 : Inv (X.blk sc N C s₂ H fp) [] σ6 H8 s8 := I8.pins_of fun p hp => absurd hp (by simp)
        have J1 : Inv (X.blk sc N C s₂ H fp) [] σ6 H8 { s8 with heap := h₉ } := J0.turned (t' := s8.toks) (it := D) (fun b o hb e => hs₉.extBut b o hb e) p2 p3 (.inr (Nat.le_of_eq hDd)) (fun x c' e z => by
          obtain ⟨v', o', ho', _⟩ := I.cell x c' (blk_cell I ck hX e)
          have := Heap.lt_size ho'
          rw [hDd, z] at this
          exact absurd this (Nat.lt_irrefl _)) (fun p hp => absurd hp (by intro z; cases z))
        have eArr : its.toArray.push y = (its ++ [y]).toArray := by simp
        rw [eArr] at e9
        refine ⟨m', hm, i + 1, ys ++ [v], its ++ [y], c9, σ6, H8, J1.pins_of fun p hp => ?_, rv.append (.cons r8 .nil), T.keep _ _ _ st5 fun b hb o e => hs₉.extBut b o (Nat.ne_of_lt (hfl b hb)) (k1 b hb o e), k2, w8⟩
        rw [List.mem_singleton] at hp
        subst hp
        exact ⟨e9, p2, p3, p4, fun v z => by cases z⟩
  exact codeAny_compStart_list (loop _ rfl) (T.self X.A 0 _ _ _ st₁ (loop _ rfl))

theorem pe_comp (ck : compOk NX sX sc N pick = true) (hN : X.N = NX) (hX : X.env.scope = sX) (hc : X.calm = true) (hi : PI X tg iter wi)
    (hg : ∀ C s₀ H₀ ex, PG (X.blk sc N C s₀ H₀ ex) tg g) (hifs : ∀ C s₀ H₀ ex, PIfs (X.blk sc N C s₀ H₀ ex) ifs ti) (he : ∀ C s₀ H₀ ex, PE (X.blk sc N C s₀ H₀ ex) elt te)
    (hs : ∀ x, foldedSetIterable iter X.env x = pure x := by intro _; rfl) : PE X (.ListComp elt [⟨tg, iter, ifs, 0⟩] sc pos) (tComp wi pick g ti te) := by
  intro pins s σ H Q I h
  have ck := compSc_of ck
  rw [eval_ListComp]
  refine wpAny_comprehension_free (use := none) (cl := closOf X.env sc.names []) rfl hs (blk_clos I ck hX) ck.kind ck.names (thn (hi pins s σ H _ I h) fun v s1 h1 => thn h1 fun itv s2 h2 => ?_)
  obtain ⟨it, fp, tn, J, H2, e, I2, T, st2, f2, hW⟩ := h2
  subst e
  refine comp_block (Qv := Q) (RR := fun acc C => compPost (model X.prog X.w) X.A X.xe none (EP X pins σ Q) acc C) ck hN hX hc hg hifs he I2 T st2 f2 hW ?_
  intro D C s' H' ys m hDC hC hCn ns Jt q
  refine ⟨m, ns, fun h' hs' => ?_⟩
  obtain ⟨k0, k1, k2, k3, k4, k5⟩ := I2.fpOk (H' := upd H' D (.lst ys)) (b := C) hC (by rw [upd_ne (Ne.symm hDC)]; exact hCn)
  exact ⟨.ref D, _, Jt.turned (t' := s'.toks) (it := C) (fun b o hb e => hs'.extBut b o hb e) k0 k1 k3 k4 k5, rfl, q⟩

/-- name = [..]: the name is stored ahead of the block's own names' going -/
theorem ps_setC {i : Nat} {x : Str} {px spos : Pos} (hNd : X.N.Nodup) (hi' : X.N[i]? = some x) (hx : X.env.scope.names.lookup x = some .local) (ck : compOk NX sX sc N pick = true) (hN : X.N = NX) (hX : X.env.scope = sX) (hc : X.calm = true) (hi : PI X tg iter wi)
    (hg : ∀ C s₀ H₀ ex, PG (X.blk sc N C s₀ H₀ ex) tg g) (hifs : ∀ C s₀ H₀ ex, PIfs (X.blk sc N C s₀ H₀ ex) ifs ti) (he : ∀ C s₀ H₀ ex, PE (X.blk sc N C s₀ H₀ ex) elt te)
    (hsw : swapsWith (.ListComp elt [⟨tg, iter, ifs, 0⟩] sc pos) (some (.Name x px)) spos.line X.env = pure true := by rfl)
    (hs : ∀ x, foldedSetIterable iter X.env x = pure x := by intro _; rfl) : PS X (.Assign [.Name x px] (.ListComp elt [⟨tg, iter, ifs, 0⟩] sc pos) spos) (tAsg (tComp wi pick g ti te) (gName i)) := by
  intro pins s σ H D I h
  have ck := compSc_of ck
  rw [exec_Assign_Name_used _ _ _ _ hsw]
  refine wpAny_bind (wpAny_standAt (wpAny_bind ?_))
  show wpAny _ X.A (do let _ ← comprehension (.ListComp elt [⟨tg, iter, ifs, 0⟩] sc pos) sc X.env _ (newList []) false (eval iter X.env) (some (assign (.Name x px) X.env))) _ _ s
  refine wpAny_bind (wpAny_mono (wpAny_comprehension_free (use := some (assign (.Name x px) X.env)) (cl := closOf X.env sc.names []) (Q := fun _ s' => SP X pins D .next s') rfl hs (blk_clos I ck hX) ck.kind ck.names
    (thn (hi pins s σ H _ I h) fun v s1 h1 => thn h1 fun itv s2 h2 => ?_)) (fun _ s' q => ?_) fun _ _ z => z)
  · obtain ⟨it, fp, tn, J, H2, e, I2, T, st2, f2, hW⟩ := h2
    subst e
    refine comp_block (Qv := fun v H' => D.nx (σ.set i (some v)) H') (RR := fun acc C => compPost (model X.prog X.w) X.A X.xe (some (assign (.Name x px) X.env)) (fun _ s' => SP X pins D .next s') acc C) ck hN hX hc hg hifs he I2 T st2 f2 hW ?_
    intro D' C s' H' ys m hDC hC hCn ns Jt q
    refine wpAny_assign_Name (store_ok2 (v := .ref D') Jt hNd hi' (.inl hx) rfl (fun s'' J' ⟨a, sb, ha⟩ => ?_) (.inr hx))
    obtain ⟨k0, k1, k2, k3, k4, k5⟩ := I2.fpOk (H' := upd H' D' (.lst ys)) (b := C) hC (by rw [upd_ne (Ne.symm hDC)]; exact hCn)
    have hCa : C ≠ a := by
      rcases ha with z | z
      · rw [z]; exact k1
      · exact fun e => k4 x a z e.symm
    refine ⟨m, ns.sameBut sb hCa, fun h' hs' => ?_⟩
    exact ⟨_, _, J'.turned (t' := s''.toks) (it := C) (fun b o hb e => hs'.extBut b o hb e) k0 k1 k3 k4 k5, q⟩
  · first
      | exact wpAny_pure (wpAny_pure q)
      | exact wpAny_pure q
end

/-! ### the forms one uses -/
section
variable {g : TG} {ti : TT} {te : TE} {Q : VK} {σ : St} {H : Hp}
/-- over a list that the block leaves as it is -/
theorem comp_list {K : PySem.W.Frag} {a : Addr} {xs : List V} (Pv : Nat → List V → St → Hp → Prop) (h0 : Pv 0 [] σ H) (hl : ∀ i ys σ H, i ≤ xs.length → Pv i ys σ H → SqL K H a xs ∧ ys.length ≤ sizeLine)
    (hs : ∀ i x ys σ H, xs[i]? = some x → Pv i ys σ H → g x σ H fun σ3 H3 => ti σ3 H3 fun b H4 => if b = true then te σ3 H4 fun v H5 => Pv (i + 1) (ys ++ [v]) σ3 H5 else Pv (i + 1) ys σ3 H4)
    (hd : ∀ ys σ H, Pv xs.length ys σ H → ∀ p, H p = none → Q (.ref p) (upd H p (.lst ys))) :
    ∃ W : Nat → Nat → List V → St → Hp → Prop, (∃ m, W 0 m [] σ H) ∧ ∀ i m ys σ' H', W i m ys σ' H' → ys.length ≤ sizeLine ∧
      (((Itl K a).stop i H' ∧ ∀ p, H' p = none → Q (.ref p) (upd H' p (.lst ys))) ∨
       ((Itl K a).go i H' ∧ ∃ N : List V → St → Hp → Prop, (∀ zs τ L, N zs τ L → ∃ m', m' < m ∧ W (i + 1) m' zs τ L) ∧ ∀ x H2, (Itl K a).yld i H' x H2 → g x σ' H2 fun σ3 H3 => ti σ3 H3 fun b H4 => if b = true then te σ3 H4 fun v H5 => N (ys ++ [v]) σ3 H5 else N ys σ3 H4)) := by
  refine ⟨fun i m ys σ H => m = xs.length - i ∧ i ≤ xs.length ∧ Pv i ys σ H, ⟨xs.length, by simp, Nat.zero_le _, h0⟩, ?_⟩
  rintro i m ys σ H ⟨rfl, hi, p⟩
  obtain ⟨q, hz⟩ := hl i ys σ H hi p
  refine ⟨hz, ?_⟩
  by_cases hlt : i < xs.length
  · refine .inr ⟨⟨xs, xs[i], q, by simp [hlt]⟩, Pv (i + 1), fun zs σ' H' p' => ⟨xs.length - (i + 1), by omega, rfl, hlt, p'⟩, fun x H' y => ?_⟩
    obtain ⟨e, y⟩ := y
    subst e
    exact hs i x ys σ _ (y xs q) p
  · have e : i = xs.length := by omega
    subst e
    exact .inl ⟨⟨xs, q, Nat.le_refl _⟩, hd ys σ H p⟩
/-- over a range -/
theorem comp_range {lo : Int} {n : Nat} (Pv : Nat → List V → St → Hp → Prop) (h0 : Pv 0 [] σ H) (hl : ∀ i ys σ H, i ≤ n → Pv i ys σ H → ys.length ≤ sizeLine)
    (hs : ∀ i ys σ H, i < n → Pv i ys σ H → g (.int (lo + i)) σ H fun σ3 H3 => ti σ3 H3 fun b H4 => if b = true then te σ3 H4 fun v H5 => Pv (i + 1) (ys ++ [v]) σ3 H5 else Pv (i + 1) ys σ3 H4)
    (hd : ∀ ys σ H, Pv n ys σ H → ∀ p, H p = none → Q (.ref p) (upd H p (.lst ys))) :
    ∃ W : Nat → Nat → List V → St → Hp → Prop, (∃ m, W 0 m [] σ H) ∧ ∀ i m ys σ' H', W i m ys σ' H' → ys.length ≤ sizeLine ∧
      (((Itr lo n).stop i H' ∧ ∀ p, H' p = none → Q (.ref p) (upd H' p (.lst ys))) ∨
       ((Itr lo n).go i H' ∧ ∃ N : List V → St → Hp → Prop, (∀ zs τ L, N zs τ L → ∃ m', m' < m ∧ W (i + 1) m' zs τ L) ∧ ∀ x H2, (Itr lo n).yld i H' x H2 → g x σ' H2 fun σ3 H3 => ti σ3 H3 fun b H4 => if b = true then te σ3 H4 fun v H5 => N (ys ++ [v]) σ3 H5 else N ys σ3 H4)) := by
  refine ⟨fun i m ys σ H => m = n - i ∧ i ≤ n ∧ Pv i ys σ H, ⟨n, by simp, Nat.zero_le _, h0⟩, ?_⟩
  rintro i m ys σ H ⟨rfl, hi, p⟩
  refine ⟨hl i ys σ H hi p, ?_⟩
  by_cases hlt : i < n
  · refine .inr ⟨hlt, Pv (i + 1), fun zs σ' H' p' => ⟨n - (i + 1), by omega, rfl, hlt, p'⟩, fun x H' y => ?_⟩
    obtain ⟨e, y⟩ := y
    subst e y
    exact hs i ys σ _ hlt p
  · have e : i = n := by omega
    subst e
    exact .inl ⟨Nat.le_refl _, hd ys σ H p⟩
end

end L2

namespace L2
open PySem PySem.Spec PyProof.Rows
/-! ### for over range(a, b, c), c a written positive number -/
def ItrS (lo st : Int) (n : Nat) : It := ⟨fun i _ => i < n, fun i H x H' => H' = H ∧ x = .int (lo + i * st), fun i _ => n ≤ i⟩
section
variable {X : Cx} {tg : Expr}
/-- range(0, j, c) -/
def iRng3 (ta : TA) : TI := fun σ H R => ta σ H fun vs H1 => ∃ j c : Int, vs = [.int 0, .int j, .int c] ∧ (0 ≤ j ∧ j ≤ 16777216 ∧ 1 ≤ c ∧ c ≤ 1000000) ∧ R (ItrS 0 c ((j + c - 1) / c).toNat) H1
end

/-! ### for over enumerate(a list) -/
def Ite (K : PySem.W.Frag) (a : Addr) : It :=
  ⟨fun i H => ∃ xs x, SqL K H a xs ∧ xs[i]? = some x, fun i H x H' => ∃ (T : Addr) (y : V), H T = none ∧ x = .ref T ∧ H' = upd H T (.tup [.int i, y]) ∧ ∀ xs, SqL K H a xs → xs[i]? = some y, fun i H => ∃ xs, SqL K H a xs ∧ xs.length ≤ i⟩
section
variable {X : Cx} {es : List Expr} {k : Nat} {tp : Pos}
def iEnum (K : PySem.W.Frag) (ta : TA) : TI := fun σ H R => ta σ H fun vs H1 => ∃ a, vs = [.ref a] ∧ (∃ xs, SqL K H1 a xs) ∧ R (Ite K a) H1
end

/-! ### max of a list of ints -/
section
variable {X : Cx}
end

/-! ### data all the way down -/
inductive DV where
  | non | bl (b : Bool) | int (i : Int) | str (x : Str) | lst (ds : List DV) | tup (ds : List DV)
mutual
def Deep (K : PySem.W.Frag) (H : Hp) : DV → V → Prop
  | .non, v => v = .non
  | .bl b, v => v = .bl b
  | .int i, v => v = .int i
  | .str x, v => v = .str x
  | .lst ds, v => ∃ a xs, v = .ref a ∧ SqL K H a xs ∧ Deeps K H ds xs
  | .tup ds, v => ∃ a xs, v = .ref a ∧ SqT K H a xs ∧ Deeps K H ds xs
def Deeps (K : PySem.W.Frag) (H : Hp) : List DV → List V → Prop
  | [], xs => xs = []
  | d :: ds, xs => ∃ y ys, xs = y :: ys ∧ Deep K H d y ∧ Deeps K H ds ys
end
theorem Deeps.length {K : PySem.W.Frag} {H : Hp} : ∀ {ds : List DV} {xs : List V}, Deeps K H ds xs → xs.length = ds.length
  | [], xs, h => by rw [Deeps] at h; subst h; rfl
  | d :: ds, xs, h => by rw [Deeps] at h; obtain ⟨y, ys, rfl, _, h⟩ := h; rw [List.length_cons, List.length_cons, Deeps.length h]
mutual
def dep : DV → Nat
  | .lst ds => deps ds + 1
  | .tup ds => deps ds + 1
  | _ => 0
def deps : List DV → Nat
  | [] => 0
  | d :: ds => max (dep d) (deps ds)
end
def stays {K : PySem.W.Frag} {H H' : Hp} : Prop := (∀ a xs, SqL K H a xs → SqL K H' a xs) ∧ ∀ a xs, SqT K H a xs → SqT K H' a xs
theorem Same.tup {K : PySem.W.Frag} {H H' : Hp} {a : Addr} {xs : List V} (e : Same H H') (h : SqT K H a xs) : SqT K H' a xs := by
  rcases h with (h | ⟨o, h⟩) | h
  · exact .inl (.inl (e _ _ h))
  · exact .inl (.inr ⟨o, e _ _ h⟩)
  · exact .inr h
mutual
theorem Deep.same {K : PySem.W.Frag} {H H' : Hp} (e : Same H H') : ∀ (d : DV) (v : V), Deep K H d v → Deep K H' d v
  | .non, v, h => by rw [Deep] at h ⊢; exact h
  | .bl b, v, h => by rw [Deep] at h ⊢; exact h
  | .int i, v, h => by rw [Deep] at h ⊢; exact h
  | .str x, v, h => by rw [Deep] at h ⊢; exact h
  | .lst ds, v, h => by rw [Deep] at h ⊢; obtain ⟨a, xs, r, q, t⟩ := h; exact ⟨a, xs, r, e.seq q, Deeps.same e ds xs t⟩
  | .tup ds, v, h => by rw [Deep] at h ⊢; obtain ⟨a, xs, r, q, t⟩ := h; exact ⟨a, xs, r, e.tup q, Deeps.same e ds xs t⟩
theorem Deeps.same {K : PySem.W.Frag} {H H' : Hp} (e : Same H H') : ∀ (ds : List DV) (xs : List V), Deeps K H ds xs → Deeps K H' ds xs
  | [], xs, h => by rw [Deeps] at h ⊢; exact h
  | d :: ds, xs, h => by rw [Deeps] at h ⊢; obtain ⟨y, ys, r, q, t⟩ := h; exact ⟨y, ys, r, Deep.same e d y q, Deeps.same e ds ys t⟩
end
/- the same data is equal -/
theorem all_yes : ∀ l : List Nat, (l.all fun _ => true) = true
  | [] => rfl
  | _ :: r => by rw [List.all_cons, all_yes r]; rfl
mutual
theorem eqAt_deep {X : Cx} {pins : List (Addr × Obj)} {σ : St} {H : Hp} {s : Shared} (I : Inv X pins σ H s) : ∀ (d : DV) (x y : V) (u v : Value) (A : Around), Deep X.K H d x → Deep X.K H d y → RelV x u → RelV y v → A.units + dep d < cLine → SeqAt.EqAt A s u v true
  | .non, x, y, u, v, A, hx, hy, rx, ry, hu => by
    rw [Deep] at hx hy; subst hx hy; cases rx; cases ry; exact SeqAt.EqAt.same _
  | .bl b, x, y, u, v, A, hx, hy, rx, ry, hu => by
    rw [Deep] at hx hy; subst hx hy; cases rx; cases ry; exact SeqAt.EqAt.same _
  | .int i, x, y, u, v, A, hx, hy, rx, ry, hu => by
    rw [Deep] at hx hy; subst hx hy; obtain ⟨t, rfl⟩ := rx; obtain ⟨t', rfl⟩ := ry
    have := SeqAt.EqAt.int_int (A := A) (s := s) i t i t'
    simpa using this
  | .str z, x, y, u, v, A, hx, hy, rx, ry, hu => by
    rw [Deep] at hx hy; subst hx hy; obtain ⟨t, rfl⟩ := rx; obtain ⟨t', rfl⟩ := ry
    have := SeqAt.EqAt.str_str (A := A) (s := s) z t z t'
    simpa using this
  | .lst ds, x, y, u, v, A, hx, hy, rx, ry, hu => by
    rw [Deep] at hx hy
    obtain ⟨a, xs, rfl, hq, hd⟩ := hx
    obtain ⟨b, ys, rfl, hq', hd'⟩ := hy
    cases rx; cases ry
    by_cases hab : a = b
    · subst hab; exact SeqAt.EqAt.same _
    · obtain ⟨its, r, pl, hz⟩ := I.list hq
      obtain ⟨its', r', pl', hz'⟩ := I.list hq'
      have l1 := r.length; have l2 := r'.length; have l3 := hd.length; have l4 := hd'.length
      have hu' : A.units + (deps ds + 1) < cLine := hu
      have q := SeqAt.RcAt.lists (A := A) (e := fun _ => true) pl.isList pl'.isList (by simp only [List.size_toArray]; omega) (by omega) fun j h1 h2 => by
        have := eqsAt_deep I ds xs ys its its' A.in1 hd hd' r r' (by rw [Around.in1_units]; omega) j (by simpa using h1) (by simpa using h2)
        simpa using this
      refine SeqAt.EqAt.of_refs hab ?_
      rw [all_yes] at q
      exact q
  | .tup ds, x, y, u, v, A, hx, hy, rx, ry, hu => by
    rw [Deep] at hx hy
    obtain ⟨a, xs, rfl, hq, hd⟩ := hx
    obtain ⟨b, ys, rfl, hq', hd'⟩ := hy
    cases rx; cases ry
    by_cases hab : a = b
    · subst hab; exact SeqAt.EqAt.same _
    · obtain ⟨its, r, pl, hz⟩ := I.tuple hq
      obtain ⟨its', r', pl', hz'⟩ := I.tuple hq'
      have l1 := r.length; have l2 := r'.length; have l3 := hd.length; have l4 := hd'.length
      have hu' : A.units + (deps ds + 1) < cLine := hu
      have q := SeqAt.RcAt.tuples (A := A) (e := fun _ => true) pl pl' (by omega) fun j h1 h2 => by
        have := eqsAt_deep I ds xs ys its its' A.in1 hd hd' r r' (by rw [Around.in1_units]; omega) j (by simpa using h1) (by simpa using h2)
        simpa using this
      refine SeqAt.EqAt.of_refs hab ?_
      have e : its.length = its'.length := by omega
      rw [all_yes] at q
      simpa [e] using q
theorem eqsAt_deep {X : Cx} {pins : List (Addr × Obj)} {σ : St} {H : Hp} {s : Shared} (I : Inv X pins σ H s) : ∀ (ds : List DV) (xs ys : List V) (us vs : List Value) (A : Around), Deeps X.K H ds xs → Deeps X.K H ds ys → Vals xs us → Vals ys vs → A.units + deps ds < cLine →
    ∀ (j : Nat) (h1 : j < us.length) (h2 : j < vs.length), SeqAt.EqAt A s us[j] vs[j] true
  | [], xs, ys, us, vs, A, hx, hy, rx, ry, hu, j, h1, h2 => by
    rw [Deeps] at hx; subst hx; cases rx; exact absurd h1 (Nat.not_lt_zero _)
  | d :: ds, xs, ys, us, vs, A, hx, hy, rx, ry, hu, j, h1, h2 => by
    rw [Deeps] at hx hy
    obtain ⟨x, xs, rfl, dx, hx⟩ := hx
    obtain ⟨y, ys, rfl, dy, hy⟩ := hy
    cases rx with
    | cons rx rxs =>
      cases ry with
      | cons ry rys =>
        have hu' : A.units + max (dep d) (deps ds) < cLine := hu
        cases j with
        | zero => exact eqAt_deep I d x y _ _ A dx dy rx ry (by omega)
        | succ j => exact eqsAt_deep I ds xs ys _ _ A hx hy rxs rys (by omega) j (by simpa using h1) (by simpa using h2)
end
section
variable {X : Cx}
/-- the same list (or tuple) of data, handed in twice -/
theorem op_eqD {k : Nat} (hr : Room k X.A) : OpR X (compareOp .Eq) (fun x y H Q => ∃ d ds, (d = .lst ds ∨ d = .tup ds) ∧ dep d ≤ 60 ∧ Deep X.K H d x ∧ Deep X.K H d y ∧ Q (.bl true) H) := by
  intro pins s σ H x y v u Q I rx ry h
  obtain ⟨d, ds, hd, hdp, dx, dy, q⟩ := h
  have hcl : X.A.units + 64 < cLine := hr.units
  rcases hd with rfl | rfl
  · rw [Deep] at dx dy
    obtain ⟨a, xs, rfl, hq, hd⟩ := dx
    obtain ⟨b, ys, rfl, hq', hd'⟩ := dy
    cases rx; cases ry
    obtain ⟨its, r, pl, hz⟩ := I.list hq
    obtain ⟨its', r', pl', hz'⟩ := I.list hq'
    have l1 := r.length; have l2 := r'.length; have l3 := hd.length; have l4 := hd'.length
    have hdp' : deps ds + 1 ≤ 60 := hdp
    refine SeqAt.eq_listAt (e := fun _ => true) pl.isList pl'.isList (by simp only [List.size_toArray]; omega) (by omega) (fun j h1 h2 => ?_) ⟨.bl true, H, I, ?_, q⟩
    · have := eqsAt_deep I ds xs ys its its' X.A.in1 hd hd' r r' (by rw [Around.in1_units]; omega) j (by simpa using h1) (by simpa using h2)
      simpa using this
    · show Value.bool _ = Value.bool true
      rw [all_yes]
  · rw [Deep] at dx dy
    obtain ⟨a, xs, rfl, hq, hd⟩ := dx
    obtain ⟨b, ys, rfl, hq', hd'⟩ := dy
    cases rx; cases ry
    obtain ⟨its, r, pl, hz⟩ := I.tuple hq
    obtain ⟨its', r', pl', hz'⟩ := I.tuple hq'
    have l1 := r.length; have l2 := r'.length; have l3 := hd.length; have l4 := hd'.length
    have hdp' : deps ds + 1 ≤ 60 := hdp
    have e : its.length = its'.length := by omega
    refine SeqAt.eq_tupleAt (e := fun _ => true) pl pl' (by omega) (fun j h1 h2 => ?_) ⟨.bl true, H, I, ?_, q⟩
    · have := eqsAt_deep I ds xs ys its its' X.A.in1 hd hd' r r' (by rw [Around.in1_units]; omega) j (by simpa using h1) (by simpa using h2)
      simpa using this
    · show Value.bool _ = Value.bool true
      rw [all_yes]
      simp [e]
theorem op_neD {k : Nat} (hr : Room k X.A) : OpR X (compareOp .NotEq) (fun x y H Q => ∃ ds, dep (.lst ds) ≤ 60 ∧ Deep X.K H (.lst ds) x ∧ Deep X.K H (.lst ds) y ∧ Q (.bl false) H) := by
  intro pins s σ H x y v u Q I rx ry h
  obtain ⟨ds, hdp, dx, dy, q⟩ := h
  have hcl : X.A.units + 64 < cLine := hr.units
  rw [Deep] at dx dy
  obtain ⟨a, xs, rfl, hq, hd⟩ := dx
  obtain ⟨b, ys, rfl, hq', hd'⟩ := dy
  cases rx; cases ry
  obtain ⟨its, r, pl, hz⟩ := I.list hq
  obtain ⟨its', r', pl', hz'⟩ := I.list hq'
  have l1 := r.length; have l2 := r'.length; have l3 := hd.length; have l4 := hd'.length
  have hdp' : deps ds + 1 ≤ 60 := hdp
  have q2 := SeqAt.RcNeAt.lists (A := X.A) (s := s) (e := fun _ => true) pl.isList pl'.isList (by simp only [List.size_toArray]; omega) (by omega) (fun j h1 h2 => by
    have := eqsAt_deep I ds xs ys its its' X.A.in1 hd hd' r r' (by rw [Around.in1_units]; omega) j (by simpa using h1) (by simpa using h2)
    simpa using this)
  refine q2 X.prog X.w X.xe _ ⟨.bl false, H, I, ?_, q⟩
  show Value.bool _ = Value.bool false
  rw [all_yes]
  rfl
end

/-! ### lists of data: pieces, growth, frames -/
theorem Deeps.get {K : PySem.W.Frag} {H : Hp} : ∀ {ds : List DV} {xs : List V} {i : Nat} {x : V}, Deeps K H ds xs → xs[i]? = some x → ∃ d, ds[i]? = some d ∧ Deep K H d x
  | [], xs, i, x, h, e => by rw [Deeps] at h; subst h; simp at e
  | d :: ds, xs, 0, x, h, e => by
    rw [Deeps] at h; obtain ⟨y, ys, rfl, q, t⟩ := h
    simp at e; subst e; exact ⟨d, rfl, q⟩
  | d :: ds, xs, i + 1, x, h, e => by
    rw [Deeps] at h; obtain ⟨y, ys, rfl, q, t⟩ := h
    obtain ⟨d', e1, e2⟩ := Deeps.get (i := i) t (by simpa using e)
    exact ⟨d', by simpa using e1, e2⟩
theorem Deeps.get' {K : PySem.W.Frag} {H : Hp} {ds : List DV} {xs : List V} {i : Nat} {d : DV} (h : Deeps K H ds xs) (e : ds[i]? = some d) : ∃ x, xs[i]? = some x ∧ Deep K H d x := by
  have hl := h.length
  have hi : i < xs.length := by rw [hl]; exact (List.getElem?_eq_some_iff.mp e).1
  obtain ⟨d', e1, e2⟩ := h.get (List.getElem?_eq_getElem hi)
  rw [e] at e1; cases e1
  exact ⟨_, List.getElem?_eq_getElem hi, e2⟩
theorem Deeps.app {K : PySem.W.Frag} {H : Hp} : ∀ {ds es : List DV} {xs ys : List V}, Deeps K H ds xs → Deeps K H es ys → Deeps K H (ds ++ es) (xs ++ ys)
  | [], es, xs, ys, h, q => by rw [Deeps] at h; subst h; exact q
  | d :: ds, es, xs, ys, h, q => by
    rw [Deeps] at h; obtain ⟨y, zs, rfl, r, t⟩ := h
    show Deeps K H (d :: (ds ++ es)) _
    rw [Deeps]
    exact ⟨y, zs ++ ys, rfl, r, Deeps.app t q⟩
theorem Deeps.one {K : PySem.W.Frag} {H : Hp} {d : DV} {x : V} (h : Deep K H d x) : Deeps K H [d] [x] := by
  rw [Deeps]; exact ⟨x, [], rfl, h, by rw [Deeps]⟩
theorem Deeps.nil {K : PySem.W.Frag} {H : Hp} : Deeps K H [] [] := by rw [Deeps]
theorem Deeps.take {K : PySem.W.Frag} {H : Hp} : ∀ {ds : List DV} {xs : List V} (n : Nat), Deeps K H ds xs → Deeps K H (ds.take n) (xs.take n)
  | ds, xs, 0, _ => by simp [Deeps]
  | [], xs, n + 1, h => by rw [Deeps] at h; subst h; simp [Deeps]
  | d :: ds, xs, n + 1, h => by
    rw [Deeps] at h; obtain ⟨y, zs, rfl, r, t⟩ := h
    rw [List.take_succ_cons, List.take_succ_cons, Deeps]
    exact ⟨y, _, rfl, r, Deeps.take n t⟩
theorem Deeps.drop {K : PySem.W.Frag} {H : Hp} : ∀ {ds : List DV} {xs : List V} (n : Nat), Deeps K H ds xs → Deeps K H (ds.drop n) (xs.drop n)
  | ds, xs, 0, h => by simpa using h
  | [], xs, n + 1, h => by rw [Deeps] at h; subst h; simp [Deeps]
  | d :: ds, xs, n + 1, h => by
    rw [Deeps] at h; obtain ⟨y, zs, rfl, r, t⟩ := h
    rw [List.drop_succ_cons, List.drop_succ_cons]
    exact Deeps.drop n t
theorem Deeps.set {K : PySem.W.Frag} {H : Hp} {d : DV} {x : V} (q : Deep K H d x) : ∀ {ds : List DV} {xs : List V} (n : Nat), Deeps K H ds xs → Deeps K H (ds.set n d) (xs.set n x)
  | [], xs, n, h => by rw [Deeps] at h; subst h; simp [Deeps]
  | e :: ds, xs, 0, h => by
    rw [Deeps] at h; obtain ⟨y, zs, rfl, r, t⟩ := h
    rw [List.set_cons_zero, List.set_cons_zero, Deeps]
    exact ⟨x, _, rfl, q, t⟩
  | e :: ds, xs, n + 1, h => by
    rw [Deeps] at h; obtain ⟨y, zs, rfl, r, t⟩ := h
    rw [List.set_cons_succ, List.set_cons_succ, Deeps]
    exact ⟨y, _, rfl, r, Deeps.set q n t⟩
theorem Deeps.ints {K : PySem.W.Frag} {H : Hp} : ∀ (ns : List Int), Deeps K H (ns.map DV.int) (ns.map V.int)
  | [] => by simp [Deeps]
  | n :: r => by
    rw [List.map_cons, List.map_cons, Deeps]
    exact ⟨_, _, rfl, by rw [Deep], Deeps.ints r⟩
/- no list within -/
mutual
def noLst : DV → Bool
  | .lst _ => false
  | .tup ds => noLsts ds
  | _ => true
def noLsts : List DV → Bool
  | [] => true
  | d :: ds => noLst d && noLsts ds
end
theorem SqT.upd {K : PySem.W.Frag} {H : Hp} {a p : Addr} {xs ys : List V} {o : HO} (hp : H p = some (.lst ys)) (h : SqT K H a xs) : SqT K (upd H p o) a xs := by
  rcases h with (h | ⟨o', h⟩) | h
  · exact .inl (.inl (by rw [upd_ne (ne_of h hp (by intro z; cases z))]; exact h))
  · exact .inl (.inr ⟨o', by rw [upd_ne (ne_of h hp (by intro z; cases z))]; exact h⟩)
  · exact .inr h
mutual
theorem Deep.updL {K : PySem.W.Frag} {H : Hp} {p : Addr} {ys : List V} {o : HO} (hp : H p = some (.lst ys)) : ∀ (d : DV) (v : V), noLst d = true → Deep K H d v → Deep K (L2.upd H p o) d v
  | .non, v, _, h => by rw [Deep] at h ⊢; exact h
  | .bl b, v, _, h => by rw [Deep] at h ⊢; exact h
  | .int i, v, _, h => by rw [Deep] at h ⊢; exact h
  | .str x, v, _, h => by rw [Deep] at h ⊢; exact h
  | .lst ds, v, n, h => by rw [noLst] at n; cases n
  | .tup ds, v, n, h => by
    rw [noLst] at n
    rw [Deep] at h ⊢
    obtain ⟨a, xs, r, q, t⟩ := h
    exact ⟨a, xs, r, q.upd hp, Deeps.updL hp ds xs n t⟩
theorem Deeps.updL {K : PySem.W.Frag} {H : Hp} {p : Addr} {ys : List V} {o : HO} (hp : H p = some (.lst ys)) : ∀ (ds : List DV) (xs : List V), noLsts ds = true → Deeps K H ds xs → Deeps K (L2.upd H p o) ds xs
  | [], xs, _, h => by rw [Deeps] at h ⊢; exact h
  | d :: ds, xs, n, h => by
    rw [noLsts, Bool.and_eq_true] at n
    rw [Deeps] at h ⊢
    obtain ⟨y, ys, r, q, t⟩ := h
    exact ⟨y, ys, r, Deep.updL hp d y n.1 q, Deeps.updL hp ds ys n.2 t⟩
end
theorem same_new {H : Hp} {p : Addr} (h : H p = none) (o : HO) : Same H (upd H p o) := fun b u q => by rw [upd_ne (ne_of_none q h)]; exact q
theorem Same.newer {H H' : Hp} {p : Addr} (e : Same H H') (h : H p = none) (o : HO) : Same H (upd H' p o) := fun b u q => by rw [upd_ne (ne_of_none q h)]; exact e b u q
theorem small {n : Nat} (h : n ≤ 1000) : n ≤ sizeLine := Nat.le_of_lt (small1000 h)
theorem atI_of {α : Type} {xs : List α} {k : Int} (h0 : 0 ≤ k) (h : k < (xs.length : Int)) : ∃ v, atI xs k = some v ∧ xs[k.toNat]? = some v := by
  have hk : k.toNat < xs.length := by omega
  have ek : k = ((k.toNat : Nat) : Int) := by omega
  refine ⟨xs[k.toNat], ?_, List.getElem?_eq_getElem hk⟩
  have q : atI xs ((k.toNat : Nat) : Int) = some xs[k.toNat] := atI_nat (List.getElem?_eq_getElem hk)
  rw [← ek] at q
  exact q
theorem atI_end {α : Type} {xs : List α} {v : α} (h : xs[xs.length - 1]? = some v) : atI xs (-1) = some v := by
  have hn : xs.length - 1 < xs.length := (List.getElem?_eq_some_iff.mp h).1
  unfold atI ixN
  rw [if_neg (by omega), if_pos (by omega)]
  have : ((-1 : Int) + xs.length).toNat = xs.length - 1 := by omega
  rw [this]
  exact h

/-! ### the rules with the written part named: in a comprehension's block -/
section
variable {X : Cx}
theorem ixL (K : PySem.W.Frag) (h : X.K = K := by rfl) : IxR X (rIxL K) := by subst h; exact ix_list
theorem ixT (K : PySem.W.Frag) (h : X.K = K := by rfl) : IxR X (rIxT K) := by subst h; exact ix_tup
theorem slL (K : PySem.W.Frag) (h : X.K = K := by rfl) : SlR X (rSlL K) := by subst h; exact sl_list
theorem lenK (K : PySem.W.Frag) (h : X.K = K := by rfl) : CallR X (.builtin "len") (fun xs H Q => ∃ p ys, xs = [.ref p] ∧ (SqL K H p ys ∨ SqT K H p ys) ∧ Q (.int ys.length) H) := by subst h; exact call_len_seq
theorem lstK (K : PySem.W.Frag) (h : X.K = K := by rfl) : CallR X (.type "list") (fun xs H Q => ∃ p ys, xs = [.ref p] ∧ (SqL K H p ys ∨ SqT K H p ys) ∧ ∀ l, H l = none → Q (.ref l) (upd H l (.lst ys))) := by subst h; exact call_list_of
theorem pgT (K : PySem.W.Frag) {es : List Expr} {k : Nat} {t : TGs} {n : Nat} {pos : Pos} (hc : X.calm = true) (h : PGs X es t) (hK : X.K = K := by rfl)
    (hn : (assignEach es X.env).length = n := by rfl) (hst : (assignEach es X.env).findIdx? (·.1) = none := by rfl) : PG X (.Tuple es k pos) (gTup K n t) := by subst hK; exact pg_tup hc h hn hst
theorem pi_listK (K : PySem.W.Frag) {tg l : Expr} {tl : TE} (hl : PE X l tl) (h : X.K = K := by rfl) : PI X tg l (iList K tl) := by subst h; exact pi_list hl
variable {o e : Expr} {es : List Expr} {to : TE} {t : TA} {name : Str} {apos cpos : Pos} {T id : String} {r : V → List V → Hp → VK → Prop}
theorem bm0K (K : PySem.W.Frag) (pa : PlainAttrs T) (slot : Slot T name id) (hty : typeOf (.builtin id) = pure (.type "method_descriptor")) (hm : MtR X id r) (ho : PE X o to) (h : X.K = K := by rfl)
    (hbase : attributeBase o name X.env (eval o X.env) = eval o X.env := by rfl) (hline : (apos.endLine == cpos.line) = true := by rfl) : PE X (.Call (.Attribute o name apos) [] [] cpos) (tBM0 K T r to) := by subst h; exact pe_bm0 pa slot hty hm ho hbase hline
theorem bmK (K : PySem.W.Frag) (pa : PlainAttrs T) (slot : Slot T name id) (hty : typeOf (.builtin id) = pure (.type "method_descriptor")) (hm : MtR X id r) (ho : PE X o to) (ha : PA X (e :: es) t) (h : X.K = K := by rfl)
    (hbase : attributeBase o name X.env (eval o X.env) = eval o X.env := by rfl)
    (hfew : ((backTo cpos (starEach (e :: es) X.env)).all (fun x => !x.1) && (backToKw cpos (keywordEach [] X.env)).all (fun x => x.1.isSome)
      && decide ((e :: es).length + ([] : List Keyword).length + (if ([] : List Keyword).isEmpty then 0 else 1) < 30)) = true := by rfl)
    (hline : (apos.endLine == cpos.line) = true := by rfl) (hs : starEach (e :: es) X.env = (false, eval e X.env) :: starEach es X.env := by rfl) (hplain : (backTo cpos (starEach es X.env)).any (·.1) = false := by rfl) :
    PE X (.Call (.Attribute o name apos) (e :: es) [] cpos) (tBM K T r to t) := by subst h; exact pe_bm pa slot hty hm ho ha hbase hfew hline hs hplain
end

/-! ### loops and comprehensions, folded: for readings by simp -/
def ForW (g : TG) (tb : TS) (D : Ends) (σ : St) (J : It) (H1 : Hp) : Prop := ∃ W : Nat → Nat → St → Hp → Prop, (∃ m, W 0 m σ H1) ∧ ∀ i m σ H, W i m σ H →
  (J.stop i H ∧ D.nx σ H) ∨ (J.go i H ∧ ∃ N : St → Hp → Prop, (∀ σ' H', N σ' H' → ∃ m', m' < m ∧ W (i + 1) m' σ' H') ∧ ∀ x H', J.yld i H x H' → g x σ H' fun σ2 H2 => tb { D with nx := N, ct := N, bk := D.nx } σ2 H2)
theorem tFor_eq (wi : TI) (g : TG) (tb : TS) (D : Ends) (σ : St) (H : Hp) : tFor wi g tb D σ H = wi σ H fun J H1 => ForW g tb D σ J H1 := rfl
def CompW (pick : List (Option Nat)) (g : TG) (ti : TT) (te : TE) (Q : VK) (σ : St) (J : It) (H1 : Hp) : Prop := ∃ W : Nat → Nat → List V → St → Hp → Prop, (∃ m, W 0 m [] (pickS pick σ) H1) ∧ ∀ i m ys σ' H', W i m ys σ' H' → ys.length ≤ sizeLine ∧
  ((J.stop i H' ∧ ∀ p, H' p = none → Q (.ref p) (upd H' p (.lst ys))) ∨
   (J.go i H' ∧ ∃ N : List V → St → Hp → Prop, (∀ zs τ L, N zs τ L → ∃ m', m' < m ∧ W (i + 1) m' zs τ L) ∧ ∀ x H2, J.yld i H' x H2 → g x σ' H2 fun σ3 H3 => ti σ3 H3 fun b H4 => if b = true then te σ3 H4 fun v H5 => N (ys ++ [v]) σ3 H5 else N ys σ3 H4))
theorem tComp_eq (wi : TI) (pick : List (Option Nat)) (g : TG) (ti : TT) (te : TE) (σ : St) (H : Hp) (Q : VK) : tComp wi pick g ti te σ H Q = wi σ H fun J H1 => CompW pick g ti te Q σ J H1 := rfl
def WhileW (c : TT) (tb : TS) (D : Ends) (σ : St) (H : Hp) : Prop := tWhile c tb D σ H
theorem tWhile_eq (c : TT) (tb : TS) (D : Ends) (σ : St) (H : Hp) : tWhile c tb D σ H = WhileW c tb D σ H := rfl

/-! ### the heap without one address -/
def hide (p : Addr) (H : Hp) : Hp := fun b => if b = p then none else H b
theorem hide_same (p : Addr) (H : Hp) : Same (hide p H) H := fun b o e => by
  unfold hide at e
  split at e
  · cases e
  · exact e
theorem hide_at (p : Addr) (H : Hp) : hide p H p = none := by unfold hide; rw [if_pos rfl]
theorem hide_ne {p b : Addr} {H : Hp} (h : b ≠ p) : hide p H b = H b := by unfold hide; rw [if_neg h]
theorem hide_upd (p : Addr) (H : Hp) (o : HO) : hide p (upd H p o) = hide p H := by
  funext b
  unfold hide
  split
  · rfl
  · rename_i h; rw [upd_ne h]
theorem hide_mono {p : Addr} {H H' : Hp} (e : Same H H') : Same (hide p H) (hide p H') := fun b o q => by
  have hb : b ≠ p := fun z => by subst z; rw [hide_at] at q; cases q
  rw [hide_ne hb] at q ⊢
  exact e b o q
theorem upd_at {H : Hp} {p q : Addr} {o u : HO} (h : H q = some u) (hp : H p = none) : upd H p o q = some u := by rw [upd_ne (ne_of_none h hp)]; exact h
theorem atI_ints {ns : List Int} {k : Int} (h0 : 0 ≤ k) (h : k < (ns.length : Int)) : ∃ v, atI (ns.map V.int) k = some (.int v) := by
  obtain ⟨v, hv, hv'⟩ := atI_of (xs := ns.map V.int) h0 (by rw [List.length_map]; exact h)
  rw [List.getElem?_map] at hv'
  cases e : ns[k.toNat]? with
  | none => rw [e] at hv'; cases hv'
  | some z =>
    rw [e] at hv'
    have : v = V.int z := (Option.some.inj hv').symm
    subst this
    exact ⟨z, hv⟩
section
variable {g : TG} {ti : TT} {te : TE} {Q : VK} {σ : St} {H : Hp} {pick : List (Option Nat)} {tb : TS} {D : Ends} {K : PySem.W.Frag} {a : Addr} {xs : List V}
theorem compW_list (xs : List V) (Pv : Nat → List V → St → Hp → Prop) (h0 : Pv 0 [] (pickS pick σ) H) (hl : ∀ i ys σ H, i ≤ xs.length → Pv i ys σ H → SqL K H a xs ∧ ys.length ≤ sizeLine)
    (hs : ∀ i x ys σ H, xs[i]? = some x → Pv i ys σ H → g x σ H fun σ3 H3 => ti σ3 H3 fun b H4 => if b = true then te σ3 H4 fun v H5 => Pv (i + 1) (ys ++ [v]) σ3 H5 else Pv (i + 1) ys σ3 H4)
    (hd : ∀ ys σ H, Pv xs.length ys σ H → ∀ p, H p = none → Q (.ref p) (upd H p (.lst ys))) : CompW pick g ti te Q σ (Itl K a) H := comp_list Pv h0 hl hs hd
theorem compW_range {lo : Int} {n : Nat} (Pv : Nat → List V → St → Hp → Prop) (h0 : Pv 0 [] (pickS pick σ) H) (hl : ∀ i ys σ H, i ≤ n → Pv i ys σ H → ys.length ≤ sizeLine)
    (hs : ∀ i ys σ H, i < n → Pv i ys σ H → g (.int (lo + i)) σ H fun σ3 H3 => ti σ3 H3 fun b H4 => if b = true then te σ3 H4 fun v H5 => Pv (i + 1) (ys ++ [v]) σ3 H5 else Pv (i + 1) ys σ3 H4)
    (hd : ∀ ys σ H, Pv n ys σ H → ∀ p, H p = none → Q (.ref p) (upd H p (.lst ys))) : CompW pick g ti te Q σ (Itr lo n) H := comp_range Pv h0 hl hs hd
theorem forW_list (xs : List V) (Pv : Nat → St → Hp → Prop) (h0 : Pv 0 σ H) (hl : ∀ i σ H, i ≤ xs.length → Pv i σ H → SqL K H a xs)
    (hs : ∀ i x σ H, xs[i]? = some x → Pv i σ H → g x σ H fun σ2 H2 => tb { D with nx := Pv (i + 1), ct := Pv (i + 1), bk := D.nx } σ2 H2) (hd : ∀ σ H, Pv xs.length σ H → D.nx σ H) : ForW g tb D σ (Itl K a) H := for_list Pv h0 hl hs hd
theorem forW_range {lo : Int} {n : Nat} (Pv : Nat → St → Hp → Prop) (h0 : Pv 0 σ H) (hs : ∀ i σ H, i < n → Pv i σ H → g (.int (lo + i)) σ H fun σ2 H2 => tb { D with nx := Pv (i + 1), ct := Pv (i + 1), bk := D.nx } σ2 H2) (hd : ∀ σ H, Pv n σ H → D.nx σ H) :
    ForW g tb D σ (Itr lo n) H := for_range Pv h0 hs hd
end
theorem Deeps.ints_eq {K : PySem.W.Frag} {H : Hp} : ∀ {ns : List Int} {xs : List V}, Deeps K H (ns.map DV.int) xs → xs = ns.map V.int
  | [], xs, h => by rw [List.map_nil, Deeps] at h; exact h
  | n :: r, xs, h => by
    rw [List.map_cons, Deeps] at h
    obtain ⟨y, ys, rfl, q, t⟩ := h
    rw [Deep] at q
    rw [q, Deeps.ints_eq t]
    rfl
theorem deps_le {n : Nat} : ∀ {ds : List DV}, (∀ d ∈ ds, dep d ≤ n) → deps ds ≤ n
  | [], _ => by rw [deps]; exact Nat.zero_le _
  | d :: ds, h => by
    rw [deps]
    exact Nat.max_le.mpr ⟨h d List.mem_cons_self, deps_le fun e he => h e (List.mem_cons_of_mem _ he)⟩
theorem deps_ints (ns : List Int) : deps (ns.map DV.int) = 0 := Nat.le_zero.mp (deps_le fun d hd => by
  obtain ⟨n, _, rfl⟩ := List.mem_map.mp hd
  simp [dep])

end L2

namespace L2
open PySem PySem.Spec PyProof.Rows
/-! ### texts -/
abbrev Str.cs (x : Str) : List Nat := x.cps.toList
def cutL {α : Type} (xs : List α) (lo hi : Option Int) : List α := (xs.drop (HT.sIx xs.length 0 lo)).take (HT.sIx xs.length xs.length hi - HT.sIx xs.length 0 lo)
theorem cutL_nat {α : Type} (xs : List α) {j k : Nat} (h : j ≤ k) : cutL xs (some (j : Int)) (some (k : Int)) = (xs.drop j).take (k - j) := by
  unfold cutL
  rw [HT.sIx_nat, HT.sIx_nat]
  apply List.ext_getElem?
  intro i
  rw [List.getElem?_take, List.getElem?_take, List.getElem?_drop, List.getElem?_drop]
  by_cases h1 : i < k - j
  · rw [if_pos h1]
    by_cases h2 : j + i < xs.length
    · rw [if_pos (by omega)]
      congr 1
      omega
    · rw [if_neg (by omega), List.getElem?_eq_none (by omega)]
  · rw [if_neg h1, if_neg (by omega)]
section
variable {X : Cx}
def rSlS : V → Option Int → Option Int → Hp → VK → Prop := fun x lo hi H Q => ∃ z, x = .str z ∧ z.length ≤ sizeLine ∧ Q (.str ⟨(cutL z.cps.toList lo hi).toArray⟩) H
def rLower : V → List V → Hp → VK → Prop := fun x vs H Q => ∃ z, x = .str z ∧ vs = [] ∧ z.length ≤ 1000000 ∧ (∀ c ∈ z.cps.toList, c < 128) ∧ Q (.str ⟨z.cps.map lo1⟩) H
/-- x.index(y), y one sign that is there -/
def rIndex : V → List V → Hp → VK → Prop := fun x vs H Q => ∃ z c, x = .str z ∧ vs = [.str ⟨#[c]⟩] ∧ c ∈ z.cps.toList ∧ Q (.int (Txt.find z ⟨#[c]⟩)) H
theorem mt_index (hc : X.calm = true) : MtM X "str.index" rIndex := by
  intro pins s σ H x vs v us Q I rx rv h
  obtain ⟨z, c, rfl, rfl, hm, q⟩ := h
  obtain ⟨t, rfl⟩ := rx
  obtain ⟨u, rfl, t', rfl⟩ := rv.one
  have hf := StrLaws.found_one z c
  rw [decide_eq_true hm] at hf
  have hne : (Builtin.Str.occurrences z ⟨#[c]⟩ 0 z.length 1).isEmpty = false := by
    cases e : (Builtin.Str.occurrences z ⟨#[c]⟩ 0 z.length 1).isEmpty with
    | false => rfl
    | true => rw [e] at hf; cases hf
  refine index_or (I.ok.hd hc) (fun _ h => ?_) fun _ _ => ⟨.int _, H, I.tok _, ⟨_, rfl⟩, q⟩
  rw [hne] at h
  cases h
/-- isinstance(x, T) -/
theorem call_isi (K : PySem.W.Frag) (hK : X.K = K := by rfl) : CallR X (.builtin "isinstance") (fun xs H Q => ∃ x T t b, xs = [x, .ty T] ∧ TyOf K H x t ∧ PySem.W.kitOne K t (.type T) = some b ∧ Q (.bl b) H) := by
  subst hK
  intro pins s σ H xs us Q I r h
  obtain ⟨x, T, t, b, rfl, ty, e, q⟩ := h
  obtain ⟨u, v, rfl, ru, rv⟩ := vals2 r
  cases rv
  exact isinst_ok I ru ty e fun tk => ⟨.bl b, H, I.tok _, rfl, q⟩
/-- a list against the empty one -/
theorem op_eqE (K : PySem.W.Frag) {k : Nat} (hr : Room k X.A) (hK : X.K = K := by rfl) : OpR X (compareOp .Eq) (fun x y H Q => ∃ p xs q, x = .ref p ∧ y = .ref q ∧ SqL K H p xs ∧ SqL K H q [] ∧ Q (.bl xs.isEmpty) H) := by
  subst hK
  intro pins s σ H x y v u Q I rx ry h
  obtain ⟨p, xs, q, rfl, rfl, hp, hq, k⟩ := h
  cases rx; cases ry
  have hcl : X.A.units + 64 < cLine := hr.units
  obtain ⟨its, r, pl, hz⟩ := I.list hp
  obtain ⟨its', r', pl', hz'⟩ := I.list hq
  cases r'
  cases r with
  | nil => exact SeqAt.eq_listAt (e := fun _ => true) pl.isList pl'.isList rfl (by omega) (fun j h1 h2 => absurd h1 (by simp)) ⟨.bl true, H, I, rfl, k⟩
  | cons r0 rs => exact SeqAt.eq_list_lengthsAt pl.isList pl'.isList (by simp) (by omega) ⟨.bl false, H, I, rfl, k⟩
theorem op_neE (K : PySem.W.Frag) {k : Nat} (hr : Room k X.A) (hK : X.K = K := by rfl) : OpR X (compareOp .NotEq) (fun x y H Q => ∃ p xs q, x = .ref p ∧ y = .ref q ∧ SqL K H p xs ∧ SqL K H q [] ∧ Q (.bl (!xs.isEmpty)) H) := by
  subst hK
  intro pins s σ H x y v u Q I rx ry h
  obtain ⟨p, xs, q, rfl, rfl, hp, hq, k⟩ := h
  cases rx; cases ry
  have hcl : X.A.units + 64 < cLine := hr.units
  obtain ⟨its, r, pl, hz⟩ := I.list hp
  obtain ⟨its', r', pl', hz'⟩ := I.list hq
  cases r'
  cases r with
  | nil => exact SeqAt.RcNeAt.lists (A := X.A) (s := s) (e := fun _ => true) pl.isList pl'.isList rfl (by omega) (fun j h1 h2 => absurd h1 (by simp)) X.prog X.w X.xe _ ⟨.bl false, H, I, rfl, k⟩
  | cons r0 rs => exact SeqAt.RcNeAt.lists_lengths (A := X.A) (s := s) pl.isList pl'.isList (by simp) (by omega) X.prog X.w X.xe _ ⟨.bl true, H, I, rfl, k⟩
/-- // by a greater number -/
def CDivB (_ j : Int) : Prop := 0 < j ∧ j < 2 ^ 62
theorem op_fdivB : OpR X (binaryOp .FloorDiv) (rI CDivB fun i j => .int (i / j)) := opI fun i j _ _ _ _ _ hc q => by
  have h0 := hc.1
  have h1 := hc.2
  refine floordiv_int (by omega) ?_ (.inl (PyProof.noPylong_of_log2 ?_))
  · rw [Int.fdiv_eq_ediv_of_nonneg _ (by omega)]; exact q
  · have : j.natAbs < 2 ^ 62 := by omega
    have := (Nat.log2_lt (by omega)).mpr this
    omega
end

end L2

namespace L2
open PySem PySem.Spec PyProof.Rows

/-! ### strict data: every list and tuple is tracked -/
mutual
def DeepT (H : Hp) : DV → V → Prop
  | .non, v => v = .non
  | .bl b, v => v = .bl b
  | .int i, v => v = .int i
  | .str x, v => v = .str x
  | .lst ds, v => ∃ a xs, v = .ref a ∧ H a = some (.lst xs) ∧ DeepTs H ds xs
  | .tup ds, v => ∃ a xs, v = .ref a ∧ H a = some (.tup xs) ∧ DeepTs H ds xs
def DeepTs (H : Hp) : List DV → List V → Prop
  | [], xs => xs = []
  | d :: ds, xs => ∃ y ys, xs = y :: ys ∧ DeepT H d y ∧ DeepTs H ds ys
end
mutual
theorem DeepT.deep {K : PySem.W.Frag} {H : Hp} : ∀ (d : DV) (v : V), DeepT H d v → Deep K H d v
  | .non, v, h => by rw [DeepT] at h; rw [Deep]; exact h
  | .bl b, v, h => by rw [DeepT] at h; rw [Deep]; exact h
  | .int i, v, h => by rw [DeepT] at h; rw [Deep]; exact h
  | .str x, v, h => by rw [DeepT] at h; rw [Deep]; exact h
  | .lst ds, v, h => by rw [DeepT] at h; rw [Deep]; obtain ⟨a, xs, r, q, t⟩ := h; exact ⟨a, xs, r, SqL.of q, DeepTs.deep ds xs t⟩
  | .tup ds, v, h => by rw [DeepT] at h; rw [Deep]; obtain ⟨a, xs, r, q, t⟩ := h; exact ⟨a, xs, r, SqT.of q, DeepTs.deep ds xs t⟩
theorem DeepTs.deep {K : PySem.W.Frag} {H : Hp} : ∀ (ds : List DV) (xs : List V), DeepTs H ds xs → Deeps K H ds xs
  | [], xs, h => by rw [DeepTs] at h; rw [Deeps]; exact h
  | d :: ds, xs, h => by rw [DeepTs] at h; rw [Deeps]; obtain ⟨y, ys, r, q, t⟩ := h; exact ⟨y, ys, r, DeepT.deep d y q, DeepTs.deep ds ys t⟩
end
theorem DeepTs.length {H : Hp} : ∀ {ds : List DV} {xs : List V}, DeepTs H ds xs → xs.length = ds.length
  | [], xs, h => by rw [DeepTs] at h; subst h; rfl
  | d :: ds, xs, h => by rw [DeepTs] at h; obtain ⟨y, ys, rfl, _, h⟩ := h; rw [List.length_cons, List.length_cons, DeepTs.length h]
mutual
theorem DeepT.same {H H' : Hp} (e : Same H H') : ∀ (d : DV) (v : V), DeepT H d v → DeepT H' d v
  | .non, v, h => by rw [DeepT] at h ⊢; exact h
  | .bl b, v, h => by rw [DeepT] at h ⊢; exact h
  | .int i, v, h => by rw [DeepT] at h ⊢; exact h
  | .str x, v, h => by rw [DeepT] at h ⊢; exact h
  | .lst ds, v, h => by rw [DeepT] at h ⊢; obtain ⟨a, xs, r, q, t⟩ := h; exact ⟨a, xs, r, e _ _ q, DeepTs.same e ds xs t⟩
  | .tup ds, v, h => by rw [DeepT] at h ⊢; obtain ⟨a, xs, r, q, t⟩ := h; exact ⟨a, xs, r, e _ _ q, DeepTs.same e ds xs t⟩
theorem DeepTs.same {H H' : Hp} (e : Same H H') : ∀ (ds : List DV) (xs : List V), DeepTs H ds xs → DeepTs H' ds xs
  | [], xs, h => by rw [DeepTs] at h ⊢; exact h
  | d :: ds, xs, h => by rw [DeepTs] at h ⊢; obtain ⟨y, ys, r, q, t⟩ := h; exact ⟨y, ys, r, DeepT.same e d y q, DeepTs.same e ds ys t⟩
end
theorem DeepTs.get {H : Hp} : ∀ {ds : List DV} {xs : List V} {i : Nat} {x : V}, DeepTs H ds xs → xs[i]? = some x → ∃ d, ds[i]? = some d ∧ DeepT H d x
  | [], xs, i, x, h, e => by rw [DeepTs] at h; subst h; simp at e
  | d :: ds, xs, 0, x, h, e => by
    rw [DeepTs] at h; obtain ⟨y, ys, rfl, q, t⟩ := h
    simp at e; subst e; exact ⟨d, rfl, q⟩
  | d :: ds, xs, i + 1, x, h, e => by
    rw [DeepTs] at h; obtain ⟨y, ys, rfl, q, t⟩ := h
    obtain ⟨d', e1, e2⟩ := DeepTs.get (i := i) t (by simpa using e)
    exact ⟨d', by simpa using e1, e2⟩
theorem DeepTs.get' {H : Hp} {ds : List DV} {xs : List V} {i : Nat} {d : DV} (h : DeepTs H ds xs) (e : ds[i]? = some d) : ∃ x, xs[i]? = some x ∧ DeepT H d x := by
  have hl := h.length
  have hi : i < xs.length := by rw [hl]; exact (List.getElem?_eq_some_iff.mp e).1
  obtain ⟨d', e1, e2⟩ := h.get (List.getElem?_eq_getElem hi)
  rw [e] at e1; cases e1
  exact ⟨_, List.getElem?_eq_getElem hi, e2⟩
theorem DeepTs.app {H : Hp} : ∀ {ds es : List DV} {xs ys : List V}, DeepTs H ds xs → DeepTs H es ys → DeepTs H (ds ++ es) (xs ++ ys)
  | [], es, xs, ys, h, q => by rw [DeepTs] at h; subst h; exact q
  | d :: ds, es, xs, ys, h, q => by
    rw [DeepTs] at h; obtain ⟨y, zs, rfl, r, t⟩ := h
    show DeepTs H (d :: (ds ++ es)) _
    rw [DeepTs]
    exact ⟨y, zs ++ ys, rfl, r, DeepTs.app t q⟩
theorem DeepTs.one {H : Hp} {d : DV} {x : V} (h : DeepT H d x) : DeepTs H [d] [x] := by
  rw [DeepTs]; exact ⟨x, [], rfl, h, by rw [DeepTs]⟩
theorem DeepTs.nil {H : Hp} : DeepTs H [] [] := by rw [DeepTs]
theorem DeepTs.take {H : Hp} : ∀ {ds : List DV} {xs : List V} (n : Nat), DeepTs H ds xs → DeepTs H (ds.take n) (xs.take n)
  | ds, xs, 0, _ => by simp [DeepTs]
  | [], xs, n + 1, h => by rw [DeepTs] at h; subst h; simp [DeepTs]
  | d :: ds, xs, n + 1, h => by
    rw [DeepTs] at h; obtain ⟨y, zs, rfl, r, t⟩ := h
    rw [List.take_succ_cons, List.take_succ_cons, DeepTs]
    exact ⟨y, _, rfl, r, DeepTs.take n t⟩
theorem DeepTs.drop {H : Hp} : ∀ {ds : List DV} {xs : List V} (n : Nat), DeepTs H ds xs → DeepTs H (ds.drop n) (xs.drop n)
  | ds, xs, 0, h => by simpa using h
  | [], xs, n + 1, h => by rw [DeepTs] at h; subst h; simp [DeepTs]
  | d :: ds, xs, n + 1, h => by
    rw [DeepTs] at h; obtain ⟨y, zs, rfl, r, t⟩ := h
    rw [List.drop_succ_cons, List.drop_succ_cons]
    exact DeepTs.drop n t
theorem DeepTs.set {H : Hp} {d : DV} {x : V} (q : DeepT H d x) : ∀ {ds : List DV} {xs : List V} (n : Nat), DeepTs H ds xs → DeepTs H (ds.set n d) (xs.set n x)
  | [], xs, n, h => by rw [DeepTs] at h; subst h; simp [DeepTs]
  | e :: ds, xs, 0, h => by
    rw [DeepTs] at h; obtain ⟨y, zs, rfl, r, t⟩ := h
    rw [List.set_cons_zero, List.set_cons_zero, DeepTs]
    exact ⟨x, _, rfl, q, t⟩
  | e :: ds, xs, n + 1, h => by
    rw [DeepTs] at h; obtain ⟨y, zs, rfl, r, t⟩ := h
    rw [List.set_cons_succ, List.set_cons_succ, DeepTs]
    exact ⟨y, _, rfl, r, DeepTs.set q n t⟩
theorem DeepTs.ints {H : Hp} : ∀ (ns : List Int), DeepTs H (ns.map DV.int) (ns.map V.int)
  | [] => by simp [DeepTs]
  | n :: r => by
    rw [List.map_cons, List.map_cons, DeepTs]
    exact ⟨_, _, rfl, by rw [DeepT], DeepTs.ints r⟩

theorem int_of_map {ns : List Int} {i : Nat} {x : V} (h : (ns.map V.int)[i]? = some x) : ∃ z, x = .int z ∧ ns[i]? = some z := by
  rw [List.getElem?_map] at h
  cases e : ns[i]? with
  | none => rw [e] at h; cases h
  | some z => rw [e] at h; exact ⟨z, (Option.some.inj h).symm, rfl⟩
theorem ixN_of {n : Nat} {k : Int} (h0 : 0 ≤ k) (h : k < n) : ixN n k = some k.toNat := by
  unfold ixN
  rw [if_pos h0, if_pos h]

end L2

namespace L2
open PySem PySem.Spec PyProof.Rows
/-! ### over the signs of a text -/
def Its (z : Str) : It := ⟨fun i _ => i < z.length, fun i H x H' => H' = H ∧ ∃ c, z.cps.toList[i]? = some c ∧ x = .str ⟨#[c]⟩, fun i _ => z.length ≤ i⟩
theorem turn_strA {P : Program} {w : World} {K : PySem.W.Frag} {tg : Expr} (it : Addr) (z : Str) (t : Tok) : Turn P w K tg (Its z) [it] it (fun i h => h.IsStrIter it "str_ascii_iterator" z t i) where
  mem := by simp
  obj := fun i h st b hb => by
    have e : b = it := by simpa using hb
    subst e
    obtain ⟨o, e, c, d⟩ := st
    exact ⟨o, e, fun v z => by rw [d] at z; cases z⟩
  keep := fun i h h' st k => let ⟨o, ho, r⟩ := st; ⟨o, k it (by simp) o ho, r⟩
  item := by
    intro X hP hw hK hc i pins s σ H E I hf st hg
    subst hP hw hK
    obtain ⟨f0, f1, f2, f3, f4, f5⟩ := hf it (by simp)
    have hi : i < z.cps.size := hg
    refine wpAny_pyNext_ascii_item st (c := z.cps[i]) (by simp [hi]) fun h' st' sb => ?_
    have I1 : Inv X pins σ H { s with heap := h', toks := s.toks + 1 } := I.turned (t' := s.toks + 1) (fun b o hb e => (sb.2 b hb).trans e) f0 f1 f3 f4 f5
    obtain ⟨o, e, c, d⟩ := id st'
    exact ⟨_, rfl, go_of (s := { s with heap := h', toks := s.toks + 1 }) e c d (by decide) ⟨.str ⟨#[z.cps[i]]⟩, H, I1, ⟨_, rfl⟩, ⟨rfl, z.cps[i], by simp [hi], rfl⟩, st', fun b hb => (hf b hb).1⟩⟩
  done := by
    intro X hP hw hK hc i pins s σ H E I hf st hg
    subst hP hw hK
    obtain ⟨f0, f1, f2, f3, f4, f5⟩ := hf it (by simp)
    have hi : z.cps.size ≤ i := hg
    exact wpAny_pyNext_ascii_end (I.ok.hd hc) st (by simp [hi]) fun h' eb => ⟨rfl, I.turned (t' := s.toks) (fun b o hb e => eb b o hb e) f0 f1 f3 f4 f5⟩
  self := fun _ _ _ _ _ st h => wpAny_pyIter_striter_ascii st h
theorem turn_strW {P : Program} {w : World} {K : PySem.W.Frag} {tg : Expr} (it : Addr) (z : Str) (t : Tok) : Turn P w K tg (Its z) [it] it (fun i h => h.IsStrIter it "str_iterator" z t i) where
  mem := by simp
  obj := fun i h st b hb => by
    have e : b = it := by simpa using hb
    subst e
    obtain ⟨o, e, c, d⟩ := st
    exact ⟨o, e, fun v z => by rw [d] at z; cases z⟩
  keep := fun i h h' st k => let ⟨o, ho, r⟩ := st; ⟨o, k it (by simp) o ho, r⟩
  item := by
    intro X hP hw hK hc i pins s σ H E I hf st hg
    subst hP hw hK
    obtain ⟨f0, f1, f2, f3, f4, f5⟩ := hf it (by simp)
    have hi : i < z.cps.size := hg
    refine wpAny_pyNext_wide_item st (c := z.cps[i]) (by simp [hi]) fun h' st' sb => ?_
    have I1 : Inv X pins σ H { s with heap := h', toks := s.toks + 1 } := I.turned (t' := s.toks + 1) (fun b o hb e => (sb.2 b hb).trans e) f0 f1 f3 f4 f5
    obtain ⟨o, e, c, d⟩ := id st'
    exact ⟨_, rfl, go_of (s := { s with heap := h', toks := s.toks + 1 }) e c d (by decide) ⟨.str ⟨#[z.cps[i]]⟩, H, I1, ⟨_, rfl⟩, ⟨rfl, z.cps[i], by simp [hi], rfl⟩, st', fun b hb => (hf b hb).1⟩⟩
  done := by
    intro X hP hw hK hc i pins s σ H E I hf st hg
    subst hP hw hK
    obtain ⟨f0, f1, f2, f3, f4, f5⟩ := hf it (by simp)
    have hi : z.cps.size ≤ i := hg
    exact wpAny_pyNext_wide_end (I.ok.hd hc) st (by simp [hi]) fun h' eb => ⟨rfl, I.turned (t' := s.toks) (fun b o hb e => eb b o hb e) f0 f1 f3 f4 f5⟩
  self := fun _ _ _ _ _ st h => wpAny_pyIter_striter_wide st h
def iStr (tl : TE) : TI := fun σ H R => tl σ H fun x H1 => ∃ z, x = .str z ∧ R (Its z) H1
theorem pi_str {X : Cx} {tg l : Expr} {tl : TE} (hl : PE X l tl) : PI X tg l (iStr tl) := by
  intro pins s σ H R I h
  refine thn (hl pins s σ H _ I h) fun v s1 ⟨x, H1, I1, r1, q1⟩ => ?_
  obtain ⟨z, e, q⟩ := q1
  subst e
  obtain ⟨t, rfl⟩ := r1
  have fp : ∀ b ∈ [s1.heap.objs.size], FpOk X pins H1 b := fun b hb => by
    have e : b = s1.heap.objs.size := by simpa using hb
    subst e
    exact I1.fpOk (Nat.le_refl _) (I1.hok.fresh (Nat.le_refl _))
  cases ha : z.cps.all (· < 128)
  · exact wpAny_pyIter_wide ha ⟨s1.heap.objs.size, [s1.heap.objs.size], _, _, H1, rfl, I1.kept (t' := s1.toks) fun b o e => Heap.get?_push_of_some _ e, turn_strW _ z t, ⟨_, Heap.get?_push_size _ rfl, rfl, rfl⟩, fp, q⟩
  · exact wpAny_pyIter_ascii ha ⟨s1.heap.objs.size, [s1.heap.objs.size], _, _, H1, rfl, I1.kept (t' := s1.toks) fun b o e => Heap.get?_push_of_some _ e, turn_strA _ z t, ⟨_, Heap.get?_push_size _ rfl, rfl, rfl⟩, fp, q⟩
section
variable {g : TG} {ti : TT} {te : TE} {Q : VK} {σ : St} {H : Hp} {pick : List (Option Nat)}
theorem compW_str {z : Str} (Pv : Nat → List V → St → Hp → Prop) (h0 : Pv 0 [] (pickS pick σ) H) (hl : ∀ i ys σ H, i ≤ z.length → Pv i ys σ H → ys.length ≤ sizeLine)
    (hs : ∀ i c ys σ H, z.cps.toList[i]? = some c → Pv i ys σ H → g (.str ⟨#[c]⟩) σ H fun σ3 H3 => ti σ3 H3 fun b H4 => if b = true then te σ3 H4 fun v H5 => Pv (i + 1) (ys ++ [v]) σ3 H5 else Pv (i + 1) ys σ3 H4)
    (hd : ∀ ys σ H, Pv z.length ys σ H → ∀ p, H p = none → Q (.ref p) (upd H p (.lst ys))) : CompW pick g ti te Q σ (Its z) H := by
  refine ⟨fun i m ys σ H => m = z.length - i ∧ i ≤ z.length ∧ Pv i ys σ H, ⟨z.length, by simp, Nat.zero_le _, h0⟩, ?_⟩
  rintro i m ys σ H ⟨rfl, hi, p⟩
  refine ⟨hl i ys σ H hi p, ?_⟩
  by_cases hlt : i < z.length
  · refine .inr ⟨hlt, Pv (i + 1), fun zs σ' H' p' => ⟨z.length - (i + 1), by omega, rfl, hlt, p'⟩, fun x H' y => ?_⟩
    obtain ⟨e, c, hc, y⟩ := y
    subst e y
    exact hs i c ys σ _ hc p
  · have e : i = z.length := by omega
    subst e
    exact .inl ⟨Nat.le_refl _, hd ys σ H p⟩
theorem forW_str {tb : TS} {D : Ends} {z : Str} (Pv : Nat → St → Hp → Prop) (h0 : Pv 0 σ H)
    (hs : ∀ i c σ H, z.cps.toList[i]? = some c → Pv i σ H → g (.str ⟨#[c]⟩) σ H fun σ2 H2 => tb { D with nx := Pv (i + 1), ct := Pv (i + 1), bk := D.nx } σ2 H2) (hd : ∀ σ H, Pv z.length σ H → D.nx σ H) : ForW g tb D σ (Its z) H := by
  refine ⟨fun i m σ H => m = z.length - i ∧ i ≤ z.length ∧ Pv i σ H, ⟨z.length, by simp, Nat.zero_le _, h0⟩, ?_⟩
  rintro i m σ H ⟨rfl, hi, p⟩
  by_cases hlt : i < z.length
  · refine .inr ⟨hlt, Pv (i + 1), fun σ' H' p' => ⟨z.length - (i + 1), by omega, rfl, hlt, p'⟩, fun x H' y => ?_⟩
    obtain ⟨e, c, hc, y⟩ := y
    subst e y
    exact hs i c σ _ hc p
  · have e : i = z.length := by omega
    subst e
    exact .inl ⟨Nat.le_refl _, hd σ H p⟩
end
section
variable {X : Cx}
theorem op_eqDK (K : PySem.W.Frag) {k : Nat} (hr : Room k X.A) (hK : X.K = K := by rfl) : OpR X (compareOp .Eq) (fun x y H Q => ∃ d ds, (d = .lst ds ∨ d = .tup ds) ∧ dep d ≤ 60 ∧ Deep K H d x ∧ Deep K H d y ∧ Q (.bl true) H) := by subst hK; exact op_eqD hr
end

end L2

namespace L2
open PySem PySem.Spec PyProof.Rows
/-! ### exceptions -/
/-- an exception at e: its class, its dict, the head of its traceback -/
def XObj (h : Heap) (e : Addr) (C : Value) (dx : Option Addr) (tb : Value) : Prop := ∃ (oe : Obj) (vs : Array Value), h.get? e = some oe ∧ oe.cls = C ∧ oe.dict = dx ∧ oe.data = .fields vs ∧ vs[1]? = some tb
/-- a traceback's entry whose flight says fl -/
def TbAt (h : Heap) (T : Addr) (fl : Value) : Prop := ∃ (o : Obj) (ts : Array Value), h.get? T = some o ∧ o.data = .fields ts ∧ ts[3]? = some fl
/-- no head, or an entry that is not in flight -/
def TbOk (h : Heap) (tb : Value) : Prop := tb = .none ∨ ∃ T, tb = .ref T ∧ TbAt h T .none
/-- but e, the head and the frames' slots all stays -/
def KeptX (fr : List Addr) (e : Addr) (tb : Value) (h h' : Heap) : Prop :=
  ∀ b o, h.get? b = some o → b ≠ e → tb ≠ .ref b → ∃ sl, h'.get? b = some { o with slots := sl } ∧ (b ∉ fr → sl = o.slots)
theorem KeptX.there {fr : List Addr} {e : Addr} {tb : Value} {h h' : Heap} (k : KeptX fr e tb h h') {b : Addr} {o : Obj} (q : h.get? b = some o) (n : b ≠ e) (n' : tb ≠ .ref b) (f : b ∉ fr) : h'.get? b = some o := by
  obtain ⟨sl, x, y⟩ := k b o q n n'
  rw [x, y f]
section
variable {M : Model} {A : Around} {E : Value → Shared → Prop} {s : Shared} {base : Heap} {env : Env} {outer : List Env} {L e : Addr} {C : Value} {dx : Option Addr} {tb : Value} {Q : Unit → Shared → Prop}
theorem entry_x {hadNext : Bool} {hdv : Value} (hfr : A.frames = some (env :: outer)) (hl : s.heap.FunFrames base (env :: outer)) (hf : env.frame = some L) (x : XObj s.heap e C dx tb)
    (q : ∀ h' T, s.heap.objs.size ≤ T → XObj h' e C dx (.ref T) → TbAt h' T (rawInt L) → KeptX (frs (env :: outer)) e .none s.heap h' → Q () { s with heap := h' }) :
    wpAny M A (do let a ← frameOf env; let pl ← entryPlaceOf L hadNext; let b ← EntryCells.newEntry hdv a .none (rawInt L) .none pl; setField (.ref e) 1 b) Q E s := by
  obtain ⟨oe, vs, he, hc, hd, hv, h1⟩ := x
  have h1s : 1 < vs.size := (Array.getElem?_eq_some_iff.mp h1).1
  refine wpAny_bind (wpAny_frameOf_fun hfr hl hf fun g1 so => wpAny_bind (wpAny_entryPlaceOf fun pl ip => ?_))
  obtain ⟨sz, oth, all⟩ := so
  obtain ⟨sle, he1⟩ := all e oe he
  unfold EntryCells.newEntry newFields
  refine wpAny_bind (wpAny_newObj_type ?_ (ip.sizeOk5 _ _ _ _ _))
  dsimp only
  have hlt : e < g1.objs.size := Heap.lt_size he1
  refine wpAny_setField (Heap.get?_push_of_some _ he1) (show ({ oe with slots := sle } : Obj).data = .fields vs from hv) h1s (q _ g1.objs.size (Nat.le_of_eq sz.symm) ?_ ?_ fun b o hb hbe _ => ?_)
  · refine ⟨_, _, Heap.get?_update_self _ (Heap.get?_push_of_some _ he1) (Obj.isFreed_of_fields (Obj.data_mapFields (show ({ oe with slots := sle } : Obj).data = .fields vs from hv) _)), ?_, ?_, Obj.data_mapFields (show ({ oe with slots := sle } : Obj).data = .fields vs from hv) _, by simp [h1s]⟩
    · rw [Obj.cls_mapFields]; exact hc
    · unfold Obj.mapFields
      rw [show ({ oe with slots := sle } : Obj).data = .fields vs from hv]
      exact hd
  · refine ⟨_, _, (Heap.get?_update_other _ _ (Nat.ne_of_lt hlt)).trans (Heap.get?_push_size _ rfl), rfl, ?_⟩
    first
      | (simp; done)
      | (rcases ip with rfl | ⟨_, _, _, _, _, _, _, rfl⟩ <;> simp)
  · obtain ⟨sl, k⟩ := all b o hb
    refine ⟨sl, (Heap.get?_update_other _ _ (Ne.symm hbe)).trans (Heap.get?_push_of_some _ k), fun nf => ?_⟩
    have k2 := (oth b nf).trans hb
    rw [k] at k2
    exact congrArg Obj.slots (Option.some.inj k2)
end
section
variable {M : Model} {A : Around} {E : Value → Shared → Prop} {s : Shared} {base : Heap} {env : Env} {outer : List Env} {L e : Addr} {C : Value} {dx : Option Addr} {tb : Value} {Q : Unit → Shared → Prop}
theorem upd_tb {h : Heap} {T : Addr} {o : Obj} {ts : Array Value} {v : Value} (hT : h.get? T = some o) (hd : o.data = .fields ts) (n : 3 < ts.size) : (∀ b, b ≠ T → (h.update T (Obj.mapFields (·.setIfInBounds 3 v))).get? b = h.get? b) ∧ TbAt (h.update T (Obj.mapFields (·.setIfInBounds 3 v))) T v :=
  ⟨fun b hb => Heap.get?_update_other _ _ (Ne.symm hb), _, _, Heap.get?_update_self _ hT (Obj.isFreed_of_fields (Obj.data_mapFields hd _)), Obj.data_mapFields hd _, by simp [n]⟩
/-- the exception is noted in the frame that runs -/
theorem note_x (hfr : A.frames = some (env :: outer)) (hl : s.heap.FunFrames base (env :: outer)) (hf : env.frame = some L) (x : XObj s.heap e C dx tb) (t : TbOk s.heap tb) (hte : tb ≠ .ref e)
    (q : ∀ h' T, s.heap.objs.size ≤ T → XObj h' e C dx (.ref T) → TbAt h' T (rawInt L) → KeptX (frs (env :: outer)) e tb s.heap h' → Q () { s with heap := h' }) : wpAny M A (noteFrame (.ref e) env) Q E s := by
  obtain ⟨oe, vs, he, hc, hd, hv, h1⟩ := id x
  unfold noteFrame
  simp only [hf]
  refine wpAny_bind (wpAny_field he hv h1 ?_)
  rcases t with rfl | ⟨T0, rfl, oT, ts, hT, hdT, h3⟩
  · rw [if_neg (by decide)]
    exact entry_x hfr hl hf x q
  · have n3 : 3 < ts.size := (Array.getElem?_eq_some_iff.mp h3).1
    have eT : e ≠ T0 := fun z => hte (by rw [z])
    rw [if_pos (by simp)]
    refine wpAny_bind (wpAny_field hT hdT h3 ?_)
    rw [if_neg (by simp [rawInt])]
    obtain ⟨oth, _⟩ := upd_tb (v := Value.none) hT hdT n3
    refine wpAny_bind (wpAny_setField hT hdT n3 (entry_x (base := base) hfr ?_ hf ⟨oe, vs, (oth e eT).trans he, hc, hd, hv, h1⟩ fun h' T hs xo tt k => ?_))
    · refine hl.of_keeps fun b o hb nf => ⟨o, (oth b fun z => ?_).trans hb, rfl⟩
      subst z
      rw [hT] at hb
      cases hb
      exact nf ts hdT
    · refine q h' T ?_ xo tt fun b o hb hbe hbt => k b o ((oth b fun z => hbt (by rw [z])).trans hb) hbe (by simp)
      have : (s.heap.update T0 (Obj.mapFields (·.setIfInBounds 3 Value.none))).objs.size = s.heap.objs.size := Heap.size_after_update ..
      rw [← this]
      exact hs
/-- its flight is over -/
theorem flight_x {T : Addr} {fl : Value} (x : XObj s.heap e C dx (.ref T)) (t : TbAt s.heap T fl) (hTe : T ≠ e)
    (q : ∀ h', XObj h' e C dx (.ref T) → TbAt h' T .none → h'.objs.size = s.heap.objs.size → (∀ b, b ≠ T → h'.get? b = s.heap.get? b) → Q () { s with heap := h' }) : wpAny M A (setFlight (.ref e) none) Q E s := by
  obtain ⟨oe, vs, he, hc, hd, hv, h1⟩ := x
  obtain ⟨oT, ts, hT, hdT, h3⟩ := t
  have n3 : 3 < ts.size := (Array.getElem?_eq_some_iff.mp h3).1
  obtain ⟨oth, tt⟩ := upd_tb (v := Value.none) hT hdT n3
  unfold setFlight
  refine wpAny_bind (wpAny_field he hv h1 ?_)
  rw [if_pos (by simp)]
  exact wpAny_setField hT hdT n3 (q _ ⟨oe, vs, (oth e (Ne.symm hTe)).trans he, hc, hd, hv, h1⟩ tt (Heap.size_after_update ..) oth)
/-- it leaves the frame -/
theorem leave_x (hfr : A.frames = some (env :: outer)) (hl : s.heap.FunFrames base (env :: outer)) (hf : env.frame = some L) (x : XObj s.heap e C dx tb) (t : TbOk s.heap tb) (hte : tb ≠ .ref e)
    (q : ∀ h' T, s.heap.objs.size ≤ T → XObj h' e C dx (.ref T) → TbAt h' T .none → KeptX (frs (env :: outer)) e tb s.heap h' → Q () { s with heap := h' }) : wpAny M A (leaving env (.ref e)) Q E s := by
  unfold leaving
  have elt : e < s.heap.objs.size := let ⟨_, _, he, _⟩ := x; Heap.lt_size he
  refine wpAny_bind (note_x hfr hl hf x t hte fun h' T hs xo tt k => ?_)
  refine flight_x (s := { s with heap := h' }) xo tt (Nat.ne_of_gt (Nat.lt_of_lt_of_le elt hs)) fun h2 xo2 tt2 sz oth => q h2 T hs xo2 tt2 fun b o hb hbe hbt => ?_
  obtain ⟨sl, k1, k2⟩ := k b o hb hbe hbt
  exact ⟨sl, (oth b (Nat.ne_of_lt (Nat.lt_of_lt_of_le (Heap.lt_size hb) hs))).trans k1, k2⟩
end
/-- an exception as a tracked thing: its class, its dict -/
def XP (e : Addr) (C : Value) (dx : Option Addr) (h : Heap) : Prop := ∃ (oe : Obj) (vs : Array Value), h.get? e = some oe ∧ oe.cls = C ∧ oe.dict = dx ∧ oe.data = .fields vs ∧ 1 < vs.size
def XO (e : Addr) (C : Value) (dx : Option Addr) : HO := .ext (XP e C dx)
theorem XObj.xp {h : Heap} {e : Addr} {C : Value} {dx : Option Addr} {tb : Value} (x : XObj h e C dx tb) : XP e C dx h :=
  let ⟨oe, vs, he, hc, hd, hv, h1⟩ := x; ⟨oe, vs, he, hc, hd, hv, (Array.getElem?_eq_some_iff.mp h1).1⟩
theorem XP.obj {P : Program} {w : World} {H : Hp} {h : Heap} {e : Addr} {C : Value} {dx : Option Addr} (x : XP e C dx h) : ObjOk P w H h e (XO e C dx) := by
  obtain ⟨oe, vs, he, r⟩ := id x
  refine ⟨x, ⟨oe, he⟩, fun h1 h2 y k => ?_⟩
  obtain ⟨o1, v1, g1, r1⟩ := y
  exact ⟨o1, v1, k o1 g1, r1⟩
theorem XO.at {P : Program} {w : World} {H : Hp} {h : Heap} {e : Addr} {C : Value} {dx : Option Addr} (k : HOk P w H h) (x : H e = some (XO e C dx)) : XP e C dx h := (k e _ x).1
/-- how an exception lies behind a call: it is tracked, its traceback's head is an entry of its own -/
def CXe (P : Program) (w : World) : CXT := fun outer H s E ev s' => ∃ (e : Addr) (C : Value) (dx : Option Addr) (T : Addr) (H' : Hp), ev = .ref e ∧ s'.os = s.os ∧ AllBare s'.gens ∧ Un (frs outer) [] H H' s.heap s'.heap ∧ HOk P w H' s'.heap ∧
  s.heap.objs.size ≤ e ∧ s.heap.objs.size ≤ T ∧ T ≠ e ∧ H' e = some (XO e C dx) ∧ H' T = none ∧ XObj s'.heap e C dx (.ref T) ∧ TbAt s'.heap T .none ∧ E ev none H'
section
variable {X : Cx} {pins : List (Addr × Obj)} {σ : St} {H : Hp} {s : Shared} {e : Addr} {C : Value} {dx : Option Addr} {tb : Value}
/-- all that is tracked but e stays through a noting -/
theorem KeptX.hok {h' : Heap} (I : Inv X pins σ H s) (k : KeptX (frs X.stack) e tb s.heap h') (he : H e = some (XO e C dx)) (hn : ∀ T, tb = .ref T → H T = none) (x : XP e C dx h') : HOk X.prog X.w H h' := fun b u q => by
  by_cases hb : b = e
  · subst hb
    rw [he] at q
    cases q
    exact x.obj
  · refine (I.hok b u q).stay (fun c v hc r => ?_) (fun _ z => z) fun _ _ z => z
    have hce : c ≠ e := by
      rcases hc with z | z
      · rw [z]; exact hb
      · intro z'; rw [z', he] at z; cases z
    have hc1 : ∃ w, H c = some w := by
      rcases hc with z | z
      · exact ⟨u, by rw [z]; exact q⟩
      · exact ⟨_, z⟩
    obtain ⟨w1, hw⟩ := hc1
    refine k.there r hce (fun z => ?_) fun z => ?_
    · rw [hn c z] at hw; cases hw
    · rw [I.stkFree c z] at hw; cases hw
theorem KeptX.un {h' : Heap} (k : KeptX (frs X.stack) e tb s.heap h') (I : Inv X pins σ H s) (he : H e = some (XO e C dx)) (hx : XP e C dx h') (hex : ∀ T, tb = .ref T → T ∈ X.ex ∨ X.s₀.heap.objs.size ≤ T) : Un X.fs X.ex X.H₀ H X.s₀.heap h' := by
  have ne : ∀ b o, s.heap.get? b = some o → H b = none → b ≠ e := fun b o _ n z => by rw [z, he] at n; cases n
  have nt : ∀ b o, X.s₀.heap.get? b = some o → b ∉ X.ex → tb ≠ .ref b := fun b o q hx z => by
    rcases hex b z with r | r
    · exact hx r
    · exact absurd (Nat.lt_of_lt_of_le (Heap.lt_size q) r) (Nat.lt_irrefl _)
  have nl : ∀ b o, X.s₀.heap.get? b = some o → b ≠ X.env.locals := fun b o q => Nat.ne_of_lt (Nat.lt_of_lt_of_le (Heap.lt_size q) I.ok.above)
  refine ⟨fun b o q n hb hxx => ?_, fun b o q n hb hxx => ?_, I.base.free, fun b o q hxx => ?_, I.base.tups, I.base.frzs, I.base.tbls⟩
  · have q1 := I.base.keep b o q n hb hxx
    have n1 := I.base.free b o q n hxx
    refine k.there q1 (ne b o q1 n1) (nt b o q hxx) fun z => ?_
    rcases List.mem_cons.mp (I.stkSub b z) with r | r
    · exact nl b o q r
    · exact hb r
  · obtain ⟨sl, q1⟩ := I.base.slot b o q n hb hxx
    have n1 := I.base.free b o q n hxx
    obtain ⟨sl2, q2, _⟩ := k b _ q1 (ne b _ q1 n1) (nt b o q hxx)
    exact ⟨sl2, q2⟩
  · obtain ⟨o1, q1⟩ := I.base.there b o q hxx
    by_cases hbe : b = e
    · obtain ⟨oe, _, g, _⟩ := hx
      exact ⟨oe, by rw [hbe]; exact g⟩
    · obtain ⟨sl2, q2, _⟩ := k b _ q1 hbe (nt b o q hxx)
      exact ⟨_, q2⟩
end
section
variable {P : Program} {w : World} {K : PySem.W.Frag} {mg : Str → Option Value} {base : Heap} {N : List Str} {qual : Str} {scope : Scope} {f : Addr} {cd : Value} {A : Around} {outer : List Env} {s : Shared} {H : Hp} {E : XK}
/-- an exception at hand leaves the def -/
theorem leave_cx {pins : List (Addr × Obj)} {σ : St} {H1 : Hp} {s1 : Shared} {e : Addr} {C : Value} {dx : Option Addr} {tb : Value} (I : Inv (cxOf (CXe P w) P w K mg base N qual scope f cd A outer s H E) pins σ H1 s1)
    (he : H1 e = some (XO e C dx)) (x : XObj s1.heap e C dx tb) (t : TbOk s1.heap tb) (hte : tb ≠ .ref e) (hn : ∀ T, tb = .ref T → H1 T = none ∧ s.heap.objs.size ≤ T) (hs : s.heap.objs.size ≤ e) (q : E (.ref e) none H1) :
    (cxOf (CXe P w) P w K mg base N qual scope f cd A outer s H E).xe (.ref e) s1 := by
  have elt : e < s1.heap.objs.size := let ⟨_, _, he, _⟩ := x; Heap.lt_size he
  refine leave_x (base := base) I.ok.frames I.stack rfl x t hte fun h' T hT xo tt k => ?_
  exact ⟨e, C, dx, T, H1, rfl, I.os, I.bare, KeptX.un k I he xo.xp fun T0 z => .inr (hn T0 z).2, KeptX.hok I k he (fun T0 z => (hn T0 z).1) xo.xp, hs, Nat.le_trans I.sz hT, Nat.ne_of_gt (Nat.lt_of_lt_of_le elt hT), he, I.hok.fresh hT, xo, tt, q⟩
/-- a callee's exception is handed on -/
theorem passX : Passes (CXe P w) (cxOf (CXe P w) P w K mg base N qual scope f cd A outer s H E) E := by
  intro pins σ H1 s1 ev s' I h
  obtain ⟨e, C, dx, T, H', rfl, os, bare, un, hok, l1, l2, te, he, hT, xo, tt, q⟩ := h
  obtain ⟨hh, g, d, t, os'⟩ := s'
  obtain rfl : os' = s1.os := os
  have J := I.call (h' := hh) (g' := g) (d' := d) (t' := t) (ch := []) un hok bare (fun b z => absurd z (by simp))
  refine leave_cx J he xo (.inr ⟨T, rfl, tt⟩) (fun z => te (Value.ref.inj z)) (fun T0 z => ?_) (Nat.le_trans I.sz l1) q
  obtain rfl : T = T0 := Value.ref.inj z
  exact ⟨hT, Nat.le_trans I.sz l2⟩
/-- THE RULE for a def that may raise -/
theorem Fun.okX {x : Str} {st : Stmt} {fd : FuncData} {ps : List Str} {k : Nat} {sp : Sp} (F : Fun K x qual st f fd) (S : FnScope N ps (defScope st)) (len : ∀ vs H Q E, sp vs H Q E → vs.length = ps.length)
    (hbody : ∀ (cdv : Value) (A : Around) (outer : List Env) (s : Shared) (H : Hp) (vs : List V) (Q : VK) (E : XK), Room k (A.deeper (envOfC qual (defScope st) s.heap.objs.size f cdv)) → sp vs H Q E →
      ∃ t, PSs (cxOf (CXe P w) P w K mg base N qual (defScope st) f cdv A outer s H E) (defBody st) t ∧ t { nx := fun _ H' => Q .non H', rt := Q } (start N vs) H) : FnOk P w K mg base (CXe P w) (k + 1) f fd ps sp := by
  obtain ⟨oc, od, kV, doc, pm, an, cdv, ct, osl, rfl, lk, hcd⟩ := F.ex
  exact fn_of lk hcd S len fun A outer s H vs Q E hr hsp => hbody cdv A outer s H vs Q E hr hsp
end

end L2

namespace L2
open PySem PySem.Spec PyProof.Rows
/-! ### own exception classes: made -/
abbrev bmV : List Value := [.type "ValueError", .type "Exception", .type "BaseException", .type "object"]
abbrev xTup (vs : List Value) : Obj := { cls := .type "tuple", data := .seq vs.toArray }
abbrev xNew (C t : Addr) : Obj := { cls := .ref C, data := .fields #[.ref t, .none, .none, .none, .bool false, .none] }
section
variable {prog : Program} {w : World} {A : Around} {E : Value → Shared → Prop} {h : Heap} {g : Array GenState} {d : Drawn} {t : Nat} {os : OsState} {K : PySem.W.Frag}
variable {nm qn : Str} {C N fI : Addr} {bs bm : List Value} {hdct : Bool} {sn : List Str} {sub : List Value} {ab : Bool} {col : Option Bool} {dd : Option Addr} {k0 k1 k2 k3 k5 : Option Value}
end
section
open PySem.W Builtin Builtin.ObjectAttr
variable {prog : Program} {w : World} {A : Around} {E : Value → Shared → Prop} {s : Shared} {K : PySem.W.Frag} {C FE x : Addr} {o : Obj} {name : Str} {v : Value} {cd : ClassData} {vs : Array Value}
end
/-! ### self.f = e in an exception's own __init__ -/
/-- an exception that was not raised yet -/
def XPn (e : Addr) (C : Value) (dx : Option Addr) (h : Heap) : Prop := XObj h e C dx .none
def XN (e : Addr) (C : Value) (dx : Option Addr) : HO := .ext (XPn e C dx)
theorem XPn.obj {P : Program} {w : World} {H : Hp} {h : Heap} {e : Addr} {C : Value} {dx : Option Addr} (x : XPn e C dx h) : ObjOk P w H h e (XN e C dx) := by
  obtain ⟨oe, vs, he, r⟩ := id x
  refine ⟨x, ⟨oe, he⟩, fun h1 h2 y k => ?_⟩
  obtain ⟨o1, v1, g1, r1⟩ := y
  exact ⟨o1, v1, k o1 g1, r1⟩
theorem XN.at {P : Program} {w : World} {H : Hp} {h : Heap} {e : Addr} {C : Value} {dx : Option Addr} (k : HOk P w H h) (x : H e = some (XN e C dx)) : XObj h e C dx .none := (k e _ x).1
def strKeys (es : Array DictEntry) : Bool := es.toList.all fun e => match e.key with
  | .str _ _ => true
  | _ => false
/-- an own class C below FE below ValueError -/
structure XCls (K : PySem.W.Frag) (C FE : Addr) : Prop where
  ob : ∃ (nm qn : Str) (N : Addr) (bs : List Value) (sn : List Str) (sub : List Value) (ab : Bool) (col : Option Bool) (dd : Option Addr) (k0 k1 k2 k3 k5 : Option Value), K.lookup C = some (excClassObj nm qn C N bs (.ref FE :: bmV) true sn sub ab col dd k0 k1 k2 k3 k5 "ValueError.__new__")
  fe : ∃ (c0 : Value) (dd : Option Addr) (cd : ClassData) (sl : Array (Option Value)) (c1 : Value) (d1 : Option Addr) (es : Array DictEntry) (n : Nat) (sl1 : Array (Option Value)), K.lookup FE = some ⟨c0, dd, .cls cd, sl⟩ ∧ K.lookup cd.ns = some ⟨c1, d1, .dict es n, sl1⟩ ∧ strKeys es = true ∧ nsFind es "__init__" = none
  sa : PySem.W.findIn K (.ref C) "__setattr__" = some (some (.builtin "object.__setattr__"))
theorem XCls.cd {K : PySem.W.Frag} {C FE : Addr} (x : XCls K C FE) : ∃ cd, PySem.W.clsIn K C = some cd ∧ cd.mro = .ref C :: .ref FE :: bmV ∧ cd.hasDict = true := by
  obtain ⟨nm, qn, N, bs, sn, sub, ab, col, dd, k0, k1, k2, k3, k5, l⟩ := x.ob
  have q : PySem.W.clsIn K C = some { name := nm, bases := bs, mro := .ref C :: .ref FE :: bmV, ns := N, qualname := qn, hasDict := true, slotNames := sn, subclasses := sub, abstract := ab, collection := col, hasDel := false } := by
    unfold PySem.W.clsIn
    rw [l]
  exact ⟨_, q, rfl, rfl⟩
theorem XCls.tail {K : PySem.W.Frag} {C FE : Addr} {h : Heap} (x : XCls K C FE) (X : K.In h) : OwnTail h bmV (.ref FE :: bmV) := by
  obtain ⟨c0, dd, cd, sl, c1, d1, es, n, sl1, l1, l2, sk, ni⟩ := x.fe
  refine .own (X _ _ l1) ⟨_, es, n, X _ _ l2, rfl, fun e he => ?_, fun _ => rfl⟩ ni .base
  have z := List.all_eq_true.mp sk e (by simpa using he)
  cases ek : e.key with
  | str nm t => exact ⟨nm, t, rfl⟩
  | _ => rw [ek] at z; cases z
def tXfld (K : PySem.W.Frag) (f : Str) (ta tv : TE) : TS := fun D σ H => tv σ H fun y H1 => ta σ H1 fun x H2 => ∃ e C FE, x = .ref e ∧ H2 e = some (XN e (.ref C) none) ∧ XCls K C FE ∧ PySem.W.findIn K (.ref C) f = some none ∧
  ∀ dx, H2 dx = none → D.nx σ (upd (upd H2 e (XN e (.ref C) (some dx))) dx (.xd [(f, y)]))

/-! ### raise C(e) -/
theorem raise_x {M : Model} {A : Around} {E : Value → Shared → Prop} {s : Shared} {env : Env} {x : Sem Value} {Q : Flow → Shared → Prop} {nm qn : Str} {C N : Addr} {bs bm : List Value} {hdct : Bool} {sn : List Str} {sub : List Value} {ab : Bool} {col : Option Bool} {dd : Option Addr} {k0 k1 k2 k3 k5 : Option Value} {newId : String}
    (hb : bm.contains (.type "BaseException") = true) (hh : A.handled = none)
    (h : wpAny M A x (fun v s1 => ∃ (e : Addr) (oe : Obj) (vs : Array Value), v = .ref e ∧ s1.heap.get? C = some (excClassObj nm qn C N bs bm hdct sn sub ab col dd k0 k1 k2 k3 k5 newId) ∧ s1.heap.get? e = some oe ∧ oe.cls = .ref C ∧ oe.data = .fields vs ∧ vs[1]? = some .none ∧ E (.ref e) s1) E s) :
    wpAny M A (raiseStmt env (some x) none) Q E s := by
  have isB : (Value.ref C :: bm).contains (.type "BaseException") = true := by rw [List.contains_cons, hb, Bool.or_true]
  unfold raiseStmt
  refine wpAny_bind (wpAny_mono h (fun v s1 h1 => ?_) fun _ _ z => z)
  obtain ⟨e, oe, vs, rfl, hC, he, hc, hv, h0, hE⟩ := h1
  obtain ⟨hp, g, d, tk, os⟩ := s1
  obtain ⟨oc, od, oda, osl⟩ := oe
  dsimp only at hc hv
  subst hc hv
  repeat (first
    | with_reducible refine wpAny_loadPart_at he ?_
    | with_reducible refine wpAny_loadPart_at hC ?_
    | (with_reducible refine wpAny_isSubtype_exc hC ?_; rw [isB])
    | with_reducible refine wpAny_field he rfl h0 ?_
    | wp_step)
  exact wpAny_raiseNew_none hh hE

/-- what an exception's own __init__ promises that stores its one argument in f -/
def spXInit (K : PySem.W.Frag) (f : Str) : Sp := fun vs H Q _ => ∃ (e C FE : Addr) (y : V), vs = [.ref e, y] ∧ H e = some (XN e (.ref C) none) ∧ XCls K C FE ∧ PySem.W.findIn K (.ref C) f = some none ∧ ∀ dx, H dx = none → Q .non (upd (upd H e (XN e (.ref C) (some dx))) dx (.xd [(f, y)]))
def tRaise (C : Addr) (f : Str) (E : XK) (te : TA) : TS := fun _ σ H => te σ H fun vs H1 => ∃ y, vs = [y] ∧ ∀ e dx H', Same H1 H' → H1 e = none → H1 dx = none → H' e = some (XO e (.ref C) (some dx)) → H' dx = some (.xd [(f, y)]) → E (.ref e) none H'
section
variable {P : Program} {w : World} {K : PySem.W.Frag} {mg : Str → Option Value} {base : Heap} {N : List Str} {qual : Str} {scope : Scope} {f0 : Addr} {cd : Value} {A : Around} {outer : List Env} {s0 : Shared} {H0 : Hp} {E : XK}
end

end L2

namespace L2
open PySem PySem.Spec PyProof.Rows
/-! ### try .. except FE as n -/
structure XCatch (K : PySem.W.Frag) (FE : Addr) : Prop where
  lk : ∃ (dd : Option Addr) (cd : ClassData) (sl : Array (Option Value)), K.lookup FE = some ⟨.type "type", dd, .cls cd, sl⟩
  ba : PySem.W.mroIn K FE (.type "BaseException") = some true
theorem match_x {M : Model} {A : Around} {E : Value → Shared → Prop} {s : Shared} {K : PySem.W.Frag} {FE C e : Addr} {oe : Obj} {b : Bool} {Q : Bool → Shared → Prop} (X : K.In s.heap) (c : XCatch K FE) (hS : PySem.W.mroIn K C (.ref FE) = some b)
    (he : s.heap.get? e = some oe) (hc : oe.cls = .ref C) (q : Q b s) : wpAny M A (excMatches (.ref e) (.ref FE)) Q E s := by
  obtain ⟨dd, cd, sl, l⟩ := c.lk
  have hF := X _ _ l
  have f := tc_notTuple
  have g1 := PySem.W.looks_mroIn (M := M) X c.ba
  have g2 := PySem.W.looks_mroIn (M := M) X hS
  obtain ⟨hp, g, d, tk, os⟩ := s
  dsimp only at X hF he g1 g2
  have g1' : ∀ {A' : Around} {Q' : Bool → Shared → Prop} {E' : Value → Shared → Prop}, Q' true ⟨hp, g, d, tk, os⟩ → wpAny M A' (isSubtype (.ref FE) (.type "BaseException")) Q' E' ⟨hp, g, d, tk, os⟩ := fun z => g1 _ _ _ _ (fun _ _ z => z) z
  have g2' : ∀ {A' : Around} {Q' : Bool → Shared → Prop} {E' : Value → Shared → Prop}, Q' b ⟨hp, g, d, tk, os⟩ → wpAny M A' (isSubtype (.ref C) (.ref FE)) Q' E' ⟨hp, g, d, tk, os⟩ := fun z => g2 _ _ _ _ (fun _ _ z => z) z
  unfold excMatches isInstance isExcClass
  repeat (first
    | (with_reducible refine wpAny_loadPart_at he ?_; rw [hc])
    | with_reducible refine wpAny_loadPart_at hF ?_
    | with_reducible refine g1' ?_
    | with_reducible refine g2' ?_
    | wp_step)
  cases b with
  | true => wp_walk; exact q
  | false => wp_walk; exact q
/-- what is wanted of an exception within a try: W says it of the names, the exception, the heap -/
def xeT (X : Cx) (pins : List (Addr × Obj)) (W : St → Addr → Hp → Prop) (ev : Value) (s' : Shared) : Prop := ∃ (e : Addr) (C : Value) (dx : Option Addr) (T : Addr) (σ : St) (H' : Hp), ev = .ref e ∧ Inv X pins σ H' s' ∧ H' e = some (XO e C dx) ∧ T ≠ e ∧ FpOk X pins H' T ∧ XObj s'.heap e C dx (.ref T) ∧ TbAt s'.heap T .none ∧ W σ e H'
def Cx.tr (X : Cx) (pins : List (Addr × Obj)) (W : St → Addr → Hp → Prop) : Cx := { X with pn := X.pn ++ pins, xe := xeT X pins W }
def Cx.hn (X : Cx) (ev : Value) : Cx := { X with A := X.A.mark (some ev), calm := false, xe := fun _ _ => False }
section
variable {X : Cx} {pins pins' : List (Addr × Obj)} {σ : St} {H : Hp} {s : Shared} {W : St → Addr → Hp → Prop} {ev : Value}
theorem Inv.tr (I : Inv X pins σ H s) : Inv (X.tr pins W) [] σ H s :=
  ⟨⟨I.ok.mod, I.ok.kind, I.ok.glob, I.ok.blt, I.ok.above, I.ok.inj, I.ok.has, I.ok.cab, I.ok.hd, I.ok.frames, I.ok.stk, I.ok.exf, I.ok.bs, I.ok.bsz, I.ok.noex, I.ok.exfs, I.ok.funs, I.ok.frf⟩,
    I.os, I.bare, I.base, I.loc, I.cell, I.free, I.freeC, fun p hp => I.pin p (by rw [List.append_nil] at hp; exact hp), I.hok, I.len⟩
theorem Inv.untr (I : Inv (X.tr pins W) pins' σ H s) : Inv X pins σ H s :=
  ⟨⟨I.ok.mod, I.ok.kind, I.ok.glob, I.ok.blt, I.ok.above, I.ok.inj, I.ok.has, I.ok.cab, I.ok.hd, I.ok.frames, I.ok.stk, I.ok.exf, I.ok.bs, I.ok.bsz, I.ok.noex, I.ok.exfs, I.ok.funs, I.ok.frf⟩,
    I.os, I.bare, I.base, I.loc, I.cell, I.free, I.freeC, fun p hp => I.pin p (List.mem_append_left _ hp), I.hok, I.len⟩
theorem Inv.hn (I : Inv X pins σ H s) : Inv (X.hn ev) pins σ H s :=
  ⟨⟨I.ok.mod, I.ok.kind, I.ok.glob, I.ok.blt, I.ok.above, I.ok.inj, I.ok.has, I.ok.cab, fun z => (by cases z), I.ok.frames, I.ok.stk, I.ok.exf, I.ok.bs, I.ok.bsz, I.ok.noex, I.ok.exfs, I.ok.funs, I.ok.frf⟩,
    I.os, I.bare, I.base, I.loc, I.cell, I.free, I.freeC, I.pin, I.hok, I.len⟩
theorem Inv.unhn (hd : X.calm = true → X.A.handled = none) (I : Inv (X.hn ev) pins σ H s) : Inv X pins σ H s :=
  ⟨⟨I.ok.mod, I.ok.kind, I.ok.glob, I.ok.blt, I.ok.above, I.ok.inj, I.ok.has, I.ok.cab, hd, I.ok.frames, I.ok.stk, I.ok.exf, I.ok.bs, I.ok.bsz, I.ok.noex, I.ok.exfs, I.ok.funs, I.ok.frf⟩,
    I.os, I.bare, I.base, I.loc, I.cell, I.free, I.freeC, I.pin, I.hok, I.len⟩
end
/-- f(..) within a try -/
def tCallT (sp : Sp) (W : St → Addr → Hp → Prop) (t : TA) : TE := fun σ H Q => t σ H fun vs H1 => ∃ E : XK, sp vs H1 Q E ∧ ∀ e H', E (.ref e) none H' → W σ e H'
theorem pe_callT {X : Cx} {pins : List (Addr × Obj)} {W : St → Addr → Hp → Prop} {k : Nat} {f : Addr} {fd : FuncData} {ps : List Str} {sp : Sp} {x : Str} {p pos : Pos} {e : Expr} {es : List Expr} {t : TA} (F : FnOk X.prog X.w X.K X.mg X.base (CXe X.prog X.w) k f fd ps sp) (hr : Room k X.A) (hg : Gl X x)
    (hm : X.mg x = some (.ref f)) (hk : PySem.W.keepIn X.K (.ref f) = true) (hb : Binds X.K fd ps []) (ha : PA (X.tr pins W) (e :: es) t) (hdb : (x == ("__debug__" : Str)) = false := by decide)
    (he : starEach (e :: es) X.env = (false, eval e X.env) :: starEach es X.env := by rfl) (hpl : (backTo pos (starEach es X.env)).any (·.1) = false := by rfl) : PE (X.tr pins W) (.Call (.Name x p) (e :: es) [] pos) (tCallT sp W t) := by
  intro pins' s σ H Q I h
  refine wpAny_Call_Name_kw (ld_glob I hg hm ?_ hdb)
  refine PySem.W.callWith_K (h₀ := X.base) I.ok.mod.kin hk (thn (ha pos pins' s σ H _ I h) fun us s1 ⟨vs, H1, I1, r, q⟩ => ⟨I1.kIn, ?_⟩) he hpl
  obtain ⟨E, hsp, hW⟩ := q
  have hl : (us ++ ([] : List Value)).length = ps.length := by rw [List.append_nil, ← r.length]; exact F.len _ _ _ _ hsp
  have hb1 := hb s1 us I1.kIn hl
  rw [List.append_nil] at hb1
  refine wpAny_call (codeAny_mono (F.run X.A X.stack s1 H1 ⟨us, []⟩ us vs Q E hr I1.env0 hb1 r hsp) fun r' s' hq => ?_)
  cases r' with
  | error ev =>
    obtain ⟨e, C, dx, T, H', rfl, os, bare, un, hok, l1, l2, te, he, hT, xo, tt, qE⟩ := hq
    exact ⟨e, C, dx, T, σ, H', rfl, I1.untr.call' os un hok bare (fun b z => absurd z (by simp)), he, te, I1.untr.fpOk l2 hT, xo, tt, hW e H' qE⟩
  | ok fl =>
    cases fl with
    | ret u => exact I1.after hq
    | next => exact False.elim hq
    | brk => exact False.elim hq
    | cont => exact False.elim hq
section
variable {X : Cx} {pins : List (Addr × Obj)} {σ : St} {H : Hp} {s : Shared}
/-- a name of the frame has gone -/
theorem Inv.gone {i : Nat} {x : Str} {h' : Heap} {m : Str → Option Value} {v : Option Value} {tk : Nat} (I : Inv X pins σ H s) (hN : X.N.Nodup) (hi : X.N[i]? = some x) (hk : X.env.scope.names.lookup x = some .local) (hm : s.heap.Ns X.env.locals m)
    (hl : ∀ (j : Nat) (y : Str) (u : V), X.N[j]? = some y → σ[j]? = some (some u) → Vis X.env.scope y → ∃ z, RelV u z ∧ Look X.env s.heap m y z)
    (n' : h'.Ns X.env.locals (fun y => if y = x then v else m y)) (sb : Heap.SameBut X.env.locals s.heap h') : Inv X pins (σ.set i none) H { s with heap := h', toks := tk } := by
  have lt : ∀ b o, X.s₀.heap.get? b = some o → b ≠ X.env.locals := fun b o e => Nat.ne_of_lt (Nat.lt_of_lt_of_le (Heap.lt_size e) I.ok.above)
  obtain ⟨oL, _, _, hoL, _⟩ := id hm
  refine ⟨I.ok, I.os, I.bare, ⟨fun b o e n hb hx => (sb.2 b (lt b o e)).trans (I.base.keep b o e n hb hx), fun b o e n hb hx => ?_, I.base.free, fun b o e hx => ?_, I.base.tups, I.base.frzs, I.base.tbls⟩, ⟨_, n', fun j y u e1 e2 e3 => ?_⟩, fun y c e => ?_, I.free, I.freeC, fun p hp => ?_, fun b ob e => ?_, by simpa using I.len⟩
  · obtain ⟨sl, e1⟩ := I.base.slot b o e n hb hx
    exact ⟨sl, (sb.2 b (lt b o e)).trans e1⟩
  · obtain ⟨o', e1⟩ := I.base.there b o e hx
    exact ⟨o', (sb.2 b (lt b o e)).trans e1⟩
  · by_cases hj : j = i
    · subst hj
      rw [List.getElem?_set] at e2
      simp at e2
    · rw [List.getElem?_set_ne (Ne.symm hj)] at e2
      obtain ⟨z, r, q⟩ := hl j y u e1 e2 e3
      refine ⟨z, r, ?_⟩
      rcases q with ⟨k, e⟩ | ⟨k, c, e, w⟩
      · have ne : y ≠ x := fun e => hj (nodup_ix hN e1 (e ▸ hi))
        exact .inl ⟨k, by simp [ne, e]⟩
      · exact .inr ⟨k, c, e, w.sameBut sb (I.cne y c e)⟩
  · obtain ⟨w, z⟩ := I.cell y c e
    exact ⟨w, z.sameBut sb (I.cne y c e)⟩
  · obtain ⟨e, n, ne, nf, d⟩ := I.pin p hp
    exact ⟨(sb.2 p.1 ne).trans e, n, ne, nf, d⟩
  · refine (I.hok b ob e).stay (fun c w hc q => (sb.2 c ?_).trans q) (fun _ q => q) fun _ _ q => q
    intro z
    rcases hc with r | r
    · rw [← r, z, I.free] at e; cases e
    · rw [z, I.free] at r; cases r
/-- behind the suite: n = None; del n -/
theorem goes_x {M : Model} {A : Around} {E : Value → Shared → Prop} {i : Nat} {n : Str} {pos : Pos} {Q : Unit → Shared → Prop} (I : Inv X pins σ H s) (hN : X.N.Nodup) (hi : X.N[i]? = some n) (hk : X.env.scope.names.lookup n = some .local) (q : ∀ s', Inv X pins (σ.set i none) H s' → Q () s') :
    wpAny M A (do bindName X.env n .none; unbindBehindTheSuite X.env n pos) Q E s := by
  refine wpAny_bind (wpAny_bindName (store_ok (v := .non) (u := .none) I hN hi (.inl hk) rfl (fun s1 I1 => ?_) (.inr hk)))
  have hiσ : i < σ.length := by rw [I.len]; exact (List.getElem?_eq_some_iff.mp hi).1
  obtain ⟨m, hm, hl⟩ := id I1.loc
  obtain ⟨z, rz, lk⟩ := hl i n .non hi (List.getElem?_set_self hiσ) (.inl hk)
  have hmn : m n = some z := by
    rcases lk with ⟨_, e⟩ | ⟨k, _⟩
    · exact e
    · rcases k with k | k
      · rw [show X.env.kindOf n = some .local from hk] at k; cases k
      · rw [show X.env.kindOf n = some .local from hk] at k; cases k
  have hcls : (X.env.scope.kind == .class || (X.env.scope.kind == .module && X.env.locals != X.env.globals)) = false := by rw [I.ok.kind]; rfl
  unfold unbindBehindTheSuite
  refine wpAny_onRaise ?_
  unfold unbindName
  refine wpAny_bind (wpAny_point (wpAny_bind ?_))
  unfold deleteName
  simp only [show X.env.kindOf n = some .local from hk, hcls]
  rw [if_neg (by decide)]
  refine wpAny_bind (wpAny_nsDel_keeps hm fun h2 v n2 sb => ?_)
  rw [hmn]
  simp only [Option.isSome_some, Bool.not_true, Bool.false_eq_true, if_false]
  have K := I1.gone (tk := s1.toks) hN hi hk hm hl n2 sb
  rw [List.set_set] at K
  exact wpAny_pure (wpAny_point (q _ K))
end
def tTry (K : PySem.W.Frag) (FE : Addr) (i : Nat) (tb : (St → Addr → Hp → Prop) → TS) (th : TS) : TS := fun D σ H => ∃ W : St → Addr → Hp → Prop, tb W D σ H ∧ ∀ σ' e C dx H', W σ' e H' → H' e = some (XO e C dx) → ∃ Ca, C = .ref Ca ∧ PySem.W.mroIn K Ca (.ref FE) = some true ∧
  th { nx := fun σ2 H2 => D.nx (σ2.set i none) H2, rt := D.rt, bk := fun σ2 H2 => D.bk (σ2.set i none) H2, ct := fun σ2 H2 => D.ct (σ2.set i none) H2 } (σ'.set i (some (.ref e))) H'
/-- try: .. except FE as n: .. -/
theorem ps_tryAs {X : Cx} {body suite : List Stmt} {b0 : Stmt} {fe n : Str} {i : Nat} {FE : Addr} {tb : (St → Addr → Hp → Prop) → TS} {th : TS} {np hpos pos : Pos} (hstk : X.stack = X.env :: X.outer) (hfrm : X.env.frame = some X.env.locals)
    (hg : Gl X fe) (hm : X.mg fe = some (.ref FE)) (xc : XCatch X.K FE) (hN : X.N.Nodup) (hi : X.N[i]? = some n) (hk : X.env.scope.names.lookup n = some .local) (hb : ∀ pins W, PSs (X.tr pins W) body (tb W)) (hh : ∀ ev, PSs (X.hn ev) (b0 :: suite) th)
    (hdb : (fe == ("__debug__" : Str)) = false := by decide) : PS X (.Try body [.ExceptHandler (some (.Name fe np)) (some n) (b0 :: suite) hpos] [] [] pos) (tTry X.K FE i tb th) := by
  intro pins s σ H D I h
  obtain ⟨W, hW, hx⟩ := h
  refine wpAny_Try_except (wpAny_mono (hb pins W [] s σ H D I.tr hW) (fun f s1 z => ?_) fun ev s1 z => ?_)
  · cases f with
    | next =>
      obtain ⟨σ1, H1, I1, q⟩ := z
      exact wpAny_execs_nil ⟨σ1, H1, I1.untr, q⟩
    | brk =>
      obtain ⟨σ1, H1, I1, q⟩ := z
      exact ⟨σ1, H1, I1.untr, q⟩
    | cont =>
      obtain ⟨σ1, H1, I1, q⟩ := z
      exact ⟨σ1, H1, I1.untr, q⟩
    | ret u =>
      obtain ⟨v, σ1, H1, I1, rv, q⟩ := z
      exact ⟨v, σ1, H1, I1.untr, rv, q⟩
  · obtain ⟨e, C, dx, T, σ1, H1, rfl, J, he, te, fp, xo, tt, w1⟩ := z
    obtain ⟨f0, f1, f2, f3, f4, f5⟩ := fp
    obtain ⟨Ca, rfl, hmro, q⟩ := hx σ1 e C dx H1 w1 he
    have elt : e < s1.heap.objs.size := let ⟨_, _, z, _⟩ := xo; Heap.lt_size z
    have hst := J.stack
    rw [hstk] at hst
    refine note_x (base := X.base) (J.ok.frames.trans (congrArg some hstk)) hst hfrm xo (.inr ⟨T, rfl, tt⟩) (fun z => te (Value.ref.inj z)) fun h1 T1 hT1 xo1 tt1 k => ?_
    rw [← hstk] at k
    have un : Un (frs X.stack) [T] H1 H1 s1.heap h1 := by
      refine ⟨fun b o z n hb hx => ?_, fun b o z n hb hx => ?_, fun _ _ _ n _ => n, fun b o z hx => ?_, fun _ _ z => z, fun _ _ _ z => z, fun b ps z => ⟨#[], by rw [z]; simp⟩⟩
      · exact k.there z (fun z => by rw [z, he] at n; cases n) (fun z => hx (by simp [Value.ref.inj z])) hb
      · obtain ⟨sl, z1, _⟩ := k b o z (fun z => by rw [z, he] at n; cases n) (fun z => hx (by simp [Value.ref.inj z]))
        exact ⟨sl, z1⟩
      · by_cases hbe : b = e
        · obtain ⟨oe, _, z1, _⟩ := xo1
          exact ⟨oe, by rw [hbe]; exact z1⟩
        · obtain ⟨sl, z1, _⟩ := k b o z hbe (fun z => hx (by simp [Value.ref.inj z]))
          exact ⟨_, z1⟩
    have J1 : Inv X pins σ1 H1 { s1 with heap := h1 } := J.call (g' := s1.gens) (t' := s1.toks) (d' := s1.drawn) (ch := [T]) un (KeptX.hok J k he (fun T0 z => by obtain rfl : T = T0 := Value.ref.inj z; exact f0) xo1.xp) J.bare fun b hb => by
      obtain rfl : b = T := by simpa using hb
      exact ⟨f3, f1, f4, f5⟩
    obtain ⟨g0, g1, g2, g3, g4, g5⟩ := J.fpOk (H' := H1) hT1 (J.hok.fresh hT1)
    have neT : T1 ≠ e := Nat.ne_of_gt (Nat.lt_of_lt_of_le elt hT1)
    refine flight_x (s := { s1 with heap := h1 }) xo1 tt1 neT fun h2 xo2 tt2 sz2 oth2 => ?_
    have J2 : Inv X pins σ1 H1 { s1 with heap := h2 } := Inv.turned (s := { s1 with heap := h1 }) (h' := h2) (t' := s1.toks) (it := T1) J1 (fun b o hb z => (oth2 b hb).trans z) g0 g1 g3 g4 g5
    refine wpAny_handleBy_cons (codeAny_handlers_test ?_) (by intro z; cases z)
    refine ld_glob (X := X.hn (.ref e)) J2.hn hg hm ?_ hdb
    obtain ⟨oe, vs, z1, z2, _⟩ := id xo2
    refine match_x J2.kIn xc hmro z1 z2 ?_
    refine codeAny_handlers_suite_as ?_
    refine flight_x (s := { s1 with heap := h2 }) xo2 tt2 neT fun h3 xo3 tt3 sz3 oth3 => ?_
    have J3 : Inv X pins σ1 H1 { s1 with heap := h3 } := Inv.turned (s := { s1 with heap := h2 }) (h' := h3) (t' := s1.toks) (it := T1) J2 (fun b o hb z => (oth3 b hb).trans z) g0 g1 g3 g4 g5
    refine store_ok (v := .ref e) J3 hN hi (.inl hk) rfl (fun s4 J4 => ?_) (.inr hk)
    refine wpAny_mono (hh (.ref e) pins s4 _ H1 _ J4.hn q) (fun f s5 z => ?_) fun _ _ z => False.elim z
    cases f with
    | next =>
      obtain ⟨σ5, H5, I5, q5⟩ := z
      exact goes_x (I5.unhn J.ok.hd) hN hi hk fun s6 J6 => ⟨_, _, J6, q5⟩
    | brk =>
      obtain ⟨σ5, H5, I5, q5⟩ := z
      exact goes_x (I5.unhn J.ok.hd) hN hi hk fun s6 J6 => ⟨_, _, J6, q5⟩
    | cont =>
      obtain ⟨σ5, H5, I5, q5⟩ := z
      exact goes_x (I5.unhn J.ok.hd) hN hi hk fun s6 J6 => ⟨_, _, J6, q5⟩
    | ret u =>
      obtain ⟨v, σ5, H5, I5, rv, q5⟩ := z
      exact goes_x (I5.unhn J.ok.hd) hN hi hk fun s6 J6 => ⟨v, _, _, J6, rv, q5⟩

end L2

namespace L2
open PySem PySem.Spec PyProof.Rows
/-! ### attributes and kinds of exceptions -/
structure XAttr (K : PySem.W.Frag) (C : Addr) : Prop where
  ga : PySem.W.findIn K (.ref C) "__getattribute__" = some (some (.builtin "BaseException.__getattribute__"))
  hk : PySem.W.findIn K (.ref C) "__getattr__" = some none
  ba : PySem.W.mroIn K C (.type "BaseException") = some true
  ob : PySem.W.mroIn K C (.type "object") = some true
  hd : PySem.W.hasDictIn K C = true
  cl : PySem.W.findIn K (.ref C) "__class__" = some (some (.builtin "object.__class__"))
  cg : PySem.W.specialIn K (.builtin "object.__class__") "__get__" = some (some (.builtin "getset_descriptor.__get__"))
  ct : PySem.W.takesIn K (.builtin "object.__class__") = some true
section
open PySem.W Builtin Builtin.ObjectAttr
variable {prog : Program} {w : World} {A : Around} {E : Value → Shared → Prop} {s : Shared} {K : PySem.W.Frag} {C x : Addr} {ox : Obj} {od : Option Obj} {name : Str} {v : Value}
theorem ga_x {tk : Tok} {fill expr : Bool} {Q : Value → Shared → Prop} (X : K.In s.heap) (I : PySem.W.InstAt s.heap x ox C od) (c : XAttr K C) (hv : handedIn v = true)
    (ent : ∀ {A' : Around} {Q' : Fin → Shared → Prop} {E' : Value → Shared → Prop}, Q' (.done (.ret v)) s → wpAny (model prog w) A' (Builtin.«object.__getattribute__» ⟨[.ref x, .str name tk], []⟩) Q' E' s) (q : Q v s) :
    wpAny (model prog w) A (getAttrBy (.ref x) (.str name tk) fill expr) Q E s := by
  have V := F.attr_ValueError.ga
  have isB : Looks (model prog w) s.heap (isInstance (.ref x) (.type "BaseException")) true := I.type.andThen (looks_mroIn X c.ba)
  unfold getAttrBy
  refine wpAny_holding (wpAny_bind (I.type.here (wpAny_bind ((looks_findIn X c.ga).here ?_))))
  dsimp only
  have nga : (Value.builtin "BaseException.__getattribute__" == Value.builtin "object.__getattribute__") = false := by decide +kernel
  rw [if_neg (by rw [nga, Bool.and_false]; decide)]
  unfold getAttrByItsOwn hookBefore
  refine wpAny_bind (show wpAny _ _ (typeLookup (.ref C) _) _ _ _ from (looks_findIn X c.hk).here (wpAny_bind (wpAny_attempt (wpAny_holding ?_))))
  unfold callGetattribute boundAndCalled
  rw [if_neg (by cases expr <;> decide)]
  refine wpAny_bind (wpAny_of_eq (V.bind _) ?_)
  dsimp only
  refine wpAny_call (codeAny_call_builtin V.plain F.entry_bexc_ga (@check_slot (model prog w) _ _ s "BaseException.__getattribute__" "BaseException" "__getattribute__" (.ref x) [.str name tk] [] _ (by decide +kernel) (by decide +kernel) isB (F.args_bexc_ga _ _) (ent ?_)))
  exact handed_on hv q
theorem class_x {Q : Option Value → Shared → Prop} (X : K.In s.heap) (I : PySem.W.InstAt s.heap x ox C od) (c : XAttr K C) (hf : findObj K C od "__class__" = some (.bind (.builtin "getset_descriptor.__get__") (.builtin "object.__class__"))) (q : Q (some (.ref C)) { s with toks := s.toks + 1 }) :
    wpAny (model prog w) A (getAttr? (.ref x) "__class__") Q E s := by
  unfold getAttr? getAttrBy?
  refine wpAny_bind (wpAny_mkText (wpAny_bind (wpAny_attempt (ga_x (s := { s with toks := s.toks + 1 }) X I c rfl (fun z => ?_) (wpAny_pure q)))))
  refine wpAny_bind (wpAny_pure (wpAny_bind (wpAny_pure (wpAny_bind (I.type _ _ _ _ (fun _ _ z => z) (wpAny_bind (looks_find X I hf _ _ _ _ (fun _ _ z => z) ?_)))))))
  dsimp only
  unfold bindTo
  exact wpAny_bind (wpAny_holding (wpAny_call (class_get (s := { s with toks := s.toks + 1 }) X I c.ob (wpAny_pure z))))
theorem find_class_x (c : XAttr K C) : ∀ od : Option Obj, findObj K C od "__class__" = some (.bind (.builtin "getset_descriptor.__get__") (.builtin "object.__class__"))
  | some o => findObj_data (by have h := c.hd; unfold hasDictIn at h; cases q : clsIn K C with | none => rw [q] at h; cases h | some cd => rfl) c.cl c.cg c.ct
  | none => by
    have h := c.hd
    unfold hasDictIn at h
    cases q : clsIn K C with
    | none => rw [q] at h; cases h
    | some cd =>
      unfold findObj
      rw [q, c.cl]
      simp only [Option.bind_some, c.cg, c.ct]
theorem kitx_x {e : Addr} (c : XAttr K C) : KitX K (.ref e) (.ref C) (fun h => ∃ ox od, PySem.W.InstAt h e ox C od) where
  ty := fun _ _ _ z => let ⟨_, _, I⟩ := z; I.type
  it := fun _ _ X _ => by
    have h := c.hd
    unfold hasDictIn clsIn at h
    split at h
    · rename_i c' d' cd' sl' ho
      intro A' Q' E' s' k q
      unfold isType loadHead
      exact wpAny_bind (wpAny_loadPart (k _ _ (X _ _ ho)) (wpAny_pure q))
    · cases h
  ne := fun h tp dd its n sl X htp => by
    have hd := c.hd
    unfold hasDictIn clsIn at hd
    refine Bool.eq_false_iff.mpr fun q => ?_
    obtain rfl : C = tp := Value.ref.inj (beq_iff_eq.mp q)
    split at hd
    · rename_i ho
      have z := (X _ _ ho).symm.trans htp
      cases z
    · cases hd
  ca := fun X z k => by
    obtain ⟨ox, od, I⟩ := z
    exact class_x X I c (find_class_x c od) k
end
/-- an exception of H as an instance -/
theorem XO.inst {P : Program} {w : World} {H : Hp} {h : Heap} {e C : Addr} {dx : Option Addr} (k : HOk P w H h) (x : H e = some (XO e (.ref C) dx)) (d : ∀ a, dx = some a → ∃ fs, H a = some (.xd fs)) : ∃ ox od, PySem.W.InstAt h e ox C od := by
  obtain ⟨oe, vs, g1, g2, g3, g4, g5⟩ := XO.at k x
  have nc : PySem.W.notCls oe = true := by obtain ⟨_, _, dt, _⟩ := oe; obtain rfl : dt = _ := g4; rfl
  cases dx with
  | none => exact ⟨oe, none, ⟨g1, g2, nc, by rw [g3]; trivial⟩⟩
  | some a =>
    obtain ⟨fs, hfs⟩ := d a rfl
    obtain ⟨mA, ⟨o, es, ep, ho, _⟩, _⟩ := (show ObjOk P w H h a (.xd fs) from k a _ hfs)
    exact ⟨oe, some o, ⟨g1, g2, nc, by rw [g3]; exact ho⟩⟩
/-- None, or an exception -/
def TyX (K : PySem.W.Frag) (H : Hp) (x : V) (t : Value) : Prop := (x = .non ∧ t = .type "NoneType") ∨ ∃ e C dx, x = .ref e ∧ t = .ref C ∧ H e = some (XO e (.ref C) dx) ∧ (∀ a, dx = some a → ∃ fs, H a = some (.xd fs)) ∧ XAttr K C
section
variable {X : Cx}
theorem call_isiX (K : PySem.W.Frag) (hK : X.K = K := by rfl) : CallR X (.builtin "isinstance") (fun xs H Q => ∃ x c t b, xs = [x, c] ∧ TyX K H x t ∧ ((∃ a, c = .ref a ∧ PySem.W.kitOne K t (.ref a) = some b) ∨ ∃ T, c = .ty T ∧ PySem.W.kitOne K t (.type T) = some b) ∧ Q (.bl b) H) := by
  subst hK
  intro pins s σ H xs us Q I r h
  obtain ⟨x, c, t, b, rfl, ty, kc, q⟩ := h
  obtain ⟨u, v, rfl, ru, rv⟩ := vals2 r
  have fin : ∀ tk, EP X pins σ Q (.bool b) { s with toks := tk } := fun tk => ⟨.bl b, H, I.tok _, rfl, q⟩
  have go : PySem.W.kitOne X.K t v = some b → wpAny (model X.prog X.w) X.A (call (.builtin "isinstance") [u, v]) (EP X pins σ Q) X.xe s := fun kv => by
    rcases ty with ⟨rfl, rfl⟩ | ⟨e, C, dx, rfl, rfl, he, hd, xa⟩
    · exact isinst_ok I ru .non kv fin
    · cases ru
      exact PySem.W.kia_one (kitx_x xa) I.kIn (XO.inst I.hok he hd) kv (fun z => nomatch z) fin
  rcases kc with ⟨a, rfl, k⟩ | ⟨T, rfl, k⟩
  · cases rv
    exact go k
  · cases rv
    exact go k
theorem pe_gref {x : Str} {C : Addr} {pos : Pos} (hg : Gl X x) (hm : X.mg x = some (.ref C)) (hdb : (x == ("__debug__" : Str)) = false := by decide) : PE X (.Name x pos) (tC (.ref C)) := fun _ _ _ H _ I h => ld_glob I hg hm ⟨.ref C, H, I, rfl, h⟩ hdb
theorem pe_gint {x : Str} {i : Int} {t : Tok} {pos : Pos} (hg : Gl X x) (hm : X.mg x = some (.int i t)) (hdb : (x == ("__debug__" : Str)) = false := by decide) : PE X (.Name x pos) (tC (.int i)) := fun _ _ _ H _ I h => ld_glob I hg hm ⟨.int i, H, I, ⟨_, rfl⟩, h⟩ hdb
/-- e.f of an exception -/
def tXget (K : PySem.W.Frag) (f : Str) (ta : TE) : TE := fun σ H Q => ta σ H fun x H1 => ∃ e C dx fs v, x = .ref e ∧ H1 e = some (XO e (.ref C) (some dx)) ∧ H1 dx = some (.xd fs) ∧ XAttr K C ∧ PySem.W.findIn K (.ref C) f = some none ∧ fs.lookup f = some v ∧ Q v H1
end

end L2

namespace L2
open PySem PySem.Spec PyProof.Rows
/-! ### upper, join, all -/
section
variable {X : Cx}
def rUpper : V → List V → Hp → VK → Prop := fun x vs H Q => ∃ z, x = .str z ∧ vs = [] ∧ z.length ≤ 1000000 ∧ (∀ c ∈ z.cps.toList, c < 128) ∧ Q (.str ⟨z.cps.map up1⟩) H
theorem carried_strs : ∀ {zs : List Str} {us : List Value}, Vals (zs.map V.str) us → CarriedAll us (zs.map PyData.str)
  | [], us, r => by cases r; exact .nil
  | z :: zs, us, r => by
    cases r with
    | cons r0 rs =>
      obtain ⟨t, rfl⟩ := r0
      exact .cons (.str _ t) (carried_strs rs)
/-- x.join(l), l a list of short texts -/
def rJoin (K : PySem.W.Frag) : V → List V → Hp → VK → Prop := fun x vs H Q => ∃ (z : Str) (p : Addr) (zs : List Str) (B : Nat), x = .str z ∧ vs = [.ref p] ∧ SqL K H p (zs.map V.str) ∧ (∀ y ∈ zs, y.length ≤ B) ∧ zs.length ≤ 1000 ∧ B + z.length ≤ 16 ∧ Q (.str (Txt.join z zs)) H
theorem mt_join (K : PySem.W.Frag) (hK : X.K = K := by rfl) : MtM X "str.join" (rJoin K) := by
  subst hK
  intro pins s σ H x vs v us Q I rx rv h
  obtain ⟨z, p, zs, B, rfl, rfl, hp, hB, hl, hs, q⟩ := h
  obtain ⟨t, rfl⟩ := rx
  obtain ⟨u, rfl, ru⟩ := vals1 rv
  cases ru
  obtain ⟨its, r, pl, hz⟩ := I.list hp
  refine PyProof.Rows.join_madeW (l := zs) (g := id) (items := its.toArray) B pl.isList (by simpa using carried_strs r) hB (by omega) hs fun t' k => ⟨.str (Txt.join z zs), H, I.tok _, ⟨t', by simp⟩, q⟩
end

end L2

namespace L2
open PySem PySem.Spec PyProof.Rows

/-! ### *= of whole numbers; an item of a list of whole numbers -/
section
variable {X : Cx}
def ipM : TIp := fun x y H Q => ∃ i j, x = .int i ∧ y = .int j ∧ CMul i j ∧ Q (.int (i * j)) H
theorem ip_mul : PIp X .Mult ipM := by
  intro pins s σ H x y v u Q I r1 r2 h
  obtain ⟨i, j, e1, e2, hc, q⟩ := h
  subst e1; subst e2
  obtain ⟨t, rfl⟩ := r1
  obtain ⟨t', rfl⟩ := r2
  exact imul_int ⟨.int _, H, I.tok _, ⟨_, rfl⟩, q⟩ hc.ok
end
theorem atI_mem {xs : List Int} {k : Int} (h0 : 0 ≤ k) (h : k < (xs.length : Int)) : ∃ z, z ∈ xs ∧ atI (xs.map V.int) k = some (.int z) := by
  obtain ⟨v, hv, hv'⟩ := atI_of (xs := xs.map V.int) h0 (by rw [List.length_map]; exact h)
  rw [List.getElem?_map] at hv'
  cases e : xs[k.toNat]? with
  | none => rw [e] at hv'; cases hv'
  | some z => rw [e] at hv'; cases hv'; exact ⟨z, List.mem_of_getElem? e, hv⟩
theorem op_neDK {X : Cx} (K : PySem.W.Frag) {k : Nat} (hr : Room k X.A) (hK : X.K = K := by rfl) : OpR X (compareOp .NotEq) (fun x y H Q => ∃ ds, dep (.lst ds) ≤ 60 ∧ Deep K H (.lst ds) x ∧ Deep K H (.lst ds) y ∧ Q (.bl false) H) := by subst hK; exact op_neD hr
/-- what never raises -/
theorem FnOk.calm {P : Program} {w : World} {K : PySem.W.Frag} {mg : Str → Option Value} {base : Heap} {k : Nat} {f : Addr} {fd : FuncData} {ps : List Str} {sp sp' : Sp} (F : FnOk P w K mg base (CXe P w) k f fd ps sp) (h : ∀ vs H Q E, sp' vs H Q E → sp vs H Q (fun _ _ _ => False)) : FnOk P w K mg base CX0 k f fd ps sp' :=
  ⟨fun vs H Q E q => F.len vs H Q _ (h _ _ _ _ q), fun A outer s H args us vs Q E hr he hb hv hs => codeAny_mono (F.run A outer s H args us vs Q _ hr he hb hv (h _ _ _ _ hs)) fun r s' hq => by
    cases r with
    | ok fl => cases fl <;> exact hq
    | error e =>
      obtain ⟨_, _, _, _, _, _, _, _, _, _, _, _, _, _, _, _, _, z⟩ := hq
      exact z.elim⟩

end L2

namespace L2
open PySem PySem.Spec PyProof.Rows

/-! ### texts turned about, texts many times, is of truths -/
section
variable {X : Cx} {e st : Expr} {te ts : TE} {pos p2 : Pos}
end
/-! ### raise of an own class without an own __init__ -/
structure XCls0 (K : PySem.W.Frag) (C FE : Addr) : Prop where
  ob : ∃ (nm qn : Str) (N : Addr) (bs : List Value) (sn : List Str) (sub : List Value) (ab : Bool) (col : Option Bool) (dd : Option Addr) (k0 k1 k2 k3 k5 : Option Value) (c1 : Value) (d1 : Option Addr) (es : Array DictEntry) (n : Nat) (sl1 : Array (Option Value)), K.lookup C = some (excClassObj nm qn C N bs (.ref FE :: bmV) true sn sub ab col dd k0 k1 k2 k3 k5 "ValueError.__new__") ∧
    K.lookup N = some ⟨c1, d1, .dict es n, sl1⟩ ∧ strKeys es = true ∧ nsFind es "__init__" = none
  fe : ∃ (c0 : Value) (dd : Option Addr) (cd : ClassData) (sl : Array (Option Value)) (c1 : Value) (d1 : Option Addr) (es : Array DictEntry) (n : Nat) (sl1 : Array (Option Value)), K.lookup FE = some ⟨c0, dd, .cls cd, sl⟩ ∧ K.lookup cd.ns = some ⟨c1, d1, .dict es n, sl1⟩ ∧ strKeys es = true ∧ nsFind es "__init__" = none
theorem ns_of {K : PySem.W.Frag} {h : Heap} {N : Addr} {c1 : Value} {d1 : Option Addr} {es : Array DictEntry} {n : Nat} {sl1 : Array (Option Value)} (X : K.In h) (l : K.lookup N = some ⟨c1, d1, .dict es n, sl1⟩) (sk : strKeys es = true) : h.Ns N (fun y => nsFind es y) := by
  refine ⟨_, es, n, X _ _ l, rfl, fun e he => ?_, fun _ => rfl⟩
  have z := List.all_eq_true.mp sk e (by simpa using he)
  cases ek : e.key with
  | str nm t => exact ⟨nm, t, rfl⟩
  | _ => rw [ek] at z; cases z
theorem XCls0.tail {K : PySem.W.Frag} {C FE : Addr} {h : Heap} (x : XCls0 K C FE) (X : K.In h) : OwnTail h bmV (.ref FE :: bmV) := by
  obtain ⟨c0, dd, cd, sl, c1, d1, es, n, sl1, l1, l2, sk, ni⟩ := x.fe
  exact .own (X _ _ l1) (ns_of X l2 sk) ni .base
section
variable {prog : Program} {w : World} {A : Around} {E : Value → Shared → Prop} {h : Heap} {g : Array GenState} {d : Drawn} {t : Nat} {os : OsState}
variable {nm qn : Str} {C N : Addr} {bs bm : List Value} {hdct : Bool} {sn : List Str} {sub : List Value} {ab : Bool} {col : Option Bool} {dd : Option Addr} {k0 k1 k2 k3 k5 : Option Value}
theorem typecall_0 {rest : List Value} {mN : Str → Option Value} {Q : Fin → Shared → Prop} (hC : h.get? C = some (excClassObj nm qn C N bs bm hdct sn sub ab col dd k0 k1 k2 k3 k5 "ValueError.__new__")) (T : OwnTail h bmV bm) (hn : h.Ns N mN) (hni : mN "__init__" = none) (hrest : rest.length ≤ sizeLine)
    (q : ∀ h' : Heap, (∀ b o, h.get? b = some o → h'.get? b = some o) → (∃ t', h'.get? (h.objs.size + 1) = some (xNew C t')) → Q (.done (.ret (.ref (h.objs.size + 1)))) ⟨h', g, d, t, os⟩) :
    wpAny (model prog w) A (Builtin.«type.__call__» ⟨.ref C :: rest, []⟩) Q E ⟨h, g, d, t, os⟩ := by
  have V := F.excBase_ValueError
  repeat (first
    | with_reducible refine wpAny_madeBy_exc hC ?_
    | with_reducible refine wpAny_loadPart_at hC ?_
    | wp_step)
  refine codeAny_call_builtin_code (Code.quiet_builtin _ V.quiet) (wpAny_check_new_subT V T hC (codeAny_exc_new_subT V T hC ?_ hrest))
  show wpAny _ _ _ _ _ _
  have kp : ∀ b o, h.get? b = some o → ((h.push (xTup rest)).push (xNew C h.objs.size)).get? b = some o := fun b o e => Heap.get?_push_of_some _ (Heap.get?_push_of_some _ e)
  have hx : ((h.push (xTup rest)).push (xNew C h.objs.size)).get? (h.objs.size + 1) = some (xNew C h.objs.size) := by heap_get
  have self : (Value.ref C :: bm).contains (.ref C) = true := by simp
  unfold isInstance
  repeat (first
    | with_reducible refine wpAny_loadPart_at hx ?_
    | (with_reducible refine wpAny_isSubtype_exc (kp _ _ hC) ?_; rw [self])
    | wp_step)
  show wpAny _ _ (typeLookup (.ref C) _) _ _ _
  refine wpAny_typeLookup_tail (kp _ _ hC) (hn.keeps kp) (T.keeps kp) V.mroIs V.init.lookup ?_
  rw [hni]
  refine wpAny_holding (wpAny_bind (wpAny_of_eq (V.init.bind _) (wpAny_bind (wpAny_call (codeAny_call_builtin V.init.plain V.initEntry (wpAny_check_init_subT V (T.keeps kp) (kp _ _ hC) hx rfl ?_))))))
  wp_walk
  refine q _ (fun b o hb => ?_) ⟨((h.push (xTup rest)).push (xNew C h.objs.size)).objs.size, ?_⟩
  · exact (Heap.get?_update_other _ _ (Nat.ne_of_gt (Nat.lt_succ_of_lt (Heap.lt_size hb)))).trans (Heap.get?_push_of_some _ (kp b o hb))
  · exact Heap.get?_update_self _ (Heap.get?_push_of_some _ hx) rfl
theorem call_0 {rest : List Value} {mN : Str → Option Value} {Q : Value → Shared → Prop} (hC : h.get? C = some (excClassObj nm qn C N bs bm hdct sn sub ab col dd k0 k1 k2 k3 k5 "ValueError.__new__")) (T : OwnTail h bmV bm) (hn : h.Ns N mN) (hni : mN "__init__" = none) (hrest : rest.length ≤ sizeLine)
    (q : ∀ h' : Heap, (∀ b o, h.get? b = some o → h'.get? b = some o) → (∃ t', h'.get? (h.objs.size + 1) = some (xNew C t')) → Q (.ref (h.objs.size + 1)) ⟨h', g, d, t, os⟩) :
    wpAny (model prog w) A (call (.ref C) rest) Q E ⟨h, g, d, t, os⟩ := by
  have hT : (⟨h, g, d, t, os⟩ : Shared).TypeIs (.ref C) "type" := ⟨_, hC, rfl⟩
  have look := tc_lookup
  have bnd := tc_bind (.ref C)
  refine wpAny_call (codeAny_of_tree ?_)
  show wpAny _ _ (callAny (.ref C) _) _ _ _
  repeat (any_goals (first
    | assumption
    | with_reducible refine wpAny_loadPart_at hC ?_
    | wp_step))
  exact ⟨rfl, codeAny_call_builtin_at (Code.quiet_builtin _ (by decide +kernel)) entry_typeCall (wpAny_check_type_call_sub hC (typecall_0 hC T hn hni hrest q))⟩
end
def tRaise0 (C : Addr) (E : XK) (te : TA) : TS := fun _ σ H => te σ H fun vs H1 => ∃ y, vs = [y] ∧ ∀ e H', Same H1 H' → H1 e = none → H' e = some (XO e (.ref C) none) → E (.ref e) none H'
section
variable {P : Program} {w : World} {K : PySem.W.Frag} {mg : Str → Option Value} {base : Heap} {N : List Str} {qual : Str} {scope : Scope} {f0 : Addr} {cd : Value} {A : Around} {outer : List Env} {s0 : Shared} {H0 : Hp} {E : XK}
theorem ps_raise0 {x : Str} {C FE : Addr} {e1 : Expr} {te : TA} {p cpos pos : Pos} (xc : XCls0 K C FE) (hk : PySem.W.keepIn K (.ref C) = true) (hg : Gl (cxOf (CXe P w) P w K mg base N qual scope f0 cd A outer s0 H0 E) x) (hm : mg x = some (.ref C))
    (ha : PA (cxOf (CXe P w) P w K mg base N qual scope f0 cd A outer s0 H0 E) [e1] te) (hdb : (x == ("__debug__" : Str)) = false := by decide) (he : starEach [e1] (cxOf (CXe P w) P w K mg base N qual scope f0 cd A outer s0 H0 E).env = [(false, eval e1 (cxOf (CXe P w) P w K mg base N qual scope f0 cd A outer s0 H0 E).env)] := by rfl) :
    PS (cxOf (CXe P w) P w K mg base N qual scope f0 cd A outer s0 H0 E) (.Raise (some (.Call (.Name x p) [e1] [] cpos)) none pos) (tRaise0 C E te) := by
  intro pins s σ H D I h
  obtain ⟨nm, qn, Nn, bs, sn, sub, ab, col, dd, k0, k1, k2, k3, k5, c1, d1, es, n, sl1, l, ln, sk, ni⟩ := xc.ob
  rw [arm_exec_Raise]
  refine wpAny_bind (wpAny_standAt (raise_x (C := C) (nm := nm) (qn := qn) (N := Nn) (bs := bs) (bm := .ref FE :: bmV) (hdct := true) (sn := sn) (sub := sub) (ab := ab) (col := col) (dd := dd) (k0 := k0) (k1 := k1) (k2 := k2) (k3 := k3) (k5 := k5) (newId := "ValueError.__new__") rfl (I.ok.hd rfl) ?_))
  refine wpAny_bind (wpAny_mono (wpAny_Call_Name_kw (ld_glob I hg hm ?_ hdb)) (fun v s' z => wpAny_bind (wpAny_standAt (wpAny_pure z))) fun _ _ z => z)
  refine PySem.W.callWith_K (h₀ := base) I.ok.mod.kin hk (thn (ha cpos pins s σ H _ I h) fun us s1 ⟨vs, H1, I1, r, q⟩ => ⟨I1.kIn, ?_⟩) he rfl
  obtain ⟨y, rfl, q⟩ := q
  obtain ⟨u, rfl, ry⟩ := vals1 r
  obtain ⟨hp, g, d, tk, os⟩ := s1
  refine call_0 (I1.kIn _ _ l) (xc.tail I1.kIn) (ns_of I1.kIn ln sk) ni (by show 1 ≤ sizeLine; decide) (fun h' kp ⟨t', hx⟩ => ?_)
  have fr : H1 (hp.objs.size + 1) = none := I1.hok.fresh (Nat.le_succ _)
  have x0 : XObj h' (hp.objs.size + 1) (.ref C) none .none := ⟨_, _, hx, rfl, rfl, rfl, rfl⟩
  have J : Inv _ pins σ (upd H1 (hp.objs.size + 1) (XO (hp.objs.size + 1) (.ref C) none)) ⟨h', g, d, tk, os⟩ := I1.laid (a := hp.objs.size + 1) (o := XO (hp.objs.size + 1) (.ref C) none) (h' := h') (t' := tk) kp (Nat.le_succ _) (XP.obj x0.xp)
  exact ⟨_, _, _, rfl, J.kIn _ _ l, hx, rfl, rfl, rfl, leave_cx J upd_same x0 (.inl rfl) (by simp) (fun T z => by cases z) (Nat.le_trans I1.sz (Nat.le_succ _)) (q _ _ (same_new fr _) fr upd_same)⟩
end

end L2

namespace L2
open PySem PySem.Spec PyProof.Rows

/-! ### a text of the module -/
section
variable {X : Cx}
theorem pe_gstr {x : Str} {z : Str} {t : Tok} {pos : Pos} (hg : Gl X x) (hm : X.mg x = some (.str z t)) (hdb : (x == ("__debug__" : Str)) = false := by decide) : PE X (.Name x pos) (tC (.str z)) := fun _ _ _ H _ I h => ld_glob I hg hm ⟨.str z, H, I, ⟨t, rfl⟩, h⟩ hdb
end

end L2

namespace L2
open PySem PySem.Spec PyProof.Rows
theorem vals_nums : ∀ {ns : List Int} {us : List Value} {i : Nat} {v : Value}, Vals (ns.map V.int) us → us[i]? = some v → ∃ n t, ns[i]? = some n ∧ v = .int n t
  | [], us, i, v, r, e => by cases r; simp at e
  | n :: ns, us, 0, v, r, e => by
    cases r with
    | cons r0 rs =>
      simp at e
      subst e
      obtain ⟨t, rfl⟩ := r0
      exact ⟨n, t, rfl, rfl⟩
  | n :: ns, us, i + 1, v, r, e => by
    cases r with
    | cons r0 rs => obtain ⟨n', t, e1, e2⟩ := vals_nums (i := i) rs (by simpa using e); exact ⟨n', t, by simpa using e1, e2⟩
theorem preSum_sum (ns : List Int) : ∀ k, k ≤ ns.length → preSum (fun i => ns.getD i 0) k = (ns.take k).sum
  | 0, _ => by simp [preSum]
  | k + 1, h => by
    have hk : k < ns.length := h
    rw [preSum, preSum_sum ns k (Nat.le_of_lt hk), List.take_add_one, List.getD_eq_getElem?_getD, List.getElem?_eq_getElem hk]
    simp only [Option.getD_some, Option.toList_some, List.sum_append, List.sum_cons, List.sum_nil, Int.add_zero]
section
variable {X : Cx}
/-- sum(l), l a list of whole numbers of any size -/
theorem call_sum (K : PySem.W.Frag) (hc : X.calm = true) (hK : X.K = K := by rfl) : CallR X (.builtin "sum") (fun xs H Q => ∃ (p : Addr) (ns : List Int), xs = [.ref p] ∧ SqL K H p (ns.map V.int) ∧ Q (.int ns.sum) H) := by
  subst hK
  intro pins s σ H xs us Q I r h
  obtain ⟨p, ns, rfl, hp, q⟩ := h
  obtain ⟨u, rfl, ru⟩ := vals1 r
  cases ru
  obtain ⟨its, rv, pl, hz⟩ := I.list hp
  have lt : p < s.heap.objs.size := let ⟨o, ho, _⟩ := pl.isList; Heap.lt_size ho
  have ne : p ≠ s.heap.objs.size := Nat.ne_of_lt lt
  refine call_sum_walkAnyS (wpAny_pyIter_list pl.isList ⟨_, _, _, _, _, _, _, fun i => ns.getD i 0, rfl, (Walks.list (A := X.A.in1) (I.ok.hd hc) _ p ne its.toArray).toS, ⟨⟨_, Heap.get?_push_size _ rfl, rfl, rfl⟩, pl.isList.push _⟩, ?_, ?_, fun s' t' m => ?_⟩)
  · intro b hb
    rw [Heap.size_push]
    rcases List.mem_cons.mp hb with z | z
    · rw [z]; exact Nat.lt_succ_self _
    · rw [List.mem_singleton.mp z]; exact Nat.lt_succ_of_lt lt
  · intro i v hv
    obtain ⟨n, t, e1, rfl⟩ := vals_nums (i := i) rv (by simpa using hv)
    exact ⟨t, by dsimp only; rw [List.getD_eq_getElem?_getD, e1]; rfl⟩
  · have el : its.toArray.size = ns.length := by rw [List.size_toArray, ← rv.length, List.length_map]
    rw [el, preSum_sum ns _ (Nat.le_refl _), List.take_length]
    refine ⟨.int _, H, ?_, ⟨t', rfl⟩, q⟩
    have J := I.kept (h' := s.heap.push { cls := .type "list_iterator", data := .fields #[.ref p, .int 0 0] }) (t' := s.toks) fun b o z => Heap.get?_push_of_some _ z
    obtain ⟨g0, g1, g2, g3, g4, g5⟩ := I.fpOk (H' := H) (b := s.heap.objs.size) (Nat.le_refl _) (I.hok.fresh (Nat.le_refl _))
    obtain ⟨h', gn, dr, tk, os⟩ := s'
    obtain ⟨mh, mg', md, mo, mt⟩ := m
    dsimp only at mh mg' md mo mt
    subst mg' md mo
    exact Inv.turned (s := { s with heap := s.heap.push { cls := .type "list_iterator", data := .fields #[.ref p, .int 0 0] } }) (h' := h') (t' := tk) (it := s.heap.objs.size) J (fun b o hb z => mh b o (by simpa using hb) z) g0 g1 g3 g4 g5
end

theorem star_K {c : Const} {k : Nat} {p : Pos} {es : List Expr} {env : Env} : starEach (Expr.Constant c k p :: es) env = (false, eval (Expr.Constant c k p) env) :: starEach es env := rfl
theorem star_B {l r : Expr} {o : Operator} {p : Pos} {es : List Expr} {env : Env} : starEach (Expr.BinOp l o r p :: es) env = (false, eval (Expr.BinOp l o r p) env) :: starEach es env := rfl
theorem star_U {l : Expr} {o : UnaryOp} {p : Pos} {es : List Expr} {env : Env} : starEach (Expr.UnaryOp o l p :: es) env = (false, eval (Expr.UnaryOp o l p) env) :: starEach es env := rfl

end L2

namespace KB
/-- a number's bytes -/
def nb (n : Nat) : List Int := if n < 128 then [(n : Int)] else ((n % 128 + 128 : Nat) : Int) :: nb (n / 128)
termination_by n
decreasing_by omega
theorem nb_lt {n : Nat} (h : n < 128) : nb n = [(n : Int)] := by rw [nb, if_pos h]
theorem nb_ge {n : Nat} (h : 128 ≤ n) : nb n = ((n % 128 + 128 : Nat) : Int) :: nb (n / 128) := by rw [nb, if_neg (by omega)]
theorem nb_len : ∀ (k n : Nat), n < 128 ^ (k + 1) → (nb n).length ≤ k + 1
  | 0, n, h => by
    rw [nb_lt (by simpa using h)]
    exact Nat.le_refl _
  | k + 1, n, h => by
    by_cases c : n < 128
    · rw [nb_lt c, List.length_singleton]; omega
    · rw [nb_ge (by omega), List.length_cons]
      have := nb_len k (n / 128) (by
        rw [Nat.div_lt_iff_lt_mul (by decide)]
        rw [Nat.pow_succ] at h
        exact h)
      omega
theorem nb_pos (n : Nat) : 0 < (nb n).length := by
  by_cases c : n < 128
  · rw [nb_lt c]; exact Nat.zero_lt_one
  · rw [nb_ge (by omega)]; exact Nat.succ_pos _
end KB
namespace KB
/-- numbers that rise, each less the one ahead -/
def rise (a : Nat) : List Nat → List Int
  | [] => []
  | x :: r => nb (x - a) ++ rise x r
abbrev Pst := Nat × List Nat
def pbs (a : Nat) : List Pst → List Int
  | [] => []
  | x :: r => nb (x.1 - a) ++ (nb x.2.length ++ (rise 0 x.2 ++ pbs x.1 r))
def pbytes (l : List Pst) : List Int := nb l.length ++ pbs 0 l
def tbytes (z : List Nat) : List Int := nb z.length ++ z.map Int.ofNat
/-- from lo on, strictly rising -/
def Ris (lo : Nat) : List Nat → Prop
  | [] => True
  | x :: r => lo ≤ x ∧ Ris (x + 1) r
theorem Ris.snoc : ∀ {lo : Nat} {l : List Nat} {x : Nat}, Ris lo l → lo ≤ x → (∀ y ∈ l, y < x) → Ris lo (l ++ [x])
  | lo, [], x, _, h, _ => ⟨h, trivial⟩
  | lo, y :: l, x, h, _, hy => ⟨h.1, Ris.snoc h.2 (hy y List.mem_cons_self) fun z hz => hy z (List.mem_cons_of_mem _ hz)⟩
/-- the last of these, 0 of none -/
def lastN (l : List Nat) : Nat := l.getLastD 0
theorem rise_snoc : ∀ (a : Nat) (l : List Nat) (x : Nat), rise a (l ++ [x]) = rise a l ++ nb (x - l.getLastD a)
  | a, [], x => by simp [rise]
  | a, y :: l, x => by
    rw [List.cons_append, rise, rise_snoc y l x, rise, List.append_assoc, List.getLastD_cons]
theorem pbs_snoc : ∀ (a : Nat) (l : List Pst) (x : Pst), pbs a (l ++ [x]) = pbs a l ++ (nb (x.1 - (l.map (·.1)).getLastD a) ++ (nb x.2.length ++ rise 0 x.2))
  | a, [], x => by simp [pbs]
  | a, y :: l, x => by
    rw [List.cons_append, pbs, pbs_snoc y.1 l x, pbs]
    rw [List.map_cons, List.getLastD_cons]
    simp only [List.append_assoc]
theorem ris_mem : ∀ {lo : Nat} {xs : List Nat}, Ris lo xs → ∀ x ∈ xs, lo ≤ x
  | lo, y :: r, h, x, hx => by
    rcases List.mem_cons.mp hx with e | e
    · rw [e]; exact h.1
    · have := ris_mem h.2 x e
      have := h.1
      omega
theorem ris_at : ∀ {lo a : Nat} {xs : List Nat} {i x : Nat}, Ris lo xs → a ≤ lo → xs[i]? = some x → (xs.take i).getLastD a ≤ x ∧ (0 < i → (xs.take i).getLastD a < x)
  | lo, a, [], i, x, _, _, h => by simp at h
  | lo, a, y :: r, 0, x, h, ha, e => by
    simp at e
    subst e
    have := h.1
    exact ⟨by simp; omega, fun z => absurd z (Nat.lt_irrefl _)⟩
  | lo, a, y :: r, i + 1, x, h, ha, e => by
    have e' : r[i]? = some x := by simpa using e
    have ih := ris_at (a := y) h.2 (Nat.le_succ _) e'
    rw [List.take_succ_cons, List.getLastD_cons]
    refine ⟨ih.1, fun _ => ?_⟩
    cases i with
    | zero =>
      have h2 := ris_mem h.2 x (List.mem_of_getElem? e')
      rw [List.take_zero]
      exact h2
    | succ i => exact ih.2 (Nat.succ_pos _)
theorem take_snoc {α : Type} {xs : List α} {i : Nat} {x : α} (h : xs[i]? = some x) : xs.take (i + 1) = xs.take i ++ [x] := by
  rw [List.take_add_one, h]
  rfl
theorem last_snoc (l : List Nat) (x a : Nat) : (l ++ [x]).getLastD a = x := by
  rw [List.getLastD_eq_getLast?, List.getLast?_append]
  rfl
theorem rise_len {k : Nat} : ∀ (a : Nat) (l : List Nat), (∀ x ∈ l, x < 128 ^ (k + 1)) → (rise a l).length ≤ (k + 1) * l.length
  | a, [], _ => Nat.zero_le _
  | a, x :: l, h => by
    rw [rise, List.length_append, List.length_cons, Nat.mul_succ]
    have h1 := nb_len k (x - a) (Nat.lt_of_le_of_lt (Nat.sub_le _ _) (h x List.mem_cons_self))
    have h2 := rise_len x l fun y hy => h y (List.mem_cons_of_mem _ hy)
    omega
end KB
namespace KB
/-- a number read from the begin of a row: the number, and what is left; fst: nothing of it was read yet -/
def pn : Bool → List Int → Option (Nat × List Int)
  | _, [] => none
  | fst, b :: r => if b < 0 ∨ 255 < b then none else if fst = false ∧ b = 0 then none else if b < 128 then some (b.toNat, r) else
    match pn false r with
    | none => none
    | some (n, t) => some (b.toNat - 128 + 128 * n, t)
/-- what is read has just the bytes that it was read from -/
theorem nb_pn : ∀ (l : List Int) (fst : Bool) (n : Nat) (t : List Int), pn fst l = some (n, t) → l = nb n ++ t ∧ (fst = false → n ≠ 0)
  | [], fst, n, t, h => by rw [pn] at h; cases h
  | b :: r, fst, n, t, h => by
    rw [pn] at h
    by_cases c1 : b < 0 ∨ 255 < b
    · rw [if_pos c1] at h; cases h
    rw [if_neg c1] at h
    by_cases c2 : fst = false ∧ b = 0
    · rw [if_pos c2] at h; cases h
    rw [if_neg c2] at h
    by_cases c3 : b < 128
    · rw [if_pos c3] at h
      cases h
      refine ⟨?_, fun hf h0 => c2 ⟨hf, by omega⟩⟩
      rw [nb_lt (by omega), List.singleton_append]
      congr 1
      omega
    · rw [if_neg c3] at h
      cases e : pn false r with
      | none => rw [e] at h; cases h
      | some p =>
        obtain ⟨m, u⟩ := p
        rw [e] at h
        cases h
        obtain ⟨e1, e2⟩ := nb_pn r false m _ e
        have hm := e2 rfl
        refine ⟨?_, fun _ => by omega⟩
        rw [nb_ge (by omega), List.cons_append, e1]
        congr 1
        · omega
        · congr 2
          omega
end KB
namespace KB
/-- n steps more, each a number behind the last of acc -/
def prs : Nat → List Nat → List Int → Option (List Nat × List Int)
  | 0, acc, l => some (acc, l)
  | n + 1, acc, l => match pn true l with
    | none => none
    | some (s, t) => if s = 0 ∧ acc ≠ [] then none else prs n (acc ++ [acc.getLastD 0 + s]) t
def pri (l : List Int) : Option (List Nat × List Int) := match pn true l with
  | none => none
  | some (m, t) => prs m [] t
theorem ris_last : ∀ {lo a : Nat} {l : List Nat}, Ris lo l → ∀ y ∈ l, y ≤ l.getLastD a
  | lo, a, x :: r, h, y, hy => by
    rw [List.getLastD_cons]
    rcases List.mem_cons.mp hy with e | e
    · rw [e]
      cases r with
      | nil => exact Nat.le_refl _
      | cons z r =>
        have h1 := ris_last (a := x) h.2 z List.mem_cons_self
        have h2 := h.2.1
        omega
    · exact ris_last (a := x) h.2 y e
theorem ris_step {acc : List Nat} {s : Nat} (h : Ris 0 acc) (hs : ¬ (s = 0 ∧ acc ≠ [])) : Ris 0 (acc ++ [acc.getLastD 0 + s]) := by
  refine Ris.snoc h (Nat.zero_le _) fun y hy => ?_
  have h1 := ris_last (a := 0) h y hy
  have : acc ≠ [] := fun e => by rw [e] at hy; cases hy
  have : s ≠ 0 := fun e => hs ⟨e, this⟩
  omega
theorem prs_is : ∀ (n : Nat) (acc : List Nat) (l : List Int) (xs : List Nat) (t : List Int), prs n acc l = some (xs, t) → Ris 0 acc → ∃ ys, xs = acc ++ ys ∧ ys.length = n ∧ l = rise (acc.getLastD 0) ys ++ t ∧ Ris 0 xs
  | 0, acc, l, xs, t, h, hr => by
    rw [prs] at h
    cases h
    exact ⟨[], by simp, rfl, by simp [rise], hr⟩
  | n + 1, acc, l, xs, t, h, hr => by
    rw [prs] at h
    cases e : pn true l with
    | none => rw [e] at h; cases h
    | some p =>
      obtain ⟨s, u⟩ := p
      rw [e] at h
      dsimp only at h
      by_cases c : s = 0 ∧ acc ≠ []
      · rw [if_pos c] at h; cases h
      rw [if_neg c] at h
      obtain ⟨ys, e1, e2, e3, e4⟩ := prs_is n _ _ _ _ h (ris_step hr c)
      refine ⟨(acc.getLastD 0 + s) :: ys, by rw [e1]; simp, by rw [List.length_cons, e2], ?_, e4⟩
      rw [rise, (nb_pn l true s u e).1, e3, last_snoc, show acc.getLastD 0 + s - acc.getLastD 0 = s by omega, List.append_assoc]
theorem pri_is {l : List Int} {xs : List Nat} {t : List Int} (h : pri l = some (xs, t)) : l = nb xs.length ++ rise 0 xs ++ t ∧ Ris 0 xs := by
  unfold pri at h
  cases e : pn true l with
  | none => rw [e] at h; cases h
  | some p =>
    obtain ⟨m, u⟩ := p
    rw [e] at h
    dsimp only at h
    obtain ⟨ys, e1, e2, e3, e4⟩ := prs_is m [] u xs t h trivial
    rw [List.nil_append] at e1
    subst e1
    refine ⟨?_, e4⟩
    rw [(nb_pn l true m u e).1, e2, e3, List.append_assoc]
    rfl
def sgn (b : Int) : Bool := decide (32 ≤ b ∧ b ≤ 126 ∧ b ≠ 37)
def ptx : Nat → List Nat → List Int → Option (List Nat × List Int)
  | 0, acc, l => some (acc, l)
  | _ + 1, _, [] => none
  | n + 1, acc, b :: r => if sgn b = true then ptx n (acc ++ [b.toNat]) r else none
def ptxt (l : List Int) : Option (List Nat × List Int) := match pn true l with
  | none => none
  | some (m, t) => ptx m [] t
theorem ptx_is : ∀ (n : Nat) (acc : List Nat) (l : List Int) (xs : List Nat) (t : List Int), ptx n acc l = some (xs, t) → ∃ ys, xs = acc ++ ys ∧ ys.length = n ∧ l = ys.map Int.ofNat ++ t ∧ ∀ y ∈ ys, 32 ≤ y ∧ y ≤ 126 ∧ y ≠ 37
  | 0, acc, l, xs, t, h => by
    rw [ptx] at h
    cases h
    exact ⟨[], by simp, rfl, rfl, fun y hy => by cases hy⟩
  | n + 1, acc, [], xs, t, h => by rw [ptx] at h; cases h
  | n + 1, acc, b :: r, xs, t, h => by
    rw [ptx] at h
    by_cases c : sgn b = true
    · rw [if_pos c] at h
      have c' := of_decide_eq_true c
      obtain ⟨ys, e1, e2, e3, e4⟩ := ptx_is n _ _ _ _ h
      refine ⟨b.toNat :: ys, by rw [e1]; simp, by rw [List.length_cons, e2], ?_, fun y hy => ?_⟩
      · rw [List.map_cons, List.cons_append, ← e3]
        congr 1
        show b = ((b.toNat : Nat) : Int)
        omega
      · rcases List.mem_cons.mp hy with e | e
        · rw [e]; omega
        · exact e4 y e
    · rw [if_neg c] at h; cases h
theorem ptxt_is {l : List Int} {zs : List Nat} {t : List Int} (h : ptxt l = some (zs, t)) : l = tbytes zs ++ t ∧ ∀ y ∈ zs, 32 ≤ y ∧ y ≤ 126 ∧ y ≠ 37 := by
  unfold ptxt at h
  cases e : pn true l with
  | none => rw [e] at h; cases h
  | some p =>
    obtain ⟨m, u⟩ := p
    rw [e] at h
    dsimp only at h
    obtain ⟨ys, e1, e2, e3, e4⟩ := ptx_is m [] u zs t h
    rw [List.nil_append] at e1
    subst e1
    refine ⟨?_, e4⟩
    rw [(nb_pn l true m u e).1, tbytes, e2, e3, List.append_assoc]
/-- the whole slice is looked at at once: the same -/
theorem ptx_at : ∀ (n : Nat) (acc : List Nat) (l : List Int), ptx n acc l = if n ≤ l.length ∧ (l.take n).all sgn = true then some (acc ++ (l.take n).map Int.toNat, l.drop n) else none
  | 0, acc, l => by simp [ptx]
  | n + 1, acc, [] => by simp [ptx]
  | n + 1, acc, b :: r => by
    rw [ptx, ptx_at n]
    by_cases c : sgn b = true
    · rw [if_pos c]
      simp [c]
    · rw [if_neg c, if_neg]
      rintro ⟨_, h⟩
      rw [List.take_succ_cons, List.all_cons, Bool.and_eq_true] at h
      exact c h.1
def pps : Nat → List Pst → List Int → Option (List Pst × List Int)
  | 0, acc, l => some (acc, l)
  | n + 1, acc, l => match pn true l with
    | none => none
    | some (s, t) => if s = 0 ∧ acc ≠ [] then none else match pri t with
      | none => none
      | some (xs, u) => if xs = [] then none else pps n (acc ++ [((acc.map (·.1)).getLastD 0 + s, xs)]) u
def ppo (l : List Int) : Option (List Pst × List Int) := match pn true l with
  | none => none
  | some (m, t) => pps m [] t
def PGood (l : List Pst) : Prop := Ris 0 (l.map (·.1)) ∧ ∀ x ∈ l, x.2 ≠ [] ∧ Ris 0 x.2
theorem PGood.step {acc : List Pst} {s : Nat} {xs : List Nat} (h : PGood acc) (hs : ¬ (s = 0 ∧ acc ≠ [])) (hx : xs ≠ []) (hr : Ris 0 xs) : PGood (acc ++ [((acc.map (·.1)).getLastD 0 + s, xs)]) := by
  refine ⟨?_, fun x hx' => ?_⟩
  · rw [List.map_append]
    refine ris_step h.1 ?_
    rintro ⟨h1, h2⟩
    exact hs ⟨h1, fun e => h2 (by rw [e]; rfl)⟩
  · rcases List.mem_append.mp hx' with e | e
    · exact h.2 x e
    · rw [List.mem_singleton] at e
      rw [e]
      exact ⟨hx, hr⟩
theorem pps_is : ∀ (n : Nat) (acc : List Pst) (l : List Int) (xs : List Pst) (t : List Int), pps n acc l = some (xs, t) → PGood acc → ∃ ys, xs = acc ++ ys ∧ ys.length = n ∧ l = pbs ((acc.map (·.1)).getLastD 0) ys ++ t ∧ PGood xs
  | 0, acc, l, xs, t, h, hr => by
    rw [pps] at h
    cases h
    exact ⟨[], by simp, rfl, by simp [pbs], hr⟩
  | n + 1, acc, l, xs, t, h, hr => by
    rw [pps] at h
    cases e : pn true l with
    | none => rw [e] at h; cases h
    | some p =>
      obtain ⟨s, u⟩ := p
      rw [e] at h
      dsimp only at h
      by_cases c : s = 0 ∧ acc ≠ []
      · rw [if_pos c] at h; cases h
      rw [if_neg c] at h
      cases e2 : pri u with
      | none => rw [e2] at h; cases h
      | some p2 =>
        obtain ⟨zs, v⟩ := p2
        rw [e2] at h
        dsimp only at h
        by_cases c2 : zs = []
        · rw [if_pos c2] at h; cases h
        rw [if_neg c2] at h
        obtain ⟨d1, d2⟩ := pri_is e2
        obtain ⟨ys, e1, e3, e4, e5⟩ := pps_is n _ _ _ _ h (hr.step c c2 d2)
        refine ⟨((acc.map (·.1)).getLastD 0 + s, zs) :: ys, by rw [e1]; simp, by rw [List.length_cons, e3], ?_, e5⟩
        rw [(nb_pn l true s u e).1, d1, e4, pbs, List.map_append, show [((acc.map (·.1)).getLastD 0 + s, zs)].map (fun x => x.1) = [(acc.map (·.1)).getLastD 0 + s] from rfl, last_snoc]
        show _ = nb ((acc.map (·.1)).getLastD 0 + s - (acc.map (·.1)).getLastD 0) ++ _ ++ _
        rw [show (acc.map (·.1)).getLastD 0 + s - (acc.map (·.1)).getLastD 0 = s by omega]
        simp only [List.append_assoc]
theorem ppo_is {l : List Int} {ps : List Pst} {t : List Int} (h : ppo l = some (ps, t)) : l = pbytes ps ++ t ∧ PGood ps := by
  unfold ppo at h
  cases e : pn true l with
  | none => rw [e] at h; cases h
  | some p =>
    obtain ⟨m, u⟩ := p
    rw [e] at h
    dsimp only at h
    obtain ⟨ys, e1, e2, e3, e4⟩ := pps_is m [] u ps t h ⟨trivial, fun x hx => by cases hx⟩
    rw [List.nil_append] at e1
    subst e1
    refine ⟨?_, e4⟩
    rw [(nb_pn l true m u e).1, pbytes, e2, e3, List.append_assoc]
    rfl
/-- what is left is an end of the row -/
theorem pn_drop {ns : List Int} {i n : Nat} {t : List Int} (h : pn true (ns.drop i) = some (n, t)) : t = ns.drop (i + (nb n).length) := by
  have := (nb_pn _ _ _ _ h).1
  rw [← List.drop_drop, this, List.drop_left]
theorem drop_cons {ns : List Int} {i : Nat} {b : Int} (h : ns[i]? = some b) : ns.drop i = b :: ns.drop (i + 1) := by
  obtain ⟨hi, e⟩ := List.getElem?_eq_some_iff.mp h
  rw [List.drop_eq_getElem_cons hi, e]
theorem pn_bad {ns : List Int} {i : Nat} {fst : Bool} (h : ∀ b, ns[i]? = some b → b < 0 ∨ 255 < b) : pn fst (ns.drop i) = none := by
  cases e : ns[i]? with
  | none =>
    rw [List.drop_eq_nil_of_le (List.getElem?_eq_none_iff.mp e), pn]
  | some b => rw [drop_cons e, pn, if_pos (h b e)]
theorem pn_lt {b : Int} {l : List Int} (h0 : 0 ≤ b) (h1 : b < 128) : pn true (b :: l) = some (b.toNat, l) := by
  rw [pn, if_neg (by omega), if_neg (by simp), if_pos h1]
theorem pn_ge {b : Int} {l : List Int} (h0 : 128 ≤ b) (h1 : b ≤ 255) : pn true (b :: l) = (pn false l).map fun x => (b.toNat - 128 + 128 * x.1, x.2) := by
  rw [pn, if_neg (by omega), if_neg (by simp), if_neg (by omega)]
  cases pn false l <;> rfl
theorem pn_zero (l : List Int) : pn false (0 :: l) = none := by
  rw [pn, if_neg (by omega), if_pos ⟨rfl, rfl⟩]
theorem pn_more {b : Int} {l : List Int} (h : b ≠ 0) : pn false (b :: l) = pn true (b :: l) := by
  rw [pn, pn, if_neg (c := (false = false ∧ b = 0)) (by rintro ⟨_, z⟩; exact h z), if_neg (c := (true = false ∧ b = 0)) (by simp)]
theorem pn_next {b b2 : Int} {l l2 : List Int} {num part : Nat} {R : Option (Nat × List Int)} (h0 : 128 ≤ b) (h1 : b ≤ 255) (hb : b2 ≠ 0) (hl : l = b2 :: l2) (e : R = (pn true (b :: l)).map fun x => (num + x.1 * part, x.2)) :
    R = (pn true (b2 :: l2)).map fun x => (num + (b - 128).toNat * part + x.1 * (part * 128), x.2) := by
  rw [e, pn_ge h0 h1, hl, pn_more hb, Option.map_map]
  congr 1
  funext x
  show (num + (b.toNat - 128 + 128 * x.1) * part, x.2) = _
  have h2 : b.toNat - 128 = (b - 128).toNat := by omega
  rw [h2, Nat.add_mul, show 128 * x.1 * part = x.1 * (part * 128) by rw [Nat.mul_comm 128 x.1, Nat.mul_assoc, Nat.mul_comm 128 part], Nat.add_assoc]
/-- what is left stands in the row behind the place -/
theorem pn_pos {ns : List Int} {i j n : Nat} (h : pn true (ns.drop i) = some (n, ns.drop j)) (hi : i ≤ ns.length) (hj : j ≤ ns.length) : i < j := by
  have e := congrArg List.length (nb_pn _ _ _ _ h).1
  rw [List.length_append, List.length_drop, List.length_drop] at e
  have := nb_pos n
  omega
/-- a place for what is left -/
theorem pn_at {ns : List Int} {i n : Nat} {t : List Int} (h : pn true (ns.drop i) = some (n, t)) (hi : i ≤ ns.length) : ∃ j, i < j ∧ j ≤ ns.length ∧ t = ns.drop j := by
  have e := pn_drop h
  have l := congrArg List.length (nb_pn _ _ _ _ h).1
  rw [List.length_append, List.length_drop] at l
  have := nb_pos n
  exact ⟨i + (nb n).length, by omega, by omega, e⟩
theorem prs_at : ∀ {n : Nat} {acc : List Nat} {ns : List Int} {i : Nat} {xs : List Nat} {t : List Int}, prs n acc (ns.drop i) = some (xs, t) → i ≤ ns.length → ∃ j, i ≤ j ∧ j ≤ ns.length ∧ t = ns.drop j
  | 0, acc, ns, i, xs, t, h, hi => by
    rw [prs] at h
    cases h
    exact ⟨i, Nat.le_refl _, hi, rfl⟩
  | n + 1, acc, ns, i, xs, t, h, hi => by
    rw [prs] at h
    cases e : pn true (ns.drop i) with
    | none => rw [e] at h; cases h
    | some p =>
      obtain ⟨s, u⟩ := p
      rw [e] at h
      dsimp only at h
      by_cases c : s = 0 ∧ acc ≠ []
      · rw [if_pos c] at h; cases h
      rw [if_neg c] at h
      obtain ⟨j, h1, h2, rfl⟩ := pn_at e hi
      obtain ⟨k, h3, h4, h5⟩ := prs_at h h2
      exact ⟨k, by omega, h4, h5⟩
theorem pri_at {ns : List Int} {i : Nat} {xs : List Nat} {t : List Int} (h : pri (ns.drop i) = some (xs, t)) (hi : i ≤ ns.length) : ∃ j, i < j ∧ j ≤ ns.length ∧ t = ns.drop j := by
  unfold pri at h
  cases e : pn true (ns.drop i) with
  | none => rw [e] at h; cases h
  | some p =>
    obtain ⟨m, u⟩ := p
    rw [e] at h
    dsimp only at h
    obtain ⟨j, h1, h2, rfl⟩ := pn_at e hi
    obtain ⟨k, h3, h4, h5⟩ := prs_at h h2
    exact ⟨k, by omega, h4, h5⟩
theorem rise_app : ∀ (a : Nat) (l r : List Nat), rise a (l ++ r) = rise a l ++ rise (l.getLastD a) r
  | a, [], r => rfl
  | a, y :: l, r => by rw [List.cons_append, rise, rise_app y l r, rise, List.append_assoc, List.getLastD_cons]
theorem pbs_app : ∀ (a : Nat) (l r : List Pst), pbs a (l ++ r) = pbs a l ++ pbs ((l.map (·.1)).getLastD a) r
  | a, [], r => rfl
  | a, y :: l, r => by
    rw [List.cons_append, pbs, pbs_app y.1 l r, pbs, List.map_cons, List.getLastD_cons]
    simp only [List.append_assoc]
theorem cut_at {α : Type} {xs : List α} {i : Nat} {x : α} (h : xs[i]? = some x) : xs = xs.take i ++ x :: xs.drop (i + 1) := by
  obtain ⟨hi, e⟩ := List.getElem?_eq_some_iff.mp h
  rw [← e, ← List.drop_eq_getElem_cons hi, List.take_append_drop]
theorem rise_cut {xs : List Nat} {i x : Nat} (h : xs[i]? = some x) : (rise 0 (xs.take i)).length + (nb (x - (xs.take i).getLastD 0)).length ≤ (rise 0 xs).length := by
  have e : rise 0 xs = rise 0 (xs.take i) ++ (nb (x - (xs.take i).getLastD 0) ++ rise x (xs.drop (i + 1))) := by
    conv => lhs; rw [cut_at h]
    rw [rise_app, rise]
  rw [e, List.length_append, List.length_append]
  omega
theorem pbs_cut {ps : List Pst} {i : Nat} {x : Pst} (h : ps[i]? = some x) : (pbs 0 (ps.take i)).length + ((nb (x.1 - ((ps.take i).map (·.1)).getLastD 0)).length + ((nb x.2.length).length + (rise 0 x.2).length)) ≤ (pbs 0 ps).length := by
  have e : pbs 0 ps = pbs 0 (ps.take i) ++ (nb (x.1 - ((ps.take i).map (·.1)).getLastD 0) ++ (nb x.2.length ++ (rise 0 x.2 ++ pbs x.1 (ps.drop (i + 1))))) := by
    conv => lhs; rw [cut_at h]
    rw [pbs_app, pbs]
  rw [e, List.length_append, List.length_append, List.length_append, List.length_append]
  omega
end KB
namespace K13
open PySem L2 KB
def top (i : Nat) : Stmt := PySem.Challenge.pw_findcourt_k13_rows_of_bytes_looked_at.main.body.getD i (.Pass ⟨0, 0, 0, 0⟩)
abbrev sNB : Stmt := top 18
abbrev sRB : Stmt := top 19
abbrev sPB : Stmt := top 20
abbrev sTB : Stmt := top 21
abbrev sSg : Stmt := top 22
abbrev sRN : Stmt := top 24
abbrev sRP : Stmt := top 25
abbrev sRT : Stmt := top 26
abbrev sDraws : Stmt := top 28
abbrev sPop : Stmt := top 29
abbrev sAlike : Stmt := top 30
abbrev sSigns : Stmt := top 31
abbrev sText : Stmt := top 32
abbrev sLNB : Stmt := top 33
abbrev sLN : Stmt := top 34
abbrev sLP : Stmt := top 35
abbrev sLPB : Stmt := top 36
abbrev sLTB : Stmt := top 37
abbrev sNI : Stmt := top 38
abbrev sRiI : Stmt := top 39
abbrev sTI : Stmt := top 40
abbrev sPI : Stmt := top 41
abbrev sBe : Stmt := top 42
abbrev sKind : Stmt := top 43
abbrev sRd : Stmt := top 44
abbrev sRef : Stmt := top 45
abbrev sWr : Stmt := top 46
abbrev sIn : Stmt := top 47
abbrev sLaw : Stmt := top 48
abbrev sRI : Stmt := inClass (top 23) 0
abbrev sByte : Stmt := inClass (top 23) 1
abbrev sNum : Stmt := inClass (top 23) 2
abbrev sBeh : Stmt := inClass (top 23) 3
abbrev sRis : Stmt := inClass (top 23) 4
abbrev sNP : Stmt := inClass (top 23) 5
abbrev sNT : Stmt := inClass (top 23) 6
abbrev sEnd : Stmt := inClass (top 23) 7
abbrev cSIGNS : Str := " !\"#$ &'()*+,-./0123456789:;<=>?@ABCDEFGHIJKLMNOPQRSTUVWXYZ[\\]^_`abcdefghijklmnopqrstuvwxyz{|}~"
structure Txt (mg : Str → Option Value) : Prop where
  len : mg "len" = none
  range : mg "range" = none
  isinstance : mg "isinstance" = none
  str : mg "str" = none
  int : mg "int" = none
  bool : mg "bool" = none
  list : mg "list" = none
  tuple : mg "tuple" = none
  ord : mg "ord" = none
  max : mg "max" = none
  sum : mg "sum" = none
  valueError : mg "ValueError" = none
  part : ∃ t, mg "BYTE_PART" = some (.int 128 t)
  last : ∃ t, mg "LAST_BYTE" = some (.int 255 t)
  first : ∃ t, mg "FIRST_SIGN" = some (.int 32 t)
  lastS : ∃ t, mg "LAST_SIGN" = some (.int 126 t)
  noS : ∃ t, mg "NO_SIGN" = some (.int 37 t)
  signs : ∃ t, mg "SIGNS" = some (.str cSIGNS t)
/-! ### draws: the promises -/
def Asc (z : Str) : Prop := ∀ c ∈ z.cps.toList, 32 ≤ c ∧ c ≤ 126 ∧ c ≠ 37
theorem slen (z : Str) : z.cps.toList.length = z.length := by simp [Str.length]
def SameX (d : Addr) (H H' : Hp) : Prop := ∀ b o, H b = some o → b ≠ d → H' b = some o
theorem SameX.trans {d : Addr} {H H1 H2 : Hp} (a : SameX d H H1) (b : SameX d H1 H2) : SameX d H H2 := fun c o h n => b c o (a c o h n) n
theorem SameX.of {d : Addr} {H H1 : Hp} (a : Same H H1) : SameX d H H1 := fun c o h _ => a c o h
theorem SameX.upd {d : Addr} {H H1 : Hp} (a : SameX d H H1) (o : HO) : SameX d H (L2.upd H1 d o) := fun c u h n => by rw [upd_ne n]; exact a c u h n
theorem SameX.out {d : Addr} {H H1 H2 : Hp} (a : Same H H1) (h : H d = none) (b : SameX d H1 H2) : Same H H2 := fun c o q => b c o (a c o q) (ne_of_none q h)
def spDraws (K : PySem.W.Frag) : Sp := fun vs H Q _ => ∃ (a : Addr) (ns : List Int) (t m : Int), vs = [.ref a, .int t, .int m] ∧ SqL K H a (ns.map V.int) ∧ ns.length ≤ 63 ∧ 0 ≤ t ∧ t ≤ 10 ∧ 0 ≤ m ∧ m ≤ 900 ∧
  ∀ (r : Addr) (ds : List Int) (H' : Hp), Same H H' → H r = none → H' r = some (.lst (ds.map V.int)) → Q (.ref r) H'
def spPop : Sp := fun vs H Q _ => ∃ (d : Addr) (ns : List Int), vs = [.ref d] ∧ H d = some (.lst (ns.map V.int)) ∧
  ∀ (z : Int) (ns' : List Int) (H' : Hp), SameX d H H' → H' d = some (.lst (ns'.map V.int)) → Q (.int z) H'
abbrev cSg : Str := " !\"#$&'()*+,-./0123456789:;<=>?@ABCDEFGHIJKLMNOPQRSTUVWXYZ[\\]^_`abcdefghijklmnopqrstuvwxyz{|}~"
def spSigns : Sp := fun vs H Q _ => vs = [] ∧ Q (.str cSg) H
def spText : Sp := fun vs H Q _ => ∃ (d : Addr) (ns : List Int) (m : Int), vs = [.ref d, .int m] ∧ H d = some (.lst (ns.map V.int)) ∧ 0 ≤ m ∧ m ≤ 900 ∧
  ∀ (z : Str) (ns' : List Int) (H' : Hp), SameX d H H' → H' d = some (.lst (ns'.map V.int)) → (z.length : Int) ≤ m → Asc z → Q (.str z) H'
theorem cutV_map (ns : List Int) (lo hi : Option Int) : cutV (ns.map V.int) lo hi = (cutL ns lo hi).map V.int := by
  unfold cutV cutL
  rw [List.length_map, List.map_take, List.map_drop]
theorem cmul_mod {a b j : Int} (h : 0 < j) (h' : j < 2 ^ 63) : CMul (a % j) b := by
  have h1 := Int.emod_nonneg a (show j ≠ 0 by omega)
  have h2 := Int.emod_lt_of_pos a h
  exact .inl ⟨by omega, by omega⟩
section
variable {P : Program} {w : World} {K : PySem.W.Frag} {mg : Str → Option Value} {base : Heap} {f : Addr} {fd : FuncData}
theorem scPop : FnScope ["_law_draws_here"] ["_law_draws_here"] (defScope sPop) := ⟨rfl, rfl, rfl, by decide +kernel, rfl, by decide +kernel, by decide +kernel⟩
theorem ok_pop (F : Fun K "_law_pop" "_law_pop" sPop f fd) : FnOk P w K mg base CX0 1 f fd ["_law_draws_here"] spPop := by
  refine F.ok scPop (fun vs H Q E h => ?_) (fun cdv A outer s H vs Q E hr h => ?_)
  · obtain ⟨d, ns, rfl, _⟩ := h
    rfl
  obtain ⟨d, ns, rfl, hd, q⟩ := h
  refine ⟨_, (pss_cons (ps_if (pt_cmpR (op_eqE K hr) (pv 0) (pe_lst pa_nil) (nomark _)) (pss_one (ps_ret pe_int)) pss_nil)
    (pss_one (ps_ret (bm0K K PySem.F.plainAttrs_list PySem.F.slot_list_pop PySem.F.type_list_pop mt_pop (pv 0))))), ?_⟩
  simp only [tIfS, tAnd, tOr, tNot, tB, tVar, tTest, tOp, tC, tUn, tCB, tCons, tNil, rI0, rI, rU, rNe, rEq, scal, rAppend, tBM, tDrop, tSeq, tAsg, gName, tRet, tNext, List.set_cons_zero, List.set_cons_succ, List.getElem?_cons_zero, List.getElem?_cons_succ, Option.some.injEq, V.int.injEq, V.bl.injEq, V.ref.injEq, V.str.injEq, exists_eq_left', exists_eq_left, exists_and_left, List.cons.injEq, and_true, true_and, and_assoc, exists_const, L2.start, List.map_cons, List.map_nil, List.length_cons, List.length_nil, List.replicate_succ, List.replicate_zero, List.cons_append, List.nil_append, List.append_nil, Nat.reduceAdd, Nat.reduceSub, tFor_eq, tComp_eq, tWhile_eq, tChain, tAug, ipI, rIxS, rSlS, rLower, rIndex, rPop, rCat, tBM0, gSub, rSetL, tSl, tPart, tNoPart, rSlL, tCall, tLst, tTup, iRng1, iRng2, iRng3, iList, iEnum, gTup, gCons, gNil, rIxL, rIxT, tYes, tAndV, tOrV, tNotV, tIf, tTest, exists_eq', List.ne_cons_self, reduceCtorEq, if_true, if_false, and_false, false_and]
  refine ⟨by decide, fun p hp => ⟨_, SqL.of (upd_at hd hp), SqL.of upd_same, ?_⟩⟩
  have hs := same_new hp (.lst [])
  refine ite2 (fun c => ?_) (fun c => ?_)
  · exact q 0 ns _ (SameX.of hs) (hs _ _ hd)
  · have hne : ns ≠ [] := by intro z; subst z; exact c rfl
    have hl : 0 < ns.length := List.length_pos_iff.mpr hne
    refine ⟨.inl ⟨rfl, _, SqL.of (hs _ _ hd)⟩, _, hs _ _ hd, .int ns[ns.length - 1], ?_, ?_⟩
    · rw [List.getElem?_map, List.length_map, List.getElem?_eq_getElem (by omega)]
      rfl
    · refine q _ ns.dropLast _ ((SameX.of hs).upd _) ?_
      rw [upd_same, List.map_dropLast]
theorem scG : FnScope [] [] (defScope sSigns) := ⟨rfl, rfl, rfl, by decide +kernel, rfl, by decide +kernel, by decide +kernel⟩
theorem ok_signs (F : Fun K "_law_signs" "_law_signs" sSigns f fd) : FnOk P w K mg base CX0 1 f fd [] spSigns := by
  refine F.ok scG (fun vs H Q E h => ?_) (fun cdv A outer s H vs Q E hr h => ?_)
  · obtain ⟨rfl, _⟩ := h
    rfl
  obtain ⟨rfl, q⟩ := h
  refine ⟨_, (pss_one (ps_ret pe_str)), ?_⟩
  simp only [tIfS, tAnd, tOr, tNot, tB, tVar, tTest, tOp, tC, tUn, tCB, tCons, tNil, rI0, rI, rU, rNe, rEq, scal, rAppend, tBM, tDrop, tSeq, tAsg, gName, tRet, tNext, List.set_cons_zero, List.set_cons_succ, List.getElem?_cons_zero, List.getElem?_cons_succ, Option.some.injEq, V.int.injEq, V.bl.injEq, V.ref.injEq, V.str.injEq, exists_eq_left', exists_eq_left, exists_and_left, List.cons.injEq, and_true, true_and, and_assoc, exists_const, L2.start, List.map_cons, List.map_nil, List.length_cons, List.length_nil, List.replicate_succ, List.replicate_zero, List.cons_append, List.nil_append, List.append_nil, Nat.reduceAdd, Nat.reduceSub, tFor_eq, tComp_eq, tWhile_eq, tChain, tAug, ipI, rIxS, rSlS, rLower, rIndex, rPop, rCat, tBM0, gSub, rSetL, tSl, tPart, tNoPart, rSlL, tCall, tLst, tTup, iRng1, iRng2, iRng3, iList, iEnum, gTup, gCons, gNil, rIxL, rIxT, tYes, tAndV, tOrV, tNotV, tIf, tTest, exists_eq', List.ne_cons_self, reduceCtorEq, if_true, if_false, and_false, false_and]
  exact q
theorem scT : FnScope ["_law_draws_here", "_law_most", "_law_number_here", "_law_found", "_law_k", "_law_one", "_law_some"] ["_law_draws_here", "_law_most"] (defScope sText) := ⟨rfl, rfl, rfl, by decide +kernel, rfl, by decide +kernel, by decide +kernel⟩
def invX (d : Addr) (m num : Int) (H : Hp) (i : Nat) (σ : St) (L : Hp) : Prop := ∃ (z : Str) (ns : List Int) (v4 v5 v6 : Option V), σ = [some (.ref d), some (.int m), some (.int num), some (.str z), v4, v5, v6] ∧ SameX d H L ∧ L d = some (.lst (ns.map V.int)) ∧ z.length = i ∧ Asc z
theorem pick3 {one : Int} {s0 s1 s2 : Str} : ∃ s, atI [V.str s0, V.str s1, V.str s2] (one % 3) = some (.str s) ∧ (s = s0 ∨ s = s1 ∨ s = s2) := by
  have h0 := Int.emod_nonneg one (show (3 : Int) ≠ 0 by decide)
  have h1 := Int.emod_lt_of_pos one (show (0 : Int) < 3 by decide)
  have h2 : one % 3 = 0 ∨ one % 3 = 1 ∨ one % 3 = 2 := by omega
  rcases h2 with e | e | e
  · rw [e]; exact ⟨s0, rfl, .inl rfl⟩
  · rw [e]; exact ⟨s1, rfl, .inr (.inl rfl)⟩
  · rw [e]; exact ⟨s2, rfl, .inr (.inr rfl)⟩
theorem ok_text {gp gg : Addr} {dp dg : FuncData} (F : Fun K "_law_text" "_law_text" sText f fd) (T : Txt mg) (GP : FnOk P w K mg base CX0 1 gp dp ["_law_draws_here"] spPop) (bP : Binds K dp ["_law_draws_here"] []) (kP : PySem.W.keepIn K (.ref gp) = true) (mP : mg "_law_pop" = some (.ref gp))
    (GG : FnOk P w K mg base CX0 1 gg dg [] spSigns) (bG : Binds K dg [] []) (kG : PySem.W.keepIn K (.ref gg) = true) (mG : mg "_law_signs" = some (.ref gg)) : FnOk P w K mg base CX0 2 f fd ["_law_draws_here", "_law_most"] spText := by
  refine F.ok scT (fun vs H Q E h => ?_) (fun cdv A outer s H vs Q E hr h => ?_)
  · obtain ⟨d, ns, m, rfl, _⟩ := h
    rfl
  obtain ⟨d, ns, m, rfl, hd, m0, m1, q⟩ := h
  refine ⟨_, (pss_cons (ps_set (i := 2) scT.nd rfl (Or.inl rfl) (pe_call GP hr rfl mP kP bP .nil pass0 (pa_cons (pv 0) pa_nil)))
    (pss_cons (ps_set (i := 3) scT.nd rfl (Or.inl rfl) pe_str)
    (pss_cons (ps_for PassesOwn.never rfl (pi_range1 rfl T.range (pa_cons (pe_op op_mod (pv 2) (pe_op op_add (pv 1) pe_int)) pa_nil)) (pg_name (i := 4) scT.nd rfl (Or.inl rfl))
      (pss_cons (ps_set (i := 5) scT.nd rfl (Or.inl rfl) (pe_call GP hr rfl mP kP bP .nil pass0 (pa_cons (pv 0) pa_nil)))
    (pss_cons (ps_set (i := 6) scT.nd rfl (Or.inl rfl) (pe_ix (ixL K) (pe_lst (pa_cons (pe_call0 GG hr rfl mG kG bG .nil pass0) (pa_cons pe_str (pa_cons pe_str pa_nil)))) (pe_op op_mod (pv 5) pe_int) (fun _ _ => rfl)))
    (pss_one (ps_set (i := 3) scT.nd rfl (Or.inl rfl) (pe_op op_add_str (pv 3) (pe_ix ix_str (pv 6) (pe_op op_mod (pe_op op_fdiv (pv 5) pe_int) (pe_callB call_len_str rfl T.len PySem.boot_len (pa_cons (pv 6) pa_nil))) (fun _ _ => rfl))))))))
    (pss_one (ps_ret (pv 3)))))), ?_⟩
  simp only [tIfS, tAnd, tOr, tNot, tB, tVar, tTest, tOp, tC, tUn, tCB, tCons, tNil, rI0, rI, rU, rNe, rEq, scal, rAppend, tBM, tDrop, tSeq, tAsg, gName, tRet, tNext, List.set_cons_zero, List.set_cons_succ, List.getElem?_cons_zero, List.getElem?_cons_succ, Option.some.injEq, V.int.injEq, V.bl.injEq, V.ref.injEq, V.str.injEq, exists_eq_left', exists_eq_left, exists_and_left, List.cons.injEq, and_true, true_and, and_assoc, exists_const, L2.start, List.map_cons, List.map_nil, List.length_cons, List.length_nil, List.replicate_succ, List.replicate_zero, List.cons_append, List.nil_append, List.append_nil, Nat.reduceAdd, Nat.reduceSub, tFor_eq, tComp_eq, tWhile_eq, tChain, tAug, ipI, rIxS, rSlS, rLower, rIndex, rPop, rCat, tBM0, gSub, rSetL, tSl, tPart, tNoPart, rSlL, tCall, tLst, tTup, iRng1, iRng2, iRng3, iList, iEnum, gTup, gCons, gNil, rIxL, rIxT, tYes, tAndV, tOrV, tNotV, tIf, tTest, exists_eq', List.ne_cons_self, reduceCtorEq, if_true, if_false, and_false, false_and, spPop]
  refine ⟨ns, hd, fun num ns1 H1 s1 hd1 => ⟨by omega, ?_⟩⟩
  have n0 := Int.emod_nonneg num (show m + 1 ≠ 0 by omega)
  have n1 := Int.emod_lt_of_pos num (show 0 < m + 1 by omega)
  refine ⟨by omega, by omega, ?_⟩
  refine forW_range (lo := 0) (invX d m num H) ⟨_, ns1, none, none, none, rfl, s1, hd1, rfl, fun c hc => absurd hc (by rw [show ("" : Str).cps.toList = [] from rfl]; exact List.not_mem_nil)⟩ ?_ ?_
  · rintro i σ L hi ⟨z, ns2, v4, v5, v6, rfl, sL, hdL, hz, hA⟩
    simp only [tIfS, tAnd, tOr, tNot, tB, tVar, tTest, tOp, tC, tUn, tCB, tCons, tNil, rI0, rI, rU, rNe, rEq, scal, rAppend, tBM, tDrop, tSeq, tAsg, gName, tRet, tNext, List.set_cons_zero, List.set_cons_succ, List.getElem?_cons_zero, List.getElem?_cons_succ, Option.some.injEq, V.int.injEq, V.bl.injEq, V.ref.injEq, V.str.injEq, exists_eq_left', exists_eq_left, exists_and_left, List.cons.injEq, and_true, true_and, and_assoc, exists_const, L2.start, List.map_cons, List.map_nil, List.length_cons, List.length_nil, List.replicate_succ, List.replicate_zero, List.cons_append, List.nil_append, List.append_nil, Nat.reduceAdd, Nat.reduceSub, tFor_eq, tComp_eq, tWhile_eq, tChain, tAug, ipI, rIxS, rSlS, rLower, rIndex, rPop, rCat, tBM0, gSub, rSetL, tSl, tPart, tNoPart, rSlL, tCall, tLst, tTup, iRng1, iRng2, iRng3, iList, iEnum, gTup, gCons, gNil, rIxL, rIxT, tYes, tAndV, tOrV, tNotV, tIf, tTest, exists_eq', List.ne_cons_self, reduceCtorEq, if_true, if_false, and_false, false_and, spPop, spSigns]
    refine ⟨ns2, hdL, fun one ns3 H3 s3 hd3 => ⟨by decide, fun p hp => ?_⟩⟩
    obtain ⟨s', hs', hor⟩ := pick3 (one := one) (s0 := cSg) (s1 := "abA19 ") (s2 := "abzAZ09 ' ")
    have ok : s'.length ≤ 200 ∧ 0 < s'.length ∧ Asc s' := by
      rcases hor with e | e | e
      · rw [e]; unfold Asc; decide +kernel
      · rw [e]; unfold Asc; decide +kernel
      · rw [e]; unfold Asc; decide +kernel
    obtain ⟨k1, k2, k3⟩ := ok
    have x0 := Int.emod_nonneg (one / 3) (show (s'.length : Int) ≠ 0 by omega)
    have x1 := Int.emod_lt_of_pos (one / 3) (show (0 : Int) < (s'.length : Int) by omega)
    obtain ⟨v, hv, hv'⟩ := atI_of (xs := s'.cps.toList) x0 (by rw [slen]; exact x1)
    have sP := same_new hp (.lst [V.str cSg, V.str "abA19 ", V.str "abzAZ09 ' "])
    refine ⟨by decide, _, SqL.of upd_same, _, hs', ⟨by decide, by decide⟩, s', rfl, small (by omega), by omega, s', rfl, small (by omega), v, hv, small (by show z.length + 1 ≤ 1000; omega), ?_⟩
    have el : (z ++ (⟨#[v]⟩ : Str)).cps.toList = z.cps.toList ++ [v] := by
      show (z.cps ++ #[v]).toList = _
      simp
    refine ⟨_, ns3, _, _, _, rfl, sL.trans (s3.trans (SameX.of sP)), sP _ _ hd3, ?_, fun c hc => ?_⟩
    · rw [← slen, el, List.length_append, slen, hz]
      rfl
    · rw [el] at hc
      rcases List.mem_append.mp hc with h | h
      · exact hA c h
      · rw [List.mem_singleton] at h
        subst h
        exact k3 _ (List.mem_of_getElem? hv')
  · rintro σ L ⟨z, ns2, v4, v5, v6, rfl, sL, hdL, hz, hA⟩
    simp only [tIfS, tAnd, tOr, tNot, tB, tVar, tTest, tOp, tC, tUn, tCB, tCons, tNil, rI0, rI, rU, rNe, rEq, scal, rAppend, tBM, tDrop, tSeq, tAsg, gName, tRet, tNext, List.set_cons_zero, List.set_cons_succ, List.getElem?_cons_zero, List.getElem?_cons_succ, Option.some.injEq, V.int.injEq, V.bl.injEq, V.ref.injEq, V.str.injEq, exists_eq_left', exists_eq_left, exists_and_left, List.cons.injEq, and_true, true_and, and_assoc, exists_const, L2.start, List.map_cons, List.map_nil, List.length_cons, List.length_nil, List.replicate_succ, List.replicate_zero, List.cons_append, List.nil_append, List.append_nil, Nat.reduceAdd, Nat.reduceSub, tFor_eq, tComp_eq, tWhile_eq, tChain, tAug, ipI, rIxS, rSlS, rLower, rIndex, rPop, rCat, tBM0, gSub, rSetL, tSl, tPart, tNoPart, rSlL, tCall, tLst, tTup, iRng1, iRng2, iRng3, iList, iEnum, gTup, gCons, gNil, rIxL, rIxT, tYes, tAndV, tOrV, tNotV, tIf, tTest, exists_eq', List.ne_cons_self, reduceCtorEq, if_true, if_false, and_false, false_and]
    exact q z ns2 L sL hdL (by omega) hA
theorem scD : FnScope ["_law_script", "_law_turn", "_law_many", "_law_cells", "_law_found", "_law_left", "_law_k", "_law_at", "_law_place", "_law_number_here"] ["_law_script", "_law_turn", "_law_many"] (defScope sDraws) := ⟨rfl, rfl, rfl, by decide +kernel, rfl, by decide +kernel, by decide +kernel⟩
def invQ (H1 : Hp) (j : Nat) (ys : List V) (σ : St) (L : Hp) : Prop := ∃ (ls : List Int) (v0 : Option V), ys = ls.map V.int ∧ ls.length = j ∧ L = H1 ∧ σ = [v0]
def invU (a ce fo le : Addr) (t m : Int) (n : Nat) (H : Hp) (i : Nat) (σ : St) (L : Hp) : Prop := ∃ (ds ls : List Int) (v6 v7 v8 v9 : Option V), σ = [some (.ref a), some (.int t), some (.int m), some (.ref ce), some (.ref fo), some (.ref le), v6, v7, v8, v9] ∧ Same H L ∧
  L fo = some (.lst (ds.map V.int)) ∧ L le = some (.lst (ls.map V.int)) ∧ ds.length ≤ i ∧ ls.length = n
def invV (a ce fo : Addr) (t m : Int) (H : Hp) (i : Nat) (σ : St) (L : Hp) : Prop := ∃ (ds : List Int) (v5 v6 v7 v8 v9 : Option V), σ = [some (.ref a), some (.int t), some (.int m), some (.ref ce), some (.ref fo), v5, v6, v7, v8, v9] ∧ Same H L ∧
  L fo = some (.lst (ds.map V.int)) ∧ ds.length ≤ i
theorem ok_draws (F : Fun K "_law_draws" "_law_draws" sDraws f fd) (T : Txt mg) : FnOk P w K mg base CX0 1 f fd ["_law_script", "_law_turn", "_law_many"] (spDraws K) := by
  refine F.ok scD (fun vs H Q E h => ?_) (fun cdv A outer s H vs Q E hr h => ?_)
  · obtain ⟨a, ns, t, m, rfl, _⟩ := h
    rfl
  obtain ⟨a, ns, t, m, rfl, hS, hlen, t0, t1, m0, m1, q⟩ := h
  refine ⟨_, (pss_cons (ps_set (i := 3) scD.nd rfl (Or.inl rfl) (pe_op op_cat (pe_slice (slL K) (pv 0) po_none (po_some pe_int)) (pe_lst (pa_cons (pv 1) pa_nil))))
    (pss_cons (ps_set (i := 4) scD.nd rfl (Or.inl rfl) (pe_lst pa_nil))
    (pss_cons (ps_if (pt_cmpR op_eq (pe_op op_mod (pe_op op_fdiv (pe_ix (ixL K) (pv 3) pe_int (fun _ _ => rfl)) pe_int) pe_int) pe_int (nomark _)) (pss_cons (ps_setC (i := 5) scD.nd rfl rfl (N := ["_law_cell"]) (pick := [none]) (NX := ["_law_script", "_law_turn", "_law_many", "_law_cells", "_law_found", "_law_left", "_law_k", "_law_at", "_law_place", "_law_number_here"]) (sX := defScope sDraws) (by decide +kernel) rfl rfl rfl (pi_listK K (pv 3))
        (fun _ _ _ _ => (pg_name (i := 0) (by decide +kernel : (["_law_cell"] : List Str).Nodup) rfl (Or.inl rfl))) (fun _ _ _ _ => pifs_nil) (fun _ _ _ _ => (pe_op op_fdiv (pv 0) pe_int)))
    (pss_cons (ps_for PassesOwn.never rfl (pi_range1 rfl T.range (pa_cons (pe_op op_add (pv 1) (pv 2)) pa_nil)) (pg_name (i := 6) scD.nd rfl (Or.inl rfl))
      (pss_cons (ps_set (i := 7) scD.nd rfl (Or.inl rfl) (pe_op op_mod (pv 6) (pe_callB (lenK K) rfl T.len PySem.boot_len (pa_cons (pv 5) pa_nil))))
    (pss_cons (ps_if (pt_cmpR op_ge (pv 6) (pv 1) (nomark _)) (pss_one (ps_expr (bmK K PySem.F.plainAttrs_list PySem.F.slot_list_append PySem.F.type_list_append mt_append (pv 4) (pa_cons (pe_op op_mod (pe_ix (ixL K) (pv 5) (pv 7) (fun _ _ => rfl)) pe_int) pa_nil)))) pss_nil)
    (pss_one (ps_asg (pe_op op_fdivB (pe_ix (ixL K) (pv 5) (pv 7) (fun _ _ => rfl)) pe_int) (pg_sub (pv 5) (pv 7) set_list))))))
    (pss_one (ps_ret (pv 4))))) pss_nil)
    (pss_cons (ps_for PassesOwn.never rfl (pi_range1 rfl T.range (pa_cons (pv 2) pa_nil)) (pg_name (i := 6) scD.nd rfl (Or.inl rfl))
      (pss_cons (ps_set (i := 8) scD.nd rfl (Or.inl rfl) (pe_op op_add (pe_op op_mul (pe_op op_mul (pe_op op_add (pv 6) (pv 1)) (pe_op op_add (pv 6) (pv 1))) pe_int) pe_int))
    (pss_cons (ps_set (i := 9) scD.nd rfl (Or.inl rfl) (pe_op op_mod (pe_op op_mul (pe_op op_add (pe_op op_mod (pe_ix (ixL K) (pv 3) (pe_op op_mod (pv 6) (pe_callB (lenK K) rfl T.len PySem.boot_len (pa_cons (pv 3) pa_nil))) (fun _ _ => rfl)) pe_int) (pv 8)) pe_int) pe_int))
    (pss_cons (ps_set (i := 9) scD.nd rfl (Or.inl rfl) (pe_op op_mod (pe_op op_add (pe_op op_mul (pv 9) (pv 9)) (pe_op op_mul pe_int (pv 6))) pe_int))
    (pss_one (ps_expr (bmK K PySem.F.plainAttrs_list PySem.F.slot_list_append PySem.F.type_list_append mt_append (pv 4) (pa_cons (pe_op op_mod (pe_op op_mul (pv 9) (pv 9)) pe_int) pa_nil))))))))
    (pss_one (ps_ret (pv 4))))))), ?_⟩
  simp only [tIfS, tAnd, tOr, tNot, tB, tVar, tTest, tOp, tC, tUn, tCB, tCons, tNil, rI0, rI, rU, rNe, rEq, scal, rAppend, tBM, tDrop, tSeq, tAsg, gName, tRet, tNext, List.set_cons_zero, List.set_cons_succ, List.getElem?_cons_zero, List.getElem?_cons_succ, Option.some.injEq, V.int.injEq, V.bl.injEq, V.ref.injEq, V.str.injEq, exists_eq_left', exists_eq_left, exists_and_left, List.cons.injEq, and_true, true_and, and_assoc, exists_const, L2.start, List.map_cons, List.map_nil, List.length_cons, List.length_nil, List.replicate_succ, List.replicate_zero, List.cons_append, List.nil_append, List.append_nil, Nat.reduceAdd, Nat.reduceSub, tFor_eq, tComp_eq, tWhile_eq, tChain, tAug, ipI, rIxS, rSlS, rLower, rIndex, rPop, rCat, tBM0, gSub, rSetL, tSl, tPart, tNoPart, rSlL, tCall, tLst, tTup, iRng1, iRng2, iRng3, iList, iEnum, gTup, gCons, gNil, rIxL, rIxT, tYes, tAndV, tOrV, tNotV, tIf, tTest, exists_eq', List.ne_cons_self, reduceCtorEq, if_true, if_false, and_false, false_and]
  refine ⟨_, hS, fun p1 h1 => ⟨by decide, fun p2 h2 => ?_⟩⟩
  rw [cutV_map] at h2 ⊢
  have hcl : (cutL ns none (some 63)).length ≤ 63 := by
    unfold cutL
    rw [List.length_take, List.length_drop]
    omega
  refine ⟨_, upd_at upd_same h2, _, upd_same, ?_, fun ce hce => ⟨by decide, fun fo hfo => ?_⟩⟩
  · rw [List.length_map, List.length_singleton]
    exact small (by omega)
  have ecs : (cutL ns none (some 63)).map V.int ++ [V.int t] = (cutL ns none (some 63) ++ [t]).map V.int := by rw [List.map_append]; rfl
  rw [ecs] at hfo ⊢
  have ecl : (cutL ns none (some 63) ++ [t]).length ≤ 64 ∧ 0 < (cutL ns none (some 63) ++ [t]).length := by
    rw [List.length_append, List.length_singleton]
    omega
  generalize cutL ns none (some 63) ++ [t] = cs at hfo ecl ⊢
  obtain ⟨cl1, cl0⟩ := ecl
  have s2 : Same H (upd (upd (upd H p1 (.lst ((cutL ns none (some 63)).map V.int))) p2 (.lst [V.int t])) ce (.lst (cs.map V.int))) := (same_new h1 _).trans ((same_new h2 _).trans (same_new hce _))
  have e2 : (upd (upd (upd H p1 (.lst ((cutL ns none (some 63)).map V.int))) p2 (.lst [V.int t])) ce (.lst (cs.map V.int))) ce = some (.lst (cs.map V.int)) := upd_same
  generalize upd (upd (upd H p1 (.lst ((cutL ns none (some 63)).map V.int))) p2 (.lst [V.int t])) ce (.lst (cs.map V.int)) = H2 at hfo s2 e2 ⊢
  have fH : H fo = none := s2.free hfo
  have s23 : Same H2 (upd H2 fo (.lst [])) := same_new hfo _
  have s3 : Same H (upd H2 fo (.lst [])) := s2.trans (same_new hfo _)
  have e3 : (upd H2 fo (.lst [])) ce = some (.lst (cs.map V.int)) := (same_new hfo _) _ _ e2
  have e4 : (upd H2 fo (.lst [])) fo = some (.lst []) := upd_same
  have nce : ce ≠ fo := fun z => by subst z; rw [hfo] at e2; cases e2
  generalize upd H2 fo (.lst []) = H3 at s23 s3 e3 e4 ⊢
  obtain ⟨v0, hv0⟩ := atI_ints (ns := cs) (k := 0) (by omega) (by omega)
  refine ⟨_, SqL.of e3, _, hv0, _, rfl, ⟨by decide, by decide⟩, by decide, ite2 (fun _ => ⟨⟨_, SqL.of e3⟩, ?_⟩) (fun _ => ?_)⟩
  · refine compW_list (cs.map V.int) (invQ H3) ⟨[], none, rfl, rfl, rfl, rfl⟩ ?_ ?_ ?_
    · rintro i ys σ L hi ⟨ls, u0, rfl, hl, rfl, rfl⟩
      refine ⟨SqL.of e3, ?_⟩
      rw [List.length_map] at hi ⊢
      exact small (by omega)
    · rintro i x ys σ L hx ⟨ls, u0, rfl, hl, rfl, rfl⟩
      obtain ⟨z, rfl, _⟩ := int_of_map hx
      simp only [tIfS, tAnd, tOr, tNot, tB, tVar, tTest, tOp, tC, tUn, tCB, tCons, tNil, rI0, rI, rU, rNe, rEq, scal, rAppend, tBM, tDrop, tSeq, tAsg, gName, tRet, tNext, List.set_cons_zero, List.set_cons_succ, List.getElem?_cons_zero, List.getElem?_cons_succ, Option.some.injEq, V.int.injEq, V.bl.injEq, V.ref.injEq, V.str.injEq, exists_eq_left', exists_eq_left, exists_and_left, List.cons.injEq, and_true, true_and, and_assoc, exists_const, L2.start, List.map_cons, List.map_nil, List.length_cons, List.length_nil, List.replicate_succ, List.replicate_zero, List.cons_append, List.nil_append, List.append_nil, Nat.reduceAdd, Nat.reduceSub, tFor_eq, tComp_eq, tWhile_eq, tChain, tAug, ipI, rIxS, rSlS, rLower, rIndex, rPop, rCat, tBM0, gSub, rSetL, tSl, tPart, tNoPart, rSlL, tCall, tLst, tTup, iRng1, iRng2, iRng3, iList, iEnum, gTup, gCons, gNil, rIxL, rIxT, tYes, tAndV, tOrV, tNotV, tIf, tTest, exists_eq', List.ne_cons_self, reduceCtorEq, if_true, if_false, and_false, false_and]
      exact ⟨⟨by decide, by decide⟩, ls ++ [_], _, by rw [List.map_append]; rfl, by rw [List.length_append, hl]; rfl, rfl, rfl⟩
    · rintro ys σ L ⟨ls, u0, rfl, hl, rfl, rfl⟩ le hle
      rw [List.length_map] at hl
      refine ⟨by omega, by omega, ?_⟩
      have nfl : fo ≠ le := ne_of_none e4 hle
      have fle : H le = none := s3.free hle
      refine forW_range (lo := 0) (invU a ce fo le t m cs.length H) ⟨[], ls, none, none, none, none, rfl, s3.trans (same_new hle _), (same_new hle _) _ _ e4, upd_same, Nat.le_refl _, hl⟩ ?_ ?_
      · rintro i σ M hi ⟨ds, ls, v6, v7, v8, v9, rfl, sM, hf, hl2, hdl, hll⟩
        simp only [tIfS, tAnd, tOr, tNot, tB, tVar, tTest, tOp, tC, tUn, tCB, tCons, tNil, rI0, rI, rU, rNe, rEq, scal, rAppend, tBM, tDrop, tSeq, tAsg, gName, tRet, tNext, List.set_cons_zero, List.set_cons_succ, List.getElem?_cons_zero, List.getElem?_cons_succ, Option.some.injEq, V.int.injEq, V.bl.injEq, V.ref.injEq, V.str.injEq, exists_eq_left', exists_eq_left, exists_and_left, List.cons.injEq, and_true, true_and, and_assoc, exists_const, L2.start, List.map_cons, List.map_nil, List.length_cons, List.length_nil, List.replicate_succ, List.replicate_zero, List.cons_append, List.nil_append, List.append_nil, Nat.reduceAdd, Nat.reduceSub, tFor_eq, tComp_eq, tWhile_eq, tChain, tAug, ipI, rIxS, rSlS, rLower, rIndex, rPop, rCat, tBM0, gSub, rSetL, tSl, tPart, tNoPart, rSlL, tCall, tLst, tTup, iRng1, iRng2, iRng3, iList, iEnum, gTup, gCons, gNil, rIxL, rIxT, tYes, tAndV, tOrV, tNotV, tIf, tTest, exists_eq', List.ne_cons_self, reduceCtorEq, if_true, if_false, and_false, false_and]
        have cp : (0 : Int) < (((ls.map V.int).length : Nat) : Int) := by rw [List.length_map]; omega
        have x0 := Int.emod_nonneg (0 + (i : Int)) (show (((ls.map V.int).length : Nat) : Int) ≠ 0 by omega)
        have x1 := Int.emod_lt_of_pos (0 + (i : Int)) cp
        rw [List.length_map] at x0 x1
        obtain ⟨v, hv⟩ := atI_ints (ns := ls) x0 x1
        refine ⟨_, .inl (SqL.of hl2), cp, ?_⟩
        rw [List.length_map]
        have fin : ∀ (M' : Hp) (ds' : List Int) (v6 v7 v8 v9 : Option V), Same H M' → M' fo = some (.lst (ds'.map V.int)) → M' le = some (.lst (ls.map V.int)) → ds'.length ≤ i + 1 → ∃ x, SqL K M' le x ∧ ∃ x_1, atI x ((0 + (i : Int)) % (ls.length : Int)) = some x_1 ∧ ∃ j, x_1 = V.int j ∧ CDivB j 2147483587 ∧ ∃ y, M' le = some (.lst y) ∧ ∃ k, ixN y.length ((0 + (i : Int)) % (ls.length : Int)) = some k ∧
            invU a ce fo le t m cs.length H (i + 1) [some (.ref a), some (.int t), some (.int m), some (.ref ce), some (.ref fo), some (.ref le), v6, v7, v8, v9] (upd M' le (.lst (y.set k (.int (j / 2147483587))))) := fun M' ds' v6 v7 v8 v9 q1 q2 q3 q4 =>
          ⟨_, SqL.of q3, _, hv, _, rfl, ⟨by decide, by decide⟩, _, q3, _, ixN_of x0 (by rw [List.length_map]; exact x1), ds', ls.set _ _, _, _, _, _, rfl, q1.newer fle _, by rw [upd_ne nfl]; exact q2, by rw [upd_same, List.map_set], q4, by rw [List.length_set]; exact hll⟩
        refine ite2 (fun _ => ?_) (fun _ => ?_)
        · refine ⟨.inl ⟨rfl, _, SqL.of hf⟩, _, SqL.of hl2, _, hv, _, rfl, by decide, _, hf, small1000 (by rw [List.length_map]; omega), ?_⟩
          exact fin _ (ds ++ [_]) _ _ _ _ (sM.newer fH _) (by rw [upd_same, List.map_append]; rfl) (by rw [upd_ne nfl.symm]; exact hl2) (by rw [List.length_append, List.length_singleton]; omega)
        · exact fin _ ds _ _ _ _ sM hf hl2 (by omega)
      · rintro σ M ⟨ds, ls, v6, v7, v8, v9, rfl, sM, hf, hl2, hdl, hll⟩
        simp only [tIfS, tAnd, tOr, tNot, tB, tVar, tTest, tOp, tC, tUn, tCB, tCons, tNil, rI0, rI, rU, rNe, rEq, scal, rAppend, tBM, tDrop, tSeq, tAsg, gName, tRet, tNext, List.set_cons_zero, List.set_cons_succ, List.getElem?_cons_zero, List.getElem?_cons_succ, Option.some.injEq, V.int.injEq, V.bl.injEq, V.ref.injEq, V.str.injEq, exists_eq_left', exists_eq_left, exists_and_left, List.cons.injEq, and_true, true_and, and_assoc, exists_const, L2.start, List.map_cons, List.map_nil, List.length_cons, List.length_nil, List.replicate_succ, List.replicate_zero, List.cons_append, List.nil_append, List.append_nil, Nat.reduceAdd, Nat.reduceSub, tFor_eq, tComp_eq, tWhile_eq, tChain, tAug, ipI, rIxS, rSlS, rLower, rIndex, rPop, rCat, tBM0, gSub, rSetL, tSl, tPart, tNoPart, rSlL, tCall, tLst, tTup, iRng1, iRng2, iRng3, iList, iEnum, gTup, gCons, gNil, rIxL, rIxT, tYes, tAndV, tOrV, tNotV, tIf, tTest, exists_eq', List.ne_cons_self, reduceCtorEq, if_true, if_false, and_false, false_and]
        exact q fo ds M sM fH hf
  · refine ⟨by omega, by omega, ?_⟩
    refine forW_range (lo := 0) (invV a ce fo t m H2) ⟨[], none, none, none, none, none, rfl, s23, e4, Nat.le_refl _⟩ ?_ ?_
    · rintro i σ M hi ⟨ds, v5, v6, v7, v8, v9, rfl, sM, hf, hdl⟩
      simp only [tIfS, tAnd, tOr, tNot, tB, tVar, tTest, tOp, tC, tUn, tCB, tCons, tNil, rI0, rI, rU, rNe, rEq, scal, rAppend, tBM, tDrop, tSeq, tAsg, gName, tRet, tNext, List.set_cons_zero, List.set_cons_succ, List.getElem?_cons_zero, List.getElem?_cons_succ, Option.some.injEq, V.int.injEq, V.bl.injEq, V.ref.injEq, V.str.injEq, exists_eq_left', exists_eq_left, exists_and_left, List.cons.injEq, and_true, true_and, and_assoc, exists_const, L2.start, List.map_cons, List.map_nil, List.length_cons, List.length_nil, List.replicate_succ, List.replicate_zero, List.cons_append, List.nil_append, List.append_nil, Nat.reduceAdd, Nat.reduceSub, tFor_eq, tComp_eq, tWhile_eq, tChain, tAug, ipI, rIxS, rSlS, rLower, rIndex, rPop, rCat, tBM0, gSub, rSetL, tSl, tPart, tNoPart, rSlL, tCall, tLst, tTup, iRng1, iRng2, iRng3, iList, iEnum, gTup, gCons, gNil, rIxL, rIxT, tYes, tAndV, tOrV, tNotV, tIf, tTest, exists_eq', List.ne_cons_self, reduceCtorEq, if_true, if_false, and_false, false_and]
      have ec := sM _ _ e2
      have cp : (0 : Int) < (((cs.map V.int).length : Nat) : Int) := by rw [List.length_map]; omega
      have x0 := Int.emod_nonneg (0 + (i : Int)) (show (((cs.map V.int).length : Nat) : Int) ≠ 0 by omega)
      have x1 := Int.emod_lt_of_pos (0 + (i : Int)) cp
      obtain ⟨v, hv⟩ := atI_ints (ns := cs) x0 (by rw [List.length_map] at x1 ⊢; exact x1)
      refine ⟨.inl ⟨by omega, by omega⟩, .inr ⟨by decide, by decide⟩, _, .inl (SqL.of ec), cp, _, SqL.of ec, _, hv, _, rfl, by decide, .inr ⟨by decide, by decide⟩, by decide, cmul_mod (by decide) (by decide), .inl ⟨by decide, by decide⟩, by decide, .inl ⟨rfl, _, SqL.of hf⟩, cmul_mod (by decide) (by decide), by decide, _, hf, small1000 (by rw [List.length_map]; omega), ?_⟩
      exact ⟨ds ++ [_], _, _, _, _, _, rfl, sM.newer hfo _, by rw [upd_same, List.map_append]; rfl, by rw [List.length_append, List.length_singleton]; omega⟩
    · rintro σ M ⟨ds, v5, v6, v7, v8, v9, rfl, sM, hf, hdl⟩
      simp only [tIfS, tAnd, tOr, tNot, tB, tVar, tTest, tOp, tC, tUn, tCB, tCons, tNil, rI0, rI, rU, rNe, rEq, scal, rAppend, tBM, tDrop, tSeq, tAsg, gName, tRet, tNext, List.set_cons_zero, List.set_cons_succ, List.getElem?_cons_zero, List.getElem?_cons_succ, Option.some.injEq, V.int.injEq, V.bl.injEq, V.ref.injEq, V.str.injEq, exists_eq_left', exists_eq_left, exists_and_left, List.cons.injEq, and_true, true_and, and_assoc, exists_const, L2.start, List.map_cons, List.map_nil, List.length_cons, List.length_nil, List.replicate_succ, List.replicate_zero, List.cons_append, List.nil_append, List.append_nil, Nat.reduceAdd, Nat.reduceSub, tFor_eq, tComp_eq, tWhile_eq, tChain, tAug, ipI, rIxS, rSlS, rLower, rIndex, rPop, rCat, tBM0, gSub, rSetL, tSl, tPart, tNoPart, rSlL, tCall, tLst, tTup, iRng1, iRng2, iRng3, iList, iEnum, gTup, gCons, gNil, rIxL, rIxT, tYes, tAndV, tOrV, tNotV, tIf, tTest, exists_eq', List.ne_cons_self, reduceCtorEq, if_true, if_false, and_false, false_and]
      exact q fo ds M (s2.trans sM) fH hf
end
section
variable {P : Program} {w : World} {K : PySem.W.Frag} {mg : Str → Option Value} {base : Heap} {f : Addr} {fd : FuncData}
/-! ### alike -/
mutual
def okD : DV → Bool
  | .int _ => true
  | .str _ => true
  | .lst ds => decide (ds.length ≤ 100000) && okDs ds
  | .tup ds => decide (ds.length ≤ 100000) && okDs ds
  | .non => false
  | .bl _ => false
def okDs : List DV → Bool
  | [] => true
  | d :: ds => okD d && okDs ds
end
theorem okDs_get : ∀ {ds : List DV} {i : Nat} {d : DV}, okDs ds = true → ds[i]? = some d → okD d = true
  | [], i, d, _, e => by simp at e
  | x :: ds, 0, d, h, e => by rw [okDs, Bool.and_eq_true] at h; simp at e; subst e; exact h.1
  | x :: ds, i + 1, d, h, e => by rw [okDs, Bool.and_eq_true] at h; exact okDs_get (i := i) h.2 (by simpa using e)
theorem deps_get : ∀ {ds : List DV} {i : Nat} {d : DV}, ds[i]? = some d → dep d ≤ deps ds
  | [], i, d, e => by simp at e
  | x :: ds, 0, d, e => by simp at e; subst e; rw [deps]; exact Nat.le_max_left _ _
  | x :: ds, i + 1, d, e => by rw [deps]; exact Nat.le_trans (deps_get (i := i) (by simpa using e)) (Nat.le_max_right _ _)
def spAlike (n : Nat) : Sp := fun vs H Q _ => ∃ (x y : V) (d : DV), vs = [x, y] ∧ DeepT H d x ∧ DeepT H d y ∧ okD d = true ∧ dep d < n ∧ Q (.bl true) H
theorem none_alike : FnOk P w K mg base CX0 0 f fd ["_law_found", "_law_due"] (spAlike 0) := by
  have no : ∀ vs H Q E, ¬ spAlike 0 vs H Q E := fun vs H Q E h => by
    obtain ⟨x, y, d, _, _, _, _, h1, _⟩ := h
    omega
  exact ⟨fun vs H Q E h => absurd h (no vs H Q E), fun A outer s H args us vs Q E _ _ _ _ h => absurd h (no vs H Q E)⟩
theorem scA : FnScope ["_law_found", "_law_due", "_law_k"] ["_law_found", "_law_due"] (defScope sAlike) := ⟨rfl, rfl, rfl, by decide +kernel, rfl, by decide +kernel, by decide +kernel⟩
def invA (a b : Addr) (H : Hp) (_ : Nat) (σ : St) (L : Hp) : Prop := ∃ v2 : Option V, σ = [some (.ref a), some (.ref b), v2] ∧ L = H
theorem ok_alike {n : Nat} (F : Fun K "_law_alike" "_law_alike" sAlike f fd) (T : Txt mg) (GA : FnOk P w K mg base CX0 n f fd ["_law_found", "_law_due"] (spAlike n)) (bA : Binds K fd ["_law_found", "_law_due"] []) (kA : PySem.W.keepIn K (.ref f) = true) (mA : mg "_law_alike" = some (.ref f)) :
    FnOk P w K mg base CX0 (n + 1) f fd ["_law_found", "_law_due"] (spAlike (n + 1)) := by
  refine F.ok scA (fun vs H Q E h => ?_) (fun cdv A outer s H vs Q E hr h => ?_)
  · obtain ⟨x, y, d, rfl, _⟩ := h
    rfl
  obtain ⟨x, y, d, rfl, hx, hy, hk, hdp, q⟩ := h
  refine ⟨_, (pss_cons (ps_if (pt_val (pe_callB (call_isi K) rfl T.isinstance (by decide +kernel) (pa_cons (pv 1) (pa_cons (pe_bltn (v := .ty "str") rfl T.str (by decide +kernel) rfl) pa_nil)))) (pss_one (ps_ret (pe_and (pe_callB (call_isi K) rfl T.isinstance (by decide +kernel) (pa_cons (pv 0) (pa_cons (pe_bltn (v := .ty "str") rfl T.str (by decide +kernel) rfl) pa_nil))) (pe_one (pe_cmpR op_eq (pv 0) (pv 1) (nomark _)))))) pss_nil)
    (pss_cons (ps_if (pt_val (pe_callB (call_isi K) rfl T.isinstance (by decide +kernel) (pa_cons (pv 1) (pa_cons (pe_bltn (v := .ty "int") rfl T.int (by decide +kernel) rfl) pa_nil)))) (pss_one (ps_ret (pe_and (pe_callB (call_isi K) rfl T.isinstance (by decide +kernel) (pa_cons (pv 0) (pa_cons (pe_bltn (v := .ty "int") rfl T.int (by decide +kernel) rfl) pa_nil))) (pe_and (pe_not (pe_callB (call_isi K) rfl T.isinstance (by decide +kernel) (pa_cons (pv 0) (pa_cons (pe_bltn (v := .ty "bool") rfl T.bool (by decide +kernel) rfl) pa_nil)))) (pe_one (pe_cmpR op_eq (pv 0) (pv 1) (nomark _))))))) pss_nil)
    (pss_cons (ps_if (pt_val (pe_callB (call_isi K) rfl T.isinstance (by decide +kernel) (pa_cons (pv 1) (pa_cons (pe_bltn (v := .ty "list") rfl T.list (by decide +kernel) rfl) pa_nil)))) (pss_one (ps_if (pt_not (pt_val (pe_callB (call_isi K) rfl T.isinstance (by decide +kernel) (pa_cons (pv 0) (pa_cons (pe_bltn (v := .ty "list") rfl T.list (by decide +kernel) rfl) pa_nil))))) (pss_one (ps_ret pe_bl)) pss_nil)) (pss_one (ps_if (pt_not (pt_val (pe_callB (call_isi K) rfl T.isinstance (by decide +kernel) (pa_cons (pv 0) (pa_cons (pe_bltn (v := .ty "tuple") rfl T.tuple (by decide +kernel) rfl) pa_nil))))) (pss_one (ps_ret pe_bl)) pss_nil)))
    (pss_cons (ps_if (pt_cmpR op_ne (pe_callB (lenK K) rfl T.len PySem.boot_len (pa_cons (pv 0) pa_nil)) (pe_callB (lenK K) rfl T.len PySem.boot_len (pa_cons (pv 1) pa_nil)) (nomark _)) (pss_one (ps_ret pe_bl)) pss_nil)
    (pss_cons (ps_for PassesOwn.never rfl (pi_range1 rfl T.range (pa_cons (pe_callB (lenK K) rfl T.len PySem.boot_len (pa_cons (pv 1) pa_nil)) pa_nil)) (pg_name (i := 2) scA.nd rfl (Or.inl rfl))
      (pss_one (ps_if (pt_not (pt_val (pe_call GA hr rfl mA kA bA .nil pass0 (pa_cons (pe_ix ((ixL K).or (ixT K)) (pv 0) (pv 2) (fun _ _ => rfl)) (pa_cons (pe_ix ((ixL K).or (ixT K)) (pv 1) (pv 2) (fun _ _ => rfl)) pa_nil))))) (pss_one (ps_ret pe_bl)) pss_nil)))
    (pss_one (ps_ret pe_bl))))))), ?_⟩
  simp only [tIfS, tAnd, tOr, tNot, tB, tVar, tTest, tOp, tC, tUn, tCB, tCons, tNil, rI0, rI, rU, rNe, rEq, scal, rAppend, tBM, tDrop, tSeq, tAsg, gName, tRet, tNext, List.set_cons_zero, List.set_cons_succ, List.getElem?_cons_zero, List.getElem?_cons_succ, Option.some.injEq, V.int.injEq, V.bl.injEq, V.ref.injEq, V.str.injEq, exists_eq_left', exists_eq_left, exists_and_left, List.cons.injEq, and_true, true_and, and_assoc, exists_const, L2.start, List.map_cons, List.map_nil, List.length_cons, List.length_nil, List.replicate_succ, List.replicate_zero, List.cons_append, List.nil_append, List.append_nil, Nat.reduceAdd, Nat.reduceSub, tFor_eq, tComp_eq, tWhile_eq, tChain, tAug, ipI, rIxS, rSlS, rLower, rIndex, rPop, rCat, tBM0, gSub, rSetL, tSl, tPart, tNoPart, rSlL, tCall, tLst, tTup, iRng1, iRng2, iRng3, iList, iEnum, gTup, gCons, gNil, rIxL, rIxT, tYes, tAndV, tOrV, tNotV, tIf, tTest, exists_eq', List.ne_cons_self, reduceCtorEq, if_true, if_false, and_false, false_and, V.ty.injEq]
  cases d with
  | non => simp [okD] at hk
  | bl b => simp [okD] at hk
  | int i =>
    rw [DeepT] at hx hy
    subst hx hy
    refine ⟨_, .int i, false, rfl, iteF ⟨_, .int i, true, rfl, iteT ⟨_, .int i, true, rfl, iteT ⟨_, .int i, false, rfl, iteT ⟨rfl, ?_⟩⟩⟩⟩⟩
    rw [decide_eq_true rfl]
    exact q
  | str z =>
    rw [DeepT] at hx hy
    subst hx hy
    refine ⟨_, .str z, true, rfl, iteT ⟨_, .str z, true, rfl, iteT ⟨rfl, ?_⟩⟩⟩
    rw [decide_eq_true rfl]
    exact q
  | lst ds =>
    rw [DeepT] at hx hy
    obtain ⟨a, xs, rfl, ha, hxs⟩ := hx
    obtain ⟨b, ys, rfl, hb, hys⟩ := hy
    have el : xs.length = ys.length := hxs.length.trans hys.length.symm
    rw [okD, Bool.and_eq_true] at hk
    have hk' : okDs ds = true := hk.2
    have hsz0 := of_decide_eq_true hk.1
    have hdp' : deps ds + 1 < n + 1 := by rw [dep] at hdp; exact hdp
    have hsz := hys.length
    refine ⟨_, .lst hb, false, rfl, iteF ⟨_, .lst hb, false, rfl, iteF ⟨_, .lst hb, true, rfl, iteT ⟨_, .lst ha, true, rfl, iteF ?_⟩⟩⟩⟩
    refine ⟨a, rfl, xs, .inl (SqL.of ha), b, rfl, ys, .inl (SqL.of hb), ?_⟩
    rw [el]
    refine iteNS rfl ?_
    refine ⟨b, rfl, ys, .inl (SqL.of hb), by omega, by omega, ?_⟩
    refine forW_range (lo := 0) (n := ((ys.length : Nat) : Int).toNat) (invA a b H) ⟨none, rfl, rfl⟩ ?_ ?_
    · rintro i σ L hi ⟨v2, rfl, rfl⟩
      have hi' : i < ys.length := by omega
      have gx := hxs.get (i := i) (List.getElem?_eq_getElem (by omega))
      have gy := hys.get (i := i) (List.getElem?_eq_getElem hi')
      obtain ⟨d1, e1, hd1⟩ := gx
      obtain ⟨d2, e2, hd2⟩ := gy
      rw [e1] at e2
      cases e2
      simp only [tIfS, tAnd, tOr, tNot, tB, tVar, tTest, tOp, tC, tUn, tCB, tCons, tNil, rI0, rI, rU, rNe, rEq, scal, rAppend, tBM, tDrop, tSeq, tAsg, gName, tRet, tNext, List.set_cons_zero, List.set_cons_succ, List.getElem?_cons_zero, List.getElem?_cons_succ, Option.some.injEq, V.int.injEq, V.bl.injEq, V.ref.injEq, V.str.injEq, exists_eq_left', exists_eq_left, exists_and_left, List.cons.injEq, and_true, true_and, and_assoc, exists_const, L2.start, List.map_cons, List.map_nil, List.length_cons, List.length_nil, List.replicate_succ, List.replicate_zero, List.cons_append, List.nil_append, List.append_nil, Nat.reduceAdd, Nat.reduceSub, tFor_eq, tComp_eq, tWhile_eq, tChain, tAug, ipI, rIxS, rSlS, rLower, rIndex, rPop, rCat, tBM0, gSub, rSetL, tSl, tPart, tNoPart, rSlL, tCall, tLst, tTup, iRng1, iRng2, iRng3, iList, iEnum, gTup, gCons, gNil, rIxL, rIxT, tYes, tAndV, tOrV, tNotV, tIf, tTest, exists_eq', List.ne_cons_self, reduceCtorEq, if_true, if_false, and_false, false_and, spAlike]
      have e0 : (0 : Int) + (i : Int) = ((i : Nat) : Int) := by omega
      have ax : atI xs (0 + (i : Int)) = some xs[i] := by rw [e0]; exact atI_nat (List.getElem?_eq_getElem (by omega))
      have ay : atI ys (0 + (i : Int)) = some ys[i] := by rw [e0]; exact atI_nat (List.getElem?_eq_getElem hi')
      exact .inl ⟨xs, SqL.of ha, _, ax, .inl ⟨ys, SqL.of hb, _, ay, d1, hd1, hd2, okDs_get hk' e1, Nat.lt_of_le_of_lt (deps_get e1) (by omega), iteF ⟨_, rfl, rfl⟩⟩⟩
    · rintro σ L ⟨v2, rfl, rfl⟩
      simp only [tIfS, tAnd, tOr, tNot, tB, tVar, tTest, tOp, tC, tUn, tCB, tCons, tNil, rI0, rI, rU, rNe, rEq, scal, rAppend, tBM, tDrop, tSeq, tAsg, gName, tRet, tNext, List.set_cons_zero, List.set_cons_succ, List.getElem?_cons_zero, List.getElem?_cons_succ, Option.some.injEq, V.int.injEq, V.bl.injEq, V.ref.injEq, V.str.injEq, exists_eq_left', exists_eq_left, exists_and_left, List.cons.injEq, and_true, true_and, and_assoc, exists_const, L2.start, List.map_cons, List.map_nil, List.length_cons, List.length_nil, List.replicate_succ, List.replicate_zero, List.cons_append, List.nil_append, List.append_nil, Nat.reduceAdd, Nat.reduceSub, tFor_eq, tComp_eq, tWhile_eq, tChain, tAug, ipI, rIxS, rSlS, rLower, rIndex, rPop, rCat, tBM0, gSub, rSetL, tSl, tPart, tNoPart, rSlL, tCall, tLst, tTup, iRng1, iRng2, iRng3, iList, iEnum, gTup, gCons, gNil, rIxL, rIxT, tYes, tAndV, tOrV, tNotV, tIf, tTest, exists_eq', List.ne_cons_self, reduceCtorEq, if_true, if_false, and_false, false_and]
      exact q
  | tup ds =>
    rw [DeepT] at hx hy
    obtain ⟨a, xs, rfl, ha, hxs⟩ := hx
    obtain ⟨b, ys, rfl, hb, hys⟩ := hy
    have el : xs.length = ys.length := hxs.length.trans hys.length.symm
    rw [okD, Bool.and_eq_true] at hk
    have hk' : okDs ds = true := hk.2
    have hsz0 := of_decide_eq_true hk.1
    have hdp' : deps ds + 1 < n + 1 := by rw [dep] at hdp; exact hdp
    have hsz := hys.length
    refine ⟨_, .tup hb, false, rfl, iteF ⟨_, .tup hb, false, rfl, iteF ⟨_, .tup hb, false, rfl, iteF ⟨_, .tup ha, true, rfl, iteF ?_⟩⟩⟩⟩
    refine ⟨a, rfl, xs, .inr (SqT.of ha), b, rfl, ys, .inr (SqT.of hb), ?_⟩
    rw [el]
    refine iteNS rfl ?_
    refine ⟨b, rfl, ys, .inr (SqT.of hb), by omega, by omega, ?_⟩
    refine forW_range (lo := 0) (n := ((ys.length : Nat) : Int).toNat) (invA a b H) ⟨none, rfl, rfl⟩ ?_ ?_
    · rintro i σ L hi ⟨v2, rfl, rfl⟩
      have hi' : i < ys.length := by omega
      have gx := hxs.get (i := i) (List.getElem?_eq_getElem (by omega))
      have gy := hys.get (i := i) (List.getElem?_eq_getElem hi')
      obtain ⟨d1, e1, hd1⟩ := gx
      obtain ⟨d2, e2, hd2⟩ := gy
      rw [e1] at e2
      cases e2
      simp only [tIfS, tAnd, tOr, tNot, tB, tVar, tTest, tOp, tC, tUn, tCB, tCons, tNil, rI0, rI, rU, rNe, rEq, scal, rAppend, tBM, tDrop, tSeq, tAsg, gName, tRet, tNext, List.set_cons_zero, List.set_cons_succ, List.getElem?_cons_zero, List.getElem?_cons_succ, Option.some.injEq, V.int.injEq, V.bl.injEq, V.ref.injEq, V.str.injEq, exists_eq_left', exists_eq_left, exists_and_left, List.cons.injEq, and_true, true_and, and_assoc, exists_const, L2.start, List.map_cons, List.map_nil, List.length_cons, List.length_nil, List.replicate_succ, List.replicate_zero, List.cons_append, List.nil_append, List.append_nil, Nat.reduceAdd, Nat.reduceSub, tFor_eq, tComp_eq, tWhile_eq, tChain, tAug, ipI, rIxS, rSlS, rLower, rIndex, rPop, rCat, tBM0, gSub, rSetL, tSl, tPart, tNoPart, rSlL, tCall, tLst, tTup, iRng1, iRng2, iRng3, iList, iEnum, gTup, gCons, gNil, rIxL, rIxT, tYes, tAndV, tOrV, tNotV, tIf, tTest, exists_eq', List.ne_cons_self, reduceCtorEq, if_true, if_false, and_false, false_and, spAlike]
      have e0 : (0 : Int) + (i : Int) = ((i : Nat) : Int) := by omega
      have ax : atI xs (0 + (i : Int)) = some xs[i] := by rw [e0]; exact atI_nat (List.getElem?_eq_getElem (by omega))
      have ay : atI ys (0 + (i : Int)) = some ys[i] := by rw [e0]; exact atI_nat (List.getElem?_eq_getElem hi')
      exact .inr ⟨xs, SqT.of ha, _, ax, .inr ⟨ys, SqT.of hb, _, ay, d1, hd1, hd2, okDs_get hk' e1, Nat.lt_of_le_of_lt (deps_get e1) (by omega), iteF ⟨_, rfl, rfl⟩⟩⟩
    · rintro σ L ⟨v2, rfl, rfl⟩
      simp only [tIfS, tAnd, tOr, tNot, tB, tVar, tTest, tOp, tC, tUn, tCB, tCons, tNil, rI0, rI, rU, rNe, rEq, scal, rAppend, tBM, tDrop, tSeq, tAsg, gName, tRet, tNext, List.set_cons_zero, List.set_cons_succ, List.getElem?_cons_zero, List.getElem?_cons_succ, Option.some.injEq, V.int.injEq, V.bl.injEq, V.ref.injEq, V.str.injEq, exists_eq_left', exists_eq_left, exists_and_left, List.cons.injEq, and_true, true_and, and_assoc, exists_const, L2.start, List.map_cons, List.map_nil, List.length_cons, List.length_nil, List.replicate_succ, List.replicate_zero, List.cons_append, List.nil_append, List.append_nil, Nat.reduceAdd, Nat.reduceSub, tFor_eq, tComp_eq, tWhile_eq, tChain, tAug, ipI, rIxS, rSlS, rLower, rIndex, rPop, rCat, tBM0, gSub, rSetL, tSl, tPart, tNoPart, rSlL, tCall, tLst, tTup, iRng1, iRng2, iRng3, iList, iEnum, gTup, gCons, gNil, rIxL, rIxT, tYes, tAndV, tOrV, tNotV, tIf, tTest, exists_eq', List.ne_cons_self, reduceCtorEq, if_true, if_false, and_false, false_and]
      exact q
theorem alikes (F : Fun K "_law_alike" "_law_alike" sAlike f fd) (T : Txt mg) (bA : Binds K fd ["_law_found", "_law_due"] []) (kA : PySem.W.keepIn K (.ref f) = true) (mA : mg "_law_alike" = some (.ref f)) : ∀ n : Nat, FnOk P w K mg base CX0 n f fd ["_law_found", "_law_due"] (spAlike n)
  | 0 => none_alike
  | n + 1 => ok_alike F T (alikes F T bA kA mA n) bA kA mA
end
/-! ### bytes of numbers -/
theorem big9 {n : Nat} (h : n ≤ 9000) : n < sizeLine := by
  have := sizeLine_eq
  omega
def spNB : Sp := fun vs H Q _ => ∃ n : Nat, vs = [.int n] ∧ (nb n).length ≤ 9000 ∧ ∀ p, H p = none → Q (.ref p) (upd H p (.lst ((nb n).map V.int)))
section
variable {P : Program} {w : World} {K : PySem.W.Frag} {mg : Str → Option Value} {base : Heap} {f : Addr} {fd : FuncData}
theorem scNB : FnScope ["number", "row", "rest"] ["number"] (defScope sNB) := ⟨rfl, rfl, rfl, by decide +kernel, rfl, by decide +kernel, by decide +kernel⟩
def wNB (H : Hp) (n : Nat) (p : Addr) (m : Nat) (σ : St) (L : Hp) : Prop := ∃ (r : Nat) (ms : List Int), m = r ∧ σ = [some (.int n), some (.ref p), some (.int r)] ∧ L = upd H p (.lst (ms.map V.int)) ∧ ms ++ nb r = nb n
theorem ok_nb (F : Fun K "number_bytes" "number_bytes" sNB f fd) (T : Txt mg) : FnOk P w K mg base CX0 1 f fd ["number"] spNB := by
  refine F.ok scNB (fun vs H Q E h => ?_) (fun cdv A outer s H vs Q E hr h => ?_)
  · obtain ⟨n, rfl, _⟩ := h
    rfl
  obtain ⟨n, rfl, hn, q⟩ := h
  obtain ⟨tP, hP⟩ := T.part
  refine ⟨_, (pss_cons (ps_set (i := 1) scNB.nd rfl (Or.inl rfl) (pe_lst pa_nil))
    (pss_cons (ps_set (i := 2) scNB.nd rfl (Or.inl rfl) (pv 0))
    (pss_cons (ps_while PassesOwn.never (pt_cmpR op_ge (pv 2) (pe_gint rfl hP) (nomark _))
      (pss_cons (ps_expr (bmK K PySem.F.plainAttrs_list PySem.F.slot_list_append PySem.F.type_list_append mt_append (pv 1) (pa_cons (pe_op op_add (pe_op op_mod (pv 2) (pe_gint rfl hP)) (pe_gint rfl hP)) pa_nil)))
    (pss_one (ps_set (i := 2) scNB.nd rfl (Or.inl rfl) (pe_op op_fdiv (pv 2) (pe_gint rfl hP))))))
    (pss_cons (ps_expr (bmK K PySem.F.plainAttrs_list PySem.F.slot_list_append PySem.F.type_list_append mt_append (pv 1) (pa_cons (pv 2) pa_nil)))
    (pss_one (ps_ret (pv 1))))))), ?_⟩
  simp only [tIfS, tAnd, tOr, tNot, tB, tVar, tTest, tOp, tC, tUn, tCB, tCons, tNil, rI0, rI, rU, rNe, rEq, scal, rAppend, tBM, tDrop, tSeq, tAsg, gName, tRet, tNext, List.set_cons_zero, List.set_cons_succ, List.getElem?_cons_zero, List.getElem?_cons_succ, Option.some.injEq, V.int.injEq, V.bl.injEq, V.ref.injEq, V.str.injEq, exists_eq_left', exists_eq_left, exists_and_left, List.cons.injEq, and_true, true_and, and_assoc, exists_const, L2.start, List.map_cons, List.map_nil, List.length_cons, List.length_nil, List.replicate_succ, List.replicate_zero, List.cons_append, List.nil_append, List.append_nil, Nat.reduceAdd, Nat.reduceSub, tFor_eq, tComp_eq, tWhile_eq, tChain, tAug, ipI, rIxS, rSlS, rLower, rIndex, rPop, rCat, tBM0, gSub, rSetL, tSl, tPart, tNoPart, rSlL, tCall, tLst, tTup, iRng1, iRng2, iRng3, iList, iEnum, gTup, gCons, gNil, rIxL, rIxT, tYes, tAndV, tOrV, tNotV, tIf, tTest, exists_eq', List.ne_cons_self, reduceCtorEq, if_true, if_false, and_false, false_and]
  refine ⟨by decide, fun p hp => ⟨wNB H n p, ⟨n, n, [], rfl, rfl, rfl, rfl⟩, ?_⟩⟩
  rintro m σ L ⟨r, ms, rfl, rfl, rfl, e⟩
  have hl : ms.length ≤ 9000 := by
    have := hn
    rw [← e, List.length_append] at this
    omega
  simp only [tIfS, tAnd, tOr, tNot, tB, tVar, tTest, tOp, tC, tUn, tCB, tCons, tNil, rI0, rI, rU, rNe, rEq, scal, rAppend, tBM, tDrop, tSeq, tAsg, gName, tRet, tNext, List.set_cons_zero, List.set_cons_succ, List.getElem?_cons_zero, List.getElem?_cons_succ, Option.some.injEq, V.int.injEq, V.bl.injEq, V.ref.injEq, V.str.injEq, exists_eq_left', exists_eq_left, exists_and_left, List.cons.injEq, and_true, true_and, and_assoc, exists_const, L2.start, List.map_cons, List.map_nil, List.length_cons, List.length_nil, List.replicate_succ, List.replicate_zero, List.cons_append, List.nil_append, List.append_nil, Nat.reduceAdd, Nat.reduceSub, tFor_eq, tComp_eq, tWhile_eq, tChain, tAug, ipI, rIxS, rSlS, rLower, rIndex, rPop, rCat, tBM0, gSub, rSetL, tSl, tPart, tNoPart, rSlL, tCall, tLst, tTup, iRng1, iRng2, iRng3, iList, iEnum, gTup, gCons, gNil, rIxL, rIxT, tYes, tAndV, tOrV, tNotV, tIf, tTest, exists_eq', List.ne_cons_self, reduceCtorEq, if_true, if_false, and_false, false_and]
  refine ite2 (fun c => ?_) (fun c => ?_)
  · have c' : 128 ≤ m := by have := of_decide_eq_true c; omega
    refine ⟨fun σ' H' => ∃ m', m' < m ∧ wNB H n p m' σ' H', fun _ _ h => h, ?_⟩
    refine ⟨.inl ⟨rfl, _, SqL.of upd_same⟩, by decide, _, upd_same, big9 (by rw [List.length_map]; omega), ⟨by decide, by decide⟩, ?_⟩
    refine ⟨m / 128, by omega, m / 128, ms ++ [((m % 128 + 128 : Nat) : Int)], rfl, ?_, ?_, ?_⟩
    · simp
    · rw [upd_upd, List.map_append]
      congr 3
    · rw [← e, nb_ge c', List.append_assoc]
      rfl
  · have c' : m < 128 := by simp at c; omega
    refine ⟨.inl ⟨rfl, _, SqL.of upd_same⟩, _, upd_same, big9 (by rw [List.length_map]; omega), ?_⟩
    rw [upd_upd]
    rw [nb_lt c'] at e
    rw [show ms.map V.int ++ [V.int (m : Int)] = (nb n).map V.int by rw [← e, List.map_append]; rfl]
    exact q p hp
end
section
variable {P : Program} {w : World} {K : PySem.W.Frag} {mg : Str → Option Value} {base : Heap} {f : Addr} {fd : FuncData}
theorem scLNB : FnScope ["_law_number_here", "_law_found"] ["_law_number_here"] (defScope sLNB) := ⟨rfl, rfl, rfl, by decide +kernel, rfl, by decide +kernel, by decide +kernel⟩
def wLNB (H : Hp) (n : Nat) (p : Addr) (m : Nat) (σ : St) (L : Hp) : Prop := ∃ (r : Nat) (ms : List Int), m = r ∧ σ = [some (.int r), some (.ref p)] ∧ L = upd H p (.lst (ms.map V.int)) ∧ ms ++ nb r = nb n
theorem ok_lnb (F : Fun K "_law_number_bytes" "_law_number_bytes" sLNB f fd) (T : Txt mg) : FnOk P w K mg base CX0 1 f fd ["_law_number_here"] spNB := by
  refine F.ok scLNB (fun vs H Q E h => ?_) (fun cdv A outer s H vs Q E hr h => ?_)
  · obtain ⟨n, rfl, _⟩ := h
    rfl
  obtain ⟨n, rfl, hn, q⟩ := h
  refine ⟨_, (pss_cons (ps_set (i := 1) scLNB.nd rfl (Or.inl rfl) (pe_lst pa_nil))
    (pss_cons (ps_while PassesOwn.never (pt_cmpR op_gt (pv 0) pe_int (nomark _))
      (pss_cons (ps_expr (bmK K PySem.F.plainAttrs_list PySem.F.slot_list_append PySem.F.type_list_append mt_append (pv 1) (pa_cons (pe_op op_add pe_int (pe_op op_mod (pv 0) pe_int)) pa_nil)))
    (pss_one (ps_set (i := 0) scLNB.nd rfl (Or.inl rfl) (pe_op op_fdiv (pv 0) pe_int)))))
    (pss_cons (ps_expr (bmK K PySem.F.plainAttrs_list PySem.F.slot_list_append PySem.F.type_list_append mt_append (pv 1) (pa_cons (pv 0) pa_nil)))
    (pss_one (ps_ret (pv 1)))))), ?_⟩
  simp only [tIfS, tAnd, tOr, tNot, tB, tVar, tTest, tOp, tC, tUn, tCB, tCons, tNil, rI0, rI, rU, rNe, rEq, scal, rAppend, tBM, tDrop, tSeq, tAsg, gName, tRet, tNext, List.set_cons_zero, List.set_cons_succ, List.getElem?_cons_zero, List.getElem?_cons_succ, Option.some.injEq, V.int.injEq, V.bl.injEq, V.ref.injEq, V.str.injEq, exists_eq_left', exists_eq_left, exists_and_left, List.cons.injEq, and_true, true_and, and_assoc, exists_const, L2.start, List.map_cons, List.map_nil, List.length_cons, List.length_nil, List.replicate_succ, List.replicate_zero, List.cons_append, List.nil_append, List.append_nil, Nat.reduceAdd, Nat.reduceSub, tFor_eq, tComp_eq, tWhile_eq, tChain, tAug, ipI, rIxS, rSlS, rLower, rIndex, rPop, rCat, tBM0, gSub, rSetL, tSl, tPart, tNoPart, rSlL, tCall, tLst, tTup, iRng1, iRng2, iRng3, iList, iEnum, gTup, gCons, gNil, rIxL, rIxT, tYes, tAndV, tOrV, tNotV, tIf, tTest, exists_eq', List.ne_cons_self, reduceCtorEq, if_true, if_false, and_false, false_and]
  refine ⟨by decide, fun p hp => ⟨wLNB H n p, ⟨n, n, [], rfl, rfl, rfl, rfl⟩, ?_⟩⟩
  rintro m σ L ⟨r, ms, rfl, rfl, rfl, e⟩
  have hl : ms.length ≤ 9000 := by
    have := hn
    rw [← e, List.length_append] at this
    omega
  simp only [tIfS, tAnd, tOr, tNot, tB, tVar, tTest, tOp, tC, tUn, tCB, tCons, tNil, rI0, rI, rU, rNe, rEq, scal, rAppend, tBM, tDrop, tSeq, tAsg, gName, tRet, tNext, List.set_cons_zero, List.set_cons_succ, List.getElem?_cons_zero, List.getElem?_cons_succ, Option.some.injEq, V.int.injEq, V.bl.injEq, V.ref.injEq, V.str.injEq, exists_eq_left', exists_eq_left, exists_and_left, List.cons.injEq, and_true, true_and, and_assoc, exists_const, L2.start, List.map_cons, List.map_nil, List.length_cons, List.length_nil, List.replicate_succ, List.replicate_zero, List.cons_append, List.nil_append, List.append_nil, Nat.reduceAdd, Nat.reduceSub, tFor_eq, tComp_eq, tWhile_eq, tChain, tAug, ipI, rIxS, rSlS, rLower, rIndex, rPop, rCat, tBM0, gSub, rSetL, tSl, tPart, tNoPart, rSlL, tCall, tLst, tTup, iRng1, iRng2, iRng3, iList, iEnum, gTup, gCons, gNil, rIxL, rIxT, tYes, tAndV, tOrV, tNotV, tIf, tTest, exists_eq', List.ne_cons_self, reduceCtorEq, if_true, if_false, and_false, false_and]
  refine ite2 (fun c => ?_) (fun c => ?_)
  · have c' : 128 ≤ m := by have := of_decide_eq_true c; omega
    refine ⟨fun σ' H' => ∃ m', m' < m ∧ wLNB H n p m' σ' H', fun _ _ h => h, ?_⟩
    refine ⟨.inl ⟨rfl, _, SqL.of upd_same⟩, by decide, _, upd_same, big9 (by rw [List.length_map]; omega), ⟨by decide, by decide⟩, ?_⟩
    refine ⟨m / 128, by omega, m / 128, ms ++ [((m % 128 + 128 : Nat) : Int)], rfl, ?_, ?_, ?_⟩
    · simp
    · rw [upd_upd, List.map_append]
      congr 3
      simp
      omega
    · rw [← e, nb_ge c', List.append_assoc]
      rfl
  · have c' : m < 128 := by simp at c; omega
    refine ⟨.inl ⟨rfl, _, SqL.of upd_same⟩, _, upd_same, big9 (by rw [List.length_map]; omega), ?_⟩
    rw [upd_upd]
    rw [nb_lt c'] at e
    rw [show ms.map V.int ++ [V.int (m : Int)] = (nb n).map V.int by rw [← e, List.map_append]; rfl]
    exact q p hp
end
end K13

namespace K13
open PySem L2 KB
/-! ### bytes of rows of numbers, postings, texts -/
abbrev zI (l : List Nat) : List Int := List.map (fun n : Nat => (n : Int)) l
def dvP (x : Pst) : DV := .tup [.int x.1, .lst ((zI x.2).map DV.int)]
theorem size_ok {n : Nat} (h : n ≤ 100000) : n ≤ sizeLine := by
  have := sizeLine_eq
  omega
theorem nb_len40 {n : Nat} (h : n < 128 ^ 40) : (nb n).length ≤ 40 := nb_len 39 n h
theorem lt40 {n : Nat} (h : n ≤ 9000) : n < 128 ^ 40 := Nat.lt_of_le_of_lt h (by decide)
def spRB : Sp := fun vs H Q _ => ∃ (l : Addr) (xs : List Nat), vs = [.ref l] ∧ H l = some (.lst ((zI xs).map V.int)) ∧ Ris 0 xs ∧ (nb xs.length ++ rise 0 xs).length ≤ 9000 ∧
  ∀ p H', Same H H' → H p = none → H' p = some (.lst ((nb xs.length ++ rise 0 xs).map V.int)) → Q (.ref p) H'
def spPB : Sp := fun vs H Q _ => ∃ (l : Addr) (ys : List V) (ps : List Pst), vs = [.ref l] ∧ H l = some (.lst ys) ∧ DeepTs H (ps.map dvP) ys ∧ PGood ps ∧ (pbytes ps).length ≤ 9000 ∧
  ∀ p H', Same H H' → H p = none → H' p = some (.lst ((pbytes ps).map V.int)) → Q (.ref p) H'
def spTB : Sp := fun vs H Q _ => ∃ z : Str, vs = [.str z] ∧ z.length ≤ 8000 ∧ Asc z ∧
  ∀ p H', Same H H' → H p = none → H' p = some (.lst ((tbytes z.cps.toList).map V.int)) → Q (.ref p) H'
section
variable {P : Program} {w : World} {K : PySem.W.Frag} {mg : Str → Option Value} {base : Heap} {f : Addr} {fd : FuncData}
theorem scRB : FnScope ["numbers", "row", "ahead", "number"] ["numbers"] (defScope sRB) := ⟨rfl, rfl, rfl, by decide +kernel, rfl, by decide +kernel, by decide +kernel⟩
def invRB (l p : Addr) (xs : List Nat) (H : Hp) (i : Nat) (σ : St) (L : Hp) : Prop := ∃ v3 : Option V, σ = [some (.ref l), some (.ref p), some (.int ((xs.take i).getLastD 0 : Nat)), v3] ∧ Same H L ∧ L p = some (.lst ((nb xs.length ++ rise 0 (xs.take i)).map V.int))
theorem ok_rb {g : Addr} {gd : FuncData} (F : Fun K "rising_bytes" "rising_bytes" sRB f fd) (T : Txt mg) (GB : FnOk P w K mg base CX0 1 g gd ["number"] spNB) (bB : Binds K gd ["number"] []) (kB : PySem.W.keepIn K (.ref g) = true) (mB : mg "number_bytes" = some (.ref g)) : FnOk P w K mg base CX0 2 f fd ["numbers"] spRB := by
  refine F.ok scRB (fun vs H Q E h => ?_) (fun cdv A outer s H vs Q E hr h => ?_)
  · obtain ⟨l, xs, rfl, _⟩ := h
    rfl
  obtain ⟨l, xs, rfl, hl, hx2, htot, q⟩ := h
  rw [List.length_append] at htot
  refine ⟨_, (pss_cons (ps_set (i := 1) scRB.nd rfl (Or.inl rfl) (pe_call GB hr rfl mB kB bB .nil pass0 (pa_cons (pe_callB (lenK K) rfl T.len PySem.boot_len (pa_cons (pv 0) pa_nil)) pa_nil)))
    (pss_cons (ps_set (i := 2) scRB.nd rfl (Or.inl rfl) pe_int)
    (pss_cons (ps_for PassesOwn.never rfl (pi_listK K (pv 0)) (pg_name (i := 3) scRB.nd rfl (Or.inl rfl))
      (pss_cons (ps_expr (bmK K PySem.F.plainAttrs_list PySem.F.slot_list_extend PySem.F.type_list_extend mt_extend (pv 1) (pa_cons (pe_call GB hr rfl mB kB bB .nil pass0 (pa_cons (pe_op op_sub (pv 3) (pv 2)) pa_nil)) pa_nil)))
    (pss_one (ps_set (i := 2) scRB.nd rfl (Or.inl rfl) (pv 3)))))
    (pss_one (ps_ret (pv 1)))))), ?_⟩
  simp only [tIfS, tAnd, tOr, tNot, tB, tVar, tTest, tOp, tC, tUn, tCB, tCons, tNil, rI0, rI, rU, rNe, rEq, scal, rAppend, tBM, tDrop, tSeq, tAsg, gName, tRet, tNext, List.set_cons_zero, List.set_cons_succ, List.getElem?_cons_zero, List.getElem?_cons_succ, Option.some.injEq, V.int.injEq, V.bl.injEq, V.ref.injEq, V.str.injEq, exists_eq_left', exists_eq_left, exists_and_left, List.cons.injEq, and_true, true_and, and_assoc, exists_const, L2.start, List.map_cons, List.map_nil, List.length_cons, List.length_nil, List.replicate_succ, List.replicate_zero, List.cons_append, List.nil_append, List.append_nil, Nat.reduceAdd, Nat.reduceSub, tFor_eq, tComp_eq, tWhile_eq, tChain, tAug, ipI, rIxS, rSlS, rLower, rIndex, rPop, rCat, tBM0, gSub, rSetL, tSl, tPart, tNoPart, rSlL, tCall, tLst, tTup, iRng1, iRng2, iRng3, iList, iEnum, gTup, gCons, gNil, rIxL, rIxT, tYes, tAndV, tOrV, tNotV, tIf, tTest, exists_eq', List.ne_cons_self, reduceCtorEq, if_true, if_false, and_false, false_and, spNB]
  refine ⟨_, .inl (SqL.of hl), xs.length, by rw [List.length_map, List.length_map], by omega, fun p hp => ⟨⟨_, SqL.of (upd_at hl hp)⟩, ?_⟩⟩
  have hlz : ((zI xs).map V.int).length = xs.length := by rw [List.length_map, List.length_map]
  refine forW_list ((zI xs).map V.int) (invRB l p xs H) ⟨none, rfl, same_new hp _, by rw [upd_same, List.take_zero]; simp [rise]⟩ ?_ ?_ ?_
  · rintro i σ L hi ⟨v3, rfl, sL, hp'⟩
    exact SqL.of (sL _ _ hl)
  · rintro i y σ L hy ⟨v3, rfl, sL, hp'⟩
    obtain ⟨x, hx, rfl⟩ : ∃ x, xs[i]? = some x ∧ y = V.int (x : Int) := by
      rw [List.getElem?_map, List.getElem?_map] at hy
      cases e : xs[i]? with
      | none => rw [e] at hy; cases hy
      | some x => rw [e] at hy; cases hy; exact ⟨x, rfl, rfl⟩
    have hil : i < xs.length := (List.getElem?_eq_some_iff.mp hx).1
    have hat := (ris_at (a := 0) hx2 (Nat.le_refl _) hx).1
    have hcut := rise_cut hx
    simp only [tIfS, tAnd, tOr, tNot, tB, tVar, tTest, tOp, tC, tUn, tCB, tCons, tNil, rI0, rI, rU, rNe, rEq, scal, rAppend, tBM, tDrop, tSeq, tAsg, gName, tRet, tNext, List.set_cons_zero, List.set_cons_succ, List.getElem?_cons_zero, List.getElem?_cons_succ, Option.some.injEq, V.int.injEq, V.bl.injEq, V.ref.injEq, V.str.injEq, exists_eq_left', exists_eq_left, exists_and_left, List.cons.injEq, and_true, true_and, and_assoc, exists_const, L2.start, List.map_cons, List.map_nil, List.length_cons, List.length_nil, List.replicate_succ, List.replicate_zero, List.cons_append, List.nil_append, List.append_nil, Nat.reduceAdd, Nat.reduceSub, tFor_eq, tComp_eq, tWhile_eq, tChain, tAug, ipI, rIxS, rSlS, rLower, rIndex, rPop, rCat, tBM0, gSub, rSetL, tSl, tPart, tNoPart, rSlL, tCall, tLst, tTup, iRng1, iRng2, iRng3, iList, iEnum, gTup, gCons, gNil, rIxL, rIxT, tYes, tAndV, tOrV, tNotV, tIf, tTest, exists_eq', List.ne_cons_self, reduceCtorEq, if_true, if_false, and_false, false_and, spNB, rExtend]
    refine ⟨.inl ⟨rfl, _, SqL.of hp'⟩, x - (xs.take i).getLastD 0, by omega, by omega, fun t ht => ⟨_, upd_at hp' ht, _, upd_same, size_ok ?_, some (.int x), ?_, (sL.trans (same_new ht _)).newer hp _, ?_⟩⟩
    · rw [List.length_map, List.length_map, List.length_append]
      omega
    · rw [take_snoc hx, last_snoc]
    · rw [upd_same, take_snoc hx, rise_snoc, ← List.map_append, List.append_assoc]
  · rintro σ L ⟨v3, rfl, sL, hp'⟩
    simp only [tIfS, tAnd, tOr, tNot, tB, tVar, tTest, tOp, tC, tUn, tCB, tCons, tNil, rI0, rI, rU, rNe, rEq, scal, rAppend, tBM, tDrop, tSeq, tAsg, gName, tRet, tNext, List.set_cons_zero, List.set_cons_succ, List.getElem?_cons_zero, List.getElem?_cons_succ, Option.some.injEq, V.int.injEq, V.bl.injEq, V.ref.injEq, V.str.injEq, exists_eq_left', exists_eq_left, exists_and_left, List.cons.injEq, and_true, true_and, and_assoc, exists_const, L2.start, List.map_cons, List.map_nil, List.length_cons, List.length_nil, List.replicate_succ, List.replicate_zero, List.cons_append, List.nil_append, List.append_nil, Nat.reduceAdd, Nat.reduceSub, tFor_eq, tComp_eq, tWhile_eq, tChain, tAug, ipI, rIxS, rSlS, rLower, rIndex, rPop, rCat, tBM0, gSub, rSetL, tSl, tPart, tNoPart, rSlL, tCall, tLst, tTup, iRng1, iRng2, iRng3, iList, iEnum, gTup, gCons, gNil, rIxL, rIxT, tYes, tAndV, tOrV, tNotV, tIf, tTest, exists_eq', List.ne_cons_self, reduceCtorEq, if_true, if_false, and_false, false_and]
    rw [hlz, List.take_length] at hp'
    exact q p L sL hp hp'
theorem scPB : FnScope ["postings", "row", "ahead", "make", "places"] ["postings"] (defScope sPB) := ⟨rfl, rfl, rfl, by decide +kernel, rfl, by decide +kernel, by decide +kernel⟩
def invPB (l p : Addr) (ps : List Pst) (H : Hp) (i : Nat) (σ : St) (L : Hp) : Prop := ∃ v3 v4 : Option V, σ = [some (.ref l), some (.ref p), some (.int (((ps.take i).map (·.1)).getLastD 0 : Nat)), v3, v4] ∧ Same H L ∧ L p = some (.lst ((nb ps.length ++ pbs 0 (ps.take i)).map V.int))
theorem dvP_at {H : Hp} {x : Pst} {v : V} (h : DeepT H (dvP x) v) : ∃ a b, v = .ref a ∧ H a = some (.tup [.int x.1, .ref b]) ∧ H b = some (.lst ((zI x.2).map V.int)) := by
  rw [dvP, DeepT] at h
  obtain ⟨a, us, rfl, ha, hus⟩ := h
  rw [DeepTs] at hus
  obtain ⟨y, ys, rfl, hy, hus⟩ := hus
  rw [DeepTs] at hus
  obtain ⟨y2, ys2, rfl, hy2, hus⟩ := hus
  rw [DeepTs] at hus
  rw [DeepT] at hy
  rw [DeepT] at hy2
  obtain ⟨b, bs, rfl, hb, hbs⟩ := hy2
  subst hy
  subst hus
  have := (DeepTs.deep (K := ([] : PySem.W.Frag)) _ _ hbs).ints_eq
  subst this
  exact ⟨a, b, rfl, ha, hb⟩
theorem ok_pb {g g2 : Addr} {gd gd2 : FuncData} (F : Fun K "postings_bytes" "postings_bytes" sPB f fd) (T : Txt mg) (GB : FnOk P w K mg base CX0 1 g gd ["number"] spNB) (bB : Binds K gd ["number"] []) (kB : PySem.W.keepIn K (.ref g) = true) (mB : mg "number_bytes" = some (.ref g))
    (GR : FnOk P w K mg base CX0 2 g2 gd2 ["numbers"] spRB) (bR : Binds K gd2 ["numbers"] []) (kR : PySem.W.keepIn K (.ref g2) = true) (mR : mg "rising_bytes" = some (.ref g2)) : FnOk P w K mg base CX0 3 f fd ["postings"] spPB := by
  refine F.ok scPB (fun vs H Q E h => ?_) (fun cdv A outer s H vs Q E hr h => ?_)
  · obtain ⟨l, ys, ps, rfl, _⟩ := h
    rfl
  obtain ⟨l, ys, ps, rfl, hl, hD, ⟨hx2, hx3⟩, htot, q⟩ := h
  rw [pbytes, List.length_append] at htot
  have hr1 : Room 1 _ := hr.mono (by decide)
  have hyl : ys.length = ps.length := by have := hD.length; rwa [List.length_map] at this
  refine ⟨_, (pss_cons (ps_set (i := 1) scPB.nd rfl (Or.inl rfl) (pe_call GB hr1 rfl mB kB bB .nil pass0 (pa_cons (pe_callB (lenK K) rfl T.len PySem.boot_len (pa_cons (pv 0) pa_nil)) pa_nil)))
    (pss_cons (ps_set (i := 2) scPB.nd rfl (Or.inl rfl) pe_int)
    (pss_cons (ps_for PassesOwn.never rfl (pi_listK K (pv 0)) (pgT K (n := 2) rfl (pgs_cons (pg_name (i := 3) scPB.nd rfl (Or.inl rfl)) (pgs_cons (pg_name (i := 4) scPB.nd rfl (Or.inl rfl)) pgs_nil)))
      (pss_cons (ps_expr (bmK K PySem.F.plainAttrs_list PySem.F.slot_list_extend PySem.F.type_list_extend mt_extend (pv 1) (pa_cons (pe_call GB hr1 rfl mB kB bB .nil pass0 (pa_cons (pe_op op_sub (pv 3) (pv 2)) pa_nil)) pa_nil)))
    (pss_cons (ps_expr (bmK K PySem.F.plainAttrs_list PySem.F.slot_list_extend PySem.F.type_list_extend mt_extend (pv 1) (pa_cons (pe_call GR hr rfl mR kR bR .nil pass0 (pa_cons (pv 4) pa_nil)) pa_nil)))
    (pss_one (ps_set (i := 2) scPB.nd rfl (Or.inl rfl) (pv 3))))))
    (pss_one (ps_ret (pv 1)))))), ?_⟩
  simp only [tIfS, tAnd, tOr, tNot, tB, tVar, tTest, tOp, tC, tUn, tCB, tCons, tNil, rI0, rI, rU, rNe, rEq, scal, rAppend, tBM, tDrop, tSeq, tAsg, gName, tRet, tNext, List.set_cons_zero, List.set_cons_succ, List.getElem?_cons_zero, List.getElem?_cons_succ, Option.some.injEq, V.int.injEq, V.bl.injEq, V.ref.injEq, V.str.injEq, exists_eq_left', exists_eq_left, exists_and_left, List.cons.injEq, and_true, true_and, and_assoc, exists_const, L2.start, List.map_cons, List.map_nil, List.length_cons, List.length_nil, List.replicate_succ, List.replicate_zero, List.cons_append, List.nil_append, List.append_nil, Nat.reduceAdd, Nat.reduceSub, tFor_eq, tComp_eq, tWhile_eq, tChain, tAug, ipI, rIxS, rSlS, rLower, rIndex, rPop, rCat, tBM0, gSub, rSetL, tSl, tPart, tNoPart, rSlL, tCall, tLst, tTup, iRng1, iRng2, iRng3, iList, iEnum, gTup, gCons, gNil, rIxL, rIxT, tYes, tAndV, tOrV, tNotV, tIf, tTest, exists_eq', List.ne_cons_self, reduceCtorEq, if_true, if_false, and_false, false_and, spNB]
  refine ⟨_, .inl (SqL.of hl), ps.length, by rw [hyl], by omega, fun p hp => ⟨⟨_, SqL.of (upd_at hl hp)⟩, ?_⟩⟩
  refine forW_list ys (invPB l p ps H) ⟨none, none, rfl, same_new hp _, by rw [upd_same, List.take_zero]; simp [pbs]⟩ ?_ ?_ ?_
  · rintro i σ L hi ⟨v3, v4, rfl, sL, hp'⟩
    exact SqL.of (sL _ _ hl)
  · rintro i y σ L hy ⟨v3, v4, rfl, sL, hp'⟩
    obtain ⟨dv, h1, h2⟩ := hD.get hy
    rw [List.getElem?_map] at h1
    obtain ⟨x, hx, rfl⟩ := Option.map_eq_some_iff.mp h1
    obtain ⟨a, b, rfl, ha, hb⟩ := dvP_at h2
    have hil : i < ps.length := (List.getElem?_eq_some_iff.mp hx).1
    obtain ⟨x1, x2⟩ := hx3 x (List.mem_of_getElem? hx)
    have hat := (ris_at (a := 0) hx2 (Nat.le_refl _) (show (ps.map (·.1))[i]? = some x.1 by rw [List.getElem?_map, hx]; rfl)).1
    rw [← List.map_take] at hat
    have hcut := pbs_cut hx
    simp only [tIfS, tAnd, tOr, tNot, tB, tVar, tTest, tOp, tC, tUn, tCB, tCons, tNil, rI0, rI, rU, rNe, rEq, scal, rAppend, tBM, tDrop, tSeq, tAsg, gName, tRet, tNext, List.set_cons_zero, List.set_cons_succ, List.getElem?_cons_zero, List.getElem?_cons_succ, Option.some.injEq, V.int.injEq, V.bl.injEq, V.ref.injEq, V.str.injEq, exists_eq_left', exists_eq_left, exists_and_left, List.cons.injEq, and_true, true_and, and_assoc, exists_const, L2.start, List.map_cons, List.map_nil, List.length_cons, List.length_nil, List.replicate_succ, List.replicate_zero, List.cons_append, List.nil_append, List.append_nil, Nat.reduceAdd, Nat.reduceSub, tFor_eq, tComp_eq, tWhile_eq, tChain, tAug, ipI, rIxS, rSlS, rLower, rIndex, rPop, rCat, tBM0, gSub, rSetL, tSl, tPart, tNoPart, rSlL, tCall, tLst, tTup, iRng1, iRng2, iRng3, iList, iEnum, gTup, gCons, gNil, rIxL, rIxT, tYes, tAndV, tOrV, tNotV, tIf, tTest, exists_eq', List.ne_cons_self, reduceCtorEq, if_true, if_false, and_false, false_and, spNB, rExtend]
    refine ⟨_, SqT.of (sL _ _ ha), rfl, ?_⟩
    simp only [tIfS, tAnd, tOr, tNot, tB, tVar, tTest, tOp, tC, tUn, tCB, tCons, tNil, rI0, rI, rU, rNe, rEq, scal, rAppend, tBM, tDrop, tSeq, tAsg, gName, tRet, tNext, List.set_cons_zero, List.set_cons_succ, List.getElem?_cons_zero, List.getElem?_cons_succ, Option.some.injEq, V.int.injEq, V.bl.injEq, V.ref.injEq, V.str.injEq, exists_eq_left', exists_eq_left, exists_and_left, List.cons.injEq, and_true, true_and, and_assoc, exists_const, L2.start, List.map_cons, List.map_nil, List.length_cons, List.length_nil, List.replicate_succ, List.replicate_zero, List.cons_append, List.nil_append, List.append_nil, Nat.reduceAdd, Nat.reduceSub, tFor_eq, tComp_eq, tWhile_eq, tChain, tAug, ipI, rIxS, rSlS, rLower, rIndex, rPop, rCat, tBM0, gSub, rSetL, tSl, tPart, tNoPart, rSlL, tCall, tLst, tTup, iRng1, iRng2, iRng3, iList, iEnum, gTup, gCons, gNil, rIxL, rIxT, tYes, tAndV, tOrV, tNotV, tIf, tTest, exists_eq', List.ne_cons_self, reduceCtorEq, if_true, if_false, and_false, false_and, spNB, spRB, rExtend]
    have nbp : b ≠ p := ne_of_none hb hp
    refine ⟨.inl ⟨rfl, _, SqL.of hp'⟩, x.1 - ((ps.take i).map (·.1)).getLastD 0, by omega, by omega, fun t ht => ⟨_, upd_at hp' ht, _, upd_same, size_ok ?_, .inl ⟨rfl, _, SqL.of upd_same⟩, x.2, ?_, x2, by rw [List.length_append]; omega, fun r M sM hr0 hM => ?_⟩⟩
    · rw [List.length_map, List.length_map, List.length_append]
      omega
    · rw [upd_ne nbp]
      exact upd_at (sL _ _ hb) ht
    · refine ⟨_, sM _ _ upd_same, _, hM, size_ok ?_, some (.int x.1), some (.ref b), ?_, (((sL.trans (same_new ht _)).newer hp _).trans sM).newer hp _, ?_⟩
      · rw [List.length_append, List.length_map, List.length_map, List.length_map, List.length_append, List.length_append]
        omega
      · rw [take_snoc hx, List.map_append, show [x].map (fun x => x.1) = [x.1] from rfl, last_snoc]
      · rw [upd_same, take_snoc hx, pbs_snoc, ← List.map_append, ← List.map_append]
        simp only [List.append_assoc]
  · rintro σ L ⟨v3, v4, rfl, sL, hp'⟩
    simp only [tIfS, tAnd, tOr, tNot, tB, tVar, tTest, tOp, tC, tUn, tCB, tCons, tNil, rI0, rI, rU, rNe, rEq, scal, rAppend, tBM, tDrop, tSeq, tAsg, gName, tRet, tNext, List.set_cons_zero, List.set_cons_succ, List.getElem?_cons_zero, List.getElem?_cons_succ, Option.some.injEq, V.int.injEq, V.bl.injEq, V.ref.injEq, V.str.injEq, exists_eq_left', exists_eq_left, exists_and_left, List.cons.injEq, and_true, true_and, and_assoc, exists_const, L2.start, List.map_cons, List.map_nil, List.length_cons, List.length_nil, List.replicate_succ, List.replicate_zero, List.cons_append, List.nil_append, List.append_nil, Nat.reduceAdd, Nat.reduceSub, tFor_eq, tComp_eq, tWhile_eq, tChain, tAug, ipI, rIxS, rSlS, rLower, rIndex, rPop, rCat, tBM0, gSub, rSetL, tSl, tPart, tNoPart, rSlL, tCall, tLst, tTup, iRng1, iRng2, iRng3, iList, iEnum, gTup, gCons, gNil, rIxL, rIxT, tYes, tAndV, tOrV, tNotV, tIf, tTest, exists_eq', List.ne_cons_self, reduceCtorEq, if_true, if_false, and_false, false_and]
    rw [hyl, List.take_length] at hp'
    exact q p L sL hp hp'
theorem scTB : FnScope ["text", "row"] ["text"] (defScope sTB) := ⟨rfl, rfl, rfl, by decide +kernel, rfl, by decide +kernel, by decide +kernel⟩
def invTB (z : Str) (H0 : Hp) (i : Nat) (ys : List V) (σ : St) (L : Hp) : Prop := ∃ v0 : Option V, ys = ((z.cps.toList.take i).map Int.ofNat).map V.int ∧ L = H0 ∧ σ = [v0]
theorem ok_tb {g : Addr} {gd : FuncData} (F : Fun K "text_bytes" "text_bytes" sTB f fd) (T : Txt mg) (GB : FnOk P w K mg base CX0 1 g gd ["number"] spNB) (bB : Binds K gd ["number"] []) (kB : PySem.W.keepIn K (.ref g) = true) (mB : mg "number_bytes" = some (.ref g)) : FnOk P w K mg base CX0 2 f fd ["text"] spTB := by
  refine F.ok scTB (fun vs H Q E h => ?_) (fun cdv A outer s H vs Q E hr h => ?_)
  · obtain ⟨z, rfl, _⟩ := h
    rfl
  obtain ⟨z, rfl, hz, hA, q⟩ := h
  refine ⟨_, (pss_cons (ps_set (i := 1) scTB.nd rfl (Or.inl rfl) (pe_call GB hr rfl mB kB bB .nil pass0 (pa_cons (pe_callB call_len_str rfl T.len PySem.boot_len (pa_cons (pv 0) pa_nil)) pa_nil)))
    (pss_cons (ps_expr (bmK K PySem.F.plainAttrs_list PySem.F.slot_list_extend PySem.F.type_list_extend mt_extend (pv 1) (pa_cons (pe_comp (N := ["sign"]) (pick := [none]) (NX := ["text", "row"]) (sX := defScope sTB) (by decide +kernel) rfl rfl rfl (pi_str (pv 0))
        (fun _ _ _ _ => (pg_name (i := 0) (by decide +kernel : (["sign"] : List Str).Nodup) rfl (Or.inl rfl))) (fun _ _ _ _ => pifs_nil) (fun _ _ _ _ => (pe_callB call_ord rfl T.ord (by decide +kernel) (pa_cons (pv 0) pa_nil)))) pa_nil)))
    (pss_one (ps_ret (pv 1))))), ?_⟩
  simp only [tIfS, tAnd, tOr, tNot, tB, tVar, tTest, tOp, tC, tUn, tCB, tCons, tNil, rI0, rI, rU, rNe, rEq, scal, rAppend, tBM, tDrop, tSeq, tAsg, gName, tRet, tNext, List.set_cons_zero, List.set_cons_succ, List.getElem?_cons_zero, List.getElem?_cons_succ, Option.some.injEq, V.int.injEq, V.bl.injEq, V.ref.injEq, V.str.injEq, exists_eq_left', exists_eq_left, exists_and_left, List.cons.injEq, and_true, true_and, and_assoc, exists_const, L2.start, List.map_cons, List.map_nil, List.length_cons, List.length_nil, List.replicate_succ, List.replicate_zero, List.cons_append, List.nil_append, List.append_nil, Nat.reduceAdd, Nat.reduceSub, tFor_eq, tComp_eq, tWhile_eq, tChain, tAug, ipI, rIxS, rSlS, rLower, rIndex, rPop, rCat, tBM0, gSub, rSetL, tSl, tPart, tNoPart, rSlL, tCall, tLst, tTup, iRng1, iRng2, iRng3, iList, iEnum, gTup, gCons, gNil, rIxL, rIxT, tYes, tAndV, tOrV, tNotV, tIf, tTest, exists_eq', List.ne_cons_self, reduceCtorEq, if_true, if_false, and_false, false_and, spNB, iStr, rExtend]
  have hnl := nb_len40 (n := z.length) (lt40 (by omega))
  refine ⟨Nat.le_of_lt (big9 (by omega)), z.length, rfl, by omega, fun p hp => ⟨.inl ⟨rfl, _, SqL.of upd_same⟩, ?_⟩⟩
  refine compW_str (invTB z (upd H p (.lst ((nb z.length).map V.int)))) ⟨none, rfl, rfl, rfl⟩ ?_ ?_ ?_
  · rintro i ys σ L hi ⟨v0, rfl, rfl, rfl⟩
    rw [List.length_map, List.length_map, List.length_take]
    exact Nat.le_of_lt (big9 (by omega))
  · rintro i c ys σ L hc ⟨v0, rfl, rfl, rfl⟩
    simp only [tIfS, tAnd, tOr, tNot, tB, tVar, tTest, tOp, tC, tUn, tCB, tCons, tNil, rI0, rI, rU, rNe, rEq, scal, rAppend, tBM, tDrop, tSeq, tAsg, gName, tRet, tNext, List.set_cons_zero, List.set_cons_succ, List.getElem?_cons_zero, List.getElem?_cons_succ, Option.some.injEq, V.int.injEq, V.bl.injEq, V.ref.injEq, V.str.injEq, exists_eq_left', exists_eq_left, exists_and_left, List.cons.injEq, and_true, true_and, and_assoc, exists_const, L2.start, List.map_cons, List.map_nil, List.length_cons, List.length_nil, List.replicate_succ, List.replicate_zero, List.cons_append, List.nil_append, List.append_nil, Nat.reduceAdd, Nat.reduceSub, tFor_eq, tComp_eq, tWhile_eq, tChain, tAug, ipI, rIxS, rSlS, rLower, rIndex, rPop, rCat, tBM0, gSub, rSetL, tSl, tPart, tNoPart, rSlL, tCall, tLst, tTup, iRng1, iRng2, iRng3, iList, iEnum, gTup, gCons, gNil, rIxL, rIxT, tYes, tAndV, tOrV, tNotV, tIf, tTest, exists_eq', List.ne_cons_self, reduceCtorEq, if_true, if_false, and_false, false_and]
    refine ⟨rfl, _, ?_, rfl, rfl⟩
    rw [take_snoc hc, List.map_append, List.map_append]
    rfl
  · rintro ys σ L ⟨v0, rfl, rfl, rfl⟩ r hr0
    rw [show z.cps.toList.take z.length = z.cps.toList by rw [← slen, List.take_length]]
    refine ⟨r, rfl, _, upd_at upd_same hr0, _, upd_same, size_ok ?_, ?_⟩
    · rw [List.length_map, List.length_map, List.length_map, slen]
      omega
    · refine q p _ (((same_new hp _).trans (same_new hr0 _)).newer hp _) hp ?_
      rw [upd_same, ← List.map_append, tbytes, slen]
end
end K13

namespace K13
open PySem L2 KB
/-! ### the reader, whatever the row -/
def rd (a : Addr) (i : Int) : List (Str × V) := [("row", .ref a), ("at", .int i)]
theorem rd_row (a : Addr) (i : Int) : (rd a i).lookup ("row" : Str) = some (V.ref a) := rfl
theorem rd_at (a : Addr) (i : Int) : (rd a i).lookup ("at" : Str) = some (V.int i) := rfl
theorem rd_put (a : Addr) (i j : Int) : putF "at" (.int j) (rd a i) = rd a j := rfl
theorem rd_new (a : Addr) (j : Int) : putF "at" (.int j) (putF "row" (.ref a) []) = rd a j := rfl
def Bad3 (NB r : Addr) (H : Hp) (E : XK) : Prop := ∀ e H', SameX r H H' → H e = none → H' e = some (XO e (.ref NB) none) → E (.ref e) none H'
theorem Bad3.on {NB r : Addr} {H L : Hp} {E : XK} {o : HO} (b : Bad3 NB r H E) (s : SameX r H L) (hL : L r = some o) : Bad3 NB r L E := fun e H' s' he hx => by
  refine b e H' (s.trans s') ?_ hx
  cases h : H e with
  | none => rfl
  | some o' =>
    by_cases c : e = r
    · rw [c, hL] at he; cases he
    · rw [s e o' h c] at he; cases he
theorem Bad3.raise {NB r : Addr} {L : Hp} {E : XK} (b : Bad3 NB r L E) : ∀ e H', Same L H' → L e = none → H' e = some (XO e (.ref NB) none) → E (.ref e) none H' := fun e H' s he hx => b e H' (SameX.of s) he hx
theorem sameX_upd {r : Addr} {H : Hp} {o : HO} : SameX r H (upd H r o) := fun b o hb hn => by rw [upd_ne hn]; exact hb
def spRI (C : Addr) : Sp := fun vs H Q _ => ∃ x dx a, vs = [.ref x, .ref a] ∧ H x = some (.ins C dx []) ∧ Q .non (upd H x (.ins C dx (rd a 0)))
def spByte (C NB : Addr) : Sp := fun vs H Q E => ∃ (r dx a : Addr) (ns : List Int) (i : Nat), vs = [.ref r] ∧ H r = some (.ins C dx (rd a i)) ∧ H a = some (.lst (ns.map V.int)) ∧ (∀ b, ns[i]? = some b → 0 ≤ b → b ≤ 255 → Q (.int b) (upd H r (.ins C dx (rd a ((i + 1 : Nat) : Int))))) ∧ ((∀ b, ns[i]? = some b → b < 0 ∨ 255 < b) → Bad3 NB r H E)
def spNum (C NB : Addr) : Sp := fun vs H Q E => ∃ (r dx a : Addr) (ns : List Int) (i : Nat), vs = [.ref r] ∧ H r = some (.ins C dx (rd a i)) ∧ H a = some (.lst (ns.map V.int)) ∧ i ≤ ns.length ∧ (∀ n j : Nat, j ≤ ns.length → pn true (ns.drop i) = some (n, ns.drop j) → Q (.int n) (upd H r (.ins C dx (rd a (j : Int))))) ∧ (pn true (ns.drop i) = none → Bad3 NB r H E)
def spEnd (C NB : Addr) : Sp := fun vs H Q E => ∃ (r dx a : Addr) (ns : List Int) (i : Nat), vs = [.ref r] ∧ H r = some (.ins C dx (rd a i)) ∧ H a = some (.lst (ns.map V.int)) ∧ (ns.length ≤ i → Q .non H) ∧ (i < ns.length → Bad3 NB r H E)
section
variable {P : Program} {w : World} {K : PySem.W.Frag} {mg : Str → Option Value} {base : Heap} {f : Addr} {fd : FuncData} {C NB FE : Addr}
theorem scRI : FnScope ["self", "row"] ["self", "row"] (defScope sRI) := ⟨rfl, rfl, rfl, by decide +kernel, rfl, by decide +kernel, by decide +kernel⟩
theorem ok_rinit (F : Fun K "__init__" "Reader.__init__" sRI f fd) (cl : Cls K C) (n1 : NoAttr K C "row") (n2 : NoAttr K C "at") : FnOk P w K mg base CX0 1 f fd ["self", "row"] (spRI C) := by
  refine F.ok scRI (fun vs H Q E h => ?_) (fun cdv A outer s H vs Q E hr h => ?_)
  · obtain ⟨x, dx, a, rfl, _⟩ := h
    rfl
  obtain ⟨x, dx, a, rfl, hx, q⟩ := h
  refine ⟨_, (pss_cons (ps_fld (pv 0) (pv 1) rfl)
    (pss_one (ps_fld (pv 0) pe_int rfl))), ?_⟩
  simp only [tIfS, tAnd, tOr, tNot, tB, tVar, tTest, tOp, tC, tUn, tCB, tCons, tNil, rI0, rI, rU, rNe, rEq, scal, rAppend, tBM, tDrop, tSeq, tAsg, gName, tRet, tNext, List.set_cons_zero, List.set_cons_succ, List.getElem?_cons_zero, List.getElem?_cons_succ, Option.some.injEq, V.int.injEq, V.bl.injEq, V.ref.injEq, V.str.injEq, exists_eq_left', exists_eq_left, exists_and_left, List.cons.injEq, and_true, true_and, and_assoc, exists_const, L2.start, List.map_cons, List.map_nil, List.length_cons, List.length_nil, List.replicate_succ, List.replicate_zero, List.cons_append, List.nil_append, List.append_nil, Nat.reduceAdd, Nat.reduceSub, tFor_eq, tComp_eq, tWhile_eq, tChain, tAug, ipI, rIxS, rSlS, rLower, rIndex, rPop, rCat, tBM0, gSub, rSetL, tSl, tPart, tNoPart, rSlL, tCall, tLst, tTup, iRng1, iRng2, iRng3, iList, iEnum, gTup, gCons, gNil, rIxL, rIxT, tYes, tAndV, tOrV, tNotV, tIf, tTest, exists_eq', List.ne_cons_self, reduceCtorEq, if_true, if_false, and_false, false_and, sFld]
  refine ⟨C, dx, [], hx, cl, n1, by decide, C, dx, _, upd_same, cl, n2, (by show 1 < 1000; decide), ?_⟩
  rw [upd_upd, rd_new]
  exact q
theorem scByte : FnScope ["self", "byte"] ["self"] (defScope sByte) := ⟨rfl, rfl, rfl, by decide +kernel, rfl, by decide +kernel, by decide +kernel⟩
theorem ok_byte (F : Fun K "next_byte" "Reader.next_byte" sByte f fd) (T : Txt mg) (cl : Cls K C) (n1 : NoAttr K C "row") (n2 : NoAttr K C "at") (xc : XCls0 K NB FE) (kX : PySem.W.keepIn K (.ref NB) = true) (mX : mg "NoBytes" = some (.ref NB)) : FnOk P w K mg base (CXe P w) 1 f fd ["self"] (spByte C NB) := by
  refine F.okX scByte (fun vs H Q E h => ?_) (fun cdv A outer s H vs Q E hr h => ?_)
  · obtain ⟨r, dx, a, ns, i, rfl, _⟩ := h
    rfl
  obtain ⟨r, dx, a, ns, i, rfl, hr', ha, q1, q2⟩ := h
  obtain ⟨tL, hL⟩ := T.last
  refine ⟨_, (pss_cons (ps_if (pt_cmpR op_ge (pe_fld (pv 0) rfl) (pe_callB (lenK K) rfl T.len PySem.boot_len (pa_cons (pe_fld (pv 0) rfl) pa_nil)) (nomark _)) (pss_one (ps_raise0 xc kX rfl mX (pa_cons pe_str pa_nil))) pss_nil)
    (pss_cons (ps_set (i := 1) scByte.nd rfl (Or.inl rfl) (pe_ix (ixL K) (pe_fld (pv 0) rfl) (pe_fld (pv 0) rfl) (fun _ _ => rfl)))
    (pss_cons (ps_if (PW.pt (pw_or (pt_cmpR op_lt (pv 1) pe_int (nomark _)) (pw_or1 (pt_cmpR op_gt (pv 1) (pe_gint rfl hL) (nomark _))))) (pss_one (ps_raise0 xc kX rfl mX (pa_cons pe_str pa_nil))) pss_nil)
    (pss_cons (ps_fldaug (pv 0) pe_int in_add)
    (pss_one (ps_ret (pv 1))))))), ?_⟩
  simp only [tIfS, tAnd, tOr, tNot, tB, tVar, tTest, tOp, tC, tUn, tCB, tCons, tNil, rI0, rI, rU, rNe, rEq, scal, rAppend, tBM, tDrop, tSeq, tAsg, gName, tRet, tNext, List.set_cons_zero, List.set_cons_succ, List.getElem?_cons_zero, List.getElem?_cons_succ, Option.some.injEq, V.int.injEq, V.bl.injEq, V.ref.injEq, V.str.injEq, exists_eq_left', exists_eq_left, exists_and_left, List.cons.injEq, and_true, true_and, and_assoc, exists_const, L2.start, List.map_cons, List.map_nil, List.length_cons, List.length_nil, List.replicate_succ, List.replicate_zero, List.cons_append, List.nil_append, List.append_nil, Nat.reduceAdd, Nat.reduceSub, tFor_eq, tComp_eq, tWhile_eq, tChain, tAug, ipI, rIxS, rSlS, rLower, rIndex, rPop, rCat, tBM0, gSub, rSetL, tSl, tPart, tNoPart, rSlL, tCall, tLst, tTup, iRng1, iRng2, iRng3, iList, iEnum, gTup, gCons, gNil, rIxL, rIxT, tYes, tAndV, tOrV, tNotV, tIf, tTest, exists_eq', List.ne_cons_self, reduceCtorEq, if_true, if_false, and_false, false_and, tFld, sFldAug, rAdd, tRaise0]
  refine ⟨C, dx, _, hr', cl, n2, _, rd_at a i, C, dx, _, hr', cl, n1, _, rd_row a i, a, rfl, _, .inl (SqL.of ha), _, rfl, ?_⟩
  refine ite2 (fun c => ?_) (fun c => ?_)
  · have c' := of_decide_eq_true c
    rw [List.length_map] at c'
    exact (q2 fun b hb => by
      have := (List.getElem?_eq_some_iff.mp hb).1
      omega).raise
  have hi : i < ns.length := by
    simp only [decide_eq_true_eq, List.length_map] at c
    omega
  have hb : ns[i]? = some ns[i] := List.getElem?_eq_getElem hi
  generalize ns[i] = b at hb
  have av : atI (ns.map V.int) (i : Int) = some (.int b) := atI_nat (by rw [List.getElem?_map, hb]; rfl)
  have bad : b < 0 ∨ 255 < b → Bad3 NB r H E := fun z => q2 fun b' hb' => by rw [hb] at hb'; cases hb'; exact z
  refine ⟨C, dx, _, hr', cl, n1, _, rd_row a i, C, dx, _, hr', cl, n2, _, rd_at a i, ?_⟩
  refine ⟨a, rfl, _, _, rfl, SqL.of ha, _, av, _, rfl, ite2 (fun c => (bad (.inl (of_decide_eq_true c))).raise) (fun c1 => ⟨_, rfl, ite2 (fun c => (bad (.inr (of_decide_eq_true c))).raise) (fun c2 => ?_)⟩)⟩
  refine ⟨C, dx, _, hr', cl, n2, _, rd_at a i, _, rfl, dx, _, hr', (by show 2 < 1000; decide), ?_⟩
  rw [rd_put, show (i : Int) + 1 = ((i + 1 : Nat) : Int) by omega]
  simp only [decide_eq_true_eq] at c1 c2
  exact q1 b hb (by omega) (by omega)
theorem scNum : FnScope ["self", "byte", "number", "part"] ["self"] (defScope sNum) := ⟨rfl, rfl, rfl, by decide +kernel, rfl, by decide +kernel, by decide +kernel⟩
def wNum (C dx r a : Addr) (ns : List Int) (i : Nat) (H : Hp) (m : Nat) (σ : St) (L : Hp) : Prop := ∃ (k : Nat) (b : Int) (num part : Nat), m = ns.length - (i + k) ∧ i + k ≤ ns.length ∧ 0 ≤ b ∧ b ≤ 255 ∧ σ = [some (.ref r), some (.int b), some (.int num), some (.int part)] ∧ L = upd H r (.ins C dx (rd a ((i + k : Nat) : Int))) ∧
  pn true (ns.drop i) = (pn true (b :: ns.drop (i + k))).map fun x => (num + x.1 * part, x.2)
theorem ok_num {gb : Addr} {db : FuncData} (F : Fun K "next_number" "Reader.next_number" sNum f fd) (T : Txt mg) (cl : Cls K C) (xc : XCls0 K NB FE) (kX : PySem.W.keepIn K (.ref NB) = true) (mX : mg "NoBytes" = some (.ref NB)) (GB : FnOk P w K mg base (CXe P w) 1 gb db ["self"] (spByte C NB)) (bB : Binds K db ["self"] []) (mB : Meth K C "next_byte" gb) : FnOk P w K mg base (CXe P w) 2 f fd ["self"] (spNum C NB) := by
  refine F.okX scNum (fun vs H Q E h => ?_) (fun cdv A outer s H vs Q E hr h => ?_)
  · obtain ⟨r, dx, a, ns, i, rfl, _⟩ := h
    rfl
  obtain ⟨r, dx, a, ns, i, rfl, hr', ha, hi, q1, q2⟩ := h
  obtain ⟨tP, hP⟩ := T.part
  have nar : a ≠ r := fun z => by rw [z, hr'] at ha; cases ha
  refine ⟨_, (pss_cons (ps_set (i := 1) scNum.nd rfl (Or.inl rfl) (pe_meth0 (pv 0) cl mB GB hr bB .nil passX))
    (pss_cons (ps_set (i := 2) scNum.nd rfl (Or.inl rfl) pe_int)
    (pss_cons (ps_set (i := 3) scNum.nd rfl (Or.inl rfl) pe_int)
    (pss_cons (ps_while PassesOwn.leaving (pt_cmpR op_ge (pv 1) (pe_gint rfl hP) (nomark _))
      (pss_cons (ps_aug (i := 2) scNum.nd rfl (Or.inl rfl) (pe_op op_mul (pe_op op_sub (pv 1) (pe_gint rfl hP)) (pv 3)) ip_add)
    (pss_cons (ps_aug (i := 3) scNum.nd rfl (Or.inl rfl) (pe_gint rfl hP) ip_mul)
    (pss_cons (ps_set (i := 1) scNum.nd rfl (Or.inl rfl) (pe_meth0 (pv 0) cl mB GB hr bB .nil passX))
    (pss_one (ps_if (pt_cmpR op_eq (pv 1) pe_int (nomark _)) (pss_one (ps_raise0 xc kX rfl mX (pa_cons pe_str pa_nil))) pss_nil))))))
    (pss_one (ps_ret (pe_op op_add (pv 2) (pe_op op_mul (pv 1) (pv 3))))))))), ?_⟩
  simp only [tIfS, tAnd, tOr, tNot, tB, tVar, tTest, tOp, tC, tUn, tCB, tCons, tNil, rI0, rI, rU, rNe, rEq, scal, rAppend, tBM, tDrop, tSeq, tAsg, gName, tRet, tNext, List.set_cons_zero, List.set_cons_succ, List.getElem?_cons_zero, List.getElem?_cons_succ, Option.some.injEq, V.int.injEq, V.bl.injEq, V.ref.injEq, V.str.injEq, exists_eq_left', exists_eq_left, exists_and_left, List.cons.injEq, and_true, true_and, and_assoc, exists_const, L2.start, List.map_cons, List.map_nil, List.length_cons, List.length_nil, List.replicate_succ, List.replicate_zero, List.cons_append, List.nil_append, List.append_nil, Nat.reduceAdd, Nat.reduceSub, tFor_eq, tComp_eq, tWhile_eq, tChain, tAug, ipI, rIxS, rSlS, rLower, rIndex, rPop, rCat, tBM0, gSub, rSetL, tSl, tPart, tNoPart, rSlL, tCall, tLst, tTup, iRng1, iRng2, iRng3, iList, iEnum, gTup, gCons, gNil, rIxL, rIxT, tYes, tAndV, tOrV, tNotV, tIf, tTest, exists_eq', List.ne_cons_self, reduceCtorEq, if_true, if_false, and_false, false_and, tMeth, spByte, tRaise0]
  refine ⟨dx, _, hr', rfl, dx, a, ns, i, hr', ha, fun b hb b0 b1 => ?_, fun hbad => q2 (pn_bad hbad)⟩
  have hi1 : i < ns.length := (List.getElem?_eq_some_iff.mp hb).1
  refine ⟨wNum C dx r a ns i H, ⟨_, 1, b, 0, 1, rfl, by omega, b0, b1, rfl, rfl, ?_⟩, ?_⟩
  · rw [drop_cons hb]
    cases pn true (b :: ns.drop (i + 1)) <;> simp
  rintro m σ L ⟨k, b, num, part, rfl, hk, b0, b1, rfl, rfl, e⟩
  simp only [tIfS, tAnd, tOr, tNot, tB, tVar, tTest, tOp, tC, tUn, tCB, tCons, tNil, rI0, rI, rU, rNe, rEq, scal, rAppend, tBM, tDrop, tSeq, tAsg, gName, tRet, tNext, List.set_cons_zero, List.set_cons_succ, List.getElem?_cons_zero, List.getElem?_cons_succ, Option.some.injEq, V.int.injEq, V.bl.injEq, V.ref.injEq, V.str.injEq, exists_eq_left', exists_eq_left, exists_and_left, List.cons.injEq, and_true, true_and, and_assoc, exists_const, L2.start, List.map_cons, List.map_nil, List.length_cons, List.length_nil, List.replicate_succ, List.replicate_zero, List.cons_append, List.nil_append, List.append_nil, Nat.reduceAdd, Nat.reduceSub, tFor_eq, tComp_eq, tWhile_eq, tChain, tAug, ipI, rIxS, rSlS, rLower, rIndex, rPop, rCat, tBM0, gSub, rSetL, tSl, tPart, tNoPart, rSlL, tCall, tLst, tTup, iRng1, iRng2, iRng3, iList, iEnum, gTup, gCons, gNil, rIxL, rIxT, tYes, tAndV, tOrV, tNotV, tIf, tTest, exists_eq', List.ne_cons_self, reduceCtorEq, if_true, if_false, and_false, false_and, tMeth, spByte, tRaise0, ipM]
  refine ite2 (fun c => ?_) (fun c => ?_)
  · have c' : 128 ≤ b := of_decide_eq_true c
    refine ⟨fun σ' H' => ∃ m', m' < ns.length - (i + k) ∧ wNum C dx r a ns i H m' σ' H', fun _ _ h => h, .inl ⟨by omega, by omega⟩, .inr ⟨by decide, by decide⟩, dx, _, upd_same, rfl, dx, a, ns, i + k, upd_same, by rw [upd_ne nar]; exact ha, fun b2 hb2 z0 z1 => ?_, fun hbad => ?_⟩
    · have hk1 : i + k < ns.length := (List.getElem?_eq_some_iff.mp hb2).1
      refine ite2 (fun z => ?_) (fun z => ?_)
      · have z' : b2 = 0 := of_decide_eq_true z
        rw [upd_upd]
        refine (Bad3.on (q2 ?_) sameX_upd upd_same).raise
        rw [e, pn_ge c' b1, drop_cons hb2, z', pn_zero]
        rfl
      · have z' : b2 ≠ 0 := fun y => z (decide_eq_true y)
        refine ⟨ns.length - (i + (k + 1)), by omega, k + 1, b2, num + (b - 128).toNat * part, part * 128, rfl, by omega, z0, z1, ?_, ?_, pn_next c' b1 z' (drop_cons hb2) e⟩
        · have : (((b - 128).toNat : Nat) : Int) = b - 128 := by omega
          rw [Int.natCast_add, Int.natCast_mul, Int.natCast_mul, this]
          rfl
        · rw [upd_upd]
          rfl
    · refine Bad3.on (q2 ?_) sameX_upd upd_same
      rw [e, pn_ge c' b1, pn_bad hbad]
      rfl
  · have c' : b < 128 := by
      simp only [decide_eq_true_eq] at c
      omega
    refine ⟨.inl ⟨by omega, by omega⟩, ?_⟩
    have hb : ((b.toNat : Nat) : Int) = b := by omega
    have := q1 (num + b.toNat * part) (i + k) hk (by rw [e, pn_lt b0 c']; rfl)
    rw [Int.natCast_add, Int.natCast_mul, hb] at this
    exact this
theorem scEnd : FnScope ["self"] ["self"] (defScope sEnd) := ⟨rfl, rfl, rfl, by decide +kernel, rfl, by decide +kernel, by decide +kernel⟩
theorem ok_end (F : Fun K "look_at_end" "Reader.look_at_end" sEnd f fd) (T : Txt mg) (cl : Cls K C) (n1 : NoAttr K C "row") (n2 : NoAttr K C "at") (xc : XCls0 K NB FE) (kX : PySem.W.keepIn K (.ref NB) = true) (mX : mg "NoBytes" = some (.ref NB)) : FnOk P w K mg base (CXe P w) 1 f fd ["self"] (spEnd C NB) := by
  refine F.okX scEnd (fun vs H Q E h => ?_) (fun cdv A outer s H vs Q E hr h => ?_)
  · obtain ⟨r, dx, a, ns, i, rfl, _⟩ := h
    rfl
  obtain ⟨r, dx, a, ns, i, rfl, hr', ha, q1, q2⟩ := h
  refine ⟨_, (pss_one (ps_if (pt_cmpR op_lt (pe_fld (pv 0) rfl) (pe_callB (lenK K) rfl T.len PySem.boot_len (pa_cons (pe_fld (pv 0) rfl) pa_nil)) (nomark _)) (pss_one (ps_raise0 xc kX rfl mX (pa_cons pe_str pa_nil))) pss_nil)), ?_⟩
  simp only [tIfS, tAnd, tOr, tNot, tB, tVar, tTest, tOp, tC, tUn, tCB, tCons, tNil, rI0, rI, rU, rNe, rEq, scal, rAppend, tBM, tDrop, tSeq, tAsg, gName, tRet, tNext, List.set_cons_zero, List.set_cons_succ, List.getElem?_cons_zero, List.getElem?_cons_succ, Option.some.injEq, V.int.injEq, V.bl.injEq, V.ref.injEq, V.str.injEq, exists_eq_left', exists_eq_left, exists_and_left, List.cons.injEq, and_true, true_and, and_assoc, exists_const, L2.start, List.map_cons, List.map_nil, List.length_cons, List.length_nil, List.replicate_succ, List.replicate_zero, List.cons_append, List.nil_append, List.append_nil, Nat.reduceAdd, Nat.reduceSub, tFor_eq, tComp_eq, tWhile_eq, tChain, tAug, ipI, rIxS, rSlS, rLower, rIndex, rPop, rCat, tBM0, gSub, rSetL, tSl, tPart, tNoPart, rSlL, tCall, tLst, tTup, iRng1, iRng2, iRng3, iList, iEnum, gTup, gCons, gNil, rIxL, rIxT, tYes, tAndV, tOrV, tNotV, tIf, tTest, exists_eq', List.ne_cons_self, reduceCtorEq, if_true, if_false, and_false, false_and, tFld, tRaise0]
  refine ⟨C, dx, _, hr', cl, n2, _, rd_at a i, C, dx, _, hr', cl, n1, _, rd_row a i, a, rfl, _, .inl (SqL.of ha), _, rfl, ?_⟩
  refine ite2 (fun c => (q2 ?_).raise) (fun c => q1 ?_)
  · have c' := of_decide_eq_true c
    rw [List.length_map] at c'
    omega
  · simp only [decide_eq_true_eq, List.length_map] at c
    omega
abbrev zN (l : List Nat) : List Int := List.map (fun n : Nat => (n : Int)) l
theorem last_at {xs : List Nat} (h : xs ≠ []) : atI ((xs.map fun n : Nat => (n : Int)).map V.int) (-1) = some (.int (xs.getLastD 0 : Nat)) := by
  refine atI_end ?_
  rw [List.length_map, List.length_map, List.getElem?_map, List.getElem?_map, ← List.getLast?_eq_getElem?, List.getLastD_eq_getLast?]
  cases e : xs.getLast? with
  | none => exact absurd (List.getLast?_eq_none_iff.mp e) h
  | some y => rfl
theorem scBeh : FnScope ["self", "numbers", "step"] ["self", "numbers"] (defScope sBeh) := ⟨rfl, rfl, rfl, by decide +kernel, rfl, by decide +kernel, by decide +kernel⟩
def spBeh (C NB : Addr) : Sp := fun vs H Q E => ∃ (r dx a l : Addr) (ns : List Int) (xs : List Nat) (i : Nat), vs = [.ref r, .ref l] ∧ H r = some (.ins C dx (rd a i)) ∧ H a = some (.lst (ns.map V.int)) ∧ H l = some (.lst ((xs.map fun n : Nat => (n : Int)).map V.int)) ∧ i ≤ ns.length ∧
  (∀ s j : Nat, j ≤ ns.length → pn true (ns.drop i) = some (s, ns.drop j) → ¬ (s = 0 ∧ xs ≠ []) → Q (.int ((xs.getLastD 0 + s : Nat) : Int)) (upd H r (.ins C dx (rd a (j : Int))))) ∧ ((∀ s t, pn true (ns.drop i) = some (s, t) → s = 0 ∧ xs ≠ []) → Bad3 NB r H E)
theorem ok_beh {gn : Addr} {dn : FuncData} (F : Fun K "next_behind" "Reader.next_behind" sBeh f fd) (T : Txt mg) (cl : Cls K C) (xc : XCls0 K NB FE) (kX : PySem.W.keepIn K (.ref NB) = true) (mX : mg "NoBytes" = some (.ref NB)) (GN : FnOk P w K mg base (CXe P w) 2 gn dn ["self"] (spNum C NB)) (bN : Binds K dn ["self"] []) (mN : Meth K C "next_number" gn) : FnOk P w K mg base (CXe P w) 3 f fd ["self", "numbers"] (spBeh C NB) := by
  refine F.okX scBeh (fun vs H Q E h => ?_) (fun cdv A outer s H vs Q E hr h => ?_)
  · obtain ⟨r, dx, a, l, ns, xs, i, rfl, _⟩ := h
    rfl
  obtain ⟨r, dx, a, l, ns, xs, i, rfl, hr', ha, hl, hi, q1, q2⟩ := h
  refine ⟨_, (pss_cons (ps_set (i := 2) scBeh.nd rfl (Or.inl rfl) (pe_meth0 (pv 0) cl mN GN hr bN .nil passX))
    (pss_cons (ps_if (pt_not (pt_truth (pv 1) (fun _ => rfl))) (pss_one (ps_ret (pv 2))) pss_nil)
    (pss_cons (ps_if (pt_cmpR op_eq (pv 2) pe_int (nomark _)) (pss_one (ps_raise0 xc kX rfl mX (pa_cons pe_str pa_nil))) pss_nil)
    (pss_one (ps_ret (pe_op op_add (pe_ix (ixL K) (pv 1) (pe_un un_neg pe_int) (fun _ _ => rfl)) (pv 2))))))), ?_⟩
  simp only [tIfS, tAnd, tOr, tNot, tB, tVar, tTest, tOp, tC, tUn, tCB, tCons, tNil, rI0, rI, rU, rNe, rEq, scal, rAppend, tBM, tDrop, tSeq, tAsg, gName, tRet, tNext, List.set_cons_zero, List.set_cons_succ, List.getElem?_cons_zero, List.getElem?_cons_succ, Option.some.injEq, V.int.injEq, V.bl.injEq, V.ref.injEq, V.str.injEq, exists_eq_left', exists_eq_left, exists_and_left, List.cons.injEq, and_true, true_and, and_assoc, exists_const, L2.start, List.map_cons, List.map_nil, List.length_cons, List.length_nil, List.replicate_succ, List.replicate_zero, List.cons_append, List.nil_append, List.append_nil, Nat.reduceAdd, Nat.reduceSub, tFor_eq, tComp_eq, tWhile_eq, tChain, tAug, ipI, rIxS, rSlS, rLower, rIndex, rPop, rCat, tBM0, gSub, rSetL, tSl, tPart, tNoPart, rSlL, tCall, tLst, tTup, iRng1, iRng2, iRng3, iList, iEnum, gTup, gCons, gNil, rIxL, rIxT, tYes, tAndV, tOrV, tNotV, tIf, tTest, exists_eq', List.ne_cons_self, reduceCtorEq, if_true, if_false, and_false, false_and, tMeth, spNum, tRaise0]
  have nlr : l ≠ r := ne_of hl hr' (by intro z; cases z)
  refine ⟨dx, _, hr', rfl, dx, a, ns, i, hr', ha, hi, fun n j hj e => ?_, fun hn => q2 fun s t h => by rw [hn] at h; cases h⟩
  refine ⟨!xs.isEmpty, .inl ⟨_, SqL.of (by rw [upd_ne nlr]; exact hl), by cases xs <;> rfl⟩, ?_⟩
  cases hxs : xs with
  | nil =>
    rw [hxs] at q1
    rw [if_pos (by rfl)]
    have := q1 n j hj e (by simp)
    simpa using this
  | cons y r' =>
    have hne : xs ≠ [] := by rw [hxs]; exact List.cons_ne_nil _ _
    rw [if_neg (by simp)]
    refine ite2 (fun z => ?_) (fun z => ?_)
    · have z' : n = 0 := by have := of_decide_eq_true z; omega
      refine (Bad3.on (q2 fun s t h => ?_) sameX_upd upd_same).raise
      rw [e] at h
      cases h
      exact ⟨z', hne⟩
    · have z' : n ≠ 0 := fun y => z (decide_eq_true (by omega))
      refine ⟨_, SqL.of (by rw [upd_ne nlr]; exact hl), _, last_at hne, _, rfl, ?_⟩
      rw [show ((xs.getLastD 0 : Nat) : Int) + (n : Int) = ((xs.getLastD 0 + n : Nat) : Int) by omega]
      exact q1 n j hj e fun y => z' y.1
theorem scRis : FnScope ["self", "many", "numbers"] ["self"] (defScope sRis) := ⟨rfl, rfl, rfl, by decide +kernel, rfl, by decide +kernel, by decide +kernel⟩
def spRis (C NB : Addr) : Sp := fun vs H Q E => ∃ (r dx a : Addr) (ns : List Int) (i : Nat), vs = [.ref r] ∧ H r = some (.ins C dx (rd a i)) ∧ H a = some (.lst (ns.map V.int)) ∧ i ≤ ns.length ∧ ns.length ≤ 900 ∧
  (∀ (xs : List Nat) (j : Nat), j ≤ ns.length → xs.length ≤ j → pri (ns.drop i) = some (xs, ns.drop j) → ∀ p H', SameX r H H' → H p = none → H' r = some (.ins C dx (rd a (j : Int))) → H' p = some (.lst ((zN xs).map V.int)) → Q (.ref p) H') ∧ (pri (ns.drop i) = none → Bad3 NB r H E)
def wRis (C dx r a p : Addr) (ns : List Int) (i M : Nat) (H : Hp) (m : Nat) (σ : St) (L : Hp) : Prop := ∃ (j : Nat) (acc : List Nat), m = M - acc.length ∧ acc.length ≤ M ∧ acc.length ≤ j ∧ i ≤ j ∧ j ≤ ns.length ∧ σ = [some (.ref r), some (.int M), some (.ref p)] ∧ SameX r H L ∧ L r = some (.ins C dx (rd a (j : Int))) ∧ L p = some (.lst ((zN acc).map V.int)) ∧ pri (ns.drop i) = prs (M - acc.length) acc (ns.drop j)
theorem prs_none {n : Nat} {acc : List Nat} {l : List Int} (h : ∀ s t, pn true l = some (s, t) → s = 0 ∧ acc ≠ []) : prs (n + 1) acc l = none := by
  rw [prs]
  cases e : pn true l with
  | none => rfl
  | some p => exact if_pos (h p.1 p.2 e)
theorem prs_some {n s : Nat} {acc : List Nat} {l t : List Int} (e : pn true l = some (s, t)) (h : ¬ (s = 0 ∧ acc ≠ [])) : prs (n + 1) acc l = prs n (acc ++ [acc.getLastD 0 + s]) t := by
  rw [prs, e]
  exact if_neg h
theorem ok_ris {gn gh : Addr} {dn dh : FuncData} (F : Fun K "next_rising" "Reader.next_rising" sRis f fd) (T : Txt mg) (cl : Cls K C) (GN : FnOk P w K mg base (CXe P w) 2 gn dn ["self"] (spNum C NB)) (bN : Binds K dn ["self"] []) (mN : Meth K C "next_number" gn)
    (GH : FnOk P w K mg base (CXe P w) 3 gh dh ["self", "numbers"] (spBeh C NB)) (bH : Binds K dh ["self", "numbers"] []) (mH : Meth K C "next_behind" gh) : FnOk P w K mg base (CXe P w) 4 f fd ["self"] (spRis C NB) := by
  refine F.okX scRis (fun vs H Q E h => ?_) (fun cdv A outer s H vs Q E hr h => ?_)
  · obtain ⟨r, dx, a, ns, i, rfl, _⟩ := h
    rfl
  obtain ⟨r, dx, a, ns, i, rfl, hr', ha, hi, hnl, q1, q2⟩ := h
  have hr2 : Room 2 _ := hr.mono (by decide)
  refine ⟨_, (pss_cons (ps_set (i := 1) scRis.nd rfl (Or.inl rfl) (pe_meth0 (pv 0) cl mN GN hr2 bN .nil passX))
    (pss_cons (ps_set (i := 2) scRis.nd rfl (Or.inl rfl) (pe_lst pa_nil))
    (pss_cons (ps_while PassesOwn.leaving (pt_cmpR op_lt (pe_callB (lenK K) rfl T.len PySem.boot_len (pa_cons (pv 2) pa_nil)) (pv 1) (nomark _))
      (pss_one (ps_expr (bmK K PySem.F.plainAttrs_list PySem.F.slot_list_append PySem.F.type_list_append mt_append (pv 2) (pa_cons (pe_meth (pv 0) cl mH GH hr bH .nil passX (pa_cons (pv 2) pa_nil)) pa_nil)))))
    (pss_one (ps_ret (pv 2)))))), ?_⟩
  simp only [tIfS, tAnd, tOr, tNot, tB, tVar, tTest, tOp, tC, tUn, tCB, tCons, tNil, rI0, rI, rU, rNe, rEq, scal, rAppend, tBM, tDrop, tSeq, tAsg, gName, tRet, tNext, List.set_cons_zero, List.set_cons_succ, List.getElem?_cons_zero, List.getElem?_cons_succ, Option.some.injEq, V.int.injEq, V.bl.injEq, V.ref.injEq, V.str.injEq, exists_eq_left', exists_eq_left, exists_and_left, List.cons.injEq, and_true, true_and, and_assoc, exists_const, L2.start, List.map_cons, List.map_nil, List.length_cons, List.length_nil, List.replicate_succ, List.replicate_zero, List.cons_append, List.nil_append, List.append_nil, Nat.reduceAdd, Nat.reduceSub, tFor_eq, tComp_eq, tWhile_eq, tChain, tAug, ipI, rIxS, rSlS, rLower, rIndex, rPop, rCat, tBM0, gSub, rSetL, tSl, tPart, tNoPart, rSlL, tCall, tLst, tTup, iRng1, iRng2, iRng3, iList, iEnum, gTup, gCons, gNil, rIxL, rIxT, tYes, tAndV, tOrV, tNotV, tIf, tTest, exists_eq', List.ne_cons_self, reduceCtorEq, if_true, if_false, and_false, false_and, tMeth, spNum, spBeh]
  refine ⟨dx, _, hr', rfl, dx, a, ns, i, hr', ha, hi, fun M j0 hj0 e0 => ⟨by decide, fun p hp => ?_⟩, fun hn => q2 (by unfold pri; rw [hn])⟩
  have npr : p ≠ r := fun z => by rw [z, upd_same] at hp; cases hp
  have hp0 : H p = none := by rwa [upd_ne npr] at hp
  have nar : a ≠ r := ne_of ha hr' (by intro z; cases z)
  have hij := pn_pos e0 hi hj0
  refine ⟨wRis C dx r a p ns i M H, ⟨M, j0, [], rfl, Nat.zero_le _, Nat.zero_le _, by omega, hj0, rfl, fun b o hb hn => ?_, ?_, ?_, ?_⟩, ?_⟩
  · rw [upd_ne (ne_of_none hb hp0), upd_ne hn]; exact hb
  · rw [upd_ne npr.symm, upd_same]
  · rw [upd_same]; rfl
  · unfold pri; rw [e0]; rfl
  rintro m σ L ⟨j, acc, rfl, h1, h2, h3, h4, rfl, sL, eR, eP, eq⟩
  simp only [tIfS, tAnd, tOr, tNot, tB, tVar, tTest, tOp, tC, tUn, tCB, tCons, tNil, rI0, rI, rU, rNe, rEq, scal, rAppend, tBM, tDrop, tSeq, tAsg, gName, tRet, tNext, List.set_cons_zero, List.set_cons_succ, List.getElem?_cons_zero, List.getElem?_cons_succ, Option.some.injEq, V.int.injEq, V.bl.injEq, V.ref.injEq, V.str.injEq, exists_eq_left', exists_eq_left, exists_and_left, List.cons.injEq, and_true, true_and, and_assoc, exists_const, L2.start, List.map_cons, List.map_nil, List.length_cons, List.length_nil, List.replicate_succ, List.replicate_zero, List.cons_append, List.nil_append, List.append_nil, Nat.reduceAdd, Nat.reduceSub, tFor_eq, tComp_eq, tWhile_eq, tChain, tAug, ipI, rIxS, rSlS, rLower, rIndex, rPop, rCat, tBM0, gSub, rSetL, tSl, tPart, tNoPart, rSlL, tCall, tLst, tTup, iRng1, iRng2, iRng3, iList, iEnum, gTup, gCons, gNil, rIxL, rIxT, tYes, tAndV, tOrV, tNotV, tIf, tTest, exists_eq', List.ne_cons_self, reduceCtorEq, if_true, if_false, and_false, false_and, tMeth, spBeh]
  refine ⟨_, .inl (SqL.of eP), ?_⟩
  have hjl : ((zN acc).map V.int).length = acc.length := by rw [List.length_map, List.length_map]
  rw [hjl]
  refine ite2 (fun c => ?_) (fun c => ?_)
  · have hjx : acc.length < M := by have := of_decide_eq_true c; omega
    obtain ⟨n, hn⟩ : ∃ n, M - acc.length = n + 1 := ⟨M - acc.length - 1, by omega⟩
    refine ⟨fun σ' H' => ∃ m', m' < M - acc.length ∧ wRis C dx r a p ns i M H m' σ' H', fun _ _ h => h, .inl ⟨rfl, _, SqL.of eP⟩, ?_⟩
    refine ⟨dx, _, eR, rfl, dx, a, ns, acc, j, eR, sL _ _ ha nar, eP, h4, fun s j2 hj2 e hs => ?_, fun hbad => ?_⟩
    · have hlt := pn_pos e h4 hj2
      refine ⟨_, by rw [upd_ne npr]; exact eP, by rw [hjl]; exact big9 (by omega), M - (acc.length + 1), by omega, j2, acc ++ [acc.getLastD 0 + s], by rw [List.length_append]; rfl, by rw [List.length_append]; exact hjx, by rw [List.length_append]; show acc.length + 1 ≤ j2; omega, by omega, hj2, rfl, fun b o hb hn' => ?_, ?_, ?_, ?_⟩
      · rw [upd_ne (ne_of_none hb hp0), upd_ne hn']; exact sL b o hb hn'
      · rw [upd_ne npr.symm, upd_same]
      · rw [upd_same]
        simp
      · rw [eq, hn, prs_some e hs, List.length_append, show M - (acc.length + [acc.getLastD 0 + s].length) = n by rw [List.length_singleton]; omega]
    · refine Bad3.on (q2 ?_) sL eR
      rw [eq, hn, prs_none hbad]
  · have hje : M - acc.length = 0 := by simp at c; omega
    rw [hje, prs] at eq
    exact q1 acc j h4 h2 eq p L sL hp0 eR eP
end
end K13

namespace K13
open PySem L2 KB
/-! ### texts and postings read, whatever the row -/
def Bad (NB : Addr) (H : Hp) (E : XK) : Prop := ∀ e H', Same H H' → H e = none → H' e = some (XO e (.ref NB) none) → E (.ref e) none H'
def strN (l : List Nat) : Str := ⟨l.toArray⟩
abbrev ones (l : List Nat) : List Str := List.map (fun c : Nat => (⟨#[c]⟩ : Str)) l
theorem join_list : ∀ l : List Nat, (Str.join "" (ones l)).cps.toList = l
  | [] => rfl
  | [c] => rfl
  | c :: d :: l => by
    show ((#[c] ++ #[]) ++ (Str.join "" (ones (d :: l))).cps).toList = _
    have ih := join_list (d :: l)
    simp
    exact ih
theorem join_n (l : List Nat) : Txt.join "" (ones l) = strN l := by
  have e : Txt.join "" (ones l) = Str.join "" (ones l) := StrLaws.glued_eq_join _ _
  rw [e]
  have h := join_list l
  generalize Str.join "" (ones l) = t at h
  obtain ⟨ts⟩ := t
  exact congrArg Str.mk (Array.toList_inj.mp h)
theorem ptx_none {n : Nat} {acc : List Nat} {ns : List Int} {j : Nat} (h : ∀ b, ns[j]? = some b → sgn b = false) : ptx (n + 1) acc (ns.drop j) = none := by
  cases e : ns[j]? with
  | none => rw [List.drop_eq_nil_of_le (List.getElem?_eq_none_iff.mp e), ptx]
  | some b => rw [drop_cons e, ptx, if_neg (by rw [h b e]; decide)]
theorem ptx_some {n : Nat} {acc : List Nat} {ns : List Int} {j : Nat} {b : Int} (e : ns[j]? = some b) (h : sgn b = true) : ptx (n + 1) acc (ns.drop j) = ptx n (acc ++ [b.toNat]) (ns.drop (j + 1)) := by
  rw [drop_cons e, ptx, if_pos h]
section
variable {P : Program} {w : World} {K : PySem.W.Frag} {mg : Str → Option Value} {base : Heap} {f : Addr} {fd : FuncData} {C NB FE : Addr}
theorem scSg : FnScope ["byte"] ["byte"] (defScope sSg) := ⟨rfl, rfl, rfl, by decide +kernel, rfl, by decide +kernel, by decide +kernel⟩
theorem sg_at : ∀ c, c < 127 → 32 ≤ c → c ≠ 37 → cSIGNS.cps.toList[c - 32]? = some c := by decide +kernel
def spSg (NB : Addr) : Sp := fun vs H Q E => ∃ b : Int, vs = [.int b] ∧ (sgn b = true → Q (.str ⟨#[b.toNat]⟩) H) ∧ (sgn b = false → Bad NB H E)
theorem ok_sg (F : Fun K "sign_of_byte" "sign_of_byte" sSg f fd) (T : Txt mg) (xc : XCls0 K NB FE) (kX : PySem.W.keepIn K (.ref NB) = true) (mX : mg "NoBytes" = some (.ref NB)) : FnOk P w K mg base (CXe P w) 1 f fd ["byte"] (spSg NB) := by
  refine F.okX scSg (fun vs H Q E h => ?_) (fun cdv A outer s H vs Q E hr h => ?_)
  · obtain ⟨b, rfl, _⟩ := h
    rfl
  obtain ⟨b, rfl, q1, q2⟩ := h
  obtain ⟨tF, hF⟩ := T.first
  obtain ⟨tL, hLS⟩ := T.lastS
  obtain ⟨tN, hNS⟩ := T.noS
  obtain ⟨tS, hSg⟩ := T.signs
  refine ⟨_, (pss_cons (ps_if (PW.pt (pw_or (pt_cmpR op_lt (pv 0) (pe_gint rfl hF) (nomark _)) (pw_or (pt_cmpR op_gt (pv 0) (pe_gint rfl hLS) (nomark _)) (pw_or1 (pt_cmpR op_eq (pv 0) (pe_gint rfl hNS) (nomark _)))))) (pss_one (ps_raise0 xc kX rfl mX (pa_cons pe_str pa_nil))) pss_nil)
    (pss_one (ps_ret (pe_ix ix_str (pe_gstr rfl hSg) (pe_op op_sub (pv 0) (pe_gint rfl hF)) (fun _ _ => rfl))))), ?_⟩
  simp only [tIfS, tAnd, tOr, tNot, tB, tVar, tTest, tOp, tC, tUn, tCB, tCons, tNil, rI0, rI, rU, rNe, rEq, scal, rAppend, tBM, tDrop, tSeq, tAsg, gName, tRet, tNext, List.set_cons_zero, List.set_cons_succ, List.getElem?_cons_zero, List.getElem?_cons_succ, Option.some.injEq, V.int.injEq, V.bl.injEq, V.ref.injEq, V.str.injEq, exists_eq_left', exists_eq_left, exists_and_left, List.cons.injEq, and_true, true_and, and_assoc, exists_const, L2.start, List.map_cons, List.map_nil, List.length_cons, List.length_nil, List.replicate_succ, List.replicate_zero, List.cons_append, List.nil_append, List.append_nil, Nat.reduceAdd, Nat.reduceSub, tFor_eq, tComp_eq, tWhile_eq, tChain, tAug, ipI, rIxS, rSlS, rLower, rIndex, rPop, rCat, tBM0, gSub, rSetL, tSl, tPart, tNoPart, rSlL, tCall, tLst, tTup, iRng1, iRng2, iRng3, iList, iEnum, gTup, gCons, gNil, rIxL, rIxT, tYes, tAndV, tOrV, tNotV, tIf, tTest, exists_eq', List.ne_cons_self, reduceCtorEq, if_true, if_false, and_false, false_and, tRaise0]
  have bad : ¬ (32 ≤ b ∧ b ≤ 126 ∧ b ≠ 37) → Bad NB H E := fun z => q2 (decide_eq_false z)
  refine ite2 (fun z => bad (by have := of_decide_eq_true z; omega)) (fun z1 => ite2 (fun z => bad (by have := of_decide_eq_true z; omega)) (fun z2 => ite2 (fun z => bad (by have := of_decide_eq_true z; omega)) (fun z3 => ?_)))
  simp only [decide_eq_true_eq] at z1 z2 z3
  refine ⟨by decide +kernel, b.toNat, ?_, q1 (decide_eq_true ⟨by omega, by omega, z3⟩)⟩
  rw [show b - 32 = ((b.toNat - 32 : Nat) : Int) by omega]
  exact atI_nat (sg_at b.toNat (by omega) (by omega) (by omega))
theorem scNT : FnScope ["self", "many", "signs"] ["self"] (defScope sNT) := ⟨rfl, rfl, rfl, by decide +kernel, rfl, by decide +kernel, by decide +kernel⟩
def spNT (C NB : Addr) : Sp := fun vs H Q E => ∃ (r dx a : Addr) (ns : List Int) (i : Nat), vs = [.ref r] ∧ H r = some (.ins C dx (rd a i)) ∧ H a = some (.lst (ns.map V.int)) ∧ i ≤ ns.length ∧ ns.length ≤ 900 ∧
  (∀ (zs : List Nat) (j : Nat), j ≤ ns.length → zs.length ≤ j → ptxt (ns.drop i) = some (zs, ns.drop j) → ∀ H', SameX r H H' → H' r = some (.ins C dx (rd a (j : Int))) → Q (.str (strN zs)) H') ∧ (ptxt (ns.drop i) = none → Bad3 NB r H E)
def wNT (C dx r a p : Addr) (ns : List Int) (i M : Nat) (H : Hp) (m : Nat) (σ : St) (L : Hp) : Prop := ∃ (j : Nat) (acc : List Nat), m = M - acc.length ∧ acc.length ≤ M ∧ acc.length ≤ j ∧ i ≤ j ∧ j ≤ ns.length ∧ σ = [some (.ref r), some (.int M), some (.ref p)] ∧ SameX r H L ∧ L r = some (.ins C dx (rd a (j : Int))) ∧ L p = some (.lst ((ones acc).map V.str)) ∧ ptxt (ns.drop i) = ptx (M - acc.length) acc (ns.drop j)
theorem ok_nt {gn gb gs : Addr} {dn db ds : FuncData} (F : Fun K "next_text" "Reader.next_text" sNT f fd) (T : Txt mg) (cl : Cls K C) (GN : FnOk P w K mg base (CXe P w) 2 gn dn ["self"] (spNum C NB)) (bN : Binds K dn ["self"] []) (mN : Meth K C "next_number" gn)
    (GB : FnOk P w K mg base (CXe P w) 1 gb db ["self"] (spByte C NB)) (bB : Binds K db ["self"] []) (mB : Meth K C "next_byte" gb)
    (GS : FnOk P w K mg base (CXe P w) 1 gs ds ["byte"] (spSg NB)) (bS : Binds K ds ["byte"] []) (kS : PySem.W.keepIn K (.ref gs) = true) (mS : mg "sign_of_byte" = some (.ref gs)) : FnOk P w K mg base (CXe P w) 3 f fd ["self"] (spNT C NB) := by
  refine F.okX scNT (fun vs H Q E h => ?_) (fun cdv A outer s H vs Q E hr h => ?_)
  · obtain ⟨r, dx, a, ns, i, rfl, _⟩ := h
    rfl
  obtain ⟨r, dx, a, ns, i, rfl, hr', ha, hi, hnl, q1, q2⟩ := h
  have hr1 : Room 1 _ := hr.mono (by decide)
  refine ⟨_, (pss_cons (ps_set (i := 1) scNT.nd rfl (Or.inl rfl) (pe_meth0 (pv 0) cl mN GN hr bN .nil passX))
    (pss_cons (ps_set (i := 2) scNT.nd rfl (Or.inl rfl) (pe_lst pa_nil))
    (pss_cons (ps_while PassesOwn.leaving (pt_cmpR op_lt (pe_callB (lenK K) rfl T.len PySem.boot_len (pa_cons (pv 2) pa_nil)) (pv 1) (nomark _))
      (pss_one (ps_expr (bmK K PySem.F.plainAttrs_list PySem.F.slot_list_append PySem.F.type_list_append mt_append (pv 2) (pa_cons (pe_call GS hr1 rfl mS kS bS .nil passX (pa_cons (pe_meth0 (pv 0) cl mB GB hr1 bB .nil passX) pa_nil)) pa_nil)))))
    (pss_one (ps_ret (bmK K PySem.F.plainAttrs_str PySem.F.slot_str_join PySem.F.type_str_join (mt_join K) pe_str (pa_cons (pv 2) pa_nil))))))), ?_⟩
  simp only [tIfS, tAnd, tOr, tNot, tB, tVar, tTest, tOp, tC, tUn, tCB, tCons, tNil, rI0, rI, rU, rNe, rEq, scal, rAppend, tBM, tDrop, tSeq, tAsg, gName, tRet, tNext, List.set_cons_zero, List.set_cons_succ, List.getElem?_cons_zero, List.getElem?_cons_succ, Option.some.injEq, V.int.injEq, V.bl.injEq, V.ref.injEq, V.str.injEq, exists_eq_left', exists_eq_left, exists_and_left, List.cons.injEq, and_true, true_and, and_assoc, exists_const, L2.start, List.map_cons, List.map_nil, List.length_cons, List.length_nil, List.replicate_succ, List.replicate_zero, List.cons_append, List.nil_append, List.append_nil, Nat.reduceAdd, Nat.reduceSub, tFor_eq, tComp_eq, tWhile_eq, tChain, tAug, ipI, rIxS, rSlS, rLower, rIndex, rPop, rCat, tBM0, gSub, rSetL, tSl, tPart, tNoPart, rSlL, tCall, tLst, tTup, iRng1, iRng2, iRng3, iList, iEnum, gTup, gCons, gNil, rIxL, rIxT, tYes, tAndV, tOrV, tNotV, tIf, tTest, exists_eq', List.ne_cons_self, reduceCtorEq, if_true, if_false, and_false, false_and, tMeth, spNum, spByte, spSg]
  refine ⟨dx, _, hr', rfl, dx, a, ns, i, hr', ha, hi, fun M j0 hj0 e0 => ⟨by decide, fun p hp => ?_⟩, fun hn => q2 (by unfold ptxt; rw [hn])⟩
  have npr : p ≠ r := fun z => by rw [z, upd_same] at hp; cases hp
  have hp0 : H p = none := by rwa [upd_ne npr] at hp
  have nar : a ≠ r := ne_of ha hr' (by intro z; cases z)
  have hij := pn_pos e0 hi hj0
  refine ⟨wNT C dx r a p ns i M H, ⟨M, j0, [], rfl, Nat.zero_le _, Nat.zero_le _, by omega, hj0, rfl, fun b o hb hn => ?_, ?_, ?_, ?_⟩, ?_⟩
  · rw [upd_ne (ne_of_none hb hp0), upd_ne hn]; exact hb
  · rw [upd_ne npr.symm, upd_same]
  · rw [upd_same]; rfl
  · unfold ptxt; rw [e0]; rfl
  rintro m σ L ⟨j, acc, rfl, h1, h2, h3, h4, rfl, sL, eR, eP, eq⟩
  simp only [tIfS, tAnd, tOr, tNot, tB, tVar, tTest, tOp, tC, tUn, tCB, tCons, tNil, rI0, rI, rU, rNe, rEq, scal, rAppend, tBM, tDrop, tSeq, tAsg, gName, tRet, tNext, List.set_cons_zero, List.set_cons_succ, List.getElem?_cons_zero, List.getElem?_cons_succ, Option.some.injEq, V.int.injEq, V.bl.injEq, V.ref.injEq, V.str.injEq, exists_eq_left', exists_eq_left, exists_and_left, List.cons.injEq, and_true, true_and, and_assoc, exists_const, L2.start, List.map_cons, List.map_nil, List.length_cons, List.length_nil, List.replicate_succ, List.replicate_zero, List.cons_append, List.nil_append, List.append_nil, Nat.reduceAdd, Nat.reduceSub, tFor_eq, tComp_eq, tWhile_eq, tChain, tAug, ipI, rIxS, rSlS, rLower, rIndex, rPop, rCat, tBM0, gSub, rSetL, tSl, tPart, tNoPart, rSlL, tCall, tLst, tTup, iRng1, iRng2, iRng3, iList, iEnum, gTup, gCons, gNil, rIxL, rIxT, tYes, tAndV, tOrV, tNotV, tIf, tTest, exists_eq', List.ne_cons_self, reduceCtorEq, if_true, if_false, and_false, false_and, tMeth, spByte, spSg]
  have hjl : ((ones acc).map V.str).length = acc.length := by rw [List.length_map, List.length_map]
  refine ⟨_, .inl (SqL.of eP), ?_⟩
  rw [hjl]
  refine ite2 (fun c => ?_) (fun c => ?_)
  · have hjx : acc.length < M := by have := of_decide_eq_true c; omega
    obtain ⟨n, hn⟩ : ∃ n, M - acc.length = n + 1 := ⟨M - acc.length - 1, by omega⟩
    refine ⟨fun σ' H' => ∃ m', m' < M - acc.length ∧ wNT C dx r a p ns i M H m' σ' H', fun _ _ h => h, .inl ⟨rfl, _, SqL.of eP⟩, ?_⟩
    refine ⟨dx, _, eR, rfl, dx, a, ns, j, eR, sL _ _ ha nar, fun b hb b0 b1 => ?_, fun hbad => ?_⟩
    · have hj1 : j < ns.length := (List.getElem?_eq_some_iff.mp hb).1
      refine ⟨fun hs => ?_, fun hs => ?_⟩
      · refine ⟨_, by rw [upd_ne npr]; exact eP, by rw [hjl]; exact big9 (by omega), M - (acc.length + 1), by omega, j + 1, acc ++ [b.toNat], by rw [List.length_append]; rfl, by rw [List.length_append]; exact hjx, by rw [List.length_append]; show acc.length + 1 ≤ j + 1; omega, by omega, hj1, rfl, fun b' o hb' hn' => ?_, ?_, ?_, ?_⟩
        · rw [upd_ne (ne_of_none hb' hp0), upd_ne hn']; exact sL b' o hb' hn'
        · rw [upd_ne npr.symm, upd_same]
        · rw [upd_same]
          simp
        · rw [eq, hn, ptx_some hb hs, List.length_append, show M - (acc.length + [b.toNat].length) = n by rw [List.length_singleton]; omega]
      · refine (Bad3.on (q2 ?_) (sL.trans sameX_upd) upd_same).raise
        rw [eq, hn, ptx_none fun b' hb' => by rw [hb] at hb'; cases hb'; exact hs]
    · refine Bad3.on (q2 ?_) sL eR
      rw [eq, hn, ptx_none fun b' hb' => decide_eq_false (by have := hbad b' hb'; omega)]
  · have hje : M - acc.length = 0 := by simp at c; omega
    rw [hje, ptx] at eq
    refine ⟨rfl, "", p, ones acc, 1, rfl, rfl, SqL.of eP, fun y hy => ?_, by rw [List.length_map]; omega, by decide, ?_⟩
    · obtain ⟨c, _, rfl⟩ := List.mem_map.mp hy
      exact Nat.le_refl _
    · rw [join_n]
      exact q1 acc j h4 h2 eq L sL eR
/-- the new objects of L, without p -/
def fresh (H : Hp) (p : Addr) (L : Hp) : Hp := fun b => if (H b).isSome = true ∨ b = p then none else L b
theorem fresh_at {H : Hp} {p : Addr} {L : Hp} {b : Addr} (h1 : H b = none) (h2 : b ≠ p) : fresh H p L b = L b := by
  unfold fresh
  rw [if_neg (by rintro (h | h); rw [h1] at h; cases h; exact h2 h)]
theorem fresh_of {H : Hp} {p : Addr} {L : Hp} {b : Addr} {o : HO} (h : fresh H p L b = some o) : H b = none ∧ b ≠ p ∧ L b = some o := by
  unfold fresh at h
  by_cases c : (H b).isSome = true ∨ b = p
  · rw [if_pos c] at h; cases h
  · rw [if_neg c] at h
    refine ⟨?_, fun z => c (.inr z), h⟩
    cases e : H b with
    | none => rfl
    | some o => exact absurd (.inl (by rw [e]; rfl)) c
theorem fresh_same {H : Hp} {p : Addr} {L : Hp} : Same (fresh H p L) L := fun b o h => (fresh_of h).2.2
theorem fresh_mono {H : Hp} {p : Addr} {L M : Hp} (h : ∀ b o, H b = none → b ≠ p → L b = some o → M b = some o) : Same (fresh H p L) (fresh H p M) := fun b o e => by
  obtain ⟨h1, h2, h3⟩ := fresh_of e
  rw [fresh_at h1 h2]
  exact h b o h1 h2 h3
theorem scNP : FnScope ["self", "many", "makes", "found", "places"] ["self"] (defScope sNP) := ⟨rfl, rfl, rfl, by decide +kernel, rfl, by decide +kernel, by decide +kernel⟩
def spNP (C NB : Addr) : Sp := fun vs H Q E => ∃ (r dx a : Addr) (ns : List Int) (i : Nat), vs = [.ref r] ∧ H r = some (.ins C dx (rd a i)) ∧ H a = some (.lst (ns.map V.int)) ∧ i ≤ ns.length ∧ ns.length ≤ 900 ∧
  (∀ (ps : List Pst) (j : Nat), j ≤ ns.length → ps.length ≤ j → ppo (ns.drop i) = some (ps, ns.drop j) → ∀ p ys H', SameX r H H' → H p = none → H' r = some (.ins C dx (rd a (j : Int))) → H' p = some (.lst ys) → DeepTs (fresh H p H') (ps.map dvP) ys → Q (.ref p) H') ∧ (ppo (ns.drop i) = none → Bad3 NB r H E)
def wNP (C dx r a ma p : Addr) (ns : List Int) (i N : Nat) (H : Hp) (m : Nat) (σ : St) (L : Hp) : Prop := ∃ (j : Nat) (acc : List Pst) (ys : List V) (v4 : Option V), m = N - acc.length ∧ acc.length ≤ N ∧ acc.length ≤ j ∧ i ≤ j ∧ j ≤ ns.length ∧ σ = [some (.ref r), some (.int N), some (.ref ma), some (.ref p), v4] ∧ SameX r H L ∧ L r = some (.ins C dx (rd a (j : Int))) ∧ L ma = some (.lst ((zN (acc.map (·.1))).map V.int)) ∧ L p = some (.lst ys) ∧ DeepTs (fresh H p (hide ma L)) (acc.map dvP) ys ∧ ppo (ns.drop i) = pps (N - acc.length) acc (ns.drop j)
theorem pps_none {n : Nat} {acc : List Pst} {l : List Int} (h : ∀ s t, pn true l = some (s, t) → s = 0 ∧ acc.map (·.1) ≠ []) : pps (n + 1) acc l = none := by
  rw [pps]
  cases e : pn true l with
  | none => rfl
  | some p => exact if_pos ⟨(h p.1 p.2 e).1, fun z => (h p.1 p.2 e).2 (by rw [z]; rfl)⟩
theorem pps_step {n s : Nat} {acc : List Pst} {l t : List Int} (e : pn true l = some (s, t)) (h : ¬ (s = 0 ∧ acc.map (·.1) ≠ [])) : pps (n + 1) acc l = match pri t with
      | none => none
      | some (xs, u) => if xs = [] then none else pps n (acc ++ [((acc.map (·.1)).getLastD 0 + s, xs)]) u := by
  rw [pps, e]
  exact if_neg fun z => h ⟨z.1, fun y => z.2 (List.map_eq_nil_iff.mp y)⟩
theorem ok_np {gn gh gr : Addr} {dn dh dr : FuncData} (F : Fun K "next_postings" "Reader.next_postings" sNP f fd) (T : Txt mg) (cl : Cls K C) (xc : XCls0 K NB FE) (kX : PySem.W.keepIn K (.ref NB) = true) (mX : mg "NoBytes" = some (.ref NB)) (GN : FnOk P w K mg base (CXe P w) 2 gn dn ["self"] (spNum C NB)) (bN : Binds K dn ["self"] []) (mN : Meth K C "next_number" gn)
    (GH : FnOk P w K mg base (CXe P w) 3 gh dh ["self", "numbers"] (spBeh C NB)) (bH : Binds K dh ["self", "numbers"] []) (mH : Meth K C "next_behind" gh)
    (GR : FnOk P w K mg base (CXe P w) 4 gr dr ["self"] (spRis C NB)) (bR : Binds K dr ["self"] []) (mR : Meth K C "next_rising" gr) : FnOk P w K mg base (CXe P w) 5 f fd ["self"] (spNP C NB) := by
  refine F.okX scNP (fun vs H Q E h => ?_) (fun cdv A outer s H vs Q E hr h => ?_)
  · obtain ⟨r, dx, a, ns, i, rfl, _⟩ := h
    rfl
  obtain ⟨r, dx, a, ns, i, rfl, hr', ha, hi, hnl, q1, q2⟩ := h
  have hr2 : Room 2 _ := hr.mono (by decide)
  have hr3 : Room 3 _ := hr.mono (by decide)
  refine ⟨_, (pss_cons (ps_set (i := 1) scNP.nd rfl (Or.inl rfl) (pe_meth0 (pv 0) cl mN GN hr2 bN .nil passX))
    (pss_cons (ps_set (i := 2) scNP.nd rfl (Or.inl rfl) (pe_lst pa_nil))
    (pss_cons (ps_set (i := 3) scNP.nd rfl (Or.inl rfl) (pe_lst pa_nil))
    (pss_cons (ps_while PassesOwn.leaving (pt_cmpR op_lt (pe_callB (lenK K) rfl T.len PySem.boot_len (pa_cons (pv 2) pa_nil)) (pv 1) (nomark _))
      (pss_cons (ps_expr (bmK K PySem.F.plainAttrs_list PySem.F.slot_list_append PySem.F.type_list_append mt_append (pv 2) (pa_cons (pe_meth (pv 0) cl mH GH hr3 bH .nil passX (pa_cons (pv 2) pa_nil)) pa_nil)))
    (pss_cons (ps_set (i := 4) scNP.nd rfl (Or.inl rfl) (pe_meth0 (pv 0) cl mR GR hr bR .nil passX))
    (pss_cons (ps_if (pt_not (pt_truth (pv 4) (fun _ => rfl))) (pss_one (ps_raise0 xc kX rfl mX (pa_cons pe_str pa_nil))) pss_nil)
    (pss_one (ps_expr (bmK K PySem.F.plainAttrs_list PySem.F.slot_list_append PySem.F.type_list_append mt_append (pv 3) (pa_cons (pe_tup (pa_cons (pe_ix (ixL K) (pv 2) (pe_un un_neg pe_int) (fun _ _ => rfl)) (pa_cons (pv 4) pa_nil))) pa_nil))))))))
    (pss_one (ps_ret (pv 3))))))), ?_⟩
  simp only [tIfS, tAnd, tOr, tNot, tB, tVar, tTest, tOp, tC, tUn, tCB, tCons, tNil, rI0, rI, rU, rNe, rEq, scal, rAppend, tBM, tDrop, tSeq, tAsg, gName, tRet, tNext, List.set_cons_zero, List.set_cons_succ, List.getElem?_cons_zero, List.getElem?_cons_succ, Option.some.injEq, V.int.injEq, V.bl.injEq, V.ref.injEq, V.str.injEq, exists_eq_left', exists_eq_left, exists_and_left, List.cons.injEq, and_true, true_and, and_assoc, exists_const, L2.start, List.map_cons, List.map_nil, List.length_cons, List.length_nil, List.replicate_succ, List.replicate_zero, List.cons_append, List.nil_append, List.append_nil, Nat.reduceAdd, Nat.reduceSub, tFor_eq, tComp_eq, tWhile_eq, tChain, tAug, ipI, rIxS, rSlS, rLower, rIndex, rPop, rCat, tBM0, gSub, rSetL, tSl, tPart, tNoPart, rSlL, tCall, tLst, tTup, iRng1, iRng2, iRng3, iList, iEnum, gTup, gCons, gNil, rIxL, rIxT, tYes, tAndV, tOrV, tNotV, tIf, tTest, exists_eq', List.ne_cons_self, reduceCtorEq, if_true, if_false, and_false, false_and, tMeth, spNum, tRaise0]
  refine ⟨dx, _, hr', rfl, dx, a, ns, i, hr', ha, hi, fun N j0 hj0 e0 => ⟨by decide, fun ma hma => ⟨by decide, fun p hp => ?_⟩⟩, fun hn => q2 (by unfold ppo; rw [hn])⟩
  have nmr : ma ≠ r := fun z => by rw [z, upd_same] at hma; cases hma
  have hm0 : H ma = none := by rwa [upd_ne nmr] at hma
  have npm : p ≠ ma := fun z => by rw [z, upd_same] at hp; cases hp
  have npr : p ≠ r := fun z => by rw [z, upd_ne nmr.symm, upd_same] at hp; cases hp
  have hp0 : H p = none := by rwa [upd_ne npm, upd_ne npr] at hp
  have nar : a ≠ r := ne_of ha hr' (by intro z; cases z)
  have nam : a ≠ ma := ne_of_none ha hm0
  have hij := pn_pos e0 hi hj0
  refine ⟨wNP C dx r a ma p ns i N H, ⟨N, j0, [], [], none, rfl, Nat.zero_le _, Nat.zero_le _, by omega, hj0, rfl, fun b o hb hn => ?_, ?_, ?_, ?_, DeepTs.nil, ?_⟩, ?_⟩
  · rw [upd_ne (ne_of_none hb hp0), upd_ne (ne_of_none hb hm0), upd_ne hn]; exact hb
  · rw [upd_ne npr.symm, upd_ne nmr.symm, upd_same]
  · rw [upd_ne npm.symm, upd_same]; rfl
  · rw [upd_same]
  · unfold ppo; rw [e0]; rfl
  rintro m σ L ⟨j, acc, ys, v4, rfl, h1, h2, h3, h4, rfl, sL, eR, eM, eP, eD, eq⟩
  simp only [tIfS, tAnd, tOr, tNot, tB, tVar, tTest, tOp, tC, tUn, tCB, tCons, tNil, rI0, rI, rU, rNe, rEq, scal, rAppend, tBM, tDrop, tSeq, tAsg, gName, tRet, tNext, List.set_cons_zero, List.set_cons_succ, List.getElem?_cons_zero, List.getElem?_cons_succ, Option.some.injEq, V.int.injEq, V.bl.injEq, V.ref.injEq, V.str.injEq, exists_eq_left', exists_eq_left, exists_and_left, List.cons.injEq, and_true, true_and, and_assoc, exists_const, L2.start, List.map_cons, List.map_nil, List.length_cons, List.length_nil, List.replicate_succ, List.replicate_zero, List.cons_append, List.nil_append, List.append_nil, Nat.reduceAdd, Nat.reduceSub, tFor_eq, tComp_eq, tWhile_eq, tChain, tAug, ipI, rIxS, rSlS, rLower, rIndex, rPop, rCat, tBM0, gSub, rSetL, tSl, tPart, tNoPart, rSlL, tCall, tLst, tTup, iRng1, iRng2, iRng3, iList, iEnum, gTup, gCons, gNil, rIxL, rIxT, tYes, tAndV, tOrV, tNotV, tIf, tTest, exists_eq', List.ne_cons_self, reduceCtorEq, if_true, if_false, and_false, false_and, tMeth, spBeh, spRis, tRaise0]
  have hjl : ((zN (acc.map (·.1))).map V.int).length = acc.length := by rw [List.length_map, List.length_map, List.length_map]
  have hyl : ys.length = acc.length := by have := eD.length; rwa [List.length_map] at this
  refine ⟨_, .inl (SqL.of eM), ?_⟩
  rw [hjl]
  refine ite2 (fun c => ?_) (fun c => ?_)
  · have hjx : acc.length < N := by have := of_decide_eq_true c; omega
    obtain ⟨n, hn⟩ : ∃ n, N - acc.length = n + 1 := ⟨N - acc.length - 1, by omega⟩
    refine ⟨fun σ' H' => ∃ m', m' < N - acc.length ∧ wNP C dx r a ma p ns i N H m' σ' H', fun _ _ h => h, .inl ⟨rfl, _, SqL.of eM⟩, ?_⟩
    refine ⟨dx, _, eR, rfl, dx, a, ns, acc.map (·.1), j, eR, sL _ _ ha nar, eM, h4, fun s j2 hj2 e hs => ?_, fun hbad => ?_⟩
    rotate_left
    · refine Bad3.on (q2 ?_) sL eR
      rw [eq, hn, pps_none hbad]
    have hlt := pn_pos e h4 hj2
    refine ⟨_, by rw [upd_ne nmr]; exact eM, by rw [hjl]; exact big9 (by omega), ?_⟩
    have eM1 : (zN (acc.map (·.1))).map V.int ++ [V.int (((acc.map (·.1)).getLastD 0 + s : Nat) : Int)] = (zN (acc.map (·.1) ++ [(acc.map (·.1)).getLastD 0 + s])).map V.int := by simp
    rw [eM1]
    have r1 : (upd (upd L r (.ins C dx (rd a (j2 : Int)))) ma (.lst ((zN (acc.map (·.1) ++ [(acc.map (·.1)).getLastD 0 + s])).map V.int))) r = some (.ins C dx (rd a (j2 : Int))) := by rw [upd_ne nmr.symm, upd_same]
    have old : ∀ b o, b ≠ r → b ≠ ma → L b = some o → (upd (upd L r (.ins C dx (rd a (j2 : Int)))) ma (.lst ((zN (acc.map (·.1) ++ [(acc.map (·.1)).getLastD 0 + s])).map V.int))) b = some o := fun b o n1 n2 h => by rw [upd_ne n2, upd_ne n1]; exact h
    have m1 : (upd (upd L r (.ins C dx (rd a (j2 : Int)))) ma (.lst ((zN (acc.map (·.1) ++ [(acc.map (·.1)).getLastD 0 + s])).map V.int))) ma = some (.lst ((zN (acc.map (·.1) ++ [(acc.map (·.1)).getLastD 0 + s])).map V.int)) := upd_same
    generalize upd (upd L r (.ins C dx (rd a (j2 : Int)))) ma (.lst ((zN (acc.map (·.1) ++ [(acc.map (·.1)).getLastD 0 + s])).map V.int)) = L1 at r1 old m1 ⊢
    have p1 := old p _ npr npm eP
    have sL1 : SameX r H L1 := fun b o hb hn' => old b o hn' (ne_of_none hb hm0) (sL b o hb hn')
    refine ⟨dx, _, r1, rfl, dx, a, ns, j2, r1, old a _ nar nam (sL _ _ ha nar), hj2, hnl, fun xs j3 hj3 hxl e3 pl M sM hpl eR' ePl => ?_, fun hbad => ?_⟩
    rotate_left
    · refine Bad3.on (q2 ?_) sL1 r1
      rw [eq, hn, pps_step e hs, hbad]
    have hH : ∀ b o, H b = some o → b ≠ r → M b = some o := fun b o hb hn' => sM b o (sL1 b o hb hn') hn'
    have eM' := sM _ _ m1 nmr
    have eP' := sM _ _ p1 npr
    have npl : pl ≠ p := fun z => by rw [z, p1] at hpl; cases hpl
    have nplm : pl ≠ ma := fun z => by rw [z, m1] at hpl; cases hpl
    have nplr : pl ≠ r := fun z => by rw [z, r1] at hpl; cases hpl
    have hpl0 : H pl = none := by
      cases e : H pl with
      | none => rfl
      | some o =>
        have := sL1 pl o e nplr
        rw [this] at hpl
        cases hpl
    refine ⟨!xs.isEmpty, .inl ⟨_, SqL.of ePl, by cases xs <;> rfl⟩, ?_⟩
    by_cases hx0 : xs = []
    · rw [if_pos (by rw [hx0]; rfl)]
      refine (Bad3.on (q2 ?_) (fun b o hb hn' => hH b o hb hn') eR').raise
      rw [eq, hn, pps_step e hs, e3]
      exact if_pos hx0
    rw [if_neg (by cases xs with | nil => exact absurd rfl hx0 | cons y r' => simp)]
    have hne1 : acc.map (·.1) ++ [(acc.map (·.1)).getLastD 0 + s] ≠ [] := by simp
    have hat := last_at hne1
    rw [last_snoc] at hat
    obtain ⟨j3', q3, _, _⟩ := pri_at e3 hj2
    have hlt3 : j2 ≤ j3 := by
      obtain ⟨k, k1, k2, k3⟩ := pri_at e3 hj2
      have := congrArg List.length k3
      rw [List.length_drop, List.length_drop] at this
      omega
    refine ⟨.inl ⟨rfl, _, SqL.of eP'⟩, _, SqL.of eM', _, hat, by decide, fun t ht => ⟨_, upd_at eP' ht, by rw [hyl]; exact big9 (by omega), N - (acc.length + 1), by omega, j3, acc ++ [((acc.map (·.1)).getLastD 0 + s, xs)], ys ++ [.ref t], some (.ref pl), by rw [List.length_append]; rfl, by rw [List.length_append]; exact hjx, by rw [List.length_append]; show acc.length + 1 ≤ j3; omega, by omega, hj3, rfl, ?_, ?_, ?_, upd_same, ?_, ?_⟩⟩
    · intro b o hb hn'
      have hMb := hH b o hb hn'
      rw [upd_ne (ne_of_none hb hp0), upd_ne (ne_of_none hMb ht)]
      exact hMb
    · rw [upd_ne npr.symm, upd_ne (ne_of_none eR' ht), eR']
    · rw [upd_ne npm.symm, upd_ne (ne_of_none eM' ht), List.map_append]
      exact eM'
    · have ntp : t ≠ p := fun z => by rw [z, eP'] at ht; cases ht
      have ntm : t ≠ ma := fun z => by rw [z, eM'] at ht; cases ht
      have ntr : t ≠ r := fun z => by rw [z, eR'] at ht; cases ht
      have ht0 : H t = none := by
        cases e : H t with
        | none => rfl
        | some o =>
          have := hH t o e ntr
          rw [this] at ht
          cases ht
      rw [List.map_append]
      refine (DeepTs.same (fresh_mono fun b o z1 z2 z3 => ?_) _ _ eD).app (DeepTs.one ?_)
      · have nbm : b ≠ ma := fun z => by rw [z, hide_at] at z3; cases z3
        have nbr : b ≠ r := fun z => by rw [z, hr'] at z1; cases z1
        rw [hide_ne nbm] at z3 ⊢
        have hMb := sM b o (old b o nbr nbm z3) nbr
        rw [upd_ne z2, upd_ne (ne_of_none hMb ht)]
        exact hMb
      · rw [dvP, DeepT]
        refine ⟨t, [.int (((acc.map (·.1)).getLastD 0 + s : Nat) : Int), .ref pl], rfl, ?_, ?_⟩
        · rw [fresh_at ht0 ntp, hide_ne ntm, upd_ne ntp, upd_same]
        · rw [DeepTs]
          refine ⟨_, _, rfl, by rw [DeepT], DeepTs.one ?_⟩
          rw [DeepT]
          refine ⟨pl, _, rfl, ?_, DeepTs.ints _⟩
          rw [fresh_at hpl0 npl, hide_ne nplm, upd_ne npl, upd_ne (ne_of_none ePl ht)]
          exact ePl
    · rw [eq, hn, pps_step e hs, e3, List.length_append, show N - (acc.length + [((acc.map (·.1)).getLastD 0 + s, xs)].length) = n by rw [List.length_singleton]; omega]
      exact if_neg hx0
  · have hje : N - acc.length = 0 := by simp at c; omega
    rw [hje, pps] at eq
    refine q1 acc j h4 h2 eq p ys L sL hp0 eR eP (DeepTs.same (fresh_mono fun b o h1 h2 h3 => ?_) _ _ eD)
    exact hide_same ma L _ _ h3
end
end K13

namespace K13
open PySem L2 KB
section
variable {P : Program} {w : World} {K : PySem.W.Frag} {mg : Str → Option Value} {base : Heap} {f : Addr} {fd : FuncData} {C NB : Addr}
theorem Bad.to3 {x : Addr} {H H0 : Hp} {E : XK} (b : Bad NB H E) (s : Same H H0) (hx : H x = none) : Bad3 NB x H0 E := fun e H' s' he hX => b e H' (SameX.out s hx s') (s.free he) hX
theorem left_nil {ns : List Int} {j : Nat} (h : j ≤ ns.length) (z : ns.drop j = []) : ns.length ≤ j := by
  have := congrArg List.length z
  rw [List.length_drop] at this
  simp at this
  omega
theorem scRN : FnScope ["row", "reader", "number"] ["row"] (defScope sRN) := ⟨rfl, rfl, rfl, by decide +kernel, rfl, by decide +kernel, by decide +kernel⟩
def spRN (NB : Addr) : Sp := fun vs H Q E => ∃ (a : Addr) (ns : List Int), vs = [.ref a] ∧ H a = some (.lst (ns.map V.int)) ∧ (∀ n : Nat, pn true ns = some (n, []) → ∀ H', Same H H' → Q (.int n) H') ∧ ((∀ n, pn true ns ≠ some (n, [])) → Bad NB H E)
theorem ok_rn {gi gn ge : Addr} {di dn de : FuncData} (F : Fun K "read_number" "read_number" sRN f fd) (T : Txt mg) (cl : Cls K C) (GI : FnOk P w K mg base CX0 1 gi di ["self", "row"] (spRI C)) (bI : Binds K di ["self", "row"] []) (MI : Mk K C gi) (mI : mg "Reader" = some (.ref C))
    (GN : FnOk P w K mg base (CXe P w) 2 gn dn ["self"] (spNum C NB)) (bN : Binds K dn ["self"] []) (mN : Meth K C "next_number" gn) (GE : FnOk P w K mg base (CXe P w) 1 ge de ["self"] (spEnd C NB)) (bE : Binds K de ["self"] []) (mE : Meth K C "look_at_end" ge) :
    FnOk P w K mg base (CXe P w) 3 f fd ["row"] (spRN NB) := by
  refine F.okX scRN (fun vs H Q E h => ?_) (fun cdv A outer s H vs Q E hr h => ?_)
  · obtain ⟨a, ns, rfl, _⟩ := h
    rfl
  obtain ⟨a, ns, rfl, ha, q1, q2⟩ := h
  have hr1 : Room 1 _ := hr.mono (by decide)
  have hr2 : Room 2 _ := hr.mono (by decide)
  refine ⟨_, (pss_cons (ps_set (i := 1) scRN.nd rfl (Or.inl rfl) (pe_make MI GI hr2 rfl mI bI .nil pass0 (pa_cons (pv 0) pa_nil)))
    (pss_cons (ps_set (i := 2) scRN.nd rfl (Or.inl rfl) (pe_meth0 (pv 1) cl mN GN hr2 bN .nil passX))
    (pss_cons (ps_expr (pe_meth0 (pv 1) cl mE GE hr1 bE .nil passX))
    (pss_one (ps_ret (pv 2)))))), ?_⟩
  simp only [tIfS, tAnd, tOr, tNot, tB, tVar, tTest, tOp, tC, tUn, tCB, tCons, tNil, rI0, rI, rU, rNe, rEq, scal, rAppend, tBM, tDrop, tSeq, tAsg, gName, tRet, tNext, List.set_cons_zero, List.set_cons_succ, List.getElem?_cons_zero, List.getElem?_cons_succ, Option.some.injEq, V.int.injEq, V.bl.injEq, V.ref.injEq, V.str.injEq, exists_eq_left', exists_eq_left, exists_and_left, List.cons.injEq, and_true, true_and, and_assoc, exists_const, L2.start, List.map_cons, List.map_nil, List.length_cons, List.length_nil, List.replicate_succ, List.replicate_zero, List.cons_append, List.nil_append, List.append_nil, Nat.reduceAdd, Nat.reduceSub, tFor_eq, tComp_eq, tWhile_eq, tChain, tAug, ipI, rIxS, rSlS, rLower, rIndex, rPop, rCat, tBM0, gSub, rSetL, tSl, tPart, tNoPart, rSlL, tCall, tLst, tTup, iRng1, iRng2, iRng3, iList, iEnum, gTup, gCons, gNil, rIxL, rIxT, tYes, tAndV, tOrV, tNotV, tIf, tTest, exists_eq', List.ne_cons_self, reduceCtorEq, if_true, if_false, and_false, false_and, tMake, tMeth, spRI, spNum, spEnd]
  intro x dx hx hdx hne
  have nax : a ≠ x := ne_of_none ha hx
  refine ⟨dx, upd_same, ?_⟩
  rw [upd_upd]
  have s0 : Same H (upd (upd H dx (.own x)) x (.ins C dx (rd a 0))) := (same_new hdx _).newer hx _
  have x0 : (upd (upd H dx (.own x)) x (.ins C dx (rd a 0))) x = some (.ins C dx (rd a 0)) := upd_same
  generalize upd (upd H dx (.own x)) x (.ins C dx (rd a 0)) = H0 at s0 x0 ⊢
  have a0 := s0 _ _ ha
  refine ⟨dx, _, x0, rfl, dx, a, ns, 0, x0, a0, Nat.zero_le _, fun n j hj e => ?_, fun hn => (q2 fun n h => by rw [show pn true ns = none from hn] at h; cases h).to3 s0 hx⟩
  have e' : pn true ns = some (n, ns.drop j) := e
  have sH : Same H (upd H0 x (.ins C dx (rd a (j : Int)))) := SameX.out s0 hx sameX_upd
  refine ⟨dx, _, upd_same, rfl, dx, a, ns, j, upd_same, by rw [upd_ne nax]; exact a0, fun hl => ?_, fun hl => (q2 fun m h => ?_).to3 sH hx⟩
  · exact q1 n (by rw [e', List.drop_eq_nil_of_le hl]) _ sH
  · rw [e'] at h
    have := left_nil hj (congrArg Prod.snd (Option.some.inj h))
    omega
theorem scRT : FnScope ["row", "reader", "text"] ["row"] (defScope sRT) := ⟨rfl, rfl, rfl, by decide +kernel, rfl, by decide +kernel, by decide +kernel⟩
def spRT (NB : Addr) : Sp := fun vs H Q E => ∃ (a : Addr) (ns : List Int), vs = [.ref a] ∧ H a = some (.lst (ns.map V.int)) ∧ ns.length ≤ 900 ∧ (∀ zs, ptxt ns = some (zs, []) → ∀ H', Same H H' → Q (.str (strN zs)) H') ∧ ((∀ zs, ptxt ns ≠ some (zs, [])) → Bad NB H E)
theorem ok_rt {gi gn ge : Addr} {di dn de : FuncData} (F : Fun K "read_text" "read_text" sRT f fd) (T : Txt mg) (cl : Cls K C) (GI : FnOk P w K mg base CX0 1 gi di ["self", "row"] (spRI C)) (bI : Binds K di ["self", "row"] []) (MI : Mk K C gi) (mI : mg "Reader" = some (.ref C))
    (GT : FnOk P w K mg base (CXe P w) 3 gn dn ["self"] (spNT C NB)) (bT : Binds K dn ["self"] []) (mT : Meth K C "next_text" gn) (GE : FnOk P w K mg base (CXe P w) 1 ge de ["self"] (spEnd C NB)) (bE : Binds K de ["self"] []) (mE : Meth K C "look_at_end" ge) :
    FnOk P w K mg base (CXe P w) 4 f fd ["row"] (spRT NB) := by
  refine F.okX scRT (fun vs H Q E h => ?_) (fun cdv A outer s H vs Q E hr h => ?_)
  · obtain ⟨a, ns, rfl, _⟩ := h
    rfl
  obtain ⟨a, ns, rfl, ha, hnl, q1, q2⟩ := h
  have hr1 : Room 1 _ := hr.mono (by decide)
  have hr2 : Room 2 _ := hr.mono (by decide)
  refine ⟨_, (pss_cons (ps_set (i := 1) scRT.nd rfl (Or.inl rfl) (pe_make MI GI hr2 rfl mI bI .nil pass0 (pa_cons (pv 0) pa_nil)))
    (pss_cons (ps_set (i := 2) scRT.nd rfl (Or.inl rfl) (pe_meth0 (pv 1) cl mT GT hr bT .nil passX))
    (pss_cons (ps_expr (pe_meth0 (pv 1) cl mE GE hr1 bE .nil passX))
    (pss_one (ps_ret (pv 2)))))), ?_⟩
  simp only [tIfS, tAnd, tOr, tNot, tB, tVar, tTest, tOp, tC, tUn, tCB, tCons, tNil, rI0, rI, rU, rNe, rEq, scal, rAppend, tBM, tDrop, tSeq, tAsg, gName, tRet, tNext, List.set_cons_zero, List.set_cons_succ, List.getElem?_cons_zero, List.getElem?_cons_succ, Option.some.injEq, V.int.injEq, V.bl.injEq, V.ref.injEq, V.str.injEq, exists_eq_left', exists_eq_left, exists_and_left, List.cons.injEq, and_true, true_and, and_assoc, exists_const, L2.start, List.map_cons, List.map_nil, List.length_cons, List.length_nil, List.replicate_succ, List.replicate_zero, List.cons_append, List.nil_append, List.append_nil, Nat.reduceAdd, Nat.reduceSub, tFor_eq, tComp_eq, tWhile_eq, tChain, tAug, ipI, rIxS, rSlS, rLower, rIndex, rPop, rCat, tBM0, gSub, rSetL, tSl, tPart, tNoPart, rSlL, tCall, tLst, tTup, iRng1, iRng2, iRng3, iList, iEnum, gTup, gCons, gNil, rIxL, rIxT, tYes, tAndV, tOrV, tNotV, tIf, tTest, exists_eq', List.ne_cons_self, reduceCtorEq, if_true, if_false, and_false, false_and, tMake, tMeth, spRI, spNT, spEnd]
  intro x dx hx hdx hne
  have nax : a ≠ x := ne_of_none ha hx
  refine ⟨dx, upd_same, ?_⟩
  rw [upd_upd]
  have s0 : Same H (upd (upd H dx (.own x)) x (.ins C dx (rd a 0))) := (same_new hdx _).newer hx _
  have x0 : (upd (upd H dx (.own x)) x (.ins C dx (rd a 0))) x = some (.ins C dx (rd a 0)) := upd_same
  generalize upd (upd H dx (.own x)) x (.ins C dx (rd a 0)) = H0 at s0 x0 ⊢
  have a0 := s0 _ _ ha
  refine ⟨dx, _, x0, rfl, dx, a, ns, 0, x0, a0, Nat.zero_le _, hnl, fun zs j hj _ e M sM eX => ?_, fun hn => (q2 fun n h => by rw [show ptxt ns = none from hn] at h; cases h).to3 s0 hx⟩
  have e' : ptxt ns = some (zs, ns.drop j) := e
  have sH : Same H M := SameX.out s0 hx sM
  refine ⟨dx, _, eX, rfl, dx, a, ns, j, eX, sM _ _ a0 nax, fun hl => ?_, fun hl => (q2 fun m h => ?_).to3 sH hx⟩
  · exact q1 zs (by rw [e', List.drop_eq_nil_of_le hl]) _ sH
  · rw [e'] at h
    have := left_nil hj (congrArg Prod.snd (Option.some.inj h))
    omega
theorem scRP : FnScope ["row", "reader", "postings"] ["row"] (defScope sRP) := ⟨rfl, rfl, rfl, by decide +kernel, rfl, by decide +kernel, by decide +kernel⟩
def spRP (NB : Addr) : Sp := fun vs H Q E => ∃ (a : Addr) (ns : List Int), vs = [.ref a] ∧ H a = some (.lst (ns.map V.int)) ∧ ns.length ≤ 900 ∧ (∀ ps, ppo ns = some (ps, []) → ∀ p ys H', Same H H' → H p = none → H' p = some (.lst ys) → DeepTs (fresh H p H') (ps.map dvP) ys → Q (.ref p) H') ∧ ((∀ ps, ppo ns ≠ some (ps, [])) → Bad NB H E)
theorem ok_rp {gi gn ge : Addr} {di dn de : FuncData} (F : Fun K "read_postings" "read_postings" sRP f fd) (T : Txt mg) (cl : Cls K C) (GI : FnOk P w K mg base CX0 1 gi di ["self", "row"] (spRI C)) (bI : Binds K di ["self", "row"] []) (MI : Mk K C gi) (mI : mg "Reader" = some (.ref C))
    (GP : FnOk P w K mg base (CXe P w) 5 gn dn ["self"] (spNP C NB)) (bP : Binds K dn ["self"] []) (mP : Meth K C "next_postings" gn) (GE : FnOk P w K mg base (CXe P w) 1 ge de ["self"] (spEnd C NB)) (bE : Binds K de ["self"] []) (mE : Meth K C "look_at_end" ge) :
    FnOk P w K mg base (CXe P w) 6 f fd ["row"] (spRP NB) := by
  refine F.okX scRP (fun vs H Q E h => ?_) (fun cdv A outer s H vs Q E hr h => ?_)
  · obtain ⟨a, ns, rfl, _⟩ := h
    rfl
  obtain ⟨a, ns, rfl, ha, hnl, q1, q2⟩ := h
  have hr1 : Room 1 _ := hr.mono (by decide)
  have hr2 : Room 2 _ := hr.mono (by decide)
  refine ⟨_, (pss_cons (ps_set (i := 1) scRP.nd rfl (Or.inl rfl) (pe_make MI GI hr2 rfl mI bI .nil pass0 (pa_cons (pv 0) pa_nil)))
    (pss_cons (ps_set (i := 2) scRP.nd rfl (Or.inl rfl) (pe_meth0 (pv 1) cl mP GP hr bP .nil passX))
    (pss_cons (ps_expr (pe_meth0 (pv 1) cl mE GE hr1 bE .nil passX))
    (pss_one (ps_ret (pv 2)))))), ?_⟩
  simp only [tIfS, tAnd, tOr, tNot, tB, tVar, tTest, tOp, tC, tUn, tCB, tCons, tNil, rI0, rI, rU, rNe, rEq, scal, rAppend, tBM, tDrop, tSeq, tAsg, gName, tRet, tNext, List.set_cons_zero, List.set_cons_succ, List.getElem?_cons_zero, List.getElem?_cons_succ, Option.some.injEq, V.int.injEq, V.bl.injEq, V.ref.injEq, V.str.injEq, exists_eq_left', exists_eq_left, exists_and_left, List.cons.injEq, and_true, true_and, and_assoc, exists_const, L2.start, List.map_cons, List.map_nil, List.length_cons, List.length_nil, List.replicate_succ, List.replicate_zero, List.cons_append, List.nil_append, List.append_nil, Nat.reduceAdd, Nat.reduceSub, tFor_eq, tComp_eq, tWhile_eq, tChain, tAug, ipI, rIxS, rSlS, rLower, rIndex, rPop, rCat, tBM0, gSub, rSetL, tSl, tPart, tNoPart, rSlL, tCall, tLst, tTup, iRng1, iRng2, iRng3, iList, iEnum, gTup, gCons, gNil, rIxL, rIxT, tYes, tAndV, tOrV, tNotV, tIf, tTest, exists_eq', List.ne_cons_self, reduceCtorEq, if_true, if_false, and_false, false_and, tMake, tMeth, spRI, spNP, spEnd]
  intro x dx hx hdx hne
  have nax : a ≠ x := ne_of_none ha hx
  refine ⟨dx, upd_same, ?_⟩
  rw [upd_upd]
  have s0 : Same H (upd (upd H dx (.own x)) x (.ins C dx (rd a 0))) := (same_new hdx _).newer hx _
  have x0 : (upd (upd H dx (.own x)) x (.ins C dx (rd a 0))) x = some (.ins C dx (rd a 0)) := upd_same
  generalize upd (upd H dx (.own x)) x (.ins C dx (rd a 0)) = H0 at s0 x0 ⊢
  have a0 := s0 _ _ ha
  refine ⟨dx, _, x0, rfl, dx, a, ns, 0, x0, a0, Nat.zero_le _, hnl, fun ps j hj _ e p ys M sM hp eX eP eD => ?_, fun hn => (q2 fun n h => by rw [show ppo ns = none from hn] at h; cases h).to3 s0 hx⟩
  have e' : ppo ns = some (ps, ns.drop j) := e
  have sH : Same H M := SameX.out s0 hx sM
  refine ⟨dx, _, eX, rfl, dx, a, ns, j, eX, sM _ _ a0 nax, fun hl => ?_, fun hl => (q2 fun m h => ?_).to3 sH hx⟩
  · refine q1 ps (by rw [e', List.drop_eq_nil_of_le hl]) p ys M sH (s0.free hp) eP (DeepTs.same (fun b o z => ?_) _ _ eD)
    obtain ⟨h1, h2, h3⟩ := fresh_of z
    rw [fresh_at (s0.free h1) h2]
    exact h3
  · rw [e'] at h
    have := left_nil hj (congrArg Prod.snd (Option.some.inj h))
    omega
end
end K13

namespace K13
open PySem L2 KB
/-! ### the law's own bytes -/
section
variable {P : Program} {w : World} {K : PySem.W.Frag} {mg : Str → Option Value} {base : Heap} {f : Addr} {fd : FuncData}
theorem sg_idx : ∀ c, c < 127 → 32 ≤ c → c ≠ 37 → c ∈ cSg.cps.toList ∧ 32 + Txt.find cSg ⟨#[c]⟩ + (if decide (4 < Txt.find cSg ⟨#[c]⟩) = true then 1 else 0) = (c : Int) := by decide +kernel
theorem scLTB : FnScope ["_law_text_here", "_law_found", "_law_sign", "_law_at"] ["_law_text_here"] (defScope sLTB) := ⟨rfl, rfl, rfl, by decide +kernel, rfl, by decide +kernel, by decide +kernel⟩
def invLT (z : Str) (p : Addr) (H : Hp) (i : Nat) (σ : St) (L : Hp) : Prop := ∃ v2 v3 : Option V, σ = [some (.str z), some (.ref p), v2, v3] ∧ Same H L ∧ L p = some (.lst ((nb z.length ++ (z.cps.toList.take i).map Int.ofNat).map V.int))
theorem ok_ltb {g g2 : Addr} {gd gd2 : FuncData} (F : Fun K "_law_text_bytes" "_law_text_bytes" sLTB f fd) (T : Txt mg) (GL : FnOk P w K mg base CX0 1 g gd ["_law_number_here"] spNB) (bL : Binds K gd ["_law_number_here"] []) (kL : PySem.W.keepIn K (.ref g) = true) (mL : mg "_law_number_bytes" = some (.ref g))
    (GG : FnOk P w K mg base CX0 1 g2 gd2 [] spSigns) (bG : Binds K gd2 [] []) (kG : PySem.W.keepIn K (.ref g2) = true) (mG : mg "_law_signs" = some (.ref g2)) : FnOk P w K mg base CX0 2 f fd ["_law_text_here"] spTB := by
  refine F.ok scLTB (fun vs H Q E h => ?_) (fun cdv A outer s H vs Q E hr h => ?_)
  · obtain ⟨z, rfl, _⟩ := h
    rfl
  obtain ⟨z, rfl, hz, hA, q⟩ := h
  have hnl := nb_len40 (n := z.length) (lt40 (by omega))
  refine ⟨_, (pss_cons (ps_set (i := 1) scLTB.nd rfl (Or.inl rfl) (pe_call GL hr rfl mL kL bL .nil pass0 (pa_cons (pe_callB call_len_str rfl T.len PySem.boot_len (pa_cons (pv 0) pa_nil)) pa_nil)))
    (pss_cons (ps_for PassesOwn.never rfl (pi_str (pv 0)) (pg_name (i := 2) scLTB.nd rfl (Or.inl rfl))
      (pss_cons (ps_set (i := 3) scLTB.nd rfl (Or.inl rfl) (bmK K PySem.F.plainAttrs_str PySem.F.slot_str_index PySem.F.type_str_index (mt_index rfl) (pe_call0 GG hr rfl mG kG bG .nil pass0) (pa_cons (pv 2) pa_nil)))
    (pss_one (ps_expr (bmK K PySem.F.plainAttrs_list PySem.F.slot_list_append PySem.F.type_list_append mt_append (pv 1) (pa_cons (pe_op op_add (pe_op op_add pe_int (pv 3)) (pe_callTy call_int1 rfl T.int (by decide +kernel) (pa_cons (pe_cmpR op_gt (pv 3) pe_int (nomark _)) pa_nil))) pa_nil))))))
    (pss_one (ps_ret (pv 1))))), ?_⟩
  simp only [tIfS, tAnd, tOr, tNot, tB, tVar, tTest, tOp, tC, tUn, tCB, tCons, tNil, rI0, rI, rU, rNe, rEq, scal, rAppend, tBM, tDrop, tSeq, tAsg, gName, tRet, tNext, List.set_cons_zero, List.set_cons_succ, List.getElem?_cons_zero, List.getElem?_cons_succ, Option.some.injEq, V.int.injEq, V.bl.injEq, V.ref.injEq, V.str.injEq, exists_eq_left', exists_eq_left, exists_and_left, List.cons.injEq, and_true, true_and, and_assoc, exists_const, L2.start, List.map_cons, List.map_nil, List.length_cons, List.length_nil, List.replicate_succ, List.replicate_zero, List.cons_append, List.nil_append, List.append_nil, Nat.reduceAdd, Nat.reduceSub, tFor_eq, tComp_eq, tWhile_eq, tChain, tAug, ipI, rIxS, rSlS, rLower, rIndex, rPop, rCat, tBM0, gSub, rSetL, tSl, tPart, tNoPart, rSlL, tCall, tLst, tTup, iRng1, iRng2, iRng3, iList, iEnum, gTup, gCons, gNil, rIxL, rIxT, tYes, tAndV, tOrV, tNotV, tIf, tTest, exists_eq', List.ne_cons_self, reduceCtorEq, if_true, if_false, and_false, false_and, spNB, iStr]
  refine ⟨Nat.le_of_lt (big9 (by omega)), z.length, rfl, by omega, fun p hp => ?_⟩
  refine forW_str (invLT z p H) ⟨none, none, rfl, same_new hp _, by rw [upd_same, List.take_zero]; simp⟩ ?_ ?_
  · rintro i c σ L hc ⟨v2, v3, rfl, sL, eP⟩
    obtain ⟨c0, c1, c2⟩ := hA c (List.mem_of_getElem? hc)
    obtain ⟨k1, k2⟩ := sg_idx c (by omega) c0 c2
    simp only [tIfS, tAnd, tOr, tNot, tB, tVar, tTest, tOp, tC, tUn, tCB, tCons, tNil, rI0, rI, rU, rNe, rEq, scal, rAppend, tBM, tDrop, tSeq, tAsg, gName, tRet, tNext, List.set_cons_zero, List.set_cons_succ, List.getElem?_cons_zero, List.getElem?_cons_succ, Option.some.injEq, V.int.injEq, V.bl.injEq, V.ref.injEq, V.str.injEq, exists_eq_left', exists_eq_left, exists_and_left, List.cons.injEq, and_true, true_and, and_assoc, exists_const, L2.start, List.map_cons, List.map_nil, List.length_cons, List.length_nil, List.replicate_succ, List.replicate_zero, List.cons_append, List.nil_append, List.append_nil, Nat.reduceAdd, Nat.reduceSub, tFor_eq, tComp_eq, tWhile_eq, tChain, tAug, ipI, rIxS, rSlS, rLower, rIndex, rPop, rCat, tBM0, gSub, rSetL, tSl, tPart, tNoPart, rSlL, tCall, tLst, tTup, iRng1, iRng2, iRng3, iList, iEnum, gTup, gCons, gNil, rIxL, rIxT, tYes, tAndV, tOrV, tNotV, tIf, tTest, exists_eq', List.ne_cons_self, reduceCtorEq, if_true, if_false, and_false, false_and, spSigns]
    refine ⟨rfl, c, rfl, k1, .inl ⟨rfl, _, SqL.of eP⟩, .inr ⟨_, eP, big9 ?_, _, _, rfl, sL.newer hp _, ?_⟩⟩
    · rw [List.length_map, List.length_append, List.length_map, List.length_take, slen]
      omega
    · rw [k2, upd_same, take_snoc hc]
      simp
  · rintro σ L ⟨v2, v3, rfl, sL, eP⟩
    simp only [tIfS, tAnd, tOr, tNot, tB, tVar, tTest, tOp, tC, tUn, tCB, tCons, tNil, rI0, rI, rU, rNe, rEq, scal, rAppend, tBM, tDrop, tSeq, tAsg, gName, tRet, tNext, List.set_cons_zero, List.set_cons_succ, List.getElem?_cons_zero, List.getElem?_cons_succ, Option.some.injEq, V.int.injEq, V.bl.injEq, V.ref.injEq, V.str.injEq, exists_eq_left', exists_eq_left, exists_and_left, List.cons.injEq, and_true, true_and, and_assoc, exists_const, L2.start, List.map_cons, List.map_nil, List.length_cons, List.length_nil, List.replicate_succ, List.replicate_zero, List.cons_append, List.nil_append, List.append_nil, Nat.reduceAdd, Nat.reduceSub, tFor_eq, tComp_eq, tWhile_eq, tChain, tAug, ipI, rIxS, rSlS, rLower, rIndex, rPop, rCat, tBM0, gSub, rSetL, tSl, tPart, tNoPart, rSlL, tCall, tLst, tTup, iRng1, iRng2, iRng3, iList, iEnum, gTup, gCons, gNil, rIxL, rIxT, tYes, tAndV, tOrV, tNotV, tIf, tTest, exists_eq', List.ne_cons_self, reduceCtorEq, if_true, if_false, and_false, false_and]
    refine q p L sL hp ?_
    rw [eP, tbytes, slen]
    congr 3
    rw [← slen, List.take_length]
theorem scLPB : FnScope ["_law_postings_here", "_law_found", "_law_ahead", "_law_make", "_law_places", "_law_before", "_law_place"] ["_law_postings_here"] (defScope sLPB) := ⟨rfl, rfl, rfl, by decide +kernel, rfl, by decide +kernel, by decide +kernel⟩
def invLPo (l : Addr) (ps : List Pst) (H : Hp) (i : Nat) (σ : St) (L : Hp) : Prop := ∃ (p : Addr) (v3 v4 v5 v6 : Option V), σ = [some (.ref l), some (.ref p), some (.int (((ps.take i).map (·.1)).getLastD 0 : Nat)), v3, v4, v5, v6] ∧ Same H L ∧ H p = none ∧ L p = some (.lst ((nb ps.length ++ pbs 0 (ps.take i)).map V.int))
def invLPi (l b : Addr) (m : Nat) (bs : List Int) (xs : List Nat) (H : Hp) (k : Nat) (σ : St) (L : Hp) : Prop := ∃ (p : Addr) (v6 : Option V), σ = [some (.ref l), some (.ref p), some (.int m), some (.int m), some (.ref b), some (.int ((xs.take k).getLastD 0 : Nat)), v6] ∧ Same H L ∧ H p = none ∧ L p = some (.lst ((bs ++ rise 0 (xs.take k)).map V.int))
theorem ok_lpb {g : Addr} {gd : FuncData} (F : Fun K "_law_postings_bytes" "_law_postings_bytes" sLPB f fd) (T : Txt mg) (GL : FnOk P w K mg base CX0 1 g gd ["_law_number_here"] spNB) (bL : Binds K gd ["_law_number_here"] []) (kL : PySem.W.keepIn K (.ref g) = true) (mL : mg "_law_number_bytes" = some (.ref g)) : FnOk P w K mg base CX0 2 f fd ["_law_postings_here"] spPB := by
  refine F.ok scLPB (fun vs H Q E h => ?_) (fun cdv A outer s H vs Q E hr h => ?_)
  · obtain ⟨l, ys, ps, rfl, _⟩ := h
    rfl
  obtain ⟨l, ys, ps, rfl, hl, hD, ⟨hx2, hx3⟩, htot, q⟩ := h
  rw [pbytes, List.length_append] at htot
  have hyl : ys.length = ps.length := by have := hD.length; rwa [List.length_map] at this
  refine ⟨_, (pss_cons (ps_set (i := 1) scLPB.nd rfl (Or.inl rfl) (pe_call GL hr rfl mL kL bL .nil pass0 (pa_cons (pe_callB (lenK K) rfl T.len PySem.boot_len (pa_cons (pv 0) pa_nil)) pa_nil)))
    (pss_cons (ps_set (i := 2) scLPB.nd rfl (Or.inl rfl) pe_int)
    (pss_cons (ps_for PassesOwn.never rfl (pi_listK K (pv 0)) (pgT K (n := 2) rfl (pgs_cons (pg_name (i := 3) scLPB.nd rfl (Or.inl rfl)) (pgs_cons (pg_name (i := 4) scLPB.nd rfl (Or.inl rfl)) pgs_nil)))
      (pss_cons (ps_set (i := 1) scLPB.nd rfl (Or.inl rfl) (pe_op op_cat (pe_op op_cat (pv 1) (pe_call GL hr rfl mL kL bL .nil pass0 (pa_cons (pe_op op_sub (pv 3) (pv 2)) pa_nil))) (pe_call GL hr rfl mL kL bL .nil pass0 (pa_cons (pe_callB (lenK K) rfl T.len PySem.boot_len (pa_cons (pv 4) pa_nil)) pa_nil))))
    (pss_cons (ps_set (i := 2) scLPB.nd rfl (Or.inl rfl) (pv 3))
    (pss_cons (ps_set (i := 5) scLPB.nd rfl (Or.inl rfl) pe_int)
    (pss_one (ps_for PassesOwn.never rfl (pi_listK K (pv 4)) (pg_name (i := 6) scLPB.nd rfl (Or.inl rfl))
      (pss_cons (ps_set (i := 1) scLPB.nd rfl (Or.inl rfl) (pe_op op_cat (pv 1) (pe_call GL hr rfl mL kL bL .nil pass0 (pa_cons (pe_op op_sub (pv 6) (pv 5)) pa_nil))))
    (pss_one (ps_set (i := 5) scLPB.nd rfl (Or.inl rfl) (pv 6))))))))))
    (pss_one (ps_ret (pv 1)))))), ?_⟩
  simp only [tIfS, tAnd, tOr, tNot, tB, tVar, tTest, tOp, tC, tUn, tCB, tCons, tNil, rI0, rI, rU, rNe, rEq, scal, rAppend, tBM, tDrop, tSeq, tAsg, gName, tRet, tNext, List.set_cons_zero, List.set_cons_succ, List.getElem?_cons_zero, List.getElem?_cons_succ, Option.some.injEq, V.int.injEq, V.bl.injEq, V.ref.injEq, V.str.injEq, exists_eq_left', exists_eq_left, exists_and_left, List.cons.injEq, and_true, true_and, and_assoc, exists_const, L2.start, List.map_cons, List.map_nil, List.length_cons, List.length_nil, List.replicate_succ, List.replicate_zero, List.cons_append, List.nil_append, List.append_nil, Nat.reduceAdd, Nat.reduceSub, tFor_eq, tComp_eq, tWhile_eq, tChain, tAug, ipI, rIxS, rSlS, rLower, rIndex, rPop, rCat, tBM0, gSub, rSetL, tSl, tPart, tNoPart, rSlL, tCall, tLst, tTup, iRng1, iRng2, iRng3, iList, iEnum, gTup, gCons, gNil, rIxL, rIxT, tYes, tAndV, tOrV, tNotV, tIf, tTest, exists_eq', List.ne_cons_self, reduceCtorEq, if_true, if_false, and_false, false_and, spNB]
  refine ⟨_, .inl (SqL.of hl), ps.length, by rw [hyl], by omega, fun p0 hp0 => ⟨⟨_, SqL.of (upd_at hl hp0)⟩, ?_⟩⟩
  refine forW_list ys (invLPo l ps H) ⟨p0, none, none, none, none, rfl, same_new hp0 _, hp0, by rw [upd_same, List.take_zero]; simp [pbs]⟩ ?_ ?_ ?_
  · rintro i σ L hi ⟨p, v3, v4, v5, v6, rfl, sL, hp, eP⟩
    exact SqL.of (sL _ _ hl)
  · rintro i y σ L hy ⟨p, v3, v4, v5, v6, rfl, sL, hp, eP⟩
    obtain ⟨dv, h1, h2⟩ := hD.get hy
    rw [List.getElem?_map] at h1
    obtain ⟨x, hx, rfl⟩ := Option.map_eq_some_iff.mp h1
    obtain ⟨a, b, rfl, ha, hb⟩ := dvP_at h2
    have hil : i < ps.length := (List.getElem?_eq_some_iff.mp hx).1
    obtain ⟨x1, x2⟩ := hx3 x (List.mem_of_getElem? hx)
    have hat := (ris_at (a := 0) hx2 (Nat.le_refl _) (show (ps.map (·.1))[i]? = some x.1 by rw [List.getElem?_map, hx]; rfl)).1
    rw [← List.map_take] at hat
    have hcut := pbs_cut hx
    simp only [tIfS, tAnd, tOr, tNot, tB, tVar, tTest, tOp, tC, tUn, tCB, tCons, tNil, rI0, rI, rU, rNe, rEq, scal, rAppend, tBM, tDrop, tSeq, tAsg, gName, tRet, tNext, List.set_cons_zero, List.set_cons_succ, List.getElem?_cons_zero, List.getElem?_cons_succ, Option.some.injEq, V.int.injEq, V.bl.injEq, V.ref.injEq, V.str.injEq, exists_eq_left', exists_eq_left, exists_and_left, List.cons.injEq, and_true, true_and, and_assoc, exists_const, L2.start, List.map_cons, List.map_nil, List.length_cons, List.length_nil, List.replicate_succ, List.replicate_zero, List.cons_append, List.nil_append, List.append_nil, Nat.reduceAdd, Nat.reduceSub, tFor_eq, tComp_eq, tWhile_eq, tChain, tAug, ipI, rIxS, rSlS, rLower, rIndex, rPop, rCat, tBM0, gSub, rSetL, tSl, tPart, tNoPart, rSlL, tCall, tLst, tTup, iRng1, iRng2, iRng3, iList, iEnum, gTup, gCons, gNil, rIxL, rIxT, tYes, tAndV, tOrV, tNotV, tIf, tTest, exists_eq', List.ne_cons_self, reduceCtorEq, if_true, if_false, and_false, false_and, spNB]
    refine ⟨_, SqT.of (sL _ _ ha), rfl, ?_⟩
    simp only [tIfS, tAnd, tOr, tNot, tB, tVar, tTest, tOp, tC, tUn, tCB, tCons, tNil, rI0, rI, rU, rNe, rEq, scal, rAppend, tBM, tDrop, tSeq, tAsg, gName, tRet, tNext, List.set_cons_zero, List.set_cons_succ, List.getElem?_cons_zero, List.getElem?_cons_succ, Option.some.injEq, V.int.injEq, V.bl.injEq, V.ref.injEq, V.str.injEq, exists_eq_left', exists_eq_left, exists_and_left, List.cons.injEq, and_true, true_and, and_assoc, exists_const, L2.start, List.map_cons, List.map_nil, List.length_cons, List.length_nil, List.replicate_succ, List.replicate_zero, List.cons_append, List.nil_append, List.append_nil, Nat.reduceAdd, Nat.reduceSub, tFor_eq, tComp_eq, tWhile_eq, tChain, tAug, ipI, rIxS, rSlS, rLower, rIndex, rPop, rCat, tBM0, gSub, rSetL, tSl, tPart, tNoPart, rSlL, tCall, tLst, tTup, iRng1, iRng2, iRng3, iList, iEnum, gTup, gCons, gNil, rIxL, rIxT, tYes, tAndV, tOrV, tNotV, tIf, tTest, exists_eq', List.ne_cons_self, reduceCtorEq, if_true, if_false, and_false, false_and, spNB]
    have hbl : ((zI x.2).map V.int).length = x.2.length := by rw [List.length_map, List.length_map]
    refine ⟨x.1 - ((ps.take i).map (·.1)).getLastD 0, by omega, by omega, fun t1 g1 => ⟨_, upd_at eP g1, _, upd_same, size_ok ?_, fun t2 g2 => ?_⟩⟩
    · rw [List.length_map, List.length_map, List.length_append]
      omega
    rw [← List.map_append]
    have s1 : Same L (upd (upd L t1 (.lst ((nb (x.1 - ((ps.take i).map (·.1)).getLastD 0)).map V.int))) t2 (.lst ((nb ps.length ++ pbs 0 (ps.take i) ++ nb (x.1 - ((ps.take i).map (·.1)).getLastD 0)).map V.int))) := (same_new g1 _).trans (same_new g2 _)
    have eA : (upd (upd L t1 (.lst ((nb (x.1 - ((ps.take i).map (·.1)).getLastD 0)).map V.int))) t2 (.lst ((nb ps.length ++ pbs 0 (ps.take i) ++ nb (x.1 - ((ps.take i).map (·.1)).getLastD 0)).map V.int))) t2 = some (.lst ((nb ps.length ++ pbs 0 (ps.take i) ++ nb (x.1 - ((ps.take i).map (·.1)).getLastD 0)).map V.int)) := upd_same
    generalize upd (upd L t1 (.lst ((nb (x.1 - ((ps.take i).map (·.1)).getLastD 0)).map V.int))) t2 (.lst ((nb ps.length ++ pbs 0 (ps.take i) ++ nb (x.1 - ((ps.take i).map (·.1)).getLastD 0)).map V.int)) = M1 at s1 eA ⊢
    have hb1 := s1 _ _ (sL _ _ hb)
    refine ⟨_, .inl (SqL.of hb1), x.2.length, by rw [hbl], by omega, fun t3 g3 => ⟨_, upd_at eA g3, _, upd_same, size_ok ?_, fun t4 g4 => ?_⟩⟩
    · rw [List.length_map, List.length_map, List.length_append, List.length_append]
      omega
    rw [← List.map_append]
    have s3 := same_new g3 (.lst ((nb x.2.length).map V.int))
    have s2 : Same M1 (upd (upd M1 t3 (.lst ((nb x.2.length).map V.int))) t4 (.lst ((nb ps.length ++ pbs 0 (ps.take i) ++ nb (x.1 - ((ps.take i).map (·.1)).getLastD 0) ++ nb x.2.length).map V.int))) := s3.trans (same_new g4 _)
    have e4 : (upd (upd M1 t3 (.lst ((nb x.2.length).map V.int))) t4 (.lst ((nb ps.length ++ pbs 0 (ps.take i) ++ nb (x.1 - ((ps.take i).map (·.1)).getLastD 0) ++ nb x.2.length).map V.int))) t4 = some (.lst ((nb ps.length ++ pbs 0 (ps.take i) ++ nb (x.1 - ((ps.take i).map (·.1)).getLastD 0) ++ nb x.2.length).map V.int)) := upd_same
    have f4 : H t4 = none := (sL.trans (s1.trans s3)).free g4
    generalize upd (upd M1 t3 (.lst ((nb x.2.length).map V.int))) t4 (.lst ((nb ps.length ++ pbs 0 (ps.take i) ++ nb (x.1 - ((ps.take i).map (·.1)).getLastD 0) ++ nb x.2.length).map V.int)) = M2 at s2 e4 ⊢
    have hb2 := s2 _ _ hb1
    have hbase : (nb ps.length ++ pbs 0 (ps.take i) ++ nb (x.1 - ((ps.take i).map (·.1)).getLastD 0) ++ nb x.2.length).length ≤ 9000 := by
      rw [List.length_append, List.length_append, List.length_append]
      omega
    refine ⟨⟨_, SqL.of hb2⟩, ?_⟩
    have hend : nb ps.length ++ pbs 0 (ps.take (i + 1)) = (nb ps.length ++ pbs 0 (ps.take i) ++ nb (x.1 - ((ps.take i).map (·.1)).getLastD 0) ++ nb x.2.length) ++ rise 0 x.2 := by
      rw [take_snoc hx, pbs_snoc]
      simp only [List.append_assoc]
    generalize nb ps.length ++ pbs 0 (ps.take i) ++ nb (x.1 - ((ps.take i).map (·.1)).getLastD 0) ++ nb x.2.length = bs at e4 hbase hend ⊢
    refine forW_list ((zI x.2).map V.int) (invLPi l b x.1 bs x.2 H) ⟨t4, v6, rfl, sL.trans (s1.trans s2), f4, by rw [e4, List.take_zero, rise, List.append_nil]⟩ ?_ ?_ ?_
    · rintro k σ M hk ⟨p', w6, rfl, sM, hp', eP'⟩
      exact SqL.of (sM _ _ hb)
    · rintro k y σ M hy ⟨p', w6, rfl, sM, hp', eP'⟩
      obtain ⟨v, hv, rfl⟩ : ∃ v, x.2[k]? = some v ∧ y = V.int (v : Int) := by
        rw [List.getElem?_map, List.getElem?_map] at hy
        cases e : x.2[k]? with
        | none => rw [e] at hy; cases hy
        | some v => rw [e] at hy; cases hy; exact ⟨v, rfl, rfl⟩
      have hav := (ris_at (a := 0) x2 (Nat.le_refl _) hv).1
      have hrc := rise_cut hv
      simp only [tIfS, tAnd, tOr, tNot, tB, tVar, tTest, tOp, tC, tUn, tCB, tCons, tNil, rI0, rI, rU, rNe, rEq, scal, rAppend, tBM, tDrop, tSeq, tAsg, gName, tRet, tNext, List.set_cons_zero, List.set_cons_succ, List.getElem?_cons_zero, List.getElem?_cons_succ, Option.some.injEq, V.int.injEq, V.bl.injEq, V.ref.injEq, V.str.injEq, exists_eq_left', exists_eq_left, exists_and_left, List.cons.injEq, and_true, true_and, and_assoc, exists_const, L2.start, List.map_cons, List.map_nil, List.length_cons, List.length_nil, List.replicate_succ, List.replicate_zero, List.cons_append, List.nil_append, List.append_nil, Nat.reduceAdd, Nat.reduceSub, tFor_eq, tComp_eq, tWhile_eq, tChain, tAug, ipI, rIxS, rSlS, rLower, rIndex, rPop, rCat, tBM0, gSub, rSetL, tSl, tPart, tNoPart, rSlL, tCall, tLst, tTup, iRng1, iRng2, iRng3, iList, iEnum, gTup, gCons, gNil, rIxL, rIxT, tYes, tAndV, tOrV, tNotV, tIf, tTest, exists_eq', List.ne_cons_self, reduceCtorEq, if_true, if_false, and_false, false_and, spNB]
      refine ⟨v - (x.2.take k).getLastD 0, by omega, by omega, fun t5 g5 => ⟨_, upd_at eP' g5, _, upd_same, size_ok ?_, fun t6 g6 => ?_⟩⟩
      · rw [List.length_map, List.length_map, List.length_append]
        omega
      · refine ⟨t6, some (.int v), ?_, sM.trans ((same_new g5 _).trans (same_new g6 _)), (sM.trans (same_new g5 _)).free g6, ?_⟩
        · rw [take_snoc hv, last_snoc]
        · rw [upd_same, take_snoc hv, rise_snoc, ← List.map_append, List.append_assoc]
    · rintro σ M ⟨p', w6, rfl, sM, hp', eP'⟩
      rw [hbl, List.take_length] at eP'
      refine ⟨p', some (.int x.1), some (.ref b), some (.int ((x.2.take ((zI x.2).map V.int).length).getLastD 0 : Nat)), w6, ?_, sM, hp', by rw [eP', hend]⟩
      rw [take_snoc hx, List.map_append, show [x].map (fun x => x.1) = [x.1] from rfl, last_snoc]
  · rintro σ L ⟨p, v3, v4, v5, v6, rfl, sL, hp, eP⟩
    simp only [tIfS, tAnd, tOr, tNot, tB, tVar, tTest, tOp, tC, tUn, tCB, tCons, tNil, rI0, rI, rU, rNe, rEq, scal, rAppend, tBM, tDrop, tSeq, tAsg, gName, tRet, tNext, List.set_cons_zero, List.set_cons_succ, List.getElem?_cons_zero, List.getElem?_cons_succ, Option.some.injEq, V.int.injEq, V.bl.injEq, V.ref.injEq, V.str.injEq, exists_eq_left', exists_eq_left, exists_and_left, List.cons.injEq, and_true, true_and, and_assoc, exists_const, L2.start, List.map_cons, List.map_nil, List.length_cons, List.length_nil, List.replicate_succ, List.replicate_zero, List.cons_append, List.nil_append, List.append_nil, Nat.reduceAdd, Nat.reduceSub, tFor_eq, tComp_eq, tWhile_eq, tChain, tAug, ipI, rIxS, rSlS, rLower, rIndex, rPop, rCat, tBM0, gSub, rSetL, tSl, tPart, tNoPart, rSlL, tCall, tLst, tTup, iRng1, iRng2, iRng3, iList, iEnum, gTup, gCons, gNil, rIxL, rIxT, tYes, tAndV, tOrV, tNotV, tIf, tTest, exists_eq', List.ne_cons_self, reduceCtorEq, if_true, if_false, and_false, false_and]
    rw [hyl, List.take_length] at eP
    exact q p L sL hp eP
end
end K13

namespace K13
open PySem L2 KB
section
variable {P : Program} {w : World} {K : PySem.W.Frag} {mg : Str → Option Value} {base : Heap} {f : Addr} {fd : FuncData}
def spLNum (K : PySem.W.Frag) : Sp := fun vs H Q _ => ∃ (a d : Addr) (ns ds : List Int) (G : Hp), vs = [.ref a, .ref d] ∧ Same G H ∧ G d = none ∧ SqL K G a (ns.map V.int) ∧ ns.length ≤ 63 ∧ H d = some (.lst (ds.map V.int)) ∧
  ∀ (n : Nat) (ds' : List Int) (H' : Hp), (nb n).length ≤ 100 → SameX d H H' → H' d = some (.lst (ds'.map V.int)) → Q (.int n) H'
theorem sql_same {H H' : Hp} {a : Addr} {xs : List V} (e : Same H H') (h : SqL K H a xs) : SqL K H' a xs := by
  rcases h with (h | ⟨o, h⟩) | h
  · exact .inl (.inl (e _ _ h))
  · exact .inl (.inr ⟨o, e _ _ h⟩)
  · exact .inr h
theorem scLN : FnScope ["_law_script", "_law_draws_here", "_law_one", "_law_cells", "_law_number_here", "_law_power", "_law_k"] ["_law_script", "_law_draws_here"] (defScope sLN) := ⟨rfl, rfl, rfl, by decide +kernel, rfl, by decide +kernel, by decide +kernel⟩
def invPw (a d ce : Addr) (one num : Int) (L0 : Hp) (i : Nat) (σ : St) (L : Hp) : Prop := ∃ v5 : Option V, σ = [some (.ref a), some (.ref d), some (.int one), some (.ref ce), some (.int num), some (.int ((128 ^ i : Nat) : Int)), v5] ∧ L = L0
theorem ok_lnum {gp : Addr} {dp : FuncData} (F : Fun K "_law_number" "_law_number" sLN f fd) (T : Txt mg) (GP : FnOk P w K mg base CX0 1 gp dp ["_law_draws_here"] spPop) (bP : Binds K dp ["_law_draws_here"] []) (kP : PySem.W.keepIn K (.ref gp) = true) (mP : mg "_law_pop" = some (.ref gp)) : FnOk P w K mg base CX0 2 f fd ["_law_script", "_law_draws_here"] (spLNum K) := by
  refine F.ok scLN (fun vs H Q E h => ?_) (fun cdv A outer s H vs Q E hr h => ?_)
  · obtain ⟨a, d, ns, ds, G, rfl, _⟩ := h
    rfl
  obtain ⟨a, d, ns, ds, G, rfl, sG, gd, hS, hlen, hd, q⟩ := h
  refine ⟨_, (pss_cons (ps_set (i := 2) scLN.nd rfl (Or.inl rfl) (pe_call GP hr rfl mP kP bP .nil pass0 (pa_cons (pv 1) pa_nil)))
    (pss_cons (ps_set (i := 3) scLN.nd rfl (Or.inl rfl) (pe_op op_cat (pe_slice (slL K) (pv 0) po_none (po_some pe_int)) (pe_lst (pa_cons (pv 2) pa_nil))))
    (pss_cons (ps_set (i := 4) scLN.nd rfl (Or.inl rfl) (pe_op op_mod (pe_ix (ixL K) (pv 3) (pe_op op_mod (pe_op op_fdiv (pv 2) pe_int) (pe_callB (lenK K) rfl T.len PySem.boot_len (pa_cons (pv 3) pa_nil))) (fun _ _ => rfl)) (pe_op op_pow pe_int pe_int)))
    (pss_cons (ps_set (i := 5) scLN.nd rfl (Or.inl rfl) pe_int)
    (pss_cons (ps_for PassesOwn.never rfl (pi_range1 rfl T.range (pa_cons (pe_op op_mod (pe_op op_fdiv (pv 2) pe_int) pe_int) pa_nil)) (pg_name (i := 6) scLN.nd rfl (Or.inl rfl))
      (pss_one (ps_set (i := 5) scLN.nd rfl (Or.inl rfl) (pe_op op_mul (pv 5) pe_int))))
    (pss_one (ps_ret (pe_ix (ixL K) (pe_lst (pa_cons (pv 4) (pa_cons (pv 5) (pa_cons (pe_callB (call_max2 rfl) rfl T.max PyProof.Rows.boot_max (pa_cons pe_int (pa_cons (pe_op op_sub (pv 5) pe_int) pa_nil))) (pa_cons (pe_op op_add (pv 5) pe_int) (pa_cons (pe_op op_mod (pe_op op_fdiv (pv 2) pe_int) pe_int) (pa_cons (pe_op op_mod (pe_op op_fdiv (pv 2) pe_int) pe_int) (pa_cons (pe_op op_mul (pv 5) pe_int) (pa_cons pe_int pa_nil))))))))) (pe_op op_mod (pv 2) pe_int) (fun _ _ => rfl))))))))), ?_⟩
  simp only [tIfS, tAnd, tOr, tNot, tB, tVar, tTest, tOp, tC, tUn, tCB, tCons, tNil, rI0, rI, rU, rNe, rEq, scal, rAppend, tBM, tDrop, tSeq, tAsg, gName, tRet, tNext, List.set_cons_zero, List.set_cons_succ, List.getElem?_cons_zero, List.getElem?_cons_succ, Option.some.injEq, V.int.injEq, V.bl.injEq, V.ref.injEq, V.str.injEq, exists_eq_left', exists_eq_left, exists_and_left, List.cons.injEq, and_true, true_and, and_assoc, exists_const, L2.start, List.map_cons, List.map_nil, List.length_cons, List.length_nil, List.replicate_succ, List.replicate_zero, List.cons_append, List.nil_append, List.append_nil, Nat.reduceAdd, Nat.reduceSub, tFor_eq, tComp_eq, tWhile_eq, tChain, tAug, ipI, rIxS, rSlS, rLower, rIndex, rPop, rCat, tBM0, gSub, rSetL, tSl, tPart, tNoPart, rSlL, tCall, tLst, tTup, iRng1, iRng2, iRng3, iList, iEnum, gTup, gCons, gNil, rIxL, rIxT, tYes, tAndV, tOrV, tNotV, tIf, tTest, exists_eq', List.ne_cons_self, reduceCtorEq, if_true, if_false, and_false, false_and, spPop]
  refine ⟨ds, hd, fun z ns' H1 s1 e1 => ⟨_, sql_same (SameX.out sG gd s1) hS, fun p1 h1 => ⟨by decide, fun p2 h2 => ?_⟩⟩⟩
  rw [cutV_map] at h2 ⊢
  have hcl : (cutL ns none (some 63)).length ≤ 63 := by
    unfold cutL
    rw [List.length_take, List.length_drop]
    omega
  refine ⟨_, upd_at upd_same h2, _, upd_same, ?_, fun ce hce => ?_⟩
  · rw [List.length_map, List.length_singleton]
    exact small (by omega)
  have ecs : (cutL ns none (some 63)).map V.int ++ [V.int z] = (cutL ns none (some 63) ++ [z]).map V.int := by rw [List.map_append]; rfl
  rw [ecs]
  have ecl : 0 < (cutL ns none (some 63) ++ [z]).length := by
    rw [List.length_append, List.length_singleton]
    omega
  generalize cutL ns none (some 63) ++ [z] = cs at ecl ⊢
  have s2 : Same H1 (upd (upd (upd H1 p1 (.lst ((cutL ns none (some 63)).map V.int))) p2 (.lst [V.int z])) ce (.lst (cs.map V.int))) := (same_new h1 _).trans ((same_new h2 _).trans (same_new hce _))
  have e2 : (upd (upd (upd H1 p1 (.lst ((cutL ns none (some 63)).map V.int))) p2 (.lst [V.int z])) ce (.lst (cs.map V.int))) ce = some (.lst (cs.map V.int)) := upd_same
  generalize upd (upd (upd H1 p1 (.lst ((cutL ns none (some 63)).map V.int))) p2 (.lst [V.int z])) ce (.lst (cs.map V.int)) = H2 at s2 e2 ⊢
  have x0 := Int.emod_nonneg (z / 8) (show (((cs.map V.int).length : Nat) : Int) ≠ 0 by rw [List.length_map]; omega)
  have x1 := Int.emod_lt_of_pos (z / 8) (show (0 : Int) < (((cs.map V.int).length : Nat) : Int) by rw [List.length_map]; omega)
  obtain ⟨v, hv⟩ := atI_ints (ns := cs) x0 (by rw [List.length_map] at x1 ⊢; exact x1)
  refine ⟨⟨by decide, by decide⟩, _, .inl (SqL.of e2), by rw [List.length_map]; omega, _, SqL.of e2, _, hv, ⟨by decide, by decide, by decide⟩, _, rfl, by decide, ⟨by decide, by decide⟩, by decide, by omega, by omega, ?_⟩
  have m0 := Int.emod_nonneg v (show (10 : Int) ^ Int.toNat 60 ≠ 0 by decide)
  have m1 := Int.emod_lt_of_pos v (show (0 : Int) < (10 : Int) ^ Int.toNat 60 by decide)
  generalize v % 10 ^ Int.toNat 60 = num at m0 m1 ⊢
  refine forW_range (lo := 0) (invPw a d ce z num H2) ⟨none, rfl, rfl⟩ ?_ ?_
  · rintro i σ L hi ⟨v5, rfl, rfl⟩
    simp only [tIfS, tAnd, tOr, tNot, tB, tVar, tTest, tOp, tC, tUn, tCB, tCons, tNil, rI0, rI, rU, rNe, rEq, scal, rAppend, tBM, tDrop, tSeq, tAsg, gName, tRet, tNext, List.set_cons_zero, List.set_cons_succ, List.getElem?_cons_zero, List.getElem?_cons_succ, Option.some.injEq, V.int.injEq, V.bl.injEq, V.ref.injEq, V.str.injEq, exists_eq_left', exists_eq_left, exists_and_left, List.cons.injEq, and_true, true_and, and_assoc, exists_const, L2.start, List.map_cons, List.map_nil, List.length_cons, List.length_nil, List.replicate_succ, List.replicate_zero, List.cons_append, List.nil_append, List.append_nil, Nat.reduceAdd, Nat.reduceSub, tFor_eq, tComp_eq, tWhile_eq, tChain, tAug, ipI, rIxS, rSlS, rLower, rIndex, rPop, rCat, tBM0, gSub, rSetL, tSl, tPart, tNoPart, rSlL, tCall, tLst, tTup, iRng1, iRng2, iRng3, iList, iEnum, gTup, gCons, gNil, rIxL, rIxT, tYes, tAndV, tOrV, tNotV, tIf, tTest, exists_eq', List.ne_cons_self, reduceCtorEq, if_true, if_false, and_false, false_and]
    refine ⟨.inr ⟨by decide, by decide⟩, some (.int (0 + (i : Int))), ?_, rfl⟩
    rw [Nat.pow_succ]
    simp
  · rintro σ L ⟨v5, rfl, rfl⟩
    simp only [tIfS, tAnd, tOr, tNot, tB, tVar, tTest, tOp, tC, tUn, tCB, tCons, tNil, rI0, rI, rU, rNe, rEq, scal, rAppend, tBM, tDrop, tSeq, tAsg, gName, tRet, tNext, List.set_cons_zero, List.set_cons_succ, List.getElem?_cons_zero, List.getElem?_cons_succ, Option.some.injEq, V.int.injEq, V.bl.injEq, V.ref.injEq, V.str.injEq, exists_eq_left', exists_eq_left, exists_and_left, List.cons.injEq, and_true, true_and, and_assoc, exists_const, L2.start, List.map_cons, List.map_nil, List.length_cons, List.length_nil, List.replicate_succ, List.replicate_zero, List.cons_append, List.nil_append, List.append_nil, Nat.reduceAdd, Nat.reduceSub, tFor_eq, tComp_eq, tWhile_eq, tChain, tAug, ipI, rIxS, rSlS, rLower, rIndex, rPop, rCat, tBM0, gSub, rSetL, tSl, tPart, tNoPart, rSlL, tCall, tLst, tTup, iRng1, iRng2, iRng3, iList, iEnum, gTup, gCons, gNil, rIxL, rIxT, tYes, tAndV, tOrV, tNotV, tIf, tTest, exists_eq', List.ne_cons_self, reduceCtorEq, if_true, if_false, and_false, false_and]
    have hk : (z / 8 % 28).toNat ≤ 27 := by omega
    have hpw : 128 ^ (z / 8 % 28).toNat ≤ 128 ^ 27 := Nat.pow_le_pow_right (by decide) hk
    have hpos : 0 < 128 ^ (z / 8 % 28).toNat := Nat.pow_pos (by decide)
    generalize 128 ^ (z / 8 % 28).toNat = pw at hpw hpos ⊢
    refine ⟨⟨by decide, by decide⟩, by decide, ⟨by decide, by decide⟩, by decide, .inr ⟨by decide, by decide⟩, by decide, fun p hp => ⟨by decide, _, SqL.of upd_same, ?_⟩⟩
    obtain ⟨x, hx, hx'⟩ := atI_mem (xs := [num, (pw : Int), if (pw : Int) - 1 > 0 then (pw : Int) - 1 else 0, (pw : Int) + 1, z / 8 % 128, z / 8 % 300, (pw : Int) * 127, 0]) (k := z % 8) (by omega) (by show z % 8 < 8; omega)
    have m1' : num < 10 ^ 60 := m1
    have hb : 0 ≤ x ∧ x < 128 ^ 100 := by
      simp only [List.mem_cons, List.not_mem_nil, or_false] at hx
      rcases hx with h | h | h | h | h | h | h | h
      · omega
      · omega
      · split at h <;> omega
      · omega
      · omega
      · omega
      · omega
      · omega
    refine ⟨_, hx', ?_⟩
    rw [show x = ((x.toNat : Nat) : Int) by omega]
    exact q x.toNat ns' _ (nb_len 99 _ (by omega)) (s1.trans (SameX.of (s2.trans (same_new hp _)))) ((s2.trans (same_new hp _)) _ _ e1)
end
section
variable {P : Program} {w : World} {K : PySem.W.Frag} {mg : Str → Option Value} {base : Heap} {f : Addr} {fd : FuncData}
def PostOk (l : List Pst) : Prop := l.length ≤ 4 ∧ Ris 0 (l.map (·.1)) ∧ ∀ x ∈ l, x.1 < 128 ^ 16 ∧ x.2 ≠ [] ∧ x.2.length ≤ 4 ∧ Ris 0 x.2 ∧ ∀ y ∈ x.2, y < 128 ^ 2
theorem post_len : ∀ (a : Nat) (l : List Pst), (∀ x ∈ l, x.1 < 128 ^ 16 ∧ x.2 ≠ [] ∧ x.2.length ≤ 4 ∧ Ris 0 x.2 ∧ ∀ y ∈ x.2, y < 128 ^ 2) → (pbs a l).length ≤ 25 * l.length
  | a, [], _ => Nat.zero_le _
  | a, x :: l, h => by
    obtain ⟨h1, h2, h3, h4, h5⟩ := h x List.mem_cons_self
    have ih := post_len x.1 l fun y hy => h y (List.mem_cons_of_mem _ hy)
    have l1 := nb_len 15 (x.1 - a) (by omega)
    have l2 := nb_len 0 x.2.length (by omega)
    have l3 := rise_len (k := 1) 0 x.2 h5
    rw [pbs, List.length_append, List.length_append, List.length_append, List.length_cons]
    omega
theorem PostOk.good {ps : List Pst} (h : PostOk ps) : PGood ps ∧ (pbytes ps).length ≤ 200 := by
  refine ⟨⟨h.2.1, fun x hx => ⟨(h.2.2 x hx).2.1, (h.2.2 x hx).2.2.2.1⟩⟩, ?_⟩
  have l1 := nb_len 0 ps.length (by have := h.1; omega)
  have l2 := post_len 0 ps h.2.2
  have := h.1
  rw [pbytes, List.length_append]
  omega
theorem scLP : FnScope ["_law_script", "_law_draws_here", "_law_found", "_law_make", "_law_cells", "_law_k", "_law_one", "_law_far", "_law_places", "_law_place", "_law_j", "_law_two"] ["_law_script", "_law_draws_here"] (defScope sLP) := ⟨rfl, rfl, rfl, by decide +kernel, rfl, by decide +kernel, by decide +kernel⟩
def spLPo (K : PySem.W.Frag) : Sp := fun vs H Q _ => ∃ (a d : Addr) (ns ds : List Int) (G : Hp), vs = [.ref a, .ref d] ∧ Same G H ∧ G d = none ∧ SqL K G a (ns.map V.int) ∧ ns.length ≤ 63 ∧ H d = some (.lst (ds.map V.int)) ∧
  ∀ (p : Addr) (ys : List V) (ps : List Pst) (ds' : List Int) (H' : Hp), SameX d H H' → H' d = some (.lst (ds'.map V.int)) → H p = none → H' p = some (.lst ys) → DeepTs (fresh H p H') (ps.map dvP) ys → PostOk ps → Q (.ref p) H'
theorem zI_snoc (xs : List Nat) (n : Nat) : zI (xs ++ [n]) = zI xs ++ [(n : Int)] := List.map_append
def invGo (a d p ce : Addr) (cs : List Int) (H : Hp) (i : Nat) (σ : St) (L : Hp) : Prop := ∃ (ds : List Int) (ys : List V) (ps : List Pst) (mk : Int) (v5 v6 v7 v8 v9 v10 v11 : Option V), σ = [some (.ref a), some (.ref d), some (.ref p), some (.int mk), some (.ref ce), v5, v6, v7, v8, v9, v10, v11] ∧ SameX d H L ∧ L d = some (.lst (ds.map V.int)) ∧ L p = some (.lst ys) ∧ L ce = some (.lst (cs.map V.int)) ∧ DeepTs (fresh H p L) (ps.map dvP) ys ∧ ps.length = i ∧ PostOk ps ∧ -1 ≤ mk ∧ mk < (i : Int) * (10 ^ 30 + 1) ∧ ∀ x ∈ ps, (x.1 : Int) ≤ mk
def invGi (a d p ce pl : Addr) (mk k one far : Int) (M0 : Hp) (i : Nat) (σ : St) (L : Hp) : Prop := ∃ (ds : List Int) (xs : List Nat) (q : Int) (v10 v11 : Option V), σ = [some (.ref a), some (.ref d), some (.ref p), some (.int mk), some (.ref ce), some (.int k), some (.int one), some (.int far), some (.ref pl), some (.int q), v10, v11] ∧ SameX d M0 L ∧ L d = some (.lst (ds.map V.int)) ∧ L pl = some (.lst ((zI xs).map V.int)) ∧ xs.length = i ∧ Ris 0 xs ∧ -1 ≤ q ∧ q < (i : Int) * 301 ∧ ∀ x ∈ xs, (x : Int) ≤ q
theorem ok_lpo {g : Addr} {gd : FuncData} (F : Fun K "_law_postings" "_law_postings" sLP f fd) (T : Txt mg) (GP : FnOk P w K mg base CX0 1 g gd ["_law_draws_here"] spPop) (bP : Binds K gd ["_law_draws_here"] []) (kP : PySem.W.keepIn K (.ref g) = true) (mP : mg "_law_pop" = some (.ref g)) : FnOk P w K mg base CX0 2 f fd ["_law_script", "_law_draws_here"] (spLPo K) := by
  refine F.ok scLP (fun vs H Q E h => ?_) (fun cdv A outer s H vs Q E hr h => ?_)
  · obtain ⟨a, d, ns, ds, G, rfl, _⟩ := h
    rfl
  obtain ⟨a, d, ns, ds, G, rfl, sG, gd, hS, hlen, hd, q⟩ := h
  refine ⟨_, (pss_cons (ps_set (i := 2) scLP.nd rfl (Or.inl rfl) (pe_lst pa_nil))
    (pss_cons (ps_set (i := 3) scLP.nd rfl (Or.inl rfl) (pe_un un_neg pe_int))
    (pss_cons (ps_set (i := 4) scLP.nd rfl (Or.inl rfl) (pe_op op_cat (pe_slice (slL K) (pv 0) po_none (po_some pe_int)) (pe_lst (pa_cons pe_int pa_nil))))
    (pss_cons (ps_for PassesOwn.never rfl (pi_range1 rfl T.range (pa_cons (pe_op op_mod (pe_call GP hr rfl mP kP bP .nil pass0 (pa_cons (pv 1) pa_nil)) pe_int) pa_nil)) (pg_name (i := 5) scLP.nd rfl (Or.inl rfl))
      (pss_cons (ps_set (i := 6) scLP.nd rfl (Or.inl rfl) (pe_call GP hr rfl mP kP bP .nil pass0 (pa_cons (pv 1) pa_nil)))
    (pss_cons (ps_set (i := 7) scLP.nd rfl (Or.inl rfl) (pe_op op_mod (pe_ix (ixL K) (pv 4) (pe_op op_mod (pe_op op_fdiv (pv 6) pe_int) (pe_callB (lenK K) rfl T.len PySem.boot_len (pa_cons (pv 4) pa_nil))) (fun _ _ => rfl)) (pe_op op_pow pe_int pe_int)))
    (pss_cons (ps_set (i := 3) scLP.nd rfl (Or.inl rfl) (pe_op op_add (pe_op op_add (pv 3) pe_int) (pe_ix (ixL K) (pe_lst (pa_cons pe_int (pa_cons (pe_op op_mod (pe_op op_fdiv (pv 6) pe_int) pe_int) (pa_cons (pe_op op_mod (pe_op op_fdiv (pv 6) pe_int) pe_int) (pa_cons (pv 7) pa_nil))))) (pe_op op_mod (pv 6) pe_int) (fun _ _ => rfl))))
    (pss_cons (ps_set (i := 8) scLP.nd rfl (Or.inl rfl) (pe_lst pa_nil))
    (pss_cons (ps_set (i := 9) scLP.nd rfl (Or.inl rfl) (pe_un un_neg pe_int))
    (pss_cons (ps_for PassesOwn.never rfl (pi_range1 rfl T.range (pa_cons (pe_op op_add pe_int (pe_op op_mod (pe_call GP hr rfl mP kP bP .nil pass0 (pa_cons (pv 1) pa_nil)) pe_int)) pa_nil)) (pg_name (i := 10) scLP.nd rfl (Or.inl rfl))
      (pss_cons (ps_set (i := 11) scLP.nd rfl (Or.inl rfl) (pe_call GP hr rfl mP kP bP .nil pass0 (pa_cons (pv 1) pa_nil)))
    (pss_cons (ps_set (i := 9) scLP.nd rfl (Or.inl rfl) (pe_op op_add (pe_op op_add (pv 9) pe_int) (pe_ix (ixL K) (pe_lst (pa_cons pe_int (pa_cons (pe_op op_mod (pe_op op_fdiv (pv 11) pe_int) pe_int) (pa_cons (pe_op op_mod (pe_op op_fdiv (pv 11) pe_int) pe_int) pa_nil)))) (pe_op op_mod (pv 11) pe_int) (fun _ _ => rfl))))
    (pss_one (ps_expr (bmK K PySem.F.plainAttrs_list PySem.F.slot_list_append PySem.F.type_list_append mt_append (pv 8) (pa_cons (pv 9) pa_nil)))))))
    (pss_one (ps_expr (bmK K PySem.F.plainAttrs_list PySem.F.slot_list_append PySem.F.type_list_append mt_append (pv 2) (pa_cons (pe_tup (pa_cons (pv 3) (pa_cons (pv 8) pa_nil))) pa_nil)))))))))))
    (pss_one (ps_ret (pv 2))))))), ?_⟩
  simp only [tIfS, tAnd, tOr, tNot, tB, tVar, tTest, tOp, tC, tUn, tCB, tCons, tNil, rI0, rI, rU, rNe, rEq, scal, rAppend, tBM, tDrop, tSeq, tAsg, gName, tRet, tNext, List.set_cons_zero, List.set_cons_succ, List.getElem?_cons_zero, List.getElem?_cons_succ, Option.some.injEq, V.int.injEq, V.bl.injEq, V.ref.injEq, V.str.injEq, exists_eq_left', exists_eq_left, exists_and_left, List.cons.injEq, and_true, true_and, and_assoc, exists_const, L2.start, List.map_cons, List.map_nil, List.length_cons, List.length_nil, List.replicate_succ, List.replicate_zero, List.cons_append, List.nil_append, List.append_nil, Nat.reduceAdd, Nat.reduceSub, tFor_eq, tComp_eq, tWhile_eq, tChain, tAug, ipI, rIxS, rSlS, rLower, rIndex, rPop, rCat, tBM0, gSub, rSetL, tSl, tPart, tNoPart, rSlL, tCall, tLst, tTup, iRng1, iRng2, iRng3, iList, iEnum, gTup, gCons, gNil, rIxL, rIxT, tYes, tAndV, tOrV, tNotV, tIf, tTest, exists_eq', List.ne_cons_self, reduceCtorEq, if_true, if_false, and_false, false_and, spPop]
  refine ⟨by decide, fun p hp => ⟨_, sql_same (sG.trans (same_new hp _)) hS, fun p1 h1 => ⟨by decide, fun p2 h2 => ?_⟩⟩⟩
  rw [cutV_map] at h2 ⊢
  have hcl : (cutL ns none (some 63)).length ≤ 63 := by
    unfold cutL
    rw [List.length_take, List.length_drop]
    omega
  refine ⟨_, upd_at upd_same h2, _, upd_same, ?_, fun ce hce => ?_⟩
  · rw [List.length_map, List.length_singleton]
    exact small (by omega)
  have ecs : (cutL ns none (some 63)).map V.int ++ [V.int 1] = (cutL ns none (some 63) ++ [1]).map V.int := by rw [List.map_append]; rfl
  rw [ecs]
  have ecl : 0 < (cutL ns none (some 63) ++ [1]).length := by
    rw [List.length_append, List.length_singleton]
    omega
  generalize cutL ns none (some 63) ++ [1] = cs at ecl ⊢
  have s2 : Same (upd H p (.lst [])) (upd (upd (upd (upd H p (.lst [])) p1 (.lst ((cutL ns none (some 63)).map V.int))) p2 (.lst [V.int 1])) ce (.lst (cs.map V.int))) := (same_new h1 _).trans ((same_new h2 _).trans (same_new hce _))
  have e2 : (upd (upd (upd (upd H p (.lst [])) p1 (.lst ((cutL ns none (some 63)).map V.int))) p2 (.lst [V.int 1])) ce (.lst (cs.map V.int))) ce = some (.lst (cs.map V.int)) := upd_same
  have ncd : ce ≠ d := fun z => by
    have := ((same_new hp (.lst [])).trans ((same_new h1 (.lst ((cutL ns none (some 63)).map V.int))).trans (same_new h2 (.lst [V.int 1])))) d _ hd
    rw [z, this] at hce
    cases hce
  have ncp : ce ≠ p := fun z => by
    have := (((same_new h1 (.lst ((cutL ns none (some 63)).map V.int))).trans (same_new h2 (.lst [V.int 1]))) p _ upd_same)
    rw [z, this] at hce
    cases hce
  generalize upd (upd (upd (upd H p (.lst [])) p1 (.lst ((cutL ns none (some 63)).map V.int))) p2 (.lst [V.int 1])) ce (.lst (cs.map V.int)) = H2 at s2 e2 ⊢
  have s0 : Same H H2 := (same_new hp _).trans s2
  have ep := s2 _ _ (upd_same (H := H) (a := p) (o := .lst []))
  refine ⟨ds, s0 _ _ hd, fun z ds1 H3 s3 e3 => ⟨by decide, by omega, by omega, ?_⟩⟩
  have npd : p ≠ d := fun z => by rw [z, hd] at hp; cases hp
  have hce0 : H ce = none := ((same_new hp (.lst [])).trans ((same_new h1 (.lst ((cutL ns none (some 63)).map V.int))).trans (same_new h2 (.lst [V.int 1])))).free hce
  refine forW_range (lo := 0) (invGo a d p ce cs H) ⟨ds1, [], [], -1, none, none, none, none, none, none, none, rfl, fun b o hb hn => s3 b o (s0 b o hb) hn, e3, s3 _ _ ep npd, s3 _ _ e2 ncd, DeepTs.nil, rfl, ⟨Nat.zero_le _, trivial, fun x hx => by cases hx⟩, by decide, by decide, fun x hx => by cases hx⟩ ?_ ?_
  · rintro i σ L hi ⟨ds2, ys, ps, mk, v5, v6, v7, v8, v9, v10, v11, rfl, sL, eD, eP, eC, hD, hpl, hok, hmk0, hmk1, hmx⟩
    simp only [tIfS, tAnd, tOr, tNot, tB, tVar, tTest, tOp, tC, tUn, tCB, tCons, tNil, rI0, rI, rU, rNe, rEq, scal, rAppend, tBM, tDrop, tSeq, tAsg, gName, tRet, tNext, List.set_cons_zero, List.set_cons_succ, List.getElem?_cons_zero, List.getElem?_cons_succ, Option.some.injEq, V.int.injEq, V.bl.injEq, V.ref.injEq, V.str.injEq, exists_eq_left', exists_eq_left, exists_and_left, List.cons.injEq, and_true, true_and, and_assoc, exists_const, L2.start, List.map_cons, List.map_nil, List.length_cons, List.length_nil, List.replicate_succ, List.replicate_zero, List.cons_append, List.nil_append, List.append_nil, Nat.reduceAdd, Nat.reduceSub, tFor_eq, tComp_eq, tWhile_eq, tChain, tAug, ipI, rIxS, rSlS, rLower, rIndex, rPop, rCat, tBM0, gSub, rSetL, tSl, tPart, tNoPart, rSlL, tCall, tLst, tTup, iRng1, iRng2, iRng3, iList, iEnum, gTup, gCons, gNil, rIxL, rIxT, tYes, tAndV, tOrV, tNotV, tIf, tTest, exists_eq', List.ne_cons_self, reduceCtorEq, if_true, if_false, and_false, false_and, spPop]
    have hi4 : i ≤ 4 := by omega
    refine ⟨ds2, eD, fun one ds3 L1 t1 f1 => ?_⟩
    have eC1 := t1 _ _ eC ncd
    have eP1 := t1 _ _ eP npd
    have x0 := Int.emod_nonneg (one / 36) (show (((cs.map V.int).length : Nat) : Int) ≠ 0 by rw [List.length_map]; omega)
    have x1 := Int.emod_lt_of_pos (one / 36) (show (0 : Int) < (((cs.map V.int).length : Nat) : Int) by rw [List.length_map]; omega)
    obtain ⟨v, hv⟩ := atI_ints (ns := cs) x0 (by rw [List.length_map] at x1 ⊢; exact x1)
    refine ⟨⟨by decide, by decide⟩, _, .inl (SqL.of eC1), by rw [List.length_map]; omega, _, SqL.of eC1, _, hv, ⟨by decide, by decide, by decide⟩, _, rfl, by decide, ⟨by decide, by decide⟩, by decide, ⟨by decide, by decide⟩, by decide, by decide, fun t2 g2 => ⟨by decide, _, SqL.of upd_same, ?_⟩⟩
    have m0 := Int.emod_nonneg v (show (10 : Int) ^ Int.toNat 30 ≠ 0 by decide)
    have m1 : v % 10 ^ Int.toNat 30 < 10 ^ 30 := Int.emod_lt_of_pos v (show (0 : Int) < (10 : Int) ^ Int.toNat 30 by decide)
    generalize v % 10 ^ Int.toNat 30 = far at m0 m1 ⊢
    obtain ⟨ic, hic, hic'⟩ := atI_mem (xs := [0, one / 4 % 9, one / 4 % 300, far]) (k := one % 4) (by omega) (by show one % 4 < 4; omega)
    have hib : 0 ≤ ic ∧ ic < 10 ^ 30 := by
      simp only [List.mem_cons, List.not_mem_nil, or_false] at hic
      rcases hic with h | h | h | h <;> omega
    have s4 := same_new g2 (.lst [V.int 0, V.int (one / 4 % 9), V.int (one / 4 % 300), V.int far])
    generalize upd L1 t2 (.lst [V.int 0, V.int (one / 4 % 9), V.int (one / 4 % 300), V.int far]) = M0 at s4 ⊢
    refine ⟨_, hic', _, rfl, by decide, fun pl hpl0 => ?_⟩
    have s5 := same_new hpl0 (.lst [])
    have f2 := s4 _ _ f1
    refine ⟨ds3, s5 _ _ f2, fun two ds4 L2' t3 f3 => ⟨by decide, by omega, by omega, ?_⟩⟩
    have nplp : pl ≠ p := fun z => by rw [z, s4 _ _ eP1] at hpl0; cases hpl0
    have npld : pl ≠ d := fun z => by rw [z, f2] at hpl0; cases hpl0
    have nplc : pl ≠ ce := fun z => by rw [z, s4 _ _ eC1] at hpl0; cases hpl0
    have toM0 : ∀ b o, L b = some o → b ≠ d → M0 b = some o := fun b o hb hn => s4 b o (t1 b o hb hn)
    have hplH : H pl = none := by
      cases e : H pl with
      | none => rfl
      | some o =>
        have := toM0 pl o (sL pl o e npld) npld
        rw [this] at hpl0
        cases hpl0
    have epl := t3 _ _ (upd_same (H := M0) (a := pl) (o := .lst [])) npld
    refine forW_range (lo := 0) (invGi a d p ce pl (mk + 1 + ic) (0 + (i : Int)) one far M0) ⟨ds4, [], -1, v10, v11, rfl, fun b o hb hn => t3 b o (s5 b o hb) hn, f3, epl, rfl, trivial, by decide, by decide, fun x hx => by cases hx⟩ ?_ ?_
    · rintro j σ M hj ⟨ds5, xs, q5, w10, w11, rfl, sM, fM, ePl, hxl, hris, hq0, hq1, hqx⟩
      simp only [tIfS, tAnd, tOr, tNot, tB, tVar, tTest, tOp, tC, tUn, tCB, tCons, tNil, rI0, rI, rU, rNe, rEq, scal, rAppend, tBM, tDrop, tSeq, tAsg, gName, tRet, tNext, List.set_cons_zero, List.set_cons_succ, List.getElem?_cons_zero, List.getElem?_cons_succ, Option.some.injEq, V.int.injEq, V.bl.injEq, V.ref.injEq, V.str.injEq, exists_eq_left', exists_eq_left, exists_and_left, List.cons.injEq, and_true, true_and, and_assoc, exists_const, L2.start, List.map_cons, List.map_nil, List.length_cons, List.length_nil, List.replicate_succ, List.replicate_zero, List.cons_append, List.nil_append, List.append_nil, Nat.reduceAdd, Nat.reduceSub, tFor_eq, tComp_eq, tWhile_eq, tChain, tAug, ipI, rIxS, rSlS, rLower, rIndex, rPop, rCat, tBM0, gSub, rSetL, tSl, tPart, tNoPart, rSlL, tCall, tLst, tTup, iRng1, iRng2, iRng3, iList, iEnum, gTup, gCons, gNil, rIxL, rIxT, tYes, tAndV, tOrV, tNotV, tIf, tTest, exists_eq', List.ne_cons_self, reduceCtorEq, if_true, if_false, and_false, false_and, spPop]
      refine ⟨ds5, fM, fun two' ds6 M1 t4 f4 => ⟨⟨by decide, by decide⟩, by decide, ⟨by decide, by decide⟩, by decide, by decide, fun t6 g6 => ⟨by decide, _, SqL.of upd_same, ?_⟩⟩⟩
      obtain ⟨ic2, hic2, hic2'⟩ := atI_mem (xs := [0, two' / 3 % 3, two' / 3 % 300]) (k := two' % 3) (by omega) (by show two' % 3 < 3; omega)
      have hib2 : 0 ≤ ic2 ∧ ic2 < 300 := by
        simp only [List.mem_cons, List.not_mem_nil, or_false] at hic2
        rcases hic2 with h | h | h <;> omega
      have s7 := same_new g6 (.lst [V.int 0, V.int (two' / 3 % 3), V.int (two' / 3 % 300)])
      generalize upd M1 t6 (.lst [V.int 0, V.int (two' / 3 % 3), V.int (two' / 3 % 300)]) = M3 at s7 ⊢
      have ePl3 := s7 _ _ (t4 _ _ ePl npld)
      refine ⟨_, hic2', _, rfl, .inl ⟨rfl, _, SqL.of ePl3⟩, _, ePl3, small1000 (by rw [List.length_map, List.length_map]; omega), ?_⟩
      refine ⟨ds6, xs ++ [(q5 + 1 + ic2).toNat], q5 + 1 + ic2, _, _, rfl, fun b o hb hn => ?_, ?_, ?_, by rw [List.length_append, hxl]; rfl, Ris.snoc hris (Nat.zero_le _) (fun y hy => by have := hqx y hy; omega), by omega, by omega, fun x hx => ?_⟩
      · rw [upd_ne (ne_of_none hb hpl0)]
        exact s7 b o (t4 b o (sM b o hb hn) hn)
      · rw [upd_ne npld.symm]
        exact s7 _ _ f4
      · have : (((q5 + 1 + ic2).toNat : Nat) : Int) = q5 + 1 + ic2 := by omega
        rw [upd_same, zI_snoc, List.map_append, this]
        rfl
      · rcases List.mem_append.mp hx with h | h
        · have := hqx x h; omega
        · rw [List.mem_singleton] at h; omega
    · rintro σ M ⟨ds5, xs, q5, w10, w11, rfl, sM, fM, ePl, hxl, hris, hq0, hq1, hqx⟩
      simp only [tIfS, tAnd, tOr, tNot, tB, tVar, tTest, tOp, tC, tUn, tCB, tCons, tNil, rI0, rI, rU, rNe, rEq, scal, rAppend, tBM, tDrop, tSeq, tAsg, gName, tRet, tNext, List.set_cons_zero, List.set_cons_succ, List.getElem?_cons_zero, List.getElem?_cons_succ, Option.some.injEq, V.int.injEq, V.bl.injEq, V.ref.injEq, V.str.injEq, exists_eq_left', exists_eq_left, exists_and_left, List.cons.injEq, and_true, true_and, and_assoc, exists_const, L2.start, List.map_cons, List.map_nil, List.length_cons, List.length_nil, List.replicate_succ, List.replicate_zero, List.cons_append, List.nil_append, List.append_nil, Nat.reduceAdd, Nat.reduceSub, tFor_eq, tComp_eq, tWhile_eq, tChain, tAug, ipI, rIxS, rSlS, rLower, rIndex, rPop, rCat, tBM0, gSub, rSetL, tSl, tPart, tNoPart, rSlL, tCall, tLst, tTup, iRng1, iRng2, iRng3, iList, iEnum, gTup, gCons, gNil, rIxL, rIxT, tYes, tAndV, tOrV, tNotV, tIf, tTest, exists_eq', List.ne_cons_self, reduceCtorEq, if_true, if_false, and_false, false_and]
      have eP5 := sM _ _ (toM0 _ _ eP npd) npd
      have eC5 := sM _ _ (toM0 _ _ eC ncd) ncd
      have hyl : ys.length = i := by have := hD.length; rw [List.length_map] at this; omega
      have hmc : (((mk + 1 + ic).toNat : Nat) : Int) = mk + 1 + ic := by omega
      refine ⟨.inl ⟨rfl, _, SqL.of eP5⟩, by decide, fun t ht => ⟨_, upd_at eP5 ht, small1000 (by omega), ds5, ys ++ [.ref t], ps ++ [((mk + 1 + ic).toNat, xs)], mk + 1 + ic, _, _, _, _, _, _, _, rfl, fun b o hb hn => ?_, ?_, upd_same, ?_, ?_, by rw [List.length_append, hpl]; rfl, ⟨?_, ?_, fun x hx => ?_⟩, by omega, ?_, fun x hx => ?_⟩⟩
      · have hMb := sM b o (toM0 b o (sL b o hb hn) hn) hn
        rw [upd_ne (ne_of_none hb hp), upd_ne (ne_of_none hMb ht)]
        exact hMb
      · rw [upd_ne npd.symm, upd_ne (ne_of_none fM ht)]
        exact fM
      · rw [upd_ne ncp, upd_ne (ne_of_none eC5 ht)]
        exact eC5
      · have ntp : t ≠ p := fun z => by rw [z, eP5] at ht; cases ht
        have ntd : t ≠ d := fun z => by rw [z, fM] at ht; cases ht
        have ht0 : H t = none := by
          cases e : H t with
          | none => rfl
          | some o =>
            have := sM t o (toM0 t o (sL t o e ntd) ntd) ntd
            rw [this] at ht
            cases ht
        rw [List.map_append]
        refine (DeepTs.same (fresh_mono fun b o z1 z2 z3 => ?_) _ _ hD).app (DeepTs.one ?_)
        · have nbd : b ≠ d := fun z => by rw [z, hd] at z1; cases z1
          have hMb := sM b o (toM0 b o z3 nbd) nbd
          rw [upd_ne z2, upd_ne (ne_of_none hMb ht)]
          exact hMb
        · rw [dvP, DeepT]
          refine ⟨t, [.int (mk + 1 + ic), .ref pl], rfl, ?_, ?_⟩
          · rw [fresh_at ht0 ntp, upd_ne ntp, upd_same]
          · rw [DeepTs]
            refine ⟨_, _, rfl, by rw [DeepT, hmc], DeepTs.one ?_⟩
            rw [DeepT]
            refine ⟨pl, _, rfl, ?_, DeepTs.ints _⟩
            rw [fresh_at hplH nplp, upd_ne nplp, upd_ne (ne_of_none ePl ht)]
            exact ePl
      · rw [List.length_append, hpl]
        show i + 1 ≤ 4
        omega
      · rw [List.map_append]
        refine Ris.snoc hok.2.1 (Nat.zero_le _) fun y hy => ?_
        obtain ⟨x, hx, rfl⟩ := List.mem_map.mp hy
        have := hmx x hx
        show x.1 < (mk + 1 + ic).toNat
        omega
      · rcases List.mem_append.mp hx with h | h
        · exact hok.2.2 x h
        · rw [List.mem_singleton] at h
          subst h
          refine ⟨?_, ?_, ?_, hris, fun y hy => ?_⟩
          · show (mk + 1 + ic).toNat < 128 ^ 16
            have h1 : (i : Int) * (10 ^ 30 + 1) ≤ 4 * (10 ^ 30 + 1) := Int.mul_le_mul_of_nonneg_right (by omega) (by decide)
            have h2 : (4 * (10 ^ 30 + 1) + 1 + 10 ^ 30 : Int) < 128 ^ 16 := by decide
            omega
          · intro z
            have : xs.length = 0 := by rw [show xs = [] from z]; rfl
            omega
          · show xs.length ≤ 4
            omega
          · have h1 := hqx y hy
            have h2 : ((1 + two % 4).toNat : Int) * 301 ≤ 4 * 301 := by omega
            have h3 : (4 * 301 : Int) < 128 ^ 2 := by decide
            omega
      · have : ((i + 1 : Nat) : Int) * (10 ^ 30 + 1) = (i : Int) * (10 ^ 30 + 1) + (10 ^ 30 + 1) := by
          rw [Int.natCast_add, Int.add_mul]
          rfl
        omega
      · rcases List.mem_append.mp hx with h | h
        · have := hmx x h; omega
        · rw [List.mem_singleton] at h
          subst h
          show (((mk + 1 + ic).toNat : Nat) : Int) ≤ _
          omega
  · rintro σ L ⟨ds2, ys, ps, mk, v5, v6, v7, v8, v9, v10, v11, rfl, sL, eD, eP, eC, hD, hpl, hok, hmk0, hmk1, hmx⟩
    simp only [tIfS, tAnd, tOr, tNot, tB, tVar, tTest, tOp, tC, tUn, tCB, tCons, tNil, rI0, rI, rU, rNe, rEq, scal, rAppend, tBM, tDrop, tSeq, tAsg, gName, tRet, tNext, List.set_cons_zero, List.set_cons_succ, List.getElem?_cons_zero, List.getElem?_cons_succ, Option.some.injEq, V.int.injEq, V.bl.injEq, V.ref.injEq, V.str.injEq, exists_eq_left', exists_eq_left, exists_and_left, List.cons.injEq, and_true, true_and, and_assoc, exists_const, L2.start, List.map_cons, List.map_nil, List.length_cons, List.length_nil, List.replicate_succ, List.replicate_zero, List.cons_append, List.nil_append, List.append_nil, Nat.reduceAdd, Nat.reduceSub, tFor_eq, tComp_eq, tWhile_eq, tChain, tAug, ipI, rIxS, rSlS, rLower, rIndex, rPop, rCat, tBM0, gSub, rSetL, tSl, tPart, tNoPart, rSlL, tCall, tLst, tTup, iRng1, iRng2, iRng3, iList, iEnum, gTup, gCons, gNil, rIxL, rIxT, tYes, tAndV, tOrV, tNotV, tIf, tTest, exists_eq', List.ne_cons_self, reduceCtorEq, if_true, if_false, and_false, false_and]
    exact q p ys ps ds2 L sL eD hp eP hD hok
end
end K13

namespace K13
open PySem L2 KB
/-! ### the law's readers -/
section
variable {P : Program} {w : World} {K : PySem.W.Frag} {mg : Str → Option Value} {base : Heap} {f : Addr} {fd : FuncData}
theorem scNI : FnScope ["_law_row", "_law_at", "_law_found", "_law_power", "_law_begin"] ["_law_row", "_law_at"] (defScope sNI) := ⟨rfl, rfl, rfl, by decide +kernel, rfl, by decide +kernel, by decide +kernel⟩
def spNI : Sp := fun vs H Q _ => ∃ (a : Addr) (ns : List Int) (i : Nat), vs = [.ref a, .int i] ∧ H a = some (.lst (ns.map V.int)) ∧ i ≤ ns.length ∧ (∀ n j : Nat, i < j → j ≤ ns.length → pn true (ns.drop i) = some (n, ns.drop j) → ∀ p, H p = none → Q (.ref p) (upd H p (.tup [.int n, .int j]))) ∧ (pn true (ns.drop i) = none → Q .non H)
def wNI (a : Addr) (ns : List Int) (i : Nat) (H : Hp) (m : Nat) (σ : St) (L : Hp) : Prop := ∃ (k num part : Nat), m = ns.length - k ∧ i ≤ k ∧ k ≤ ns.length ∧ σ = [some (.ref a), some (.int k), some (.int num), some (.int part), some (.int i)] ∧ L = H ∧ pn true (ns.drop i) = (pn (decide (k = i)) (ns.drop k)).map fun x => (num + x.1 * part, x.2)
theorem ok_ni (F : Fun K "_law_number_in" "_law_number_in" sNI f fd) (T : Txt mg) : FnOk P w K mg base CX0 1 f fd ["_law_row", "_law_at"] spNI := by
  refine F.ok scNI (fun vs H Q E h => ?_) (fun cdv A outer s H vs Q E hr h => ?_)
  · obtain ⟨a, ns, i, rfl, _⟩ := h
    rfl
  obtain ⟨a, ns, i, rfl, ha, hi, q1, q2⟩ := h
  refine ⟨_, (pss_cons (ps_set (i := 2) scNI.nd rfl (Or.inl rfl) pe_int)
    (pss_cons (ps_set (i := 3) scNI.nd rfl (Or.inl rfl) pe_int)
    (pss_cons (ps_set (i := 4) scNI.nd rfl (Or.inl rfl) (pv 1))
    (pss_cons (ps_while PassesOwn.never (PW.pt (pw_and (pt_cmpR op_lt (pv 1) (pe_callB (lenK K) rfl T.len PySem.boot_len (pa_cons (pv 0) pa_nil)) (nomark _)) (pw_and1 (pt_chain op_le op_le pe_int (pe_ix (ixL K) (pv 0) (pv 1) (fun _ _ => rfl)) pe_int))))
      (pss_cons (ps_set (i := 2) scNI.nd rfl (Or.inl rfl) (pe_op op_add (pv 2) (pe_op op_mul (pe_op op_sub (pe_ix (ixL K) (pv 0) (pv 1) (fun _ _ => rfl)) pe_int) (pv 3))))
    (pss_cons (ps_set (i := 3) scNI.nd rfl (Or.inl rfl) (pe_op op_mul (pv 3) pe_int))
    (pss_one (ps_set (i := 1) scNI.nd rfl (Or.inl rfl) (pe_op op_add (pv 1) pe_int))))))
    (pss_cons (ps_if (PW.pt (pw_or (pt_cmpR op_eq (pv 1) (pe_callB (lenK K) rfl T.len PySem.boot_len (pa_cons (pv 0) pa_nil)) (nomark _)) (pw_or (pt_cmpR op_lt (pe_ix (ixL K) (pv 0) (pv 1) (fun _ _ => rfl)) pe_int (nomark _)) (pw_or (pt_cmpR op_gt (pe_ix (ixL K) (pv 0) (pv 1) (fun _ _ => rfl)) pe_int (nomark _)) (pw_or1 (PW.pt (pw_and (pt_cmpR op_eq (pe_ix (ixL K) (pv 0) (pv 1) (fun _ _ => rfl)) pe_int (nomark _)) (pw_and1 (pt_cmpR op_gt (pv 1) (pv 4) (nomark _)))))))))) (pss_one (ps_ret pe_non)) pss_nil)
    (pss_one (ps_ret (pe_tup (pa_cons (pe_op op_add (pv 2) (pe_op op_mul (pe_ix (ixL K) (pv 0) (pv 1) (fun _ _ => rfl)) (pv 3))) (pa_cons (pe_op op_add (pv 1) pe_int) pa_nil)))))))))), ?_⟩
  simp only [tIfS, tAnd, tOr, tNot, tB, tVar, tTest, tOp, tC, tUn, tCB, tCons, tNil, rI0, rI, rU, rNe, rEq, scal, rAppend, tBM, tDrop, tSeq, tAsg, gName, tRet, tNext, List.set_cons_zero, List.set_cons_succ, List.getElem?_cons_zero, List.getElem?_cons_succ, Option.some.injEq, V.int.injEq, V.bl.injEq, V.ref.injEq, V.str.injEq, exists_eq_left', exists_eq_left, exists_and_left, List.cons.injEq, and_true, true_and, and_assoc, exists_const, L2.start, List.map_cons, List.map_nil, List.length_cons, List.length_nil, List.replicate_succ, List.replicate_zero, List.cons_append, List.nil_append, List.append_nil, Nat.reduceAdd, Nat.reduceSub, tFor_eq, tComp_eq, tWhile_eq, tChain, tAug, ipI, rIxS, rSlS, rLower, rIndex, rPop, rCat, tBM0, gSub, rSetL, tSl, tPart, tNoPart, rSlL, tCall, tLst, tTup, iRng1, iRng2, iRng3, iList, iEnum, gTup, gCons, gNil, rIxL, rIxT, tYes, tAndV, tOrV, tNotV, tIf, tTest, exists_eq', List.ne_cons_self, reduceCtorEq, if_true, if_false, and_false, false_and]
  refine ⟨wNI a ns i H, ⟨_, i, 0, 1, rfl, Nat.le_refl _, hi, rfl, rfl, ?_⟩, ?_⟩
  · rw [decide_eq_true rfl]
    cases pn true (ns.drop i) <;> simp
  rintro m σ L ⟨k, num, part, rfl, h1, h2, rfl, rfl, e⟩
  simp only [tIfS, tAnd, tOr, tNot, tB, tVar, tTest, tOp, tC, tUn, tCB, tCons, tNil, rI0, rI, rU, rNe, rEq, scal, rAppend, tBM, tDrop, tSeq, tAsg, gName, tRet, tNext, List.set_cons_zero, List.set_cons_succ, List.getElem?_cons_zero, List.getElem?_cons_succ, Option.some.injEq, V.int.injEq, V.bl.injEq, V.ref.injEq, V.str.injEq, exists_eq_left', exists_eq_left, exists_and_left, List.cons.injEq, and_true, true_and, and_assoc, exists_const, L2.start, List.map_cons, List.map_nil, List.length_cons, List.length_nil, List.replicate_succ, List.replicate_zero, List.cons_append, List.nil_append, List.append_nil, Nat.reduceAdd, Nat.reduceSub, tFor_eq, tComp_eq, tWhile_eq, tChain, tAug, ipI, rIxS, rSlS, rLower, rIndex, rPop, rCat, tBM0, gSub, rSetL, tSl, tPart, tNoPart, rSlL, tCall, tLst, tTup, iRng1, iRng2, iRng3, iList, iEnum, gTup, gCons, gNil, rIxL, rIxT, tYes, tAndV, tOrV, tNotV, tIf, tTest, exists_eq', List.ne_cons_self, reduceCtorEq, if_true, if_false, and_false, false_and]
  have sz : ∀ x, 0 ≤ x → x ≤ 255 → CMul x (part : Int) := fun x z0 z1 => .inl ⟨by omega, by omega⟩
  refine ⟨_, .inl (SqL.of ha), ite2 (fun c => ?_) (fun c => ?_)⟩
  · have hk : k < ns.length := by
      have := of_decide_eq_true c
      rw [List.length_map] at this
      omega
    have hb : ns[k]? = some ns[k] := List.getElem?_eq_getElem hk
    generalize ns[k] = b at hb
    have av : atI (ns.map V.int) (k : Int) = some (.int b) := atI_nat (by rw [List.getElem?_map, hb]; rfl)
    have hkl : ¬ decide ((k : Int) = (((ns.map V.int).length : Nat) : Int)) = true := by
      rw [List.length_map]
      simp only [decide_eq_true_eq]
      omega
    rw [drop_cons hb] at e
    refine ⟨_, SqL.of ha, _, av, b, rfl, ite2 (fun c1 => ⟨b, rfl, ite2 (fun c2 => ?_) (fun c2 => ?_)⟩) (fun c1 => ?_)⟩
    · have c1' : 128 ≤ b := of_decide_eq_true c1
      have c2' : b ≤ 255 := of_decide_eq_true c2
      refine ⟨fun σ' H' => ∃ m', m' < ns.length - k ∧ wNI a ns i L m' σ' H', fun _ _ h => h, _, SqL.of ha, _, av, b, rfl, sz _ (by omega) (by omega), .inr ⟨by decide, by decide⟩, ?_⟩
      refine ⟨ns.length - (k + 1), by omega, k + 1, num + (b - 128).toNat * part, part * 128, rfl, by omega, by omega, ?_, rfl, ?_⟩
      · have : (((b - 128).toNat : Nat) : Int) = b - 128 := by omega
        rw [show ((num + (b - 128).toNat * part : Nat) : Int) = (num : Int) + (b - 128) * part by rw [Int.natCast_add, Int.natCast_mul, this]]
        rfl
      · rw [e, decide_eq_false (by omega : ¬ k + 1 = i)]
        have hpn : pn (decide (k = i)) (b :: ns.drop (k + 1)) = pn true (b :: ns.drop (k + 1)) := by
          cases decide (k = i) with
          | true => rfl
          | false => exact pn_more (by omega)
        rw [hpn, pn_ge c1' c2', Option.map_map]
        congr 1
        funext x
        show (num + (b.toNat - 128 + 128 * x.1) * part, x.2) = _
        have h3 : b.toNat - 128 = (b - 128).toNat := by omega
        rw [h3, Nat.add_mul, show 128 * x.1 * part = x.1 * (part * 128) by rw [Nat.mul_comm 128 x.1, Nat.mul_assoc, Nat.mul_comm 128 part], Nat.add_assoc]
    · have c2' : 255 < b := by simp only [decide_eq_true_eq] at c2; omega
      refine ⟨_, .inl (SqL.of ha), ?_⟩
      rw [if_neg hkl]
      refine ⟨_, SqL.of ha, _, av, b, rfl, ?_⟩
      rw [if_neg (by simp only [decide_eq_true_eq]; omega)]
      refine ⟨_, SqL.of ha, _, av, b, rfl, ?_⟩
      rw [if_pos (decide_eq_true c2')]
      refine q2 ?_
      rw [e, pn, if_pos (.inr c2')]
      rfl
    · have c1' : b < 128 := by simp only [decide_eq_true_eq] at c1; omega
      refine ⟨_, .inl (SqL.of ha), ?_⟩
      rw [if_neg hkl]
      refine ⟨_, SqL.of ha, _, av, b, rfl, ite2 (fun c3 => q2 ?_) (fun c3 => ?_)⟩
      · rw [e, pn, if_pos (.inl (of_decide_eq_true c3))]
        rfl
      have c3' : 0 ≤ b := by simp only [decide_eq_true_eq] at c3; omega
      refine ⟨_, SqL.of ha, _, av, b, rfl, ?_⟩
      rw [if_neg (by simp only [decide_eq_true_eq]; omega)]
      have bn : ((b.toNat : Nat) : Int) = b := by omega
      have fin : (b ≠ 0 ∨ k = i) → ∀ p, L p = none → Q (.ref p) (upd L p (.tup [.int ((num : Int) + b * part), .int ((k : Int) + 1)])) := fun hz p hp => by
        have hpn : pn (decide (k = i)) (b :: ns.drop (k + 1)) = some (b.toNat, ns.drop (k + 1)) := by
          by_cases hki : k = i
          · rw [decide_eq_true hki, pn_lt c3' c1']
          · rw [decide_eq_false hki, pn_more (by rcases hz with z | z; exact z; exact absurd z hki), pn_lt c3' c1']
        have := q1 (num + b.toNat * part) (k + 1) (by omega) hk (by rw [e, hpn]; rfl) p hp
        rw [Int.natCast_add, Int.natCast_mul, bn] at this
        exact this
      refine ⟨_, SqL.of ha, _, av, rfl, ite2 (fun c4 => ite2 (fun c5 => q2 ?_) (fun c5 => ?_)) (fun c4 => ?_)⟩
      · have c4' : b = 0 := by have := of_decide_eq_true c4; injection this
        have c5' : (i : Int) < k := of_decide_eq_true c5
        rw [e, decide_eq_false (by omega : ¬ k = i), c4', pn_zero]
        rfl
      · refine ⟨_, SqL.of ha, _, av, b, rfl, sz _ c3' (by omega), by decide, fin (.inr ?_)⟩
        simp only [decide_eq_true_eq] at c5
        omega
      · refine ⟨_, SqL.of ha, _, av, b, rfl, sz _ c3' (by omega), by decide, fin (.inl fun z => c4 (decide_eq_true (by rw [z])))⟩
  · have hk : k = ns.length := by
      simp only [decide_eq_true_eq, List.length_map] at c
      omega
    refine ⟨_, .inl (SqL.of ha), ?_⟩
    rw [if_pos (by rw [List.length_map, hk]; simp)]
    refine q2 ?_
    rw [e, hk, List.drop_length, pn]
    rfl
theorem cut_last {α : Type} (xs : List α) : cutL xs (some (-1)) none = xs.drop (xs.length - 1) := by
  have e1 : HT.sIx xs.length 0 (some (-1)) = xs.length - 1 := by
    show (if (-1 : Int) < 0 then ((-1 : Int) + (xs.length : Int)).toNat else min (-1 : Int).toNat xs.length) = _
    rw [if_pos (by decide)]
    omega
  unfold cutL
  rw [e1, HT.sIx_none, List.take_of_length_le (by rw [List.length_drop]; omega)]
theorem last_sum (acc : List Nat) : (cutL (zN acc) (some (-1)) none).sum = ((acc.getLastD 0 : Nat) : Int) := by
  rw [cut_last]
  rcases List.eq_nil_or_concat acc with rfl | ⟨l, x, rfl⟩
  · rfl
  · rw [List.concat_eq_append, last_snoc]
    simp
theorem scRiI : FnScope ["_law_row", "_law_at", "_law_many", "_law_found", "_law_step"] ["_law_row", "_law_at", "_law_many"] (defScope sRiI) := ⟨rfl, rfl, rfl, by decide +kernel, rfl, by decide +kernel, by decide +kernel⟩
def spRiI : Sp := fun vs H Q _ => ∃ (a : Addr) (ns : List Int) (i M : Nat), vs = [.ref a, .int i, .int M] ∧ H a = some (.lst (ns.map V.int)) ∧ i ≤ ns.length ∧ ns.length ≤ 900 ∧
  (∀ (xs : List Nat) (j : Nat), i ≤ j → j ≤ ns.length → xs.length ≤ j → prs M [] (ns.drop i) = some (xs, ns.drop j) → ∀ p t H', Same H H' → H p = none → H' p = some (.lst ((zN xs).map V.int)) → H t = none → t ≠ p → H' t = some (.tup [.ref p, .int j]) → Q (.ref t) H') ∧ (prs M [] (ns.drop i) = none → ∀ H', Same H H' → Q .non H')
def wRiI (a p : Addr) (ns : List Int) (i M : Nat) (H : Hp) (m : Nat) (σ : St) (L : Hp) : Prop := ∃ (j : Nat) (acc : List Nat) (v4 : Option V), m = M - acc.length ∧ acc.length ≤ M ∧ acc.length ≤ j ∧ i ≤ j ∧ j ≤ ns.length ∧ σ = [some (.ref a), some (.int j), some (.int M), some (.ref p), v4] ∧ Same H L ∧ L p = some (.lst ((zN acc).map V.int)) ∧ prs M [] (ns.drop i) = prs (M - acc.length) acc (ns.drop j)
theorem ok_rii {gn : Addr} {dn : FuncData} (F : Fun K "_law_rising_in" "_law_rising_in" sRiI f fd) (T : Txt mg) (GNI : FnOk P w K mg base CX0 1 gn dn ["_law_row", "_law_at"] spNI) (bNI : Binds K dn ["_law_row", "_law_at"] []) (kNI : PySem.W.keepIn K (.ref gn) = true) (mNI : mg "_law_number_in" = some (.ref gn)) : FnOk P w K mg base CX0 2 f fd ["_law_row", "_law_at", "_law_many"] spRiI := by
  refine F.ok scRiI (fun vs H Q E h => ?_) (fun cdv A outer s H vs Q E hr h => ?_)
  · obtain ⟨a, ns, i, M, rfl, _⟩ := h
    rfl
  obtain ⟨a, ns, i, M, rfl, ha, hi, hnl, q1, q2⟩ := h
  refine ⟨_, (pss_cons (ps_set (i := 3) scRiI.nd rfl (Or.inl rfl) (pe_lst pa_nil))
    (pss_cons (ps_while PassesOwn.never (pt_cmpR op_lt (pe_callB (lenK K) rfl T.len PySem.boot_len (pa_cons (pv 3) pa_nil)) (pv 2) (nomark _))
      (pss_cons (ps_set (i := 4) scRiI.nd rfl (Or.inl rfl) (pe_call GNI hr rfl mNI kNI bNI .nil pass0 (pa_cons (pv 0) (pa_cons (pv 1) pa_nil))))
    (pss_cons (ps_if (PW.pt (pw_or (pt_cmpR op_isN (pv 4) pe_non (nomark _)) (pw_or1 (PW.pt (pw_and (pt_cmpR op_eq (pe_ix (ixT K) (pv 4) pe_int (fun _ _ => rfl)) pe_int (nomark _)) (pw_and1 (pt_cmpR (op_neE K hr) (pv 3) (pe_lst pa_nil) (nomark _)))))))) (pss_one (ps_ret pe_non)) pss_nil)
    (pss_cons (ps_expr (bmK K PySem.F.plainAttrs_list PySem.F.slot_list_append PySem.F.type_list_append mt_append (pv 3) (pa_cons (pe_op op_add (pe_ix (ixT K) (pv 4) pe_int (fun _ _ => rfl)) (pe_callB (call_sum K rfl) rfl T.sum (by decide +kernel) (pa_cons (pe_slice (slL K) (pv 3) (po_some (pe_un un_neg pe_int)) po_none) pa_nil))) pa_nil)))
    (pss_one (ps_set (i := 1) scRiI.nd rfl (Or.inl rfl) (pe_ix (ixT K) (pv 4) pe_int (fun _ _ => rfl))))))))
    (pss_one (ps_ret (pe_tup (pa_cons (pv 3) (pa_cons (pv 1) pa_nil))))))), ?_⟩
  simp only [tIfS, tAnd, tOr, tNot, tB, tVar, tTest, tOp, tC, tUn, tCB, tCons, tNil, rI0, rI, rU, rNe, rEq, scal, rAppend, tBM, tDrop, tSeq, tAsg, gName, tRet, tNext, List.set_cons_zero, List.set_cons_succ, List.getElem?_cons_zero, List.getElem?_cons_succ, Option.some.injEq, V.int.injEq, V.bl.injEq, V.ref.injEq, V.str.injEq, exists_eq_left', exists_eq_left, exists_and_left, List.cons.injEq, and_true, true_and, and_assoc, exists_const, L2.start, List.map_cons, List.map_nil, List.length_cons, List.length_nil, List.replicate_succ, List.replicate_zero, List.cons_append, List.nil_append, List.append_nil, Nat.reduceAdd, Nat.reduceSub, tFor_eq, tComp_eq, tWhile_eq, tChain, tAug, ipI, rIxS, rSlS, rLower, rIndex, rPop, rCat, tBM0, gSub, rSetL, tSl, tPart, tNoPart, rSlL, tCall, tLst, tTup, iRng1, iRng2, iRng3, iList, iEnum, gTup, gCons, gNil, rIxL, rIxT, tYes, tAndV, tOrV, tNotV, tIf, tTest, exists_eq', List.ne_cons_self, reduceCtorEq, if_true, if_false, and_false, false_and, spNI]
  refine ⟨by decide, fun p hp => ?_⟩
  refine ⟨wRiI a p ns i M H, ⟨M, i, [], none, rfl, Nat.zero_le _, Nat.zero_le _, Nat.le_refl _, hi, rfl, same_new hp _, upd_same, rfl⟩, ?_⟩
  rintro m σ L ⟨j, acc, v4, rfl, h1, h2, h3, h4, rfl, sL, eP, eq⟩
  simp only [tIfS, tAnd, tOr, tNot, tB, tVar, tTest, tOp, tC, tUn, tCB, tCons, tNil, rI0, rI, rU, rNe, rEq, scal, rAppend, tBM, tDrop, tSeq, tAsg, gName, tRet, tNext, List.set_cons_zero, List.set_cons_succ, List.getElem?_cons_zero, List.getElem?_cons_succ, Option.some.injEq, V.int.injEq, V.bl.injEq, V.ref.injEq, V.str.injEq, exists_eq_left', exists_eq_left, exists_and_left, List.cons.injEq, and_true, true_and, and_assoc, exists_const, L2.start, List.map_cons, List.map_nil, List.length_cons, List.length_nil, List.replicate_succ, List.replicate_zero, List.cons_append, List.nil_append, List.append_nil, Nat.reduceAdd, Nat.reduceSub, tFor_eq, tComp_eq, tWhile_eq, tChain, tAug, ipI, rIxS, rSlS, rLower, rIndex, rPop, rCat, tBM0, gSub, rSetL, tSl, tPart, tNoPart, rSlL, tCall, tLst, tTup, iRng1, iRng2, iRng3, iList, iEnum, gTup, gCons, gNil, rIxL, rIxT, tYes, tAndV, tOrV, tNotV, tIf, tTest, exists_eq', List.ne_cons_self, reduceCtorEq, if_true, if_false, and_false, false_and, spNI]
  have hjl : ((zN acc).map V.int).length = acc.length := by rw [List.length_map, List.length_map]
  have aL := sL _ _ ha
  refine ⟨_, .inl (SqL.of eP), ?_⟩
  rw [hjl]
  refine ite2 (fun c => ?_) (fun c => ?_)
  · have hjx : acc.length < M := by have := of_decide_eq_true c; omega
    obtain ⟨n, hn⟩ : ∃ n, M - acc.length = n + 1 := ⟨M - acc.length - 1, by omega⟩
    have app : ∀ (s j2 : Nat) (t : Addr) (M1 : Hp), Same L M1 → M1 t = some (.tup [.int s, .int j2]) → L t = none → j < j2 → j2 ≤ ns.length → pn true (ns.drop j) = some (s, ns.drop j2) → ¬ (s = 0 ∧ acc ≠ []) →
        (tyV K "list" (V.ref p) M1 ∧ ∃ x, SqT K M1 t x ∧ ∃ x3, atI x 0 = some x3 ∧ ∃ x, SqL K M1 p x ∧ ∀ p3, M1 p3 = none → ∃ x4 : List Int, SqL K (upd M1 p3 (.lst (cutV x (some (-1)) none))) p3 (x4.map V.int) ∧ ∃ i0, x3 = V.int i0 ∧ ∃ x5, upd M1 p3 (.lst (cutV x (some (-1)) none)) p = some (.lst x5) ∧ x5.length < sizeLine ∧
          ∃ x6, SqT K (upd (upd M1 p3 (.lst (cutV x (some (-1)) none))) p (.lst (x5 ++ [.int (i0 + x4.sum)]))) t x6 ∧ ∃ x7, atI x6 1 = some x7 ∧ (fun σ' H' => ∃ m', m' < M - acc.length ∧ wRiI a p ns i M H m' σ' H') [some (.ref a), some x7, some (.int M), some (.ref p), some (.ref t)] (upd (upd M1 p3 (.lst (cutV x (some (-1)) none))) p (.lst (x5 ++ [.int (i0 + x4.sum)])))) := fun s j2 t M1 s1 et tL hj hj2 e hs => by
      have eP1 := s1 _ _ eP
      have ntp : t ≠ p := fun z => by rw [z, eP] at tL; cases tL
      refine ⟨.inl ⟨rfl, _, SqL.of eP1⟩, _, SqT.of et, _, rfl, _, SqL.of eP1, fun p3 hp3 => ?_⟩
      have np3 : p ≠ p3 := ne_of_none eP1 hp3
      refine ⟨cutL (zN acc) (some (-1)) none, SqL.of (by rw [upd_same, cutV_map]), _, rfl, _, upd_at eP1 hp3, by rw [hjl]; exact big9 (by omega), _, SqT.of (by rw [upd_ne ntp]; exact upd_at et hp3), _, rfl, ?_⟩
      refine ⟨M - (acc.length + 1), by omega, j2, acc ++ [acc.getLastD 0 + s], some (.ref t), by rw [List.length_append]; rfl, by rw [List.length_append]; exact hjx, by rw [List.length_append]; show acc.length + 1 ≤ j2; omega, by omega, hj2, rfl, (sL.trans (s1.trans (same_new hp3 _))).newer hp _, ?_, ?_⟩
      · rw [upd_same, last_sum, show (s : Int) + ((acc.getLastD 0 : Nat) : Int) = ((acc.getLastD 0 + s : Nat) : Int) by omega]
        simp
      · rw [eq, hn, prs_some e hs, List.length_append, show M - (acc.length + [acc.getLastD 0 + s].length) = n by rw [List.length_singleton]; omega]
    refine ⟨fun σ' H' => ∃ m', m' < M - acc.length ∧ wRiI a p ns i M H m' σ' H', fun _ _ h => h, ns, j, rfl, aL, h4, fun s j2 hj hj2 e t ht => ?_, fun hnone => ?_⟩
    · rw [if_neg (by decide)]
      have st := same_new ht (.tup [V.int (s : Int), V.int (j2 : Int)])
      refine ⟨_, SqT.of upd_same, _, rfl, rfl, ite2 (fun z => ⟨by decide, fun p2 hp2 => ?_⟩) (fun z => ?_)⟩
      · have z' : s = 0 := by
          have := of_decide_eq_true z
          injection this with this
          omega
        have eP1 := (st.trans (same_new hp2 (.lst []))) _ _ eP
        refine ⟨_, SqL.of eP1, SqL.of upd_same, ite2 (fun z2 => ?_) (fun z2 => ?_)⟩
        · have hne : acc ≠ [] := fun y => by rw [y] at z2; cases z2
          refine q2 ?_ _ (sL.trans (st.trans (same_new hp2 _)))
          rw [eq, hn, prs_none fun s' t' h => ?_]
          rw [e] at h
          cases h
          exact ⟨z', hne⟩
        · have hnil : acc = [] := by
            cases acc with
            | nil => rfl
            | cons y r => exact absurd rfl z2
          exact app s j2 t _ (st.trans (same_new hp2 _)) (upd_at upd_same hp2) ht hj hj2 e fun y => y.2 hnil
      · exact app s j2 t _ st upd_same ht hj hj2 e fun y => z (decide_eq_true (by rw [y.1]; rfl))
    · rw [if_pos (by decide)]
      refine q2 ?_ _ sL
      rw [eq, hn, prs_none fun s t h => by rw [hnone] at h; cases h]
  · have hje : M - acc.length = 0 := by simp at c; omega
    rw [hje, prs] at eq
    refine ⟨by decide, fun t ht => ?_⟩
    have hp' : t ≠ p := fun z => by rw [z, eP] at ht; cases ht
    exact q1 acc j h3 h4 h2 eq p t _ (sL.trans (same_new ht _)) hp (upd_at eP ht) (sL.free ht) hp' upd_same
end
end K13

namespace K13
open PySem L2 KB
section
variable {P : Program} {w : World} {K : PySem.W.Frag} {mg : Str → Option Value} {base : Heap} {f : Addr} {fd : FuncData}
theorem sgl : ∀ c, c < 127 → 32 ≤ c → c ≠ 37 → cSg.cps.toList[c - 32 - (if 37 < c then 1 else 0)]? = some c := by decide +kernel
theorem strN_app (l : List Nat) (c : Nat) : strN l ++ (⟨#[c]⟩ : Str) = strN (l ++ [c]) := by
  show Str.mk (l.toArray ++ #[c]) = Str.mk (l ++ [c]).toArray
  simp
theorem scTI : FnScope ["_law_row", "_law_at", "_law_many", "_law_found", "_law_byte"] ["_law_row", "_law_at"] (defScope sTI) := ⟨rfl, rfl, rfl, by decide +kernel, rfl, by decide +kernel, by decide +kernel⟩
def spTI : Sp := fun vs H Q _ => ∃ (a : Addr) (ns : List Int) (i : Nat), vs = [.ref a, .int i] ∧ H a = some (.lst (ns.map V.int)) ∧ i ≤ ns.length ∧ ns.length ≤ 900 ∧
  (∀ (zs : List Nat) (j : Nat), j ≤ ns.length → ptxt (ns.drop i) = some (zs, ns.drop j) → ∀ t H', Same H H' → H t = none → H' t = some (.tup [.str (strN zs), .int j]) → Q (.ref t) H') ∧ (ptxt (ns.drop i) = none → ∀ H', Same H H' → Q .non H')
def invTI (a mt : Addr) (ns : List Int) (i j0 M : Nat) (H : Hp) (k : Nat) (σ : St) (L : Hp) : Prop := ∃ v4 : Option V, σ = [some (.ref a), some (.int i), some (.ref mt), some (.str (strN (((ns.drop j0).take k).map Int.toNat))), v4] ∧ Same H L ∧ L mt = some (.tup [.int M, .int j0]) ∧ ((ns.drop j0).take k).all sgn = true
theorem ok_ti {gn gg : Addr} {dn dg : FuncData} (F : Fun K "_law_text_in" "_law_text_in" sTI f fd) (T : Txt mg) (GNI : FnOk P w K mg base CX0 1 gn dn ["_law_row", "_law_at"] spNI) (bNI : Binds K dn ["_law_row", "_law_at"] []) (kNI : PySem.W.keepIn K (.ref gn) = true) (mNI : mg "_law_number_in" = some (.ref gn))
    (GG : FnOk P w K mg base CX0 1 gg dg [] spSigns) (bG : Binds K dg [] []) (kG : PySem.W.keepIn K (.ref gg) = true) (mG : mg "_law_signs" = some (.ref gg)) : FnOk P w K mg base CX0 2 f fd ["_law_row", "_law_at"] spTI := by
  refine F.ok scTI (fun vs H Q E h => ?_) (fun cdv A outer s H vs Q E hr h => ?_)
  · obtain ⟨a, ns, i, rfl, _⟩ := h
    rfl
  obtain ⟨a, ns, i, rfl, ha, hi, hnl, q1, q2⟩ := h
  refine ⟨_, (pss_cons (ps_set (i := 2) scTI.nd rfl (Or.inl rfl) (pe_call GNI hr rfl mNI kNI bNI .nil pass0 (pa_cons (pv 0) (pa_cons (pv 1) pa_nil))))
    (pss_cons (ps_if (PW.pt (pw_or (pt_cmpR op_isN (pv 2) pe_non (nomark _)) (pw_or1 (pt_cmpR op_gt (pe_op op_add (pe_ix (ixT K) (pv 2) pe_int (fun _ _ => rfl)) (pe_ix (ixT K) (pv 2) pe_int (fun _ _ => rfl))) (pe_callB (lenK K) rfl T.len PySem.boot_len (pa_cons (pv 0) pa_nil)) (nomark _))))) (pss_one (ps_ret pe_non)) pss_nil)
    (pss_cons (ps_set (i := 3) scTI.nd rfl (Or.inl rfl) pe_str)
    (pss_cons (ps_for PassesOwn.never rfl (pi_listK K (pe_slice (slL K) (pv 0) (po_some (pe_ix (ixT K) (pv 2) pe_int (fun _ _ => rfl))) (po_some (pe_op op_add (pe_ix (ixT K) (pv 2) pe_int (fun _ _ => rfl)) (pe_ix (ixT K) (pv 2) pe_int (fun _ _ => rfl)))))) (pg_name (i := 4) scTI.nd rfl (Or.inl rfl))
      (pss_cons (ps_if (PW.pt (pw_or (pt_cmpR op_lt (pv 4) pe_int (nomark _)) (pw_or (pt_cmpR op_gt (pv 4) pe_int (nomark _)) (pw_or1 (pt_cmpR op_eq (pv 4) pe_int (nomark _)))))) (pss_one (ps_ret pe_non)) pss_nil)
    (pss_one (ps_set (i := 3) scTI.nd rfl (Or.inl rfl) (pe_op op_add_str (pv 3) (pe_ix ix_str (pe_call0 GG hr rfl mG kG bG .nil pass0) (pe_op op_sub (pe_op op_sub (pv 4) pe_int) (pe_callTy call_int1 rfl T.int (by decide +kernel) (pa_cons (pe_cmpR op_gt (pv 4) pe_int (nomark _)) pa_nil))) (fun _ _ => rfl)))))))
    (pss_one (ps_ret (pe_tup (pa_cons (pv 3) (pa_cons (pe_op op_add (pe_ix (ixT K) (pv 2) pe_int (fun _ _ => rfl)) (pe_ix (ixT K) (pv 2) pe_int (fun _ _ => rfl))) pa_nil))))))))), ?_⟩
  simp only [tIfS, tAnd, tOr, tNot, tB, tVar, tTest, tOp, tC, tUn, tCB, tCons, tNil, rI0, rI, rU, rNe, rEq, scal, rAppend, tBM, tDrop, tSeq, tAsg, gName, tRet, tNext, List.set_cons_zero, List.set_cons_succ, List.getElem?_cons_zero, List.getElem?_cons_succ, Option.some.injEq, V.int.injEq, V.bl.injEq, V.ref.injEq, V.str.injEq, exists_eq_left', exists_eq_left, exists_and_left, List.cons.injEq, and_true, true_and, and_assoc, exists_const, L2.start, List.map_cons, List.map_nil, List.length_cons, List.length_nil, List.replicate_succ, List.replicate_zero, List.cons_append, List.nil_append, List.append_nil, Nat.reduceAdd, Nat.reduceSub, tFor_eq, tComp_eq, tWhile_eq, tChain, tAug, ipI, rIxS, rSlS, rLower, rIndex, rPop, rCat, tBM0, gSub, rSetL, tSl, tPart, tNoPart, rSlL, tCall, tLst, tTup, iRng1, iRng2, iRng3, iList, iEnum, gTup, gCons, gNil, rIxL, rIxT, tYes, tAndV, tOrV, tNotV, tIf, tTest, exists_eq', List.ne_cons_self, reduceCtorEq, if_true, if_false, and_false, false_and, spNI, spSigns]
  refine ⟨ns, i, rfl, ha, hi, fun M j0 hj hj0 e mt hmt => ?_, fun hnone => ?_⟩
  rotate_left
  · rw [if_pos (by decide)]
    exact q2 (by unfold ptxt; rw [hnone]) _ (Same.refl _)
  rw [if_neg (by decide)]
  have sm := same_new hmt (.tup [V.int (M : Int), V.int (j0 : Int)])
  have em : (upd H mt (.tup [V.int (M : Int), V.int (j0 : Int)])) mt = some (.tup [V.int (M : Int), V.int (j0 : Int)]) := upd_same
  generalize upd H mt (.tup [V.int (M : Int), V.int (j0 : Int)]) = H1 at sm em ⊢
  have a1 := sm _ _ ha
  have ep : ptxt (ns.drop i) = ptx M [] (ns.drop j0) := by unfold ptxt; rw [e]
  rw [ptx_at, List.length_drop] at ep
  refine ⟨_, SqT.of em, _, rfl, _, SqT.of em, _, rfl, _, rfl, _, rfl, _, .inl (SqL.of a1), ite2 (fun c => q2 ?_ _ sm) (fun c => ?_)⟩
  · have c' := of_decide_eq_true c
    rw [List.length_map] at c'
    rw [ep, if_neg (by omega)]
  have hM : j0 + M ≤ ns.length := by
    simp only [decide_eq_true_eq, List.length_map] at c
    omega
  refine ⟨_, SqT.of em, _, rfl, _, rfl, _, SqT.of em, _, rfl, _, SqT.of em, _, rfl, _, rfl, _, rfl, _, SqL.of a1, fun p1 hp1 => ⟨⟨_, SqL.of upd_same⟩, ?_⟩⟩
  rw [show (j0 : Int) + (M : Int) = ((j0 + M : Nat) : Int) from rfl, cutV_map, cutL_nat _ (Nat.le_add_right _ _), show j0 + M - j0 = M by omega]
  have s1 := same_new hp1 (.lst (((ns.drop j0).take M).map V.int))
  have e1 : (upd H1 p1 (.lst (((ns.drop j0).take M).map V.int))) p1 = some (.lst (((ns.drop j0).take M).map V.int)) := upd_same
  have em1 := s1 _ _ em
  generalize upd H1 p1 (.lst (((ns.drop j0).take M).map V.int)) = H2 at s1 e1 em1 ⊢
  have hlen : (((ns.drop j0).take M).map V.int).length = M := by rw [List.length_map, List.length_take, List.length_drop]; omega
  refine forW_list (((ns.drop j0).take M).map V.int) (invTI a mt ns i j0 M H2) ⟨none, rfl, Same.refl _, em1, rfl⟩ ?_ ?_ ?_
  · rintro k σ L hk ⟨v4, rfl, sL, eL, hall⟩
    exact SqL.of (sL _ _ e1)
  · rintro k y σ L hy ⟨v4, rfl, sL, eL, hall⟩
    rw [List.getElem?_map] at hy
    obtain ⟨b, hb, rfl⟩ := Option.map_eq_some_iff.mp hy
    have hkM : k < M := by
      have := (List.getElem?_eq_some_iff.mp hb).1
      rw [List.length_take] at this
      omega
    have hb' : (ns.drop j0)[k]? = some b := by
      rw [List.getElem?_take] at hb
      rw [if_pos hkM] at hb
      exact hb
    have bad : sgn b = false → Q .non L := fun z => by
      refine q2 ?_ _ (sm.trans (s1.trans sL))
      rw [ep, if_neg]
      rintro ⟨_, h⟩
      have := List.all_eq_true.mp h b (List.mem_of_getElem? hb)
      rw [z] at this
      cases this
    have tk := take_snoc hb'
    simp only [tIfS, tAnd, tOr, tNot, tB, tVar, tTest, tOp, tC, tUn, tCB, tCons, tNil, rI0, rI, rU, rNe, rEq, scal, rAppend, tBM, tDrop, tSeq, tAsg, gName, tRet, tNext, List.set_cons_zero, List.set_cons_succ, List.getElem?_cons_zero, List.getElem?_cons_succ, Option.some.injEq, V.int.injEq, V.bl.injEq, V.ref.injEq, V.str.injEq, exists_eq_left', exists_eq_left, exists_and_left, List.cons.injEq, and_true, true_and, and_assoc, exists_const, L2.start, List.map_cons, List.map_nil, List.length_cons, List.length_nil, List.replicate_succ, List.replicate_zero, List.cons_append, List.nil_append, List.append_nil, Nat.reduceAdd, Nat.reduceSub, tFor_eq, tComp_eq, tWhile_eq, tChain, tAug, ipI, rIxS, rSlS, rLower, rIndex, rPop, rCat, tBM0, gSub, rSetL, tSl, tPart, tNoPart, rSlL, tCall, tLst, tTup, iRng1, iRng2, iRng3, iList, iEnum, gTup, gCons, gNil, rIxL, rIxT, tYes, tAndV, tOrV, tNotV, tIf, tTest, exists_eq', List.ne_cons_self, reduceCtorEq, if_true, if_false, and_false, false_and, spSigns]
    refine ite2 (fun z => bad (decide_eq_false (by have := of_decide_eq_true z; omega))) (fun z1 => ite2 (fun z => bad (decide_eq_false (by have := of_decide_eq_true z; omega))) (fun z2 => ite2 (fun z => bad (decide_eq_false (by have := of_decide_eq_true z; omega))) (fun z3 => .inr ⟨by decide +kernel, b.toNat, ?_, ?_, ?_⟩)))
    · simp only [decide_eq_true_eq] at z1 z2
      have z3' : b ≠ 37 := fun y => z3 (decide_eq_true y)
      have := sgl b.toNat (by omega) (by omega) (by omega)
      rw [show b - 32 - (if decide (37 < b) = true then 1 else 0) = ((b.toNat - 32 - (if 37 < b.toNat then 1 else 0) : Nat) : Int) by
        by_cases h : 37 < b
        · rw [if_pos (decide_eq_true h), if_pos (by omega)]; omega
        · rw [if_neg (by simpa using h), if_neg (by omega)]; omega]
      exact atI_nat this
    · refine Nat.le_of_lt (big9 ?_)
      show (((ns.drop j0).take k).map Int.toNat).toArray.size + 1 ≤ 9000
      rw [List.size_toArray, List.length_map, List.length_take, List.length_drop]
      omega
    · simp only [decide_eq_true_eq] at z1 z2
      have z3' : b ≠ 37 := fun y => z3 (decide_eq_true y)
      refine ⟨some (.int b), ?_, sL, eL, ?_⟩
      · rw [tk, List.map_append, show [b].map Int.toNat = [b.toNat] from rfl, ← strN_app]
      · rw [tk, List.all_append, hall, Bool.true_and]
        simp only [List.all_cons, List.all_nil, Bool.and_true]
        exact decide_eq_true ⟨by omega, by omega, z3'⟩
  · rintro σ L ⟨v4, rfl, sL, eL, hall⟩
    simp only [tIfS, tAnd, tOr, tNot, tB, tVar, tTest, tOp, tC, tUn, tCB, tCons, tNil, rI0, rI, rU, rNe, rEq, scal, rAppend, tBM, tDrop, tSeq, tAsg, gName, tRet, tNext, List.set_cons_zero, List.set_cons_succ, List.getElem?_cons_zero, List.getElem?_cons_succ, Option.some.injEq, V.int.injEq, V.bl.injEq, V.ref.injEq, V.str.injEq, exists_eq_left', exists_eq_left, exists_and_left, List.cons.injEq, and_true, true_and, and_assoc, exists_const, L2.start, List.map_cons, List.map_nil, List.length_cons, List.length_nil, List.replicate_succ, List.replicate_zero, List.cons_append, List.nil_append, List.append_nil, Nat.reduceAdd, Nat.reduceSub, tFor_eq, tComp_eq, tWhile_eq, tChain, tAug, ipI, rIxS, rSlS, rLower, rIndex, rPop, rCat, tBM0, gSub, rSetL, tSl, tPart, tNoPart, rSlL, tCall, tLst, tTup, iRng1, iRng2, iRng3, iList, iEnum, gTup, gCons, gNil, rIxL, rIxT, tYes, tAndV, tOrV, tNotV, tIf, tTest, exists_eq', List.ne_cons_self, reduceCtorEq, if_true, if_false, and_false, false_and]
    rw [hlen] at hall ⊢
    refine ⟨_, SqT.of eL, _, rfl, _, SqT.of eL, _, rfl, _, rfl, _, rfl, by decide, fun t ht => ?_⟩
    have sT := sm.trans (s1.trans sL)
    refine q1 _ (j0 + M) hM ?_ t _ (sT.trans (same_new ht _)) (sT.free ht) upd_same
    rw [ep, if_pos ⟨by omega, hall⟩, List.nil_append, List.drop_drop]
end
end K13

namespace K13
open PySem L2 KB
section
variable {P : Program} {w : World} {K : PySem.W.Frag} {mg : Str → Option Value} {base : Heap} {f : Addr} {fd : FuncData}
theorem seq_inv {a b : TS} {D : Ends} {σ : St} {H : Hp} (Iv : St → Hp → Prop) (hb : ∀ σ' H', Iv σ' H' → b D σ' H') (ha : ∀ N : St → Hp → Prop, (∀ σ' H', Iv σ' H' → N σ' H') → a { D with nx := N } σ H) : tSeq a b D σ H := ha (b D) hb
theorem scPI : FnScope ["_law_row", "_law_at", "_law_many", "_law_found", "_law_step", "_law_count", "_law_places"] ["_law_row", "_law_at"] (defScope sPI) := ⟨rfl, rfl, rfl, by decide +kernel, rfl, by decide +kernel, by decide +kernel⟩
def spPI : Sp := fun vs H Q _ => ∃ (a : Addr) (ns : List Int) (i : Nat), vs = [.ref a, .int i] ∧ H a = some (.lst (ns.map V.int)) ∧ i ≤ ns.length ∧ ns.length ≤ 900 ∧
  (∀ (ps : List Pst) (j : Nat), j ≤ ns.length → ppo (ns.drop i) = some (ps, ns.drop j) → ∀ p t ys H', Same H H' → H' p = some (.lst ys) → DeepTs H' (ps.map dvP) ys → H t = none → H' t = some (.tup [.ref p, .int j]) → Q (.ref t) H') ∧ (ppo (ns.drop i) = none → ∀ H', Same H H' → Q .non H')
def wPI (a mt p : Addr) (ns : List Int) (i N : Nat) (H : Hp) (m : Nat) (σ : St) (L : Hp) : Prop := ∃ (j j0 : Nat) (acc : List Pst) (ys : List V) (v4 v5 v6 : Option V), m = N - acc.length ∧ acc.length ≤ N ∧ acc.length ≤ j ∧ i ≤ j ∧ j ≤ ns.length ∧ σ = [some (.ref a), some (.int j), some (.ref mt), some (.ref p), v4, v5, v6] ∧ Same H L ∧ L mt = some (.tup [.int N, .int j0]) ∧ L p = some (.lst ys) ∧ DeepTs (hide p L) (acc.map dvP) ys ∧ ppo (ns.drop i) = pps (N - acc.length) acc (ns.drop j)
theorem ok_pi {gn gr : Addr} {dn dr : FuncData} (F : Fun K "_law_postings_in" "_law_postings_in" sPI f fd) (T : Txt mg) (GNI : FnOk P w K mg base CX0 1 gn dn ["_law_row", "_law_at"] spNI) (bNI : Binds K dn ["_law_row", "_law_at"] []) (kNI : PySem.W.keepIn K (.ref gn) = true) (mNI : mg "_law_number_in" = some (.ref gn))
    (GRI : FnOk P w K mg base CX0 2 gr dr ["_law_row", "_law_at", "_law_many"] spRiI) (bRI : Binds K dr ["_law_row", "_law_at", "_law_many"] []) (kRI : PySem.W.keepIn K (.ref gr) = true) (mRI : mg "_law_rising_in" = some (.ref gr)) : FnOk P w K mg base CX0 3 f fd ["_law_row", "_law_at"] spPI := by
  refine F.ok scPI (fun vs H Q E h => ?_) (fun cdv A outer s H vs Q E hr h => ?_)
  · obtain ⟨a, ns, i, rfl, _⟩ := h
    rfl
  obtain ⟨a, ns, i, rfl, ha, hi, hnl, q1, q2⟩ := h
  have hr1 : Room 1 _ := hr.mono (by decide)
  refine ⟨_, (pss_cons (ps_set (i := 2) scPI.nd rfl (Or.inl rfl) (pe_call GNI hr1 rfl mNI kNI bNI .nil pass0 (pa_cons (pv 0) (pa_cons (pv 1) pa_nil))))
    (pss_cons (ps_if (pt_cmpR op_isN (pv 2) pe_non (nomark _)) (pss_one (ps_ret pe_non)) pss_nil)
    (pss_cons (ps_set (i := 1) scPI.nd rfl (Or.inl rfl) (pe_ix (ixT K) (pv 2) pe_int (fun _ _ => rfl)))
    (pss_cons (ps_set (i := 3) scPI.nd rfl (Or.inl rfl) (pe_lst pa_nil))
    (pss_cons (ps_while PassesOwn.never (pt_cmpR op_lt (pe_callB (lenK K) rfl T.len PySem.boot_len (pa_cons (pv 3) pa_nil)) (pe_ix (ixT K) (pv 2) pe_int (fun _ _ => rfl)) (nomark _))
      (pss_cons (ps_set (i := 4) scPI.nd rfl (Or.inl rfl) (pe_call GNI hr1 rfl mNI kNI bNI .nil pass0 (pa_cons (pv 0) (pa_cons (pv 1) pa_nil))))
    (pss_cons (ps_if (PW.pt (pw_or (pt_cmpR op_isN (pv 4) pe_non (nomark _)) (pw_or1 (PW.pt (pw_and (pt_cmpR op_eq (pe_ix (ixT K) (pv 4) pe_int (fun _ _ => rfl)) pe_int (nomark _)) (pw_and1 (pt_cmpR (op_neE K hr) (pv 3) (pe_lst pa_nil) (nomark _)))))))) (pss_one (ps_ret pe_non)) pss_nil)
    (pss_cons (ps_set (i := 5) scPI.nd rfl (Or.inl rfl) (pe_call GNI hr1 rfl mNI kNI bNI .nil pass0 (pa_cons (pv 0) (pa_cons (pe_ix (ixT K) (pv 4) pe_int (fun _ _ => rfl)) pa_nil))))
    (pss_cons (ps_if (PW.pt (pw_or (pt_cmpR op_isN (pv 5) pe_non (nomark _)) (pw_or1 (pt_cmpR op_eq (pe_ix (ixT K) (pv 5) pe_int (fun _ _ => rfl)) pe_int (nomark _))))) (pss_one (ps_ret pe_non)) pss_nil)
    (pss_cons (ps_set (i := 6) scPI.nd rfl (Or.inl rfl) (pe_call GRI hr rfl mRI kRI bRI .nil pass0 (pa_cons (pv 0) (pa_cons (pe_ix (ixT K) (pv 5) pe_int (fun _ _ => rfl)) (pa_cons (pe_ix (ixT K) (pv 5) pe_int (fun _ _ => rfl)) pa_nil)))))
    (pss_cons (ps_if (pt_cmpR op_isN (pv 6) pe_non (nomark _)) (pss_one (ps_ret pe_non)) pss_nil)
    (pss_cons (ps_expr (bmK K PySem.F.plainAttrs_list PySem.F.slot_list_append PySem.F.type_list_append mt_append (pv 3) (pa_cons (pe_tup (pa_cons (pe_op op_add (pe_ix (ixT K) (pv 4) pe_int (fun _ _ => rfl)) (pe_callB (call_sum K rfl) rfl T.sum (by decide +kernel) (pa_cons (pe_comp (N := ["_law_one"]) (pick := [none]) (NX := ["_law_row", "_law_at", "_law_many", "_law_found", "_law_step", "_law_count", "_law_places"]) (sX := defScope sPI) (by decide +kernel) rfl rfl rfl (pi_listK K (pe_slice (slL K) (pv 3) (po_some (pe_un un_neg pe_int)) po_none))
        (fun _ _ _ _ => (pg_name (i := 0) (by decide +kernel : (["_law_one"] : List Str).Nodup) rfl (Or.inl rfl))) (fun _ _ _ _ => pifs_nil) (fun _ _ _ _ => (pe_ix (ixT K) (pv 0) pe_int (fun _ _ => rfl)))) pa_nil))) (pa_cons (pe_ix (ixT K) (pv 6) pe_int (fun _ _ => rfl)) pa_nil))) pa_nil)))
    (pss_one (ps_set (i := 1) scPI.nd rfl (Or.inl rfl) (pe_ix (ixT K) (pv 6) pe_int (fun _ _ => rfl))))))))))))
    (pss_one (ps_ret (pe_tup (pa_cons (pv 3) (pa_cons (pv 1) pa_nil)))))))))), ?_⟩
  simp only [tIfS, tAnd, tOr, tNot, tB, tVar, tTest, tOp, tC, tUn, tCB, tCons, tNil, rI0, rI, rU, rNe, rEq, scal, rAppend, tBM, tDrop, tSeq, tAsg, gName, tRet, tNext, List.set_cons_zero, List.set_cons_succ, List.getElem?_cons_zero, List.getElem?_cons_succ, Option.some.injEq, V.int.injEq, V.bl.injEq, V.ref.injEq, V.str.injEq, exists_eq_left', exists_eq_left, exists_and_left, List.cons.injEq, and_true, true_and, and_assoc, exists_const, L2.start, List.map_cons, List.map_nil, List.length_cons, List.length_nil, List.replicate_succ, List.replicate_zero, List.cons_append, List.nil_append, List.append_nil, Nat.reduceAdd, Nat.reduceSub, tFor_eq, tComp_eq, tWhile_eq, tChain, tAug, ipI, rIxS, rSlS, rLower, rIndex, rPop, rCat, tBM0, gSub, rSetL, tSl, tPart, tNoPart, rSlL, tCall, tLst, tTup, iRng1, iRng2, iRng3, iList, iEnum, gTup, gCons, gNil, rIxL, rIxT, tYes, tAndV, tOrV, tNotV, tIf, tTest, exists_eq', List.ne_cons_self, reduceCtorEq, if_true, if_false, and_false, false_and, spNI]
  refine ⟨ns, i, rfl, ha, hi, fun N j0 hj hj0 e mt hmt => ?_, fun hnone => ?_⟩
  rotate_left
  · rw [if_pos (by decide)]
    exact q2 (by unfold ppo; rw [hnone]) _ (Same.refl _)
  rw [if_neg (by decide)]
  have sm := same_new hmt (.tup [V.int (N : Int), V.int (j0 : Int)])
  have em : (upd H mt (.tup [V.int (N : Int), V.int (j0 : Int)])) mt = some (.tup [V.int (N : Int), V.int (j0 : Int)]) := upd_same
  generalize upd H mt (.tup [V.int (N : Int), V.int (j0 : Int)]) = H1 at sm em ⊢
  have a1 := sm _ _ ha
  refine ⟨_, SqT.of em, _, rfl, by decide, fun p hp => ?_⟩
  have hp0 : H p = none := sm.free hp
  refine ⟨wPI a mt p ns i N H1, ⟨N, j0, j0, [], [], none, none, none, rfl, Nat.zero_le _, Nat.zero_le _, by omega, hj0, rfl, same_new hp _, upd_at em hp, upd_same, DeepTs.nil, by unfold ppo; rw [e]; rfl⟩, ?_⟩
  rintro m σ L ⟨j, j0', acc, ys, v4, v5, v6, rfl, h1, h2, h3, h4, rfl, sL, eM, eP, eD, eq⟩
  have hjl : ys.length = acc.length := by have := eD.length; rwa [List.length_map] at this
  have aL := sL _ _ a1
  simp only [tIfS, tAnd, tOr, tNot, tB, tVar, tTest, tOp, tC, tUn, tCB, tCons, tNil, rI0, rI, rU, rNe, rEq, scal, rAppend, tBM, tDrop, tAsg, gName, tRet, tNext, List.set_cons_zero, List.set_cons_succ, List.getElem?_cons_zero, List.getElem?_cons_succ, Option.some.injEq, V.int.injEq, V.bl.injEq, V.ref.injEq, V.str.injEq, exists_eq_left', exists_eq_left, exists_and_left, List.cons.injEq, and_true, true_and, and_assoc, exists_const, L2.start, List.map_cons, List.map_nil, List.length_cons, List.length_nil, List.replicate_succ, List.replicate_zero, List.cons_append, List.nil_append, List.append_nil, Nat.reduceAdd, Nat.reduceSub, tFor_eq, tComp_eq, tWhile_eq, tChain, tAug, ipI, rIxS, rSlS, rLower, rIndex, rPop, rCat, tBM0, gSub, rSetL, tSl, tPart, tNoPart, rSlL, tCall, tLst, tTup, iRng1, iRng2, iRng3, iList, iEnum, gTup, gCons, gNil, rIxL, rIxT, tYes, tAndV, tOrV, tNotV, tIf, tTest, exists_eq', List.ne_cons_self, reduceCtorEq, if_true, if_false, and_false, false_and]
  refine ⟨_, .inl (SqL.of eP), _, SqT.of eM, _, rfl, _, rfl, ?_⟩
  rw [hjl]
  refine ite2 (fun c => ?_) (fun c => ?_)
  rotate_left
  · have hje : N - acc.length = 0 := by simp at c; omega
    rw [hje, pps] at eq
    refine ⟨by decide, fun t ht => ?_⟩
    have npt : p ≠ t := ne_of_none eP ht
    exact q1 acc j h4 eq p t ys _ (sm.trans (sL.trans (same_new ht _))) (upd_at eP ht) (DeepTs.same (fun b o z => upd_at (hide_same p L _ _ z) ht) _ _ eD) ((sm.trans sL).free ht) upd_same
  have hjx : acc.length < N := by have := of_decide_eq_true c; omega
  obtain ⟨n, hn⟩ : ∃ n, N - acc.length = n + 1 := ⟨N - acc.length - 1, by omega⟩
  have bad : ppo (ns.drop i) = none → ∀ L', Same L L' → Q .non L' := fun z L' s' => q2 z _ (sm.trans (sL.trans s'))
  refine ⟨fun σ' H' => ∃ m', m' < N - acc.length ∧ wPI a mt p ns i N H1 m' σ' H', fun _ _ h => h, ?_⟩
  refine seq_inv (fun σ' L' => (pn true (ns.drop j) = none ∧ σ' = [some (.ref a), some (.int j), some (.ref mt), some (.ref p), some .non, v5, v6] ∧ L' = L) ∨ (∃ (s j2 : Nat) (t : Addr), j < j2 ∧ j2 ≤ ns.length ∧ pn true (ns.drop j) = some (s, ns.drop j2) ∧ σ' = [some (.ref a), some (.int j), some (.ref mt), some (.ref p), some (.ref t), v5, v6] ∧ L t = none ∧ L' = upd L t (.tup [.int s, .int j2]))) ?_ (fun N' hN => ?_)
  rotate_left
  · simp only [tIfS, tAnd, tOr, tNot, tB, tVar, tTest, tOp, tC, tUn, tCB, tCons, tNil, rI0, rI, rU, rNe, rEq, scal, rAppend, tBM, tDrop, tSeq, tAsg, gName, tRet, tNext, List.set_cons_zero, List.set_cons_succ, List.getElem?_cons_zero, List.getElem?_cons_succ, Option.some.injEq, V.int.injEq, V.bl.injEq, V.ref.injEq, V.str.injEq, exists_eq_left', exists_eq_left, exists_and_left, List.cons.injEq, and_true, true_and, and_assoc, exists_const, L2.start, List.map_cons, List.map_nil, List.length_cons, List.length_nil, List.replicate_succ, List.replicate_zero, List.cons_append, List.nil_append, List.append_nil, Nat.reduceAdd, Nat.reduceSub, tFor_eq, tComp_eq, tWhile_eq, tChain, tAug, ipI, rIxS, rSlS, rLower, rIndex, rPop, rCat, tBM0, gSub, rSetL, tSl, tPart, tNoPart, rSlL, tCall, tLst, tTup, iRng1, iRng2, iRng3, iList, iEnum, gTup, gCons, gNil, rIxL, rIxT, tYes, tAndV, tOrV, tNotV, tIf, tTest, exists_eq', List.ne_cons_self, reduceCtorEq, if_true, if_false, and_false, false_and, spNI]
    exact ⟨ns, j, rfl, aL, h4, fun s j2 z1 z2 z3 t ht => hN _ _ (.inr ⟨s, j2, t, z1, z2, z3, rfl, ht, rfl⟩), fun z => hN _ _ (.inl ⟨z, rfl, rfl⟩)⟩
  intro σ1 L1 h1'
  refine seq_inv (fun σ' L' => ∃ (s j2 : Nat) (t : Addr), j < j2 ∧ j2 ≤ ns.length ∧ pn true (ns.drop j) = some (s, ns.drop j2) ∧ ¬ (s = 0 ∧ acc.map (·.1) ≠ []) ∧ σ' = [some (.ref a), some (.int j), some (.ref mt), some (.ref p), some (.ref t), v5, v6] ∧ Same L L' ∧ L' t = some (.tup [.int s, .int j2])) ?_ (fun N' hN => ?_)
  rotate_left
  · rcases h1' with ⟨z, rfl, rfl⟩ | ⟨s, j2, t, z1, z2, z3, rfl, ht, rfl⟩
    · simp only [tIfS, tAnd, tOr, tNot, tB, tVar, tTest, tOp, tC, tUn, tCB, tCons, tNil, rI0, rI, rU, rNe, rEq, scal, rAppend, tBM, tDrop, tSeq, tAsg, gName, tRet, tNext, List.set_cons_zero, List.set_cons_succ, List.getElem?_cons_zero, List.getElem?_cons_succ, Option.some.injEq, V.int.injEq, V.bl.injEq, V.ref.injEq, V.str.injEq, exists_eq_left', exists_eq_left, exists_and_left, List.cons.injEq, and_true, true_and, and_assoc, exists_const, L2.start, List.map_cons, List.map_nil, List.length_cons, List.length_nil, List.replicate_succ, List.replicate_zero, List.cons_append, List.nil_append, List.append_nil, Nat.reduceAdd, Nat.reduceSub, tFor_eq, tComp_eq, tWhile_eq, tChain, tAug, ipI, rIxS, rSlS, rLower, rIndex, rPop, rCat, tBM0, gSub, rSetL, tSl, tPart, tNoPart, rSlL, tCall, tLst, tTup, iRng1, iRng2, iRng3, iList, iEnum, gTup, gCons, gNil, rIxL, rIxT, tYes, tAndV, tOrV, tNotV, tIf, tTest, exists_eq', List.ne_cons_self, reduceCtorEq, if_true, if_false, and_false, false_and]
      rw [if_pos (by decide)]
      refine bad ?_ _ (Same.refl _)
      rw [eq, hn, pps_none fun s t h => by rw [z] at h; cases h]
    · simp only [tIfS, tAnd, tOr, tNot, tB, tVar, tTest, tOp, tC, tUn, tCB, tCons, tNil, rI0, rI, rU, rNe, rEq, scal, rAppend, tBM, tDrop, tSeq, tAsg, gName, tRet, tNext, List.set_cons_zero, List.set_cons_succ, List.getElem?_cons_zero, List.getElem?_cons_succ, Option.some.injEq, V.int.injEq, V.bl.injEq, V.ref.injEq, V.str.injEq, exists_eq_left', exists_eq_left, exists_and_left, List.cons.injEq, and_true, true_and, and_assoc, exists_const, L2.start, List.map_cons, List.map_nil, List.length_cons, List.length_nil, List.replicate_succ, List.replicate_zero, List.cons_append, List.nil_append, List.append_nil, Nat.reduceAdd, Nat.reduceSub, tFor_eq, tComp_eq, tWhile_eq, tChain, tAug, ipI, rIxS, rSlS, rLower, rIndex, rPop, rCat, tBM0, gSub, rSetL, tSl, tPart, tNoPart, rSlL, tCall, tLst, tTup, iRng1, iRng2, iRng3, iList, iEnum, gTup, gCons, gNil, rIxL, rIxT, tYes, tAndV, tOrV, tNotV, tIf, tTest, exists_eq', List.ne_cons_self, reduceCtorEq, if_true, if_false, and_false, false_and]
      rw [if_neg (by decide)]
      have st := same_new ht (.tup [V.int (s : Int), V.int (j2 : Int)])
      refine ⟨_, SqT.of upd_same, _, rfl, rfl, ite2 (fun z => ⟨by decide, fun p2 hp2 => ?_⟩) (fun z => ?_)⟩
      · have z' : s = 0 := by
          have := of_decide_eq_true z
          injection this with this
          omega
        have eP1 := (st.trans (same_new hp2 (.lst []))) _ _ eP
        refine ⟨_, SqL.of eP1, SqL.of upd_same, ite2 (fun y => ?_) (fun y => ?_)⟩
        · have hne : acc.map (·.1) ≠ [] := fun x => by
            have h0 : acc.length = 0 := by have := congrArg List.length x; rwa [List.length_map] at this
            have : ys = [] := List.length_eq_zero_iff.mp (by rw [hjl, h0])
            rw [this] at y
            cases y
          refine bad ?_ _ (st.trans (same_new hp2 _))
          rw [eq, hn, pps_none fun s' t' h => ?_]
          rw [z3] at h
          cases h
          exact ⟨z', hne⟩
        · have hnil : acc = [] := by
            have : ys = [] := by
              cases ys with
              | nil => rfl
              | cons x r => exact absurd rfl y
            exact List.length_eq_zero_iff.mp (by rw [← hjl, this]; rfl)
          exact hN _ _ ⟨s, j2, t, z1, z2, z3, fun x => x.2 (by rw [hnil]; rfl), rfl, st.trans (same_new hp2 _), upd_at upd_same hp2⟩
      · exact hN _ _ ⟨s, j2, t, z1, z2, z3, fun x => z (decide_eq_true (by rw [x.1]; rfl)), rfl, st, upd_same⟩
  clear h1'
  rintro σ2 M2 ⟨s, j2, t, hj2, hj2n, ej2, hs, rfl, s2, et⟩
  refine seq_inv (fun σ' L' => (pn true (ns.drop j2) = none ∧ σ' = [some (.ref a), some (.int j), some (.ref mt), some (.ref p), some (.ref t), some .non, v6] ∧ L' = M2) ∨ (∃ (d j3 : Nat) (u : Addr), j2 < j3 ∧ j3 ≤ ns.length ∧ pn true (ns.drop j2) = some (d, ns.drop j3) ∧ σ' = [some (.ref a), some (.int j), some (.ref mt), some (.ref p), some (.ref t), some (.ref u), v6] ∧ M2 u = none ∧ L' = upd M2 u (.tup [.int d, .int j3]))) ?_ (fun N' hN => ?_)
  rotate_left
  · simp only [tIfS, tAnd, tOr, tNot, tB, tVar, tTest, tOp, tC, tUn, tCB, tCons, tNil, rI0, rI, rU, rNe, rEq, scal, rAppend, tBM, tDrop, tSeq, tAsg, gName, tRet, tNext, List.set_cons_zero, List.set_cons_succ, List.getElem?_cons_zero, List.getElem?_cons_succ, Option.some.injEq, V.int.injEq, V.bl.injEq, V.ref.injEq, V.str.injEq, exists_eq_left', exists_eq_left, exists_and_left, List.cons.injEq, and_true, true_and, and_assoc, exists_const, L2.start, List.map_cons, List.map_nil, List.length_cons, List.length_nil, List.replicate_succ, List.replicate_zero, List.cons_append, List.nil_append, List.append_nil, Nat.reduceAdd, Nat.reduceSub, tFor_eq, tComp_eq, tWhile_eq, tChain, tAug, ipI, rIxS, rSlS, rLower, rIndex, rPop, rCat, tBM0, gSub, rSetL, tSl, tPart, tNoPart, rSlL, tCall, tLst, tTup, iRng1, iRng2, iRng3, iList, iEnum, gTup, gCons, gNil, rIxL, rIxT, tYes, tAndV, tOrV, tNotV, tIf, tTest, exists_eq', List.ne_cons_self, reduceCtorEq, if_true, if_false, and_false, false_and, spNI]
    exact ⟨_, SqT.of et, _, rfl, ns, j2, rfl, s2 _ _ aL, hj2n, fun d j3 z1 z2 z3 u hu => hN _ _ (.inr ⟨d, j3, u, z1, z2, z3, rfl, hu, rfl⟩), fun z => hN _ _ (.inl ⟨z, rfl, rfl⟩)⟩
  intro σ3 L3 h3'
  refine seq_inv (fun σ' L' => ∃ (d j3 : Nat) (u : Addr), j2 < j3 ∧ j3 ≤ ns.length ∧ pn true (ns.drop j2) = some (d, ns.drop j3) ∧ d ≠ 0 ∧ σ' = [some (.ref a), some (.int j), some (.ref mt), some (.ref p), some (.ref t), some (.ref u), v6] ∧ Same M2 L' ∧ L' u = some (.tup [.int d, .int j3])) ?_ (fun N' hN => ?_)
  rotate_left
  · rcases h3' with ⟨z, rfl, rfl⟩ | ⟨d, j3, u, z1, z2, z3, rfl, hu, rfl⟩
    · simp only [tIfS, tAnd, tOr, tNot, tB, tVar, tTest, tOp, tC, tUn, tCB, tCons, tNil, rI0, rI, rU, rNe, rEq, scal, rAppend, tBM, tDrop, tSeq, tAsg, gName, tRet, tNext, List.set_cons_zero, List.set_cons_succ, List.getElem?_cons_zero, List.getElem?_cons_succ, Option.some.injEq, V.int.injEq, V.bl.injEq, V.ref.injEq, V.str.injEq, exists_eq_left', exists_eq_left, exists_and_left, List.cons.injEq, and_true, true_and, and_assoc, exists_const, L2.start, List.map_cons, List.map_nil, List.length_cons, List.length_nil, List.replicate_succ, List.replicate_zero, List.cons_append, List.nil_append, List.append_nil, Nat.reduceAdd, Nat.reduceSub, tFor_eq, tComp_eq, tWhile_eq, tChain, tAug, ipI, rIxS, rSlS, rLower, rIndex, rPop, rCat, tBM0, gSub, rSetL, tSl, tPart, tNoPart, rSlL, tCall, tLst, tTup, iRng1, iRng2, iRng3, iList, iEnum, gTup, gCons, gNil, rIxL, rIxT, tYes, tAndV, tOrV, tNotV, tIf, tTest, exists_eq', List.ne_cons_self, reduceCtorEq, if_true, if_false, and_false, false_and]
      rw [if_pos (by decide)]
      refine bad ?_ _ s2
      rw [eq, hn, pps_step ej2 hs, show pri (ns.drop j2) = none by unfold pri; rw [z]]
    · simp only [tIfS, tAnd, tOr, tNot, tB, tVar, tTest, tOp, tC, tUn, tCB, tCons, tNil, rI0, rI, rU, rNe, rEq, scal, rAppend, tBM, tDrop, tSeq, tAsg, gName, tRet, tNext, List.set_cons_zero, List.set_cons_succ, List.getElem?_cons_zero, List.getElem?_cons_succ, Option.some.injEq, V.int.injEq, V.bl.injEq, V.ref.injEq, V.str.injEq, exists_eq_left', exists_eq_left, exists_and_left, List.cons.injEq, and_true, true_and, and_assoc, exists_const, L2.start, List.map_cons, List.map_nil, List.length_cons, List.length_nil, List.replicate_succ, List.replicate_zero, List.cons_append, List.nil_append, List.append_nil, Nat.reduceAdd, Nat.reduceSub, tFor_eq, tComp_eq, tWhile_eq, tChain, tAug, ipI, rIxS, rSlS, rLower, rIndex, rPop, rCat, tBM0, gSub, rSetL, tSl, tPart, tNoPart, rSlL, tCall, tLst, tTup, iRng1, iRng2, iRng3, iList, iEnum, gTup, gCons, gNil, rIxL, rIxT, tYes, tAndV, tOrV, tNotV, tIf, tTest, exists_eq', List.ne_cons_self, reduceCtorEq, if_true, if_false, and_false, false_and]
      rw [if_neg (by decide)]
      have su := same_new hu (.tup [V.int (d : Int), V.int (j3 : Int)])
      refine ⟨_, SqT.of upd_same, _, rfl, rfl, ite2 (fun z => ?_) (fun z => ?_)⟩
      · have z' : d = 0 := by
          have := of_decide_eq_true z
          injection this with this
          omega
        refine bad ?_ _ (s2.trans su)
        rw [eq, hn, pps_step ej2 hs, show pri (ns.drop j2) = some ([], ns.drop j3) by unfold pri; rw [z3, z']; rfl]
        exact if_pos rfl
      · exact hN _ _ ⟨d, j3, u, z1, z2, z3, fun x => z (decide_eq_true (by rw [x]; rfl)), rfl, su, upd_same⟩
  clear h3'
  rintro σ4 L4 ⟨d, j3, u, hj3, hj3n, ej3, hd, rfl, s4, eu⟩
  have et4 := s4 _ _ et
  refine seq_inv (fun σ' L' => (prs d [] (ns.drop j3) = none ∧ σ' = [some (.ref a), some (.int j), some (.ref mt), some (.ref p), some (.ref t), some (.ref u), some .non] ∧ Same L4 L') ∨ (∃ (xs : List Nat) (j4 : Nat) (pl x : Addr), j3 ≤ j4 ∧ j4 ≤ ns.length ∧ xs.length ≤ j4 ∧ prs d [] (ns.drop j3) = some (xs, ns.drop j4) ∧ σ' = [some (.ref a), some (.int j), some (.ref mt), some (.ref p), some (.ref t), some (.ref u), some (.ref x)] ∧ Same L4 L' ∧ L4 pl = none ∧ L' pl = some (.lst ((zN xs).map V.int)) ∧ L' x = some (.tup [.ref pl, .int j4]))) ?_ (fun N' hN => ?_)
  rotate_left
  · simp only [tIfS, tAnd, tOr, tNot, tB, tVar, tTest, tOp, tC, tUn, tCB, tCons, tNil, rI0, rI, rU, rNe, rEq, scal, rAppend, tBM, tDrop, tSeq, tAsg, gName, tRet, tNext, List.set_cons_zero, List.set_cons_succ, List.getElem?_cons_zero, List.getElem?_cons_succ, Option.some.injEq, V.int.injEq, V.bl.injEq, V.ref.injEq, V.str.injEq, exists_eq_left', exists_eq_left, exists_and_left, List.cons.injEq, and_true, true_and, and_assoc, exists_const, L2.start, List.map_cons, List.map_nil, List.length_cons, List.length_nil, List.replicate_succ, List.replicate_zero, List.cons_append, List.nil_append, List.append_nil, Nat.reduceAdd, Nat.reduceSub, tFor_eq, tComp_eq, tWhile_eq, tChain, tAug, ipI, rIxS, rSlS, rLower, rIndex, rPop, rCat, tBM0, gSub, rSetL, tSl, tPart, tNoPart, rSlL, tCall, tLst, tTup, iRng1, iRng2, iRng3, iList, iEnum, gTup, gCons, gNil, rIxL, rIxT, tYes, tAndV, tOrV, tNotV, tIf, tTest, exists_eq', List.ne_cons_self, reduceCtorEq, if_true, if_false, and_false, false_and, spRiI]
    exact ⟨_, SqT.of eu, _, rfl, _, SqT.of eu, _, rfl, ns, j3, rfl, d, rfl, s4 _ _ (s2 _ _ aL), hj3n, hnl, fun xs j4 z1 z2 z3 z4 pl x L' s' y1 y2 y3 y4 y5 => hN _ _ (.inr ⟨xs, j4, pl, x, z1, z2, z3, z4, rfl, s', y1, y2, y5⟩), fun z L' s' => hN _ _ (.inl ⟨z, rfl, s'⟩)⟩
  intro σ5 L5 h5'
  have hpri : pri (ns.drop j2) = prs d [] (ns.drop j3) := by unfold pri; rw [ej3]
  refine seq_inv (fun σ' L' => ∃ (xs : List Nat) (j4 : Nat) (pl x : Addr), j3 ≤ j4 ∧ j4 ≤ ns.length ∧ xs.length ≤ j4 ∧ prs d [] (ns.drop j3) = some (xs, ns.drop j4) ∧ σ' = [some (.ref a), some (.int j), some (.ref mt), some (.ref p), some (.ref t), some (.ref u), some (.ref x)] ∧ Same L4 L' ∧ L4 pl = none ∧ L' pl = some (.lst ((zN xs).map V.int)) ∧ L' x = some (.tup [.ref pl, .int j4])) ?_ (fun N' hN => ?_)
  rotate_left
  · rcases h5' with ⟨z, rfl, s'⟩ | ⟨xs, j4, pl, x, z1, z2, z3, z4, rfl, s', y1, y2, y5⟩
    · simp only [tIfS, tAnd, tOr, tNot, tB, tVar, tTest, tOp, tC, tUn, tCB, tCons, tNil, rI0, rI, rU, rNe, rEq, scal, rAppend, tBM, tDrop, tSeq, tAsg, gName, tRet, tNext, List.set_cons_zero, List.set_cons_succ, List.getElem?_cons_zero, List.getElem?_cons_succ, Option.some.injEq, V.int.injEq, V.bl.injEq, V.ref.injEq, V.str.injEq, exists_eq_left', exists_eq_left, exists_and_left, List.cons.injEq, and_true, true_and, and_assoc, exists_const, L2.start, List.map_cons, List.map_nil, List.length_cons, List.length_nil, List.replicate_succ, List.replicate_zero, List.cons_append, List.nil_append, List.append_nil, Nat.reduceAdd, Nat.reduceSub, tFor_eq, tComp_eq, tWhile_eq, tChain, tAug, ipI, rIxS, rSlS, rLower, rIndex, rPop, rCat, tBM0, gSub, rSetL, tSl, tPart, tNoPart, rSlL, tCall, tLst, tTup, iRng1, iRng2, iRng3, iList, iEnum, gTup, gCons, gNil, rIxL, rIxT, tYes, tAndV, tOrV, tNotV, tIf, tTest, exists_eq', List.ne_cons_self, reduceCtorEq, if_true, if_false, and_false, false_and]
      rw [if_pos (by decide)]
      refine bad ?_ _ (s2.trans (s4.trans s'))
      rw [eq, hn, pps_step ej2 hs, hpri, z]
    · simp only [tIfS, tAnd, tOr, tNot, tB, tVar, tTest, tOp, tC, tUn, tCB, tCons, tNil, rI0, rI, rU, rNe, rEq, scal, rAppend, tBM, tDrop, tSeq, tAsg, gName, tRet, tNext, List.set_cons_zero, List.set_cons_succ, List.getElem?_cons_zero, List.getElem?_cons_succ, Option.some.injEq, V.int.injEq, V.bl.injEq, V.ref.injEq, V.str.injEq, exists_eq_left', exists_eq_left, exists_and_left, List.cons.injEq, and_true, true_and, and_assoc, exists_const, L2.start, List.map_cons, List.map_nil, List.length_cons, List.length_nil, List.replicate_succ, List.replicate_zero, List.cons_append, List.nil_append, List.append_nil, Nat.reduceAdd, Nat.reduceSub, tFor_eq, tComp_eq, tWhile_eq, tChain, tAug, ipI, rIxS, rSlS, rLower, rIndex, rPop, rCat, tBM0, gSub, rSetL, tSl, tPart, tNoPart, rSlL, tCall, tLst, tTup, iRng1, iRng2, iRng3, iList, iEnum, gTup, gCons, gNil, rIxL, rIxT, tYes, tAndV, tOrV, tNotV, tIf, tTest, exists_eq', List.ne_cons_self, reduceCtorEq, if_true, if_false, and_false, false_and]
      rw [if_neg (by decide)]
      exact hN _ _ ⟨xs, j4, pl, x, z1, z2, z3, z4, rfl, s', y1, y2, y5⟩
  clear h5'
  rintro σ6 L6 ⟨xs, j4, pl, x, hj4, hj4n, hxl, ej4, rfl, s6, hpl, epl, ex⟩
  have et6 := s6 _ _ et4
  have sA := s2.trans (s4.trans s6)
  have eP6 := sA _ _ eP
  simp only [tIfS, tAnd, tOr, tNot, tB, tVar, tTest, tOp, tC, tUn, tCB, tCons, tNil, rI0, rI, rU, rNe, rEq, scal, rAppend, tBM, tDrop, tSeq, tAsg, gName, tRet, tNext, List.set_cons_zero, List.set_cons_succ, List.getElem?_cons_zero, List.getElem?_cons_succ, Option.some.injEq, V.int.injEq, V.bl.injEq, V.ref.injEq, V.str.injEq, exists_eq_left', exists_eq_left, exists_and_left, List.cons.injEq, and_true, true_and, and_assoc, exists_const, L2.start, List.map_cons, List.map_nil, List.length_cons, List.length_nil, List.replicate_succ, List.replicate_zero, List.cons_append, List.nil_append, List.append_nil, Nat.reduceAdd, Nat.reduceSub, tFor_eq, tComp_eq, tWhile_eq, tChain, tAug, ipI, rIxS, rSlS, rLower, rIndex, rPop, rCat, tBM0, gSub, rSetL, tSl, tPart, tNoPart, rSlL, tCall, tLst, tTup, iRng1, iRng2, iRng3, iList, iEnum, gTup, gCons, gNil, rIxL, rIxT, tYes, tAndV, tOrV, tNotV, tIf, tTest, exists_eq', List.ne_cons_self, reduceCtorEq, if_true, if_false, and_false, false_and]
  have cy : cutV ys (some (-1)) none = ys.drop (ys.length - 1) := cut_last ys
  refine ⟨.inl ⟨rfl, _, SqL.of eP6⟩, _, SqT.of et6, _, rfl, _, SqL.of eP6, fun p1 hp1 => ⟨⟨_, SqL.of upd_same⟩, ?_⟩⟩
  have s7 := same_new hp1 (.lst (cutV ys (some (-1)) none))
  have e7 : (upd L6 p1 (.lst (cutV ys (some (-1)) none))) p1 = some (.lst (cutV ys (some (-1)) none)) := upd_same
  generalize upd L6 p1 (.lst (cutV ys (some (-1)) none)) = L7 at s7 e7 ⊢
  have hD7 : DeepTs L7 (acc.map dvP) ys := DeepTs.same (fun b o z => s7 _ _ (sA _ _ (hide_same p L _ _ z))) _ _ eD
  have hcl : (cutV ys (some (-1)) none).length = (cutL (zN (acc.map (·.1))) (some (-1)) none).length := by
    rw [cy, cut_last, List.length_drop, List.length_drop, List.length_map, List.length_map, hjl]
  refine compW_list (cutV ys (some (-1)) none) (fun k us σ' L' => ∃ v0 : Option V, σ' = [v0] ∧ L' = L7 ∧ us = ((cutL (zN (acc.map (·.1))) (some (-1)) none).take k).map V.int) ⟨none, rfl, rfl, rfl⟩ ?_ ?_ ?_
  · rintro k us σ' L' hk ⟨v0, rfl, rfl, rfl⟩
    refine ⟨SqL.of e7, Nat.le_of_lt (big9 ?_)⟩
    rw [List.length_map, List.length_take, ← hcl, cy, List.length_drop]
    omega
  · rintro k y us σ' L' hy ⟨v0, rfl, rfl, rfl⟩
    rw [cy, List.getElem?_drop] at hy
    obtain ⟨dv, g1, g2⟩ := hD7.get hy
    rw [List.getElem?_map] at g1
    obtain ⟨x0, hx0, rfl⟩ := Option.map_eq_some_iff.mp g1
    obtain ⟨b1, b2, rfl, hb1, hb2⟩ := dvP_at g2
    simp only [tIfS, tAnd, tOr, tNot, tB, tVar, tTest, tOp, tC, tUn, tCB, tCons, tNil, rI0, rI, rU, rNe, rEq, scal, rAppend, tBM, tDrop, tSeq, tAsg, gName, tRet, tNext, List.set_cons_zero, List.set_cons_succ, List.getElem?_cons_zero, List.getElem?_cons_succ, Option.some.injEq, V.int.injEq, V.bl.injEq, V.ref.injEq, V.str.injEq, exists_eq_left', exists_eq_left, exists_and_left, List.cons.injEq, and_true, true_and, and_assoc, exists_const, L2.start, List.map_cons, List.map_nil, List.length_cons, List.length_nil, List.replicate_succ, List.replicate_zero, List.cons_append, List.nil_append, List.append_nil, Nat.reduceAdd, Nat.reduceSub, tFor_eq, tComp_eq, tWhile_eq, tChain, tAug, ipI, rIxS, rSlS, rLower, rIndex, rPop, rCat, tBM0, gSub, rSetL, tSl, tPart, tNoPart, rSlL, tCall, tLst, tTup, iRng1, iRng2, iRng3, iList, iEnum, gTup, gCons, gNil, rIxL, rIxT, tYes, tAndV, tOrV, tNotV, tIf, tTest, exists_eq', List.ne_cons_self, reduceCtorEq, if_true, if_false, and_false, false_and]
    refine ⟨_, SqT.of hb1, _, rfl, ?_⟩
    have hk : (cutL (zN (acc.map (·.1))) (some (-1)) none)[k]? = some (x0.1 : Int) := by
      rw [cut_last, List.getElem?_drop, List.length_map, List.length_map, ← hjl, List.getElem?_map, List.getElem?_map, hx0]
      rfl
    rw [take_snoc hk, List.map_append]
    rfl
  · rintro us σ' L' ⟨v0, rfl, rfl, rfl⟩ p2 hp2
    rw [hcl, List.take_length]
    have s8 := same_new hp2 (.lst ((cutL (zN (acc.map (·.1))) (some (-1)) none).map V.int))
    have e8 : (upd L' p2 (.lst ((cutL (zN (acc.map (·.1))) (some (-1)) none).map V.int))) p2 = some (.lst ((cutL (zN (acc.map (·.1))) (some (-1)) none).map V.int)) := upd_same
    generalize upd L' p2 (.lst ((cutL (zN (acc.map (·.1))) (some (-1)) none).map V.int)) = L8 at s8 e8 ⊢
    have s68 := s7.trans s8
    have ex8 := s68 _ _ ex
    have eP8 := s68 _ _ eP6
    refine ⟨p2, rfl, _, SqL.of e8, _, rfl, _, SqT.of ex8, _, rfl, by decide, fun p3 hp3 => ?_⟩
    have nxp : x ≠ p := fun z => by rw [z, eP8] at ex8; cases ex8
    have np3 : p3 ≠ p := fun z => by rw [z, eP8] at hp3; cases hp3
    have npl : pl ≠ p := fun z => by
      have := s68 _ _ epl
      rw [z, eP8] at this
      rw [z, (s4 _ _ (s2 _ _ eP))] at hpl
      cases hpl
    refine ⟨_, upd_at eP8 hp3, by rw [hjl]; exact big9 (by omega), _, SqT.of (by rw [upd_ne nxp]; exact upd_at ex8 hp3), _, rfl, N - (acc.length + 1), by omega, j4, j0', acc ++ [((acc.map (·.1)).getLastD 0 + s, xs)], _, _, _, _, by rw [List.length_append]; rfl, by rw [List.length_append]; exact hjx, by rw [List.length_append]; show acc.length + 1 ≤ j4; omega, by omega, hj4n, rfl, ?_, ?_, upd_same, ?_, ?_⟩
    · exact (sL.trans (sA.trans (s68.trans (same_new hp3 _)))).newer hp _
    · have nmp : mt ≠ p := fun z => by rw [z, eP] at eM; cases eM
      rw [upd_ne nmp]
      exact upd_at (s68 _ _ (sA _ _ eM)) hp3
    · rw [hide_upd, List.map_append]
      refine (DeepTs.same (hide_mono (sA.trans (s68.trans (same_new hp3 _)))) _ _ eD).app (DeepTs.one ?_)
      rw [dvP, DeepT]
      refine ⟨p3, _, rfl, by rw [hide_ne np3]; exact upd_same, ?_⟩
      rw [DeepTs]
      refine ⟨_, _, rfl, ?_, DeepTs.one ?_⟩
      · rw [DeepT, last_sum, show ((s : Int) + (((acc.map (·.1)).getLastD 0 : Nat) : Int)) = (((acc.map (·.1)).getLastD 0 + s : Nat) : Int) by omega]
      · rw [DeepT]
        refine ⟨pl, _, rfl, ?_, DeepTs.ints _⟩
        rw [hide_ne npl]
        exact upd_at (s68 _ _ epl) hp3
    · have hxn : xs ≠ [] := fun z => by
        obtain ⟨zs, g1, g2, _⟩ := prs_is d [] _ _ _ ej4 trivial
        rw [List.nil_append] at g1
        rw [← g1, z] at g2
        exact hd g2.symm
      rw [eq, hn, pps_step ej2 hs, hpri, ej4, List.length_append, show N - (acc.length + [((acc.map (·.1)).getLastD 0 + s, xs)].length) = n by rw [List.length_singleton]; omega]
      exact if_neg hxn
end
end K13

namespace K13
open PySem L2 KB
/-! ### what is refused -/
structure XNm (mg : Str → Option Value) (FE NF NM NB ND NS NQ NP NL NT : Addr) : Prop where
  fe : mg "FindError" = some (.ref FE)
  nf : mg "NoField" = some (.ref NF)
  nm : mg "NoMake" = some (.ref NM)
  nb : mg "NoBytes" = some (.ref NB)
  nd : mg "NoDocument" = some (.ref ND)
  ns : mg "NoStamp" = some (.ref NS)
  nq : mg "NoPiece" = some (.ref NQ)
  np : mg "NoPattern" = some (.ref NP)
  nl : mg "NoLine" = some (.ref NL)
  nt : mg "NoText" = some (.ref NT)
/-- which of the classes a thing of this class is -/
structure XIs (K : PySem.W.Frag) (NF NM NB ND NS NQ NP NL NT : Addr) (t : Value) (b : Bool) : Prop where
  nf : PySem.W.kitOne K t (.ref NF) = some false
  nm : PySem.W.kitOne K t (.ref NM) = some false
  nb : PySem.W.kitOne K t (.ref NB) = some b
  nd : PySem.W.kitOne K t (.ref ND) = some false
  ns : PySem.W.kitOne K t (.ref NS) = some false
  nq : PySem.W.kitOne K t (.ref NQ) = some false
  np : PySem.W.kitOne K t (.ref NP) = some false
  nl : PySem.W.kitOne K t (.ref NL) = some false
  nt : PySem.W.kitOne K t (.ref NT) = some false
  ve : PySem.W.kitOne K t (.type "ValueError") = some b
section
variable {P : Program} {w : World} {K : PySem.W.Frag} {mg : Str → Option Value} {base : Heap} {f : Addr} {fd : FuncData} {FE NF NM NB ND NS NQ NP NL NT : Addr}
theorem XO_inj {e : Addr} {C C' : Value} {dx dx' : Option Addr} (h : XO e C dx = XO e C' dx') : C = C' ∧ dx = dx' := by
  unfold XO at h
  injection h with h
  have h0 : XP e C dx (({ objs := Array.replicate e default } : Heap).push { cls := C, dict := dx, data := .fields #[.none, .none] }) := by
    refine ⟨{ cls := C, dict := dx, data := .fields #[.none, .none] }, _, ?_, rfl, rfl, rfl, by decide⟩
    have := Heap.get?_push_size (o := { cls := C, dict := dx, data := .fields #[.none, .none] }) ({ objs := Array.replicate e default } : Heap) rfl
    simpa using this
  rw [h] at h0
  obtain ⟨oe, vs, h1, h2, h3, _⟩ := h0
  have h4 : (({ objs := Array.replicate e default } : Heap).push { cls := C, dict := dx, data := .fields #[.none, .none] }).get? e = some { cls := C, dict := dx, data := .fields #[.none, .none] } := by
    have := Heap.get?_push_size (o := { cls := C, dict := dx, data := .fields #[.none, .none] }) ({ objs := Array.replicate e default } : Heap) rfl
    simpa using this
  rw [h4] at h1
  cases h1
  exact ⟨h2, h3⟩
def kindL (b : Bool) : List V := if b then [.str "bytes"] else []
def spKind (NB : Addr) : Sp := fun vs H Q _ => ∃ (x : V) (b : Bool), vs = [x] ∧ ((b = false ∧ x = .non) ∨ (b = true ∧ ∃ e, x = .ref e ∧ H e = some (XO e (.ref NB) none))) ∧ ∀ p, H p = none → Q (.ref p) (upd H p (.lst (kindL b)))
theorem scKind : FnScope ["_law_error", "_law_found"] ["_law_error"] (defScope sKind) := ⟨rfl, rfl, rfl, by decide +kernel, rfl, by decide +kernel, by decide +kernel⟩
theorem ok_kind (F : Fun K "_law_kind" "_law_kind" sKind f fd) (T : Txt mg) (xn : XNm mg FE NF NM NB ND NS NQ NP NL NT) (x0 : XIs K NF NM NB ND NS NQ NP NL NT (.type "NoneType") false) (x1 : XIs K NF NM NB ND NS NQ NP NL NT (.ref NB) true) (xa : XAttr K NB) : FnOk P w K mg base CX0 1 f fd ["_law_error"] (spKind NB) := by
  obtain ⟨mFE, mNF, mNM, mNB, mND, mNS, mNQ, mNP, mNL, mNT⟩ := xn
  refine F.ok scKind (fun vs H Q E h => ?_) (fun cdv A outer s H vs Q E hr h => ?_)
  · obtain ⟨x, b, rfl, _⟩ := h
    rfl
  obtain ⟨x, b, rfl, hx, q⟩ := h
  refine ⟨_, (pss_cons (ps_set (i := 1) scKind.nd rfl (Or.inl rfl) (pe_lst pa_nil))
    (pss_cons (ps_if (pt_val (pe_callB (call_isiX K) rfl T.isinstance (by decide +kernel) (pa_cons (pv 0) (pa_cons (pe_gref rfl mNF) pa_nil)))) (pss_one ps_never) pss_nil)
    (pss_cons (ps_if (pt_val (pe_callB (call_isiX K) rfl T.isinstance (by decide +kernel) (pa_cons (pv 0) (pa_cons (pe_gref rfl mNM) pa_nil)))) (pss_one ps_never) pss_nil)
    (pss_cons (ps_if (pt_val (pe_callB (call_isiX K) rfl T.isinstance (by decide +kernel) (pa_cons (pv 0) (pa_cons (pe_gref rfl mNB) pa_nil)))) (pss_one (ps_expr (bmK K PySem.F.plainAttrs_list PySem.F.slot_list_append PySem.F.type_list_append mt_append (pv 1) (pa_cons pe_str pa_nil)))) pss_nil)
    (pss_cons (ps_if (pt_val (pe_callB (call_isiX K) rfl T.isinstance (by decide +kernel) (pa_cons (pv 0) (pa_cons (pe_gref rfl mND) pa_nil)))) (pss_one ps_never) pss_nil)
    (pss_cons (ps_if (pt_val (pe_callB (call_isiX K) rfl T.isinstance (by decide +kernel) (pa_cons (pv 0) (pa_cons (pe_gref rfl mNS) pa_nil)))) (pss_one ps_never) pss_nil)
    (pss_cons (ps_if (pt_val (pe_callB (call_isiX K) rfl T.isinstance (by decide +kernel) (pa_cons (pv 0) (pa_cons (pe_gref rfl mNQ) pa_nil)))) (pss_one ps_never) pss_nil)
    (pss_cons (ps_if (pt_val (pe_callB (call_isiX K) rfl T.isinstance (by decide +kernel) (pa_cons (pv 0) (pa_cons (pe_gref rfl mNP) pa_nil)))) (pss_one ps_never) pss_nil)
    (pss_cons (ps_if (pt_val (pe_callB (call_isiX K) rfl T.isinstance (by decide +kernel) (pa_cons (pv 0) (pa_cons (pe_gref rfl mNL) pa_nil)))) (pss_one ps_never) pss_nil)
    (pss_cons (ps_if (pt_val (pe_callB (call_isiX K) rfl T.isinstance (by decide +kernel) (pa_cons (pv 0) (pa_cons (pe_gref rfl mNT) pa_nil)))) (pss_one ps_never) pss_nil)
    (pss_cons (ps_if (PW.pt (pw_and (pt_cmpR op_notN (pv 0) pe_non (nomark _)) (pw_and1 (pt_not (pt_val (pe_callB (call_isiX K) rfl T.isinstance (by decide +kernel) (pa_cons (pv 0) (pa_cons (pe_bltn (v := .ty "ValueError") rfl T.valueError (by decide +kernel) rfl) pa_nil)))))))) (pss_one ps_never) pss_nil)
    (pss_cons (ps_if (PW.pt (pw_and (pt_cmpR op_eq (pe_callB (lenK K) rfl T.len PySem.boot_len (pa_cons (pv 1) pa_nil)) pe_int (nomark _)) (pw_and1 (pt_val (pe_callB (call_isi K) rfl T.isinstance (by decide +kernel) (pa_cons (pe_ix (ixL K) (pv 1) pe_int (fun _ _ => rfl)) (pa_cons (pe_bltn (v := .ty "bool") rfl T.bool (by decide +kernel) rfl) pa_nil))))))) (pss_one ps_never) pss_nil)
    (pss_one (ps_ret (pv 1))))))))))))))), ?_⟩
  simp only [tIfS, tAnd, tOr, tNot, tB, tVar, tTest, tOp, tC, tUn, tCB, tCons, tNil, rI0, rI, rU, rNe, rEq, scal, rAppend, tBM, tDrop, tSeq, tAsg, gName, tRet, tNext, List.set_cons_zero, List.set_cons_succ, List.getElem?_cons_zero, List.getElem?_cons_succ, Option.some.injEq, V.int.injEq, V.bl.injEq, V.ref.injEq, V.str.injEq, exists_eq_left', exists_eq_left, exists_and_left, List.cons.injEq, and_true, true_and, and_assoc, exists_const, L2.start, List.map_cons, List.map_nil, List.length_cons, List.length_nil, List.replicate_succ, List.replicate_zero, List.cons_append, List.nil_append, List.append_nil, Nat.reduceAdd, Nat.reduceSub, tFor_eq, tComp_eq, tWhile_eq, tChain, tAug, ipI, rIxS, rSlS, rLower, rIndex, rPop, rCat, tBM0, gSub, rSetL, tSl, tPart, tNoPart, rSlL, tCall, tLst, tTup, iRng1, iRng2, iRng3, iList, iEnum, gTup, gCons, gNil, rIxL, rIxT, tYes, tAndV, tOrV, tNotV, tIf, tTest, exists_eq', List.ne_cons_self, reduceCtorEq, if_true, if_false, and_false, false_and, tNever]
  refine ⟨by decide, fun p hp => ?_⟩
  rcases hx with ⟨rfl, rfl⟩ | ⟨rfl, e, rfl, he⟩
  · have t : ∀ L, TyX K L V.non (.type "NoneType") := fun L => .inl ⟨rfl, rfl⟩
    refine ⟨_, t _, _, .inl x0.nf, iteF ⟨_, t _, _, .inl x0.nm, iteF ⟨_, t _, _, .inl x0.nb, iteF ⟨_, t _, _, .inl x0.nd, iteF ⟨_, t _, _, .inl x0.ns, iteF ⟨_, t _, _, .inl x0.nq, iteF ⟨_, t _, _, .inl x0.np, iteF ⟨_, t _, _, .inl x0.nl, iteF ⟨_, t _, _, .inl x0.nt, iteF ?_⟩⟩⟩⟩⟩⟩⟩⟩⟩
    rw [if_neg (by decide)]
    exact ⟨[], .inl (SqL.of upd_same), by rw [if_neg (by decide)]; exact q p hp⟩
  · have t : ∀ L, Same H L → TyX K L (V.ref e) (.ref NB) := fun L sL => .inr ⟨e, NB, none, rfl, rfl, sL _ _ he, (fun a z => by cases z), xa⟩
    have t0 := t _ (same_new hp (.lst []))
    have t1 := t _ ((same_new hp (.lst [])).newer hp (.lst ([] ++ [V.str "bytes"])))
    refine ⟨_, t0, _, .inl x1.nf, iteF ⟨_, t0, _, .inl x1.nm, iteF ⟨_, t0, _, .inl x1.nb, iteT ⟨.inl ⟨rfl, _, SqL.of upd_same⟩, _, upd_same, by decide, _, t1, _, .inl x1.nd, iteF ⟨_, t1, _, .inl x1.ns, iteF ⟨_, t1, _, .inl x1.nq, iteF ⟨_, t1, _, .inl x1.np, iteF ⟨_, t1, _, .inl x1.nl, iteF ⟨_, t1, _, .inl x1.nt, iteF ?_⟩⟩⟩⟩⟩⟩⟩⟩⟩
    rw [if_pos (by simp)]
    refine ⟨_, t1, true, .inr ⟨_, rfl, x1.ve⟩, ?_⟩
    rw [if_neg (by decide)]
    refine ⟨_, .inl (SqL.of upd_same), ?_⟩
    rw [if_neg (by decide), upd_upd]
    exact q p hp
/-- what a row is read as, by kinds -/
def due0 (ns : List Int) : Option DV := match pn true ns with
  | some (n, []) => some (.int n)
  | _ => none
def due1 (ns : List Int) : Option DV := match ptxt ns with
  | some (zs, []) => some (.str (strN zs))
  | _ => none
def due2 (ns : List Int) : Option DV := match ppo ns with
  | some (ps, []) => some (.lst (ps.map dvP))
  | _ => none
def due (k : Nat) (ns : List Int) : Option DV := if k = 0 then due0 ns else if k = 1 then due1 ns else due2 ns
theorem due0_of {ns : List Int} {d : DV} (h : due0 ns = some d) : ∃ n : Nat, pn true ns = some (n, []) ∧ d = .int n := by
  unfold due0 at h
  split at h
  · next n e => cases h; exact ⟨n, e, rfl⟩
  · cases h
theorem due1_of {ns : List Int} {d : DV} (h : due1 ns = some d) : ∃ zs, ptxt ns = some (zs, []) ∧ d = .str (strN zs) := by
  unfold due1 at h
  split at h
  · next n e => cases h; exact ⟨n, e, rfl⟩
  · cases h
theorem due2_of {ns : List Int} {d : DV} (h : due2 ns = some d) : ∃ ps, ppo ns = some (ps, []) ∧ d = .lst (ps.map dvP) := by
  unfold due2 at h
  split at h
  · next n e => cases h; exact ⟨n, e, rfl⟩
  · cases h
theorem due0_none {ns : List Int} (h : ∀ n, pn true ns ≠ some (n, [])) : due0 ns = none := by
  cases e : due0 ns with
  | none => rfl
  | some d => obtain ⟨n, e1, _⟩ := due0_of e; exact absurd e1 (h n)
theorem due1_none {ns : List Int} (h : ∀ n, ptxt ns ≠ some (n, [])) : due1 ns = none := by
  cases e : due1 ns with
  | none => rfl
  | some d => obtain ⟨n, e1, _⟩ := due1_of e; exact absurd e1 (h n)
theorem due2_none {ns : List Int} (h : ∀ n, ppo ns ≠ some (n, [])) : due2 ns = none := by
  cases e : due2 ns with
  | none => rfl
  | some d => obtain ⟨n, e1, _⟩ := due2_of e; exact absurd e1 (h n)
theorem due0_eq {ns : List Int} {n : Nat} (h : pn true ns = some (n, [])) : due0 ns = some (.int n) := by unfold due0; rw [h]
theorem due1_eq {ns : List Int} {n : List Nat} (h : ptxt ns = some (n, [])) : due1 ns = some (.str (strN n)) := by unfold due1; rw [h]
theorem due2_eq {ns : List Int} {n : List Pst} (h : ppo ns = some (n, [])) : due2 ns = some (.lst (n.map dvP)) := by unfold due2; rw [h]
theorem scRd : FnScope ["_law_row", "_law_kind_here"] ["_law_row", "_law_kind_here"] (defScope sRd) := ⟨rfl, rfl, rfl, by decide +kernel, rfl, by decide +kernel, by decide +kernel⟩
def spRd (NB : Addr) : Sp := fun vs H Q E => ∃ (a : Addr) (k : Nat) (ns : List Int), vs = [.ref a, .int k] ∧ k < 3 ∧ H a = some (.lst (ns.map V.int)) ∧ ns.length ≤ 900 ∧ (∀ d, due k ns = some d → ∀ x H', Same H H' → DeepT H' d x → Q x H') ∧ (due k ns = none → Bad NB H E)
theorem ok_rd {gn gt gp : Addr} {dn dt dp : FuncData} (F : Fun K "_law_read" "_law_read" sRd f fd) (T : Txt mg) (GRN : FnOk P w K mg base (CXe P w) 3 gn dn ["row"] (spRN NB)) (bRN : Binds K dn ["row"] []) (kRN : PySem.W.keepIn K (.ref gn) = true) (mRN : mg "read_number" = some (.ref gn))
    (GRT : FnOk P w K mg base (CXe P w) 4 gt dt ["row"] (spRT NB)) (bRT : Binds K dt ["row"] []) (kRT : PySem.W.keepIn K (.ref gt) = true) (mRT : mg "read_text" = some (.ref gt))
    (GRP : FnOk P w K mg base (CXe P w) 6 gp dp ["row"] (spRP NB)) (bRP : Binds K dp ["row"] []) (kRP : PySem.W.keepIn K (.ref gp) = true) (mRP : mg "read_postings" = some (.ref gp)) : FnOk P w K mg base (CXe P w) 7 f fd ["_law_row", "_law_kind_here"] (spRd NB) := by
  refine F.okX scRd (fun vs H Q E h => ?_) (fun cdv A outer s H vs Q E hr h => ?_)
  · obtain ⟨a, k, ns, rfl, _⟩ := h
    rfl
  obtain ⟨a, k, ns, rfl, hk, ha, hn, q1, q2⟩ := h
  have hr3 : Room 3 _ := hr.mono (by decide)
  have hr4 : Room 4 _ := hr.mono (by decide)
  refine ⟨_, (pss_cons (ps_if (pt_cmpR op_eq (pv 1) pe_int (nomark _)) (pss_one (ps_ret (pe_call GRN hr3 rfl mRN kRN bRN .nil passX (pa_cons (pv 0) pa_nil)))) pss_nil)
    (pss_cons (ps_if (pt_cmpR op_eq (pv 1) pe_int (nomark _)) (pss_one (ps_ret (pe_call GRT hr4 rfl mRT kRT bRT .nil passX (pa_cons (pv 0) pa_nil)))) pss_nil)
    (pss_one (ps_ret (pe_call GRP hr rfl mRP kRP bRP .nil passX (pa_cons (pv 0) pa_nil)))))), ?_⟩
  simp only [tIfS, tAnd, tOr, tNot, tB, tVar, tTest, tOp, tC, tUn, tCB, tCons, tNil, rI0, rI, rU, rNe, rEq, scal, rAppend, tBM, tDrop, tSeq, tAsg, gName, tRet, tNext, List.set_cons_zero, List.set_cons_succ, List.getElem?_cons_zero, List.getElem?_cons_succ, Option.some.injEq, V.int.injEq, V.bl.injEq, V.ref.injEq, V.str.injEq, exists_eq_left', exists_eq_left, exists_and_left, List.cons.injEq, and_true, true_and, and_assoc, exists_const, L2.start, List.map_cons, List.map_nil, List.length_cons, List.length_nil, List.replicate_succ, List.replicate_zero, List.cons_append, List.nil_append, List.append_nil, Nat.reduceAdd, Nat.reduceSub, tFor_eq, tComp_eq, tWhile_eq, tChain, tAug, ipI, rIxS, rSlS, rLower, rIndex, rPop, rCat, tBM0, gSub, rSetL, tSl, tPart, tNoPart, rSlL, tCall, tLst, tTup, iRng1, iRng2, iRng3, iList, iEnum, gTup, gCons, gNil, rIxL, rIxT, tYes, tAndV, tOrV, tNotV, tIf, tTest, exists_eq', List.ne_cons_self, reduceCtorEq, if_true, if_false, and_false, false_and, spRN, spRT, spRP]
  match k, hk with
  | 0, _ =>
    refine iteT ⟨ns, ha, fun n e H' s' => ?_, fun e => q2 (due0_none e)⟩
    exact q1 _ (due0_eq e) _ H' s' (by rw [DeepT])
  | 1, _ =>
    refine iteF (iteT ⟨ns, ha, hn, fun n e H' s' => ?_, fun e => q2 (due1_none e)⟩)
    exact q1 _ (due1_eq e) _ H' s' (by rw [DeepT])
  | 2, _ =>
    refine iteF (iteF ⟨ns, ha, hn, fun n e p ys H' s' hp e' hD => ?_, fun e => q2 (due2_none e)⟩)
    refine q1 _ (due2_eq e) _ H' s' ?_
    rw [DeepT]
    exact ⟨p, ys, rfl, e', DeepTs.same fresh_same _ _ hD⟩
theorem scRef : FnScope ["_law_row", "_law_kind_here", "_law_caught", "e"] ["_law_row", "_law_kind_here"] (defScope sRef) := ⟨rfl, rfl, rfl, by decide +kernel, rfl, by decide +kernel, by decide +kernel⟩
def spRef : Sp := fun vs H Q _ => ∃ (a : Addr) (k : Nat) (ns : List Int), vs = [.ref a, .int k] ∧ k < 3 ∧ H a = some (.lst (ns.map V.int)) ∧ ns.length ≤ 900 ∧ ∀ (r : Addr) (H' : Hp), Same H H' → H r = none → H' r = some (.lst (kindL (due k ns).isNone)) → Q (.ref r) H'
theorem ok_ref {gf gk : Addr} {df dk : FuncData} (F : Fun K "_law_refused" "_law_refused" sRef f fd) (T : Txt mg) (mFE : mg "FindError" = some (.ref FE)) (xFE : XCatch K FE) (hfe : PySem.W.mroIn K NB (.ref FE) = some true) (GRd : FnOk P w K mg base (CXe P w) 7 gf df ["_law_row", "_law_kind_here"] (spRd NB)) (bRd : Binds K df ["_law_row", "_law_kind_here"] []) (kRd : PySem.W.keepIn K (.ref gf) = true) (mRd : mg "_law_read" = some (.ref gf))
    (GK : FnOk P w K mg base CX0 1 gk dk ["_law_error"] (spKind NB)) (bK : Binds K dk ["_law_error"] []) (kK : PySem.W.keepIn K (.ref gk) = true) (mK : mg "_law_kind" = some (.ref gk)) : FnOk P w K mg base CX0 8 f fd ["_law_row", "_law_kind_here"] spRef := by
  refine F.ok scRef (fun vs H Q E h => ?_) (fun cdv A outer s H vs Q E hr h => ?_)
  · obtain ⟨a, k, ns, rfl, _⟩ := h
    rfl
  obtain ⟨a, k, ns, rfl, hk, ha, hn, q⟩ := h
  have hr1 : Room 1 _ := hr.mono (by decide)
  refine ⟨_, (pss_cons (ps_set (i := 2) scRef.nd rfl (Or.inl rfl) pe_non)
    (pss_cons (ps_tryAs (i := 3) rfl rfl rfl mFE xFE scRef.nd rfl rfl (fun _ _ => pss_one (ps_expr (pe_callT GRd hr rfl mRd kRd bRd (pa_cons (pv 0) (pa_cons (pv 1) pa_nil))))) (fun _ => pss_one (ps_set (i := 2) scRef.nd rfl (Or.inl rfl) (pv 3))))
    (pss_one (ps_ret (pe_call GK hr1 rfl mK kK bK .nil pass0 (pa_cons (pv 2) pa_nil)))))), ?_⟩
  simp only [tIfS, tAnd, tOr, tNot, tB, tVar, tTest, tOp, tC, tUn, tCB, tCons, tNil, rI0, rI, rU, rNe, rEq, scal, rAppend, tBM, tDrop, tSeq, tAsg, gName, tRet, tNext, List.set_cons_zero, List.set_cons_succ, List.getElem?_cons_zero, List.getElem?_cons_succ, Option.some.injEq, V.int.injEq, V.bl.injEq, V.ref.injEq, V.str.injEq, exists_eq_left', exists_eq_left, exists_and_left, List.cons.injEq, and_true, true_and, and_assoc, exists_const, L2.start, List.map_cons, List.map_nil, List.length_cons, List.length_nil, List.replicate_succ, List.replicate_zero, List.cons_append, List.nil_append, List.append_nil, Nat.reduceAdd, Nat.reduceSub, tFor_eq, tComp_eq, tWhile_eq, tChain, tAug, ipI, rIxS, rSlS, rLower, rIndex, rPop, rCat, tBM0, gSub, rSetL, tSl, tPart, tNoPart, rSlL, tCall, tLst, tTup, iRng1, iRng2, iRng3, iList, iEnum, gTup, gCons, gNil, rIxL, rIxT, tYes, tAndV, tOrV, tNotV, tIf, tTest, exists_eq', List.ne_cons_self, reduceCtorEq, if_true, if_false, and_false, false_and, tTry, tCallT, spKind, spRd]
  refine ⟨fun σ' e H' => σ' = [some (.ref a), some (.int k), some .non, none] ∧ due k ns = none ∧ Same H H' ∧ H e = none ∧ H' e = some (XO e (.ref NB) none), ⟨fun v _ H' => ∃ e, v = .ref e ∧ due k ns = none ∧ Same H H' ∧ H e = none ∧ H' e = some (XO e (.ref NB) none), ⟨k, rfl, hk, ns, ha, hn, fun d ho x H' s' _ => ⟨false, .inl rfl, fun r hr0 => q r _ (s'.trans (same_new hr0 _)) (s'.free hr0) (by rw [ho]; exact upd_same)⟩, fun ho e H' s' he hx => ⟨e, rfl, ho, s', he, hx⟩⟩, ?_⟩, ?_⟩
  · rintro e H' ⟨e', he', h⟩
    cases he'
    exact ⟨rfl, h⟩
  · rintro σ' e C dx H' ⟨rfl, ho, s', he, hx⟩ hC
    have hh := (XO_inj (Option.some.inj (hx.symm.trans hC))).1
    exact ⟨NB, hh.symm, hfe, .ref e, rfl, .ref e, rfl, true, .inr ⟨rfl, e, rfl, hx⟩, fun r hr0 => q r _ (s'.trans (same_new hr0 _)) (s'.free hr0) (by rw [ho]; exact upd_same)⟩
end
end K13

namespace K13
open PySem L2 KB
section
variable {P : Program} {w : World} {K : PySem.W.Frag} {mg : Str → Option Value} {base : Heap} {f : Addr} {fd : FuncData}
theorem scWr : FnScope ["_law_told", "_law_kind_here"] ["_law_told", "_law_kind_here"] (defScope sWr) := ⟨rfl, rfl, rfl, by decide +kernel, rfl, by decide +kernel, by decide +kernel⟩
def spWr : Sp := fun vs H Q _ => ∃ (x : V) (k : Nat) (ns : List Int) (d : DV), vs = [x, .int k] ∧ k < 3 ∧ due k ns = some d ∧ DeepT H d x ∧ ns.length ≤ 900 ∧ ∀ p H', Same H H' → H p = none → H' p = some (.lst (ns.map V.int)) → Q (.ref p) H'
theorem ok_wr {gn gt gp : Addr} {dn dt dp : FuncData} (F : Fun K "_law_written" "_law_written" sWr f fd) (T : Txt mg) (GB : FnOk P w K mg base CX0 1 gn dn ["number"] spNB) (bB : Binds K dn ["number"] []) (kB : PySem.W.keepIn K (.ref gn) = true) (mB : mg "number_bytes" = some (.ref gn))
    (GTB : FnOk P w K mg base CX0 2 gt dt ["text"] spTB) (bTB : Binds K dt ["text"] []) (kTB : PySem.W.keepIn K (.ref gt) = true) (mTB : mg "text_bytes" = some (.ref gt))
    (GPB : FnOk P w K mg base CX0 3 gp dp ["postings"] spPB) (bPB : Binds K dp ["postings"] []) (kPB : PySem.W.keepIn K (.ref gp) = true) (mPB : mg "postings_bytes" = some (.ref gp)) : FnOk P w K mg base CX0 4 f fd ["_law_told", "_law_kind_here"] spWr := by
  refine F.ok scWr (fun vs H Q E h => ?_) (fun cdv A outer s H vs Q E hr h => ?_)
  · obtain ⟨x, k, ns, d, rfl, _⟩ := h
    rfl
  obtain ⟨x, k, ns, d, rfl, hk, hd, hx, hn, q⟩ := h
  have hr1 : Room 1 _ := hr.mono (by decide)
  have hr2 : Room 2 _ := hr.mono (by decide)
  refine ⟨_, (pss_cons (ps_if (pt_cmpR op_eq (pv 1) pe_int (nomark _)) (pss_one (ps_ret (pe_call GB hr1 rfl mB kB bB .nil pass0 (pa_cons (pv 0) pa_nil)))) pss_nil)
    (pss_cons (ps_if (pt_cmpR op_eq (pv 1) pe_int (nomark _)) (pss_one (ps_ret (pe_call GTB hr2 rfl mTB kTB bTB .nil pass0 (pa_cons (pv 0) pa_nil)))) pss_nil)
    (pss_one (ps_ret (pe_call GPB hr rfl mPB kPB bPB .nil pass0 (pa_cons (pv 0) pa_nil)))))), ?_⟩
  simp only [tIfS, tAnd, tOr, tNot, tB, tVar, tTest, tOp, tC, tUn, tCB, tCons, tNil, rI0, rI, rU, rNe, rEq, scal, rAppend, tBM, tDrop, tSeq, tAsg, gName, tRet, tNext, List.set_cons_zero, List.set_cons_succ, List.getElem?_cons_zero, List.getElem?_cons_succ, Option.some.injEq, V.int.injEq, V.bl.injEq, V.ref.injEq, V.str.injEq, exists_eq_left', exists_eq_left, exists_and_left, List.cons.injEq, and_true, true_and, and_assoc, exists_const, L2.start, List.map_cons, List.map_nil, List.length_cons, List.length_nil, List.replicate_succ, List.replicate_zero, List.cons_append, List.nil_append, List.append_nil, Nat.reduceAdd, Nat.reduceSub, tFor_eq, tComp_eq, tWhile_eq, tChain, tAug, ipI, rIxS, rSlS, rLower, rIndex, rPop, rCat, tBM0, gSub, rSetL, tSl, tPart, tNoPart, rSlL, tCall, tLst, tTup, iRng1, iRng2, iRng3, iList, iEnum, gTup, gCons, gNil, rIxL, rIxT, tYes, tAndV, tOrV, tNotV, tIf, tTest, exists_eq', List.ne_cons_self, reduceCtorEq, if_true, if_false, and_false, false_and, spNB, spTB, spPB]
  match k, hk with
  | 0, _ =>
    obtain ⟨n, e, rfl⟩ := due0_of (show due0 ns = some d from hd)
    have en : ns = nb n := by have := (nb_pn _ _ _ _ e).1; rwa [List.append_nil] at this
    rw [DeepT] at hx
    subst hx
    exact iteT ⟨n, rfl, by rw [← en]; omega, fun p hp => q p _ (same_new hp _) hp (by rw [en]; exact upd_same)⟩
  | 1, _ =>
    obtain ⟨zs, e, rfl⟩ := due1_of (show due1 ns = some d from hd)
    obtain ⟨en, hz⟩ := ptxt_is e
    rw [List.append_nil] at en
    rw [DeepT] at hx
    subst hx
    have hl : zs.length ≤ ns.length := by rw [en, tbytes, List.length_append, List.length_map]; omega
    refine iteF (iteT ⟨strN zs, rfl, ?_, fun c hc => hz c hc, fun p H' s' hp e' => q p H' s' hp (by rw [en]; exact e')⟩)
    show zs.toArray.size ≤ 8000
    rw [List.size_toArray]
    omega
  | 2, _ =>
    obtain ⟨ps, e, rfl⟩ := due2_of (show due2 ns = some d from hd)
    obtain ⟨en, hz⟩ := ppo_is e
    rw [List.append_nil] at en
    rw [DeepT] at hx
    obtain ⟨l, ys, rfl, hl, hD⟩ := hx
    exact iteF (iteF ⟨l, rfl, ys, hl, ps, hD, hz, by rw [← en]; omega, fun p H' s' hp e' => q p H' s' hp (by rw [en]; exact e')⟩)
theorem scIn : FnScope ["_law_row", "_law_kind_here", "_law_found"] ["_law_row", "_law_kind_here"] (defScope sIn) := ⟨rfl, rfl, rfl, by decide +kernel, rfl, by decide +kernel, by decide +kernel⟩
def spIn : Sp := fun vs H Q _ => ∃ (a : Addr) (k : Nat) (ns : List Int), vs = [.ref a, .int k] ∧ k < 3 ∧ H a = some (.lst (ns.map V.int)) ∧ ns.length ≤ 900 ∧
  (due k ns = none → ∀ p H', Same H H' → H p = none → H' p = some (.lst []) → Q (.ref p) H') ∧ (∀ d, due k ns = some d → ∀ x p H', Same H H' → H p = none → H' p = some (.lst [x]) → DeepT H' d x → Q (.ref p) H')
def invIn (a : Addr) (k : Nat) (ns : List Int) (H : Hp) (σ : St) (L : Hp) : Prop := Same H L ∧ ((σ = [some (.ref a), some (.int k), some .non] ∧ due k ns = none) ∨ ∃ (t : Addr) (x : V) (j : Nat), σ = [some (.ref a), some (.int k), some (.ref t)] ∧ L t = some (.tup [x, .int j]) ∧ j ≤ ns.length ∧ (j = ns.length → ∃ d, due k ns = some d ∧ DeepT L d x) ∧ (j ≠ ns.length → due k ns = none))
theorem ok_in {gn gt gp : Addr} {dn dt dp : FuncData} (F : Fun K "_law_in" "_law_in" sIn f fd) (T : Txt mg) (GNI : FnOk P w K mg base CX0 1 gn dn ["_law_row", "_law_at"] spNI) (bNI : Binds K dn ["_law_row", "_law_at"] []) (kNI : PySem.W.keepIn K (.ref gn) = true) (mNI : mg "_law_number_in" = some (.ref gn))
    (GTI : FnOk P w K mg base CX0 2 gt dt ["_law_row", "_law_at"] spTI) (bTI : Binds K dt ["_law_row", "_law_at"] []) (kTI : PySem.W.keepIn K (.ref gt) = true) (mTI : mg "_law_text_in" = some (.ref gt))
    (GPI : FnOk P w K mg base CX0 3 gp dp ["_law_row", "_law_at"] spPI) (bPI : Binds K dp ["_law_row", "_law_at"] []) (kPI : PySem.W.keepIn K (.ref gp) = true) (mPI : mg "_law_postings_in" = some (.ref gp)) : FnOk P w K mg base CX0 4 f fd ["_law_row", "_law_kind_here"] spIn := by
  refine F.ok scIn (fun vs H Q E h => ?_) (fun cdv A outer s H vs Q E hr h => ?_)
  · obtain ⟨a, k, ns, rfl, _⟩ := h
    rfl
  obtain ⟨a, k, ns, rfl, hk, ha, hn, q1, q2⟩ := h
  have hr1 : Room 1 _ := hr.mono (by decide)
  have hr2 : Room 2 _ := hr.mono (by decide)
  refine ⟨_, (pss_cons (ps_if (pt_cmpR op_eq (pv 1) pe_int (nomark _)) (pss_one (ps_set (i := 2) scIn.nd rfl (Or.inl rfl) (pe_call GNI hr1 rfl mNI kNI bNI .nil pass0 (pa_cons (pv 0) (pa_cons pe_int pa_nil))))) (pss_one (ps_if (pt_cmpR op_eq (pv 1) pe_int (nomark _)) (pss_one (ps_set (i := 2) scIn.nd rfl (Or.inl rfl) (pe_call GTI hr2 rfl mTI kTI bTI .nil pass0 (pa_cons (pv 0) (pa_cons pe_int pa_nil))))) (pss_one (ps_set (i := 2) scIn.nd rfl (Or.inl rfl) (pe_call GPI hr rfl mPI kPI bPI .nil pass0 (pa_cons (pv 0) (pa_cons pe_int pa_nil))))))))
    (pss_cons (ps_if (PW.pt (pw_or (pt_cmpR op_isN (pv 2) pe_non (nomark _)) (pw_or1 (pt_cmpR op_ne (pe_ix (ixT K) (pv 2) pe_int (fun _ _ => rfl)) (pe_callB (lenK K) rfl T.len PySem.boot_len (pa_cons (pv 0) pa_nil)) (nomark _))))) (pss_one (ps_ret (pe_lst pa_nil))) pss_nil)
    (pss_one (ps_ret (pe_lst (pa_cons (pe_ix (ixT K) (pv 2) pe_int (fun _ _ => rfl)) pa_nil)))))), ?_⟩
  refine seq_inv (invIn a k ns H) ?_ (fun N hN => ?_)
  rotate_left
  · simp only [tIfS, tAnd, tOr, tNot, tB, tVar, tTest, tOp, tC, tUn, tCB, tCons, tNil, rI0, rI, rU, rNe, rEq, scal, rAppend, tBM, tDrop, tSeq, tAsg, gName, tRet, tNext, List.set_cons_zero, List.set_cons_succ, List.getElem?_cons_zero, List.getElem?_cons_succ, Option.some.injEq, V.int.injEq, V.bl.injEq, V.ref.injEq, V.str.injEq, exists_eq_left', exists_eq_left, exists_and_left, List.cons.injEq, and_true, true_and, and_assoc, exists_const, L2.start, List.map_cons, List.map_nil, List.length_cons, List.length_nil, List.replicate_succ, List.replicate_zero, List.cons_append, List.nil_append, List.append_nil, Nat.reduceAdd, Nat.reduceSub, tFor_eq, tComp_eq, tWhile_eq, tChain, tAug, ipI, rIxS, rSlS, rLower, rIndex, rPop, rCat, tBM0, gSub, rSetL, tSl, tPart, tNoPart, rSlL, tCall, tLst, tTup, iRng1, iRng2, iRng3, iList, iEnum, gTup, gCons, gNil, rIxL, rIxT, tYes, tAndV, tOrV, tNotV, tIf, tTest, exists_eq', List.ne_cons_self, reduceCtorEq, if_true, if_false, and_false, false_and, spNI, spTI, spPI]
    match k, hk, q1, q2, hN with
    | 0, _, q1, q2, hN =>
      refine iteT ⟨ns, 0, rfl, ha, Nat.zero_le _, fun n j z1 z2 z3 t ht => hN _ _ ⟨same_new ht _, .inr ⟨t, .int n, j, rfl, upd_same, z2, fun z => ⟨_, due0_eq ?_, by rw [DeepT]⟩, fun z => due0_none fun m h => z ?_⟩⟩, fun z => hN _ _ ⟨Same.refl _, .inl ⟨rfl, due0_none fun m h => ?_⟩⟩⟩
      · rw [show pn true ns = some (n, ns.drop j) from z3, z, List.drop_length]
      · rw [show pn true ns = some (n, ns.drop j) from z3] at h
        have := left_nil z2 (congrArg Prod.snd (Option.some.inj h))
        omega
      · rw [show pn true ns = none from z] at h
        cases h
    | 1, _, q1, q2, hN =>
      refine iteF (iteT ⟨ns, 0, rfl, ha, Nat.zero_le _, hn, fun zs j z2 z3 t L' s' ht et => hN _ _ ⟨s', .inr ⟨t, _, j, rfl, et, z2, fun z => ⟨_, due1_eq ?_, by rw [DeepT]⟩, fun z => due1_none fun m h => z ?_⟩⟩, fun z L' s' => hN _ _ ⟨s', .inl ⟨rfl, due1_none fun m h => ?_⟩⟩⟩)
      · rw [show ptxt ns = some (zs, ns.drop j) from z3, z, List.drop_length]
      · rw [show ptxt ns = some (zs, ns.drop j) from z3] at h
        have := left_nil z2 (congrArg Prod.snd (Option.some.inj h))
        omega
      · rw [show ptxt ns = none from z] at h
        cases h
    | 2, _, q1, q2, hN =>
      refine iteF (iteF ⟨ns, 0, rfl, ha, Nat.zero_le _, hn, fun ps j z2 z3 p t ys L' s' ep hD ht et => hN _ _ ⟨s', .inr ⟨t, _, j, rfl, et, z2, fun z => ⟨.lst (ps.map dvP), due2_eq ?_, ?_⟩, fun z => due2_none fun m h => z ?_⟩⟩, fun z L' s' => hN _ _ ⟨s', .inl ⟨rfl, due2_none fun m h => ?_⟩⟩⟩)
      · rw [show ppo ns = some (ps, ns.drop j) from z3, z, List.drop_length]
      · rw [DeepT]
        exact ⟨p, ys, rfl, ep, hD⟩
      · rw [show ppo ns = some (ps, ns.drop j) from z3] at h
        have := left_nil z2 (congrArg Prod.snd (Option.some.inj h))
        omega
      · rw [show ppo ns = none from z] at h
        cases h
  rintro σ L ⟨sL, ⟨rfl, hd⟩ | ⟨t, x, j, rfl, et, hj, h1, h2⟩⟩
  · simp only [tIfS, tAnd, tOr, tNot, tB, tVar, tTest, tOp, tC, tUn, tCB, tCons, tNil, rI0, rI, rU, rNe, rEq, scal, rAppend, tBM, tDrop, tSeq, tAsg, gName, tRet, tNext, List.set_cons_zero, List.set_cons_succ, List.getElem?_cons_zero, List.getElem?_cons_succ, Option.some.injEq, V.int.injEq, V.bl.injEq, V.ref.injEq, V.str.injEq, exists_eq_left', exists_eq_left, exists_and_left, List.cons.injEq, and_true, true_and, and_assoc, exists_const, L2.start, List.map_cons, List.map_nil, List.length_cons, List.length_nil, List.replicate_succ, List.replicate_zero, List.cons_append, List.nil_append, List.append_nil, Nat.reduceAdd, Nat.reduceSub, tFor_eq, tComp_eq, tWhile_eq, tChain, tAug, ipI, rIxS, rSlS, rLower, rIndex, rPop, rCat, tBM0, gSub, rSetL, tSl, tPart, tNoPart, rSlL, tCall, tLst, tTup, iRng1, iRng2, iRng3, iList, iEnum, gTup, gCons, gNil, rIxL, rIxT, tYes, tAndV, tOrV, tNotV, tIf, tTest, exists_eq', List.ne_cons_self, reduceCtorEq, if_true, if_false, and_false, false_and]
    rw [if_pos (by decide)]
    exact ⟨by decide, fun p hp => q1 hd p _ (sL.trans (same_new hp _)) (sL.free hp) upd_same⟩
  · simp only [tIfS, tAnd, tOr, tNot, tB, tVar, tTest, tOp, tC, tUn, tCB, tCons, tNil, rI0, rI, rU, rNe, rEq, scal, rAppend, tBM, tDrop, tSeq, tAsg, gName, tRet, tNext, List.set_cons_zero, List.set_cons_succ, List.getElem?_cons_zero, List.getElem?_cons_succ, Option.some.injEq, V.int.injEq, V.bl.injEq, V.ref.injEq, V.str.injEq, exists_eq_left', exists_eq_left, exists_and_left, List.cons.injEq, and_true, true_and, and_assoc, exists_const, L2.start, List.map_cons, List.map_nil, List.length_cons, List.length_nil, List.replicate_succ, List.replicate_zero, List.cons_append, List.nil_append, List.append_nil, Nat.reduceAdd, Nat.reduceSub, tFor_eq, tComp_eq, tWhile_eq, tChain, tAug, ipI, rIxS, rSlS, rLower, rIndex, rPop, rCat, tBM0, gSub, rSetL, tSl, tPart, tNoPart, rSlL, tCall, tLst, tTup, iRng1, iRng2, iRng3, iList, iEnum, gTup, gCons, gNil, rIxL, rIxT, tYes, tAndV, tOrV, tNotV, tIf, tTest, exists_eq', List.ne_cons_self, reduceCtorEq, if_true, if_false, and_false, false_and]
    rw [if_neg (by decide)]
    refine ⟨_, SqT.of et, _, rfl, _, .inl (SqL.of (sL _ _ ha)), rfl, ?_⟩
    refine ite2 (fun z => ⟨by decide, fun p hp => q1 (h2 fun y => ?_) p _ (sL.trans (same_new hp _)) (sL.free hp) upd_same⟩) (fun z => ⟨_, SqT.of et, _, rfl, by decide, fun p hp => ?_⟩)
    · rw [y, List.length_map] at z
      simp at z
    · have hj' : j = ns.length := by
        rw [List.length_map] at z
        simp at z
        omega
      obtain ⟨d, hd, hx⟩ := h1 hj'
      exact q2 d hd x p _ (sL.trans (same_new hp _)) (sL.free hp) upd_same (DeepT.same (same_new hp _) _ _ hx)
end
end K13

namespace K13
open PySem L2 KB
section
variable {P : Program} {w : World} {K : PySem.W.Frag} {mg : Str → Option Value} {base : Heap} {f : Addr} {fd : FuncData}
theorem scBe : FnScope ["_law_row", "_law_draws_here", "_law_number_here", "_law_at", "_law_one", "_law_byte", "_law_turn", "_law_turned"] ["_law_row", "_law_draws_here"] (defScope sBe) := ⟨rfl, rfl, rfl, by decide +kernel, rfl, by decide +kernel, by decide +kernel⟩
def spBe : Sp := fun vs H Q _ => ∃ (a d : Addr) (ns ds : List Int), vs = [.ref a, .ref d] ∧ a ≠ d ∧ H a = some (.lst (ns.map V.int)) ∧ ns.length ≤ 220 ∧ H d = some (.lst (ds.map V.int)) ∧
  ∀ (p : Addr) (ns' ds' : List Int) (H' : Hp), SameX d H H' → p ≠ d → H' p = some (.lst (ns'.map V.int)) → ns'.length ≤ 880 → H' d = some (.lst (ds'.map V.int)) → Q (.ref p) H'
theorem cut_len (ns : List Int) (lo hi : Option Int) : (cutL ns lo hi).length ≤ ns.length := by
  unfold cutL
  rw [List.length_take, List.length_drop]
  omega
set_option maxHeartbeats 8000000 in
theorem ok_be {gp : Addr} {dp : FuncData} (F : Fun K "_law_bent" "_law_bent" sBe f fd) (T : Txt mg) (GP : FnOk P w K mg base CX0 1 gp dp ["_law_draws_here"] spPop) (bP : Binds K dp ["_law_draws_here"] []) (kP : PySem.W.keepIn K (.ref gp) = true) (mP : mg "_law_pop" = some (.ref gp)) : FnOk P w K mg base CX0 2 f fd ["_law_row", "_law_draws_here"] spBe := by
  refine F.ok scBe (fun vs H Q E h => ?_) (fun cdv A outer s H vs Q E hr h => ?_)
  · obtain ⟨a, d, ns, ds, rfl, _⟩ := h
    rfl
  obtain ⟨a, d, ns, ds, rfl, had, ha, hn, hd, q⟩ := h
  refine ⟨_, (pss_cons (ps_set (i := 2) scBe.nd rfl (Or.inl rfl) (pe_call GP hr rfl mP kP bP .nil pass0 (pa_cons (pv 1) pa_nil)))
    (pss_cons (ps_set (i := 3) scBe.nd rfl (Or.inl rfl) (pe_op op_mod (pe_call GP hr rfl mP kP bP .nil pass0 (pa_cons (pv 1) pa_nil)) (pe_op op_add (pe_callB (lenK K) rfl T.len PySem.boot_len (pa_cons (pv 0) pa_nil)) pe_int)))
    (pss_cons (ps_set (i := 4) scBe.nd rfl (Or.inl rfl) (pe_call GP hr rfl mP kP bP .nil pass0 (pa_cons (pv 1) pa_nil)))
    (pss_cons (ps_set (i := 5) scBe.nd rfl (Or.inl rfl) (pe_ix (ixL K) (pe_lst (@pa_cons _ _ _ _ _ pe_int (@pa_cons _ _ _ _ _ pe_int (@pa_cons _ _ _ _ _ pe_int (@pa_cons _ _ _ _ _ pe_int (@pa_cons _ _ _ _ _ pe_int (@pa_cons _ _ _ _ _ pe_int (@pa_cons _ _ _ _ _ (pe_un un_neg pe_int) (@pa_cons _ _ _ _ _ pe_int (@pa_cons _ _ _ _ _ pe_int (@pa_cons _ _ _ _ _ pe_int (@pa_cons _ _ _ _ _ (pe_op op_mod (pe_op op_fdiv (pv 4) pe_int) pe_int) (@pa_cons _ _ _ _ _ (pe_op op_mod (pe_op op_fdiv (pv 4) pe_int) pe_int) (@pa_cons _ _ _ _ _ pe_int (@pa_cons _ _ _ _ _ pe_int (@pa_cons _ _ _ _ _ pe_int (@pa_cons _ _ _ _ _ (pe_op op_pow pe_int pe_int) pa_nil star_B) star_K) star_K) star_K) star_B) star_B) star_K) star_K) star_K) star_U) star_K) star_K) star_K) star_K) star_K) star_K)) (pe_op op_mod (pv 4) pe_int) (fun _ _ => rfl)))
    (pss_cons (ps_set (i := 6) scBe.nd rfl (Or.inl rfl) (pe_op op_mod (pv 2) pe_int))
    (pss_cons (ps_if (pt_cmpR op_eq (pv 6) pe_int (nomark _)) (pss_one (ps_ret (pe_slice (slL K) (pv 0) po_none (po_some (pv 3))))) pss_nil)
    (pss_cons (ps_if (pt_cmpR op_eq (pv 6) pe_int (nomark _)) (pss_one (ps_ret (pe_op op_cat (pe_slice (slL K) (pv 0) po_none (po_some (pv 3))) (pe_slice (slL K) (pv 0) (po_some (pe_op op_add (pv 3) pe_int)) po_none)))) pss_nil)
    (pss_cons (ps_if (pt_cmpR op_eq (pv 6) pe_int (nomark _)) (pss_one (ps_ret (pe_op op_cat (pe_op op_cat (pe_slice (slL K) (pv 0) po_none (po_some (pv 3))) (pe_lst (pa_cons (pv 5) pa_nil))) (pe_slice (slL K) (pv 0) (po_some (pv 3)) po_none)))) pss_nil)
    (pss_cons (ps_if (pt_cmpR op_eq (pv 6) pe_int (nomark _)) (pss_one (ps_ret (pe_op op_cat (pv 0) (pe_lst (pa_cons (pv 5) pa_nil))))) pss_nil)
    (pss_cons (ps_if (pt_cmpR op_eq (pv 6) pe_int (nomark _)) (pss_cons (ps_set (i := 7) scBe.nd rfl (Or.inl rfl) (pe_op op_cat (pe_slice (slL K) (pv 0) (po_some (pe_op op_add (pv 3) pe_int)) (po_some (pe_op op_add (pv 3) pe_int))) (pe_slice (slL K) (pv 0) (po_some (pv 3)) (po_some (pe_op op_add (pv 3) pe_int)))))
    (pss_one (ps_ret (pe_op op_cat (pe_op op_cat (pe_slice (slL K) (pv 0) po_none (po_some (pv 3))) (pv 7)) (pe_slice (slL K) (pv 0) (po_some (pe_op op_add (pv 3) pe_int)) po_none))))) pss_nil)
    (pss_cons (ps_if (pt_cmpR op_lt (pv 6) pe_int (nomark _)) (pss_one (ps_ret (pe_op op_cat (pe_op op_cat (pe_slice (slL K) (pv 0) po_none (po_some (pv 3))) (pe_lst (pa_cons (pv 5) pa_nil))) (pe_slice (slL K) (pv 0) (po_some (pe_op op_add (pv 3) pe_int)) po_none)))) pss_nil)
    (pss_one (ps_ret (pv 0)))))))))))))), ?_⟩
  refine seq_inv (fun σ L => ∃ (z1 : Int) (ds' : List Int), σ = [some (.ref a), some (.ref d), some (.int z1), none, none, none, none, none] ∧ SameX d H L ∧ L d = some (.lst (ds'.map V.int))) ?_ (fun N hN => ?_)
  rotate_left
  · simp only [tIfS, tAnd, tOr, tNot, tB, tVar, tTest, tOp, tC, tUn, tCB, tCons, tNil, rI0, rI, rU, rNe, rEq, scal, rAppend, tBM, tDrop, tSeq, tAsg, gName, tRet, tNext, List.set_cons_zero, List.set_cons_succ, List.getElem?_cons_zero, List.getElem?_cons_succ, Option.some.injEq, V.int.injEq, V.bl.injEq, V.ref.injEq, V.str.injEq, exists_eq_left', exists_eq_left, exists_and_left, List.cons.injEq, and_true, true_and, and_assoc, exists_const, L2.start, List.map_cons, List.map_nil, List.length_cons, List.length_nil, List.replicate_succ, List.replicate_zero, List.cons_append, List.nil_append, List.append_nil, Nat.reduceAdd, Nat.reduceSub, tFor_eq, tComp_eq, tWhile_eq, tChain, tAug, ipI, rIxS, rSlS, rLower, rIndex, rPop, rCat, tBM0, gSub, rSetL, tSl, tPart, tNoPart, rSlL, tCall, tLst, tTup, iRng1, iRng2, iRng3, iList, iEnum, gTup, gCons, gNil, rIxL, rIxT, tYes, tAndV, tOrV, tNotV, tIf, tTest, exists_eq', List.ne_cons_self, reduceCtorEq, if_true, if_false, and_false, false_and, spPop]
    exact ⟨ds, hd, fun z1 ds1 L1 s1 d1 => hN _ _ ⟨z1, ds1, rfl, s1, d1⟩⟩
  clear hd ds
  rintro σ L ⟨z1, ds, rfl, sL, hd⟩
  refine seq_inv (fun σ L => ∃ (z2 : Int) (ds' : List Int), σ = [some (.ref a), some (.ref d), some (.int z1), some (.int z2), none, none, none, none] ∧ SameX d H L ∧ L d = some (.lst (ds'.map V.int))) ?_ (fun N hN => ?_)
  rotate_left
  · simp only [tIfS, tAnd, tOr, tNot, tB, tVar, tTest, tOp, tC, tUn, tCB, tCons, tNil, rI0, rI, rU, rNe, rEq, scal, rAppend, tBM, tDrop, tSeq, tAsg, gName, tRet, tNext, List.set_cons_zero, List.set_cons_succ, List.getElem?_cons_zero, List.getElem?_cons_succ, Option.some.injEq, V.int.injEq, V.bl.injEq, V.ref.injEq, V.str.injEq, exists_eq_left', exists_eq_left, exists_and_left, List.cons.injEq, and_true, true_and, and_assoc, exists_const, L2.start, List.map_cons, List.map_nil, List.length_cons, List.length_nil, List.replicate_succ, List.replicate_zero, List.cons_append, List.nil_append, List.append_nil, Nat.reduceAdd, Nat.reduceSub, tFor_eq, tComp_eq, tWhile_eq, tChain, tAug, ipI, rIxS, rSlS, rLower, rIndex, rPop, rCat, tBM0, gSub, rSetL, tSl, tPart, tNoPart, rSlL, tCall, tLst, tTup, iRng1, iRng2, iRng3, iList, iEnum, gTup, gCons, gNil, rIxL, rIxT, tYes, tAndV, tOrV, tNotV, tIf, tTest, exists_eq', List.ne_cons_self, reduceCtorEq, if_true, if_false, and_false, false_and, spPop]
    exact ⟨ds, hd, fun z2 ds1 L1 s1 d1 => ⟨_, .inl (SqL.of (s1 _ _ (sL _ _ ha had) had)), by omega, hN _ _ ⟨_, ds1, rfl, sL.trans s1, d1⟩⟩⟩
  clear hd sL ds
  rintro σ L ⟨z2, ds, rfl, sL, hd⟩
  refine seq_inv (fun σ L => ∃ (z3 : Int) (ds' : List Int), σ = [some (.ref a), some (.ref d), some (.int z1), some (.int z2), some (.int z3), none, none, none] ∧ SameX d H L ∧ L d = some (.lst (ds'.map V.int))) ?_ (fun N hN => ?_)
  rotate_left
  · simp only [tIfS, tAnd, tOr, tNot, tB, tVar, tTest, tOp, tC, tUn, tCB, tCons, tNil, rI0, rI, rU, rNe, rEq, scal, rAppend, tBM, tDrop, tSeq, tAsg, gName, tRet, tNext, List.set_cons_zero, List.set_cons_succ, List.getElem?_cons_zero, List.getElem?_cons_succ, Option.some.injEq, V.int.injEq, V.bl.injEq, V.ref.injEq, V.str.injEq, exists_eq_left', exists_eq_left, exists_and_left, List.cons.injEq, and_true, true_and, and_assoc, exists_const, L2.start, List.map_cons, List.map_nil, List.length_cons, List.length_nil, List.replicate_succ, List.replicate_zero, List.cons_append, List.nil_append, List.append_nil, Nat.reduceAdd, Nat.reduceSub, tFor_eq, tComp_eq, tWhile_eq, tChain, tAug, ipI, rIxS, rSlS, rLower, rIndex, rPop, rCat, tBM0, gSub, rSetL, tSl, tPart, tNoPart, rSlL, tCall, tLst, tTup, iRng1, iRng2, iRng3, iList, iEnum, gTup, gCons, gNil, rIxL, rIxT, tYes, tAndV, tOrV, tNotV, tIf, tTest, exists_eq', List.ne_cons_self, reduceCtorEq, if_true, if_false, and_false, false_and, spPop]
    exact ⟨ds, hd, fun z3 ds1 L1 s1 d1 => hN _ _ ⟨_, ds1, rfl, sL.trans s1, d1⟩⟩
  clear hd sL ds
  rintro σ L ⟨z3, ds, rfl, sL, hd⟩
  refine seq_inv (fun σ L => ∃ (b : Int) (ds' : List Int), σ = [some (.ref a), some (.ref d), some (.int z1), some (.int z2), some (.int z3), some (.int b), none, none] ∧ SameX d H L ∧ L d = some (.lst (ds'.map V.int))) ?_ (fun N hN => ?_)
  rotate_left
  · simp only [tIfS, tAnd, tOr, tNot, tB, tVar, tTest, tOp, tC, tUn, tCB, tCons, tNil, rI0, rI, rU, rNe, rEq, scal, rAppend, tBM, tDrop, tSeq, tAsg, gName, tRet, tNext, List.set_cons_zero, List.set_cons_succ, List.getElem?_cons_zero, List.getElem?_cons_succ, Option.some.injEq, V.int.injEq, V.bl.injEq, V.ref.injEq, V.str.injEq, exists_eq_left', exists_eq_left, exists_and_left, List.cons.injEq, and_true, true_and, and_assoc, exists_const, L2.start, List.map_cons, List.map_nil, List.length_cons, List.length_nil, List.replicate_succ, List.replicate_zero, List.cons_append, List.nil_append, List.append_nil, Nat.reduceAdd, Nat.reduceSub, tFor_eq, tComp_eq, tWhile_eq, tChain, tAug, ipI, rIxS, rSlS, rLower, rIndex, rPop, rCat, tBM0, gSub, rSetL, tSl, tPart, tNoPart, rSlL, tCall, tLst, tTup, iRng1, iRng2, iRng3, iList, iEnum, gTup, gCons, gNil, rIxL, rIxT, tYes, tAndV, tOrV, tNotV, tIf, tTest, exists_eq', List.ne_cons_self, reduceCtorEq, if_true, if_false, and_false, false_and]
    refine ⟨⟨by decide, by decide⟩, by decide, ⟨by decide, by decide⟩, by decide, ⟨by decide, by decide, by decide⟩, by decide, fun p hp => ⟨by decide, _, SqL.of upd_same, ?_⟩⟩
    obtain ⟨b, _, hb⟩ := atI_mem (xs := [0, 1, 127, 128, 255, 256, -1, 32, 126, 37, z3 / 16 % 260, z3 / 16 % 10, 129, 2, 31, 10 ^ Int.toNat 50]) (k := z3 % 16) (by omega) (by show z3 % 16 < 16; omega)
    exact ⟨_, hb, hN _ _ ⟨b, ds, rfl, sL.trans (SameX.of (same_new hp _)), upd_at hd hp⟩⟩
  clear hd sL ds
  rintro σ L ⟨b, ds, rfl, sL, hd⟩
  have aL := sL _ _ ha had
  have nd : ∀ {M : Hp} {p : Addr}, M d = some (.lst (ds.map V.int)) → M p = none → p ≠ d := fun h1 h2 z => by rw [z, h1] at h2; cases h2
  have cl : ∀ lo hi, (cutV (ns.map V.int) lo hi).length ≤ 220 := fun lo hi => by rw [cutV_map, List.length_map]; exact Nat.le_trans (cut_len ns lo hi) hn
  have cl2 : ∀ lo hi, (cutL ns lo hi).length ≤ 220 := fun lo hi => Nat.le_trans (cut_len ns lo hi) hn
  have sz : ∀ n : Nat, n ≤ 2000 → n ≤ sizeLine := fun n h => Nat.le_of_lt (big9 (by omega))
  have fin : ∀ (p : Addr) (us : List Int) (ys : List V) (M M' : Hp), Same L M → M p = none → M' = upd M p (.lst ys) → ys = us.map V.int → us.length ≤ 880 → Q (.ref p) M' := fun p us ys M M' s1 hp e1 e2 hl => by
    rw [e1, e2]
    exact q p us ds _ (sL.trans (SameX.of (s1.trans (same_new hp _)))) (nd (s1 _ _ hd) hp) upd_same hl (upd_at (s1 _ _ hd) hp)
  simp only [tIfS, tAnd, tOr, tNot, tB, tVar, tTest, tOp, tC, tUn, tCB, tCons, tNil, rI0, rI, rU, rNe, rEq, scal, rAppend, tBM, tDrop, tSeq, tAsg, gName, tRet, tNext, List.set_cons_zero, List.set_cons_succ, List.getElem?_cons_zero, List.getElem?_cons_succ, Option.some.injEq, V.int.injEq, V.bl.injEq, V.ref.injEq, V.str.injEq, exists_eq_left', exists_eq_left, exists_and_left, List.cons.injEq, and_true, true_and, and_assoc, exists_const, L2.start, List.map_cons, List.map_nil, List.length_cons, List.length_nil, List.replicate_succ, List.replicate_zero, List.cons_append, List.nil_append, List.append_nil, Nat.reduceAdd, Nat.reduceSub, tFor_eq, tComp_eq, tWhile_eq, tChain, tAug, ipI, rIxS, rSlS, rLower, rIndex, rPop, rCat, tBM0, gSub, rSetL, tSl, tPart, tNoPart, rSlL, tCall, tLst, tTup, iRng1, iRng2, iRng3, iList, iEnum, gTup, gCons, gNil, rIxL, rIxT, tYes, tAndV, tOrV, tNotV, tIf, tTest, exists_eq', List.ne_cons_self, reduceCtorEq, if_true, if_false, and_false, false_and]
  refine ⟨by decide, ?_⟩
  refine ite2 (fun _ => ⟨_, SqL.of aL, fun p1 g1 => fin p1 (cutL ns _ _) _ L _ (Same.refl _) g1 rfl (cutV_map _ _ _) (by have := cl2 none (some z2); omega)⟩) (fun _ => ?_)
  refine ite2 (fun _ => ?_) (fun _ => ?_)
  · refine ⟨_, SqL.of aL, fun p1 g1 => ⟨_, SqL.of (upd_at aL g1), fun p2 g2 => ⟨_, upd_at upd_same g2, _, upd_same, ?_, fun p3 g3 => fin p3 (cutL ns none (some z2) ++ cutL ns (some (z2 + 1)) none) _ _ _ ((same_new g1 _).trans (same_new g2 _)) g3 rfl (by rw [cutV_map, cutV_map, List.map_append]) ?_⟩⟩⟩
    · have h1 := cl none (some z2)
      have h2 := cl (some (z2 + 1)) none
      exact sz _ (by omega)
    · have h1 := cl2 none (some z2)
      have h2 := cl2 (some (z2 + 1)) none
      rw [List.length_append]
      omega
  refine ite2 (fun _ => ?_) (fun _ => ?_)
  · refine ⟨_, SqL.of aL, fun p1 g1 => ⟨by decide, fun p2 g2 => ⟨_, upd_at upd_same g2, _, upd_same, ?_, fun p3 g3 => ?_⟩⟩⟩
    · have h1 := cl none (some z2)
      exact sz _ (by rw [List.length_singleton]; omega)
    have s3 := (same_new g1 (.lst (cutV (ns.map V.int) none (some z2)))).trans ((same_new g2 (.lst [V.int b])).trans (same_new g3 (.lst (cutV (ns.map V.int) none (some z2) ++ [V.int b]))))
    refine ⟨_, SqL.of (s3 _ _ aL), fun p4 g4 => ⟨_, upd_at upd_same g4, _, upd_same, ?_, fun p5 g5 => fin p5 (cutL ns none (some z2) ++ [b] ++ cutL ns (some z2) none) _ _ _ (s3.trans (same_new g4 _)) g5 rfl (by rw [cutV_map, cutV_map, List.map_append, List.map_append]; rfl) ?_⟩⟩
    · have h1 := cl none (some z2)
      have h2 := cl (some z2) none
      exact sz _ (by rw [List.length_append, List.length_singleton]; omega)
    · have h1 := cl2 none (some z2)
      have h2 := cl2 (some z2) none
      rw [List.length_append, List.length_append, List.length_singleton]
      omega
  refine ite2 (fun _ => ?_) (fun _ => ?_)
  · refine ⟨by decide, fun p1 g1 => ⟨_, upd_at aL g1, _, upd_same, ?_, fun p2 g2 => fin p2 (ns ++ [b]) _ _ _ (same_new g1 _) g2 rfl (by rw [List.map_append]; rfl) (by rw [List.length_append, List.length_singleton]; omega)⟩⟩
    exact sz _ (by rw [List.length_map, List.length_singleton]; omega)
  refine ite2 (fun _ => ?_) (fun _ => ?_)
  · refine ⟨_, SqL.of aL, fun p1 g1 => ⟨_, SqL.of (upd_at aL g1), fun p2 g2 => ⟨_, upd_at upd_same g2, _, upd_same, ?_, fun p3 g3 => ?_⟩⟩⟩
    · have h1 := cl (some (z2 + 1)) (some (z2 + 2))
      have h2 := cl (some z2) (some (z2 + 1))
      exact sz _ (by omega)
    have s3 := (same_new g1 (.lst (cutV (ns.map V.int) (some (z2 + 1)) (some (z2 + 2))))).trans ((same_new g2 (.lst (cutV (ns.map V.int) (some z2) (some (z2 + 1))))).trans (same_new g3 (.lst (cutV (ns.map V.int) (some (z2 + 1)) (some (z2 + 2)) ++ cutV (ns.map V.int) (some z2) (some (z2 + 1))))))
    refine ⟨_, SqL.of (s3 _ _ aL), fun p4 g4 => ⟨_, upd_same, _, upd_at upd_same g4, ?_, fun p5 g5 => ?_⟩⟩
    · have h1 := cl (some (z2 + 1)) (some (z2 + 2))
      have h2 := cl (some z2) (some (z2 + 1))
      have h3 := cl none (some z2)
      exact sz _ (by rw [List.length_append]; omega)
    have s5 := s3.trans ((same_new g4 (.lst (cutV (ns.map V.int) none (some z2)))).trans (same_new g5 (.lst (cutV (ns.map V.int) none (some z2) ++ (cutV (ns.map V.int) (some (z2 + 1)) (some (z2 + 2)) ++ cutV (ns.map V.int) (some z2) (some (z2 + 1)))))))
    refine ⟨_, SqL.of (s5 _ _ aL), fun p6 g6 => ⟨_, upd_at upd_same g6, _, upd_same, ?_, fun p7 g7 => fin p7 (cutL ns none (some z2) ++ (cutL ns (some (z2 + 1)) (some (z2 + 2)) ++ cutL ns (some z2) (some (z2 + 1))) ++ cutL ns (some (z2 + 2)) none) _ _ _ (s5.trans (same_new g6 _)) g7 rfl (by rw [cutV_map, cutV_map, cutV_map, cutV_map, List.map_append, List.map_append, List.map_append]) ?_⟩⟩
    · have h1 := cl (some (z2 + 1)) (some (z2 + 2))
      have h2 := cl (some z2) (some (z2 + 1))
      have h3 := cl none (some z2)
      have h4 := cl (some (z2 + 2)) none
      exact sz _ (by rw [List.length_append, List.length_append]; omega)
    · have h1 := cl2 (some (z2 + 1)) (some (z2 + 2))
      have h2 := cl2 (some z2) (some (z2 + 1))
      have h3 := cl2 none (some z2)
      have h4 := cl2 (some (z2 + 2)) none
      rw [List.length_append, List.length_append, List.length_append]
      omega
  refine ite2 (fun _ => ?_) (fun _ => ?_)
  · refine ⟨_, SqL.of aL, fun p1 g1 => ⟨by decide, fun p2 g2 => ⟨_, upd_at upd_same g2, _, upd_same, ?_, fun p3 g3 => ?_⟩⟩⟩
    · have h1 := cl none (some z2)
      exact sz _ (by rw [List.length_singleton]; omega)
    have s3 := (same_new g1 (.lst (cutV (ns.map V.int) none (some z2)))).trans ((same_new g2 (.lst [V.int b])).trans (same_new g3 (.lst (cutV (ns.map V.int) none (some z2) ++ [V.int b]))))
    refine ⟨_, SqL.of (s3 _ _ aL), fun p4 g4 => ⟨_, upd_at upd_same g4, _, upd_same, ?_, fun p5 g5 => fin p5 (cutL ns none (some z2) ++ [b] ++ cutL ns (some (z2 + 1)) none) _ _ _ (s3.trans (same_new g4 _)) g5 rfl (by rw [cutV_map, cutV_map, List.map_append, List.map_append]; rfl) ?_⟩⟩
    · have h1 := cl none (some z2)
      have h2 := cl (some (z2 + 1)) none
      exact sz _ (by rw [List.length_append, List.length_singleton]; omega)
    · have h1 := cl2 none (some z2)
      have h2 := cl2 (some (z2 + 1)) none
      rw [List.length_append, List.length_append, List.length_singleton]
      omega
  · exact q a ns ds L sL had aL (by omega) hd
end
end K13

namespace K13
open PySem L2 KB
/-! ### the law -/
section
variable {P : Program} {w : World} {K : PySem.W.Frag} {mg : Str → Option Value} {base : Heap} {f : Addr} {fd : FuncData} {NB : Addr}
theorem okInts : ∀ ns : List Int, okDs (ns.map DV.int) = true
  | [] => rfl
  | n :: ns => by rw [List.map_cons, okDs, okInts ns]; rfl
theorem okL {ns : List Int} (h : ns.length ≤ 100000) : okD (.lst (ns.map DV.int)) = true := by
  rw [okD, okInts, Bool.and_true]
  exact decide_eq_true (by rw [List.length_map]; exact h)
theorem depL (ns : List Int) : dep (.lst (ns.map DV.int)) = 1 := by rw [dep, deps_ints]
theorem okPs : ∀ ps : List Pst, (∀ x ∈ ps, x.2.length ≤ 100000) → okDs (ps.map dvP) = true
  | [], _ => rfl
  | x :: ps, h => by
    rw [List.map_cons, okDs, okPs ps fun y hy => h y (List.mem_cons_of_mem _ hy), Bool.and_true, dvP, okD, okDs, okDs, okDs]
    rw [okL (by rw [List.length_map]; exact h x List.mem_cons_self)]
    rfl
theorem depP (ps : List Pst) : deps (ps.map dvP) ≤ 2 := deps_le fun d hd => by
  obtain ⟨x, _, rfl⟩ := List.mem_map.mp hd
  rw [dvP, dep, deps, deps, deps, depL]
  simp [dep]
theorem deepI {L : Hp} {x : Addr} {ns : List Int} (h : L x = some (.lst (ns.map V.int))) : DeepT L (.lst (ns.map DV.int)) (.ref x) := by
  rw [DeepT]
  exact ⟨x, _, rfl, h, DeepTs.ints _⟩
theorem rise_many : ∀ (a : Nat) (l : List Nat), l.length ≤ (rise a l).length
  | a, [] => Nat.zero_le _
  | a, x :: l => by
    have := rise_many x l
    have := nb_pos (x - a)
    rw [rise, List.length_append, List.length_cons]
    omega
theorem pbs_many : ∀ (a : Nat) (l : List Pst), l.length ≤ (pbs a l).length ∧ ∀ x ∈ l, x.2.length ≤ (pbs a l).length
  | a, [] => ⟨Nat.zero_le _, fun x hx => by cases hx⟩
  | a, x :: l => by
    obtain ⟨h1, h2⟩ := pbs_many x.1 l
    have := nb_pos (x.1 - a)
    have := rise_many 0 x.2
    rw [pbs, List.length_append, List.length_append, List.length_append, List.length_cons]
    refine ⟨by omega, fun y hy => ?_⟩
    rcases List.mem_cons.mp hy with e | e
    · rw [e]; omega
    · have := h2 y e; omega
theorem due_ok {k : Nat} {ns : List Int} {d : DV} (hk : k < 3) (h : due k ns = some d) (hn : ns.length ≤ 900) : okD d = true ∧ dep d < 5 := by
  match k, hk with
  | 0, _ =>
    obtain ⟨n, _, rfl⟩ := due0_of (show due0 ns = some d from h)
    exact ⟨rfl, by simp [dep]⟩
  | 1, _ =>
    obtain ⟨n, _, rfl⟩ := due1_of (show due1 ns = some d from h)
    exact ⟨rfl, by simp [dep]⟩
  | 2, _ =>
    obtain ⟨ps, e, rfl⟩ := due2_of (show due2 ns = some d from h)
    have en := (ppo_is e).1
    rw [List.append_nil, pbytes] at en
    have hl := congrArg List.length en
    rw [List.length_append] at hl
    obtain ⟨h1, h2⟩ := pbs_many 0 ps
    refine ⟨?_, ?_⟩
    · rw [okD, okPs ps (fun x hx => by have := h2 x hx; omega), Bool.and_true]
      exact decide_eq_true (by rw [List.length_map]; omega)
    · rw [dep]
      have := depP ps
      omega
def spRdOk : Sp := fun vs H Q _ => ∃ (a : Addr) (k : Nat) (ns : List Int) (d : DV), vs = [.ref a, .int k] ∧ k < 3 ∧ H a = some (.lst (ns.map V.int)) ∧ ns.length ≤ 900 ∧ due k ns = some d ∧ ∀ x H', Same H H' → DeepT H' d x → Q x H'
theorem rd_calm {gf : Addr} {df : FuncData} (F : FnOk P w K mg base (CXe P w) 7 gf df ["_law_row", "_law_kind_here"] (spRd NB)) : FnOk P w K mg base CX0 7 gf df ["_law_row", "_law_kind_here"] spRdOk :=
  F.calm fun vs H Q E h => by
    obtain ⟨a, k, ns, d, rfl, hk, ha, hn, hd, q⟩ := h
    exact ⟨a, k, ns, rfl, hk, ha, hn, fun d' hd' x H' s' hx => q x H' s' (by rw [hd] at hd'; cases hd'; exact hx), fun z => by rw [hd] at z; cases z⟩
theorem scL : FnScope ["_law_script", "_law_draws_here", "_law_number_here", "_law_row", "_law_handed", "_law_kind_here", "_law_due", "_law_told"] ["_law_script"] (defScope sLaw) := ⟨rfl, rfl, rfl, by decide +kernel, rfl, by decide +kernel, by decide +kernel⟩
def spLaw (K : PySem.W.Frag) : Sp := fun vs H Q _ => ∃ (a : Addr) (ns : List Int), vs = [.ref a] ∧ SqL K H a (ns.map V.int) ∧ ns.length ≤ 63 ∧ ∀ H', Q (.bl true) H'
def invLw (a dr row ha : Addr) (z : Int) (B0 : Hp) (_ : Nat) (σ : St) (L : Hp) : Prop := ∃ v5 v6 v7 : Option V, σ = [some (.ref a), some (.ref dr), some (.int z), some (.ref row), some (.ref ha), v5, v6, v7] ∧ Same B0 L
def invCm (dr : Addr) (z : Int) (i : Nat) (us : List V) (σ : St) (L : Hp) : Prop := ∃ (ns ds : List Int) (v0 : Option V), us = ns.map V.int ∧ ns.length = i ∧ σ = [v0, some (.ref dr), some (.int z)] ∧ L dr = some (.lst (ds.map V.int))
theorem ok_law {g1 g2 g3 g4 g5 g6 g7 g8 g9 g10 g11 g12 g13 g14 : Addr} {d1 d2 d3 d4 d5 d6 d7 d8 d9 d10 d11 d12 d13 d14 : FuncData} (F : Fun K "law" "law" sLaw f fd) (T : Txt mg)
    (GD : FnOk P w K mg base CX0 1 g1 d1 ["_law_script", "_law_turn", "_law_many"] (spDraws K)) (bD : Binds K d1 ["_law_script", "_law_turn", "_law_many"] []) (kD : PySem.W.keepIn K (.ref g1) = true) (mD : mg "_law_draws" = some (.ref g1))
    (GP : FnOk P w K mg base CX0 1 g2 d2 ["_law_draws_here"] spPop) (bP : Binds K d2 ["_law_draws_here"] []) (kP : PySem.W.keepIn K (.ref g2) = true) (mP : mg "_law_pop" = some (.ref g2))
    (GLN : FnOk P w K mg base CX0 2 g3 d3 ["_law_script", "_law_draws_here"] (spLNum K)) (bLN : Binds K d3 ["_law_script", "_law_draws_here"] []) (kLN : PySem.W.keepIn K (.ref g3) = true) (mLN : mg "_law_number" = some (.ref g3))
    (GL : FnOk P w K mg base CX0 1 g4 d4 ["_law_number_here"] spNB) (bL : Binds K d4 ["_law_number_here"] []) (kL : PySem.W.keepIn K (.ref g4) = true) (mL : mg "_law_number_bytes" = some (.ref g4))
    (GT : FnOk P w K mg base CX0 2 g5 d5 ["_law_draws_here", "_law_most"] spText) (bT : Binds K d5 ["_law_draws_here", "_law_most"] []) (kT : PySem.W.keepIn K (.ref g5) = true) (mT : mg "_law_text" = some (.ref g5))
    (GLTB : FnOk P w K mg base CX0 2 g6 d6 ["_law_text_here"] spTB) (bLTB : Binds K d6 ["_law_text_here"] []) (kLTB : PySem.W.keepIn K (.ref g6) = true) (mLTB : mg "_law_text_bytes" = some (.ref g6))
    (GLP : FnOk P w K mg base CX0 2 g7 d7 ["_law_script", "_law_draws_here"] (spLPo K)) (bLP : Binds K d7 ["_law_script", "_law_draws_here"] []) (kLP : PySem.W.keepIn K (.ref g7) = true) (mLP : mg "_law_postings" = some (.ref g7))
    (GLPB : FnOk P w K mg base CX0 2 g8 d8 ["_law_postings_here"] spPB) (bLPB : Binds K d8 ["_law_postings_here"] []) (kLPB : PySem.W.keepIn K (.ref g8) = true) (mLPB : mg "_law_postings_bytes" = some (.ref g8))
    (GBe : FnOk P w K mg base CX0 2 g9 d9 ["_law_row", "_law_draws_here"] spBe) (bBe : Binds K d9 ["_law_row", "_law_draws_here"] []) (kBe : PySem.W.keepIn K (.ref g9) = true) (mBe : mg "_law_bent" = some (.ref g9))
    (GIn : FnOk P w K mg base CX0 4 g10 d10 ["_law_row", "_law_kind_here"] spIn) (bIn : Binds K d10 ["_law_row", "_law_kind_here"] []) (kIn : PySem.W.keepIn K (.ref g10) = true) (mIn : mg "_law_in" = some (.ref g10))
    (GRe : FnOk P w K mg base CX0 8 g11 d11 ["_law_row", "_law_kind_here"] spRef) (bRe : Binds K d11 ["_law_row", "_law_kind_here"] []) (kRe : PySem.W.keepIn K (.ref g11) = true) (mRe : mg "_law_refused" = some (.ref g11))
    (GRd : FnOk P w K mg base CX0 7 g12 d12 ["_law_row", "_law_kind_here"] spRdOk) (bRd : Binds K d12 ["_law_row", "_law_kind_here"] []) (kRd : PySem.W.keepIn K (.ref g12) = true) (mRd : mg "_law_read" = some (.ref g12))
    (GA : FnOk P w K mg base CX0 5 g13 d13 ["_law_found", "_law_due"] (spAlike 5)) (bA : Binds K d13 ["_law_found", "_law_due"] []) (kA : PySem.W.keepIn K (.ref g13) = true) (mA : mg "_law_alike" = some (.ref g13))
    (GWr : FnOk P w K mg base CX0 4 g14 d14 ["_law_told", "_law_kind_here"] spWr) (bWr : Binds K d14 ["_law_told", "_law_kind_here"] []) (kWr : PySem.W.keepIn K (.ref g14) = true) (mWr : mg "_law_written" = some (.ref g14)) : FnOk P w K mg base CX0 9 f fd ["_law_script"] (spLaw K) := by
  refine F.ok scL (fun vs H Q E h => ?_) (fun cdv A outer s H vs Q E hr h => ?_)
  · obtain ⟨a, ns, rfl, _⟩ := h
    rfl
  obtain ⟨a, sc, rfl, hS, hlen, q⟩ := h
  have hr1 : Room 1 _ := hr.mono (by decide)
  have hr2 : Room 2 _ := hr.mono (by decide)
  have hr4 : Room 4 _ := hr.mono (by decide)
  have hr5 : Room 5 _ := hr.mono (by decide)
  have hr7 : Room 7 _ := hr.mono (by decide)
  refine ⟨_, (pss_cons (ps_set (i := 1) scL.nd rfl (Or.inr rfl) (pe_call GD hr1 rfl mD kD bD .nil pass0 (pa_cons (pv 0) (pa_cons pe_int (pa_cons pe_int pa_nil)))))
    (pss_cons (ps_set (i := 2) scL.nd rfl (Or.inr rfl) (pe_call GP hr1 rfl mP kP bP .nil pass0 (pa_cons (pv 1) pa_nil)))
    (pss_cons (ps_if (pt_cmpR op_eq (pe_op op_mod (pv 2) pe_int) pe_int (nomark _)) (pss_one (ps_set (i := 3) scL.nd rfl (Or.inl rfl) (pe_call GL hr1 rfl mL kL bL .nil pass0 (pa_cons (pe_call GLN hr2 rfl mLN kLN bLN .nil pass0 (pa_cons (pv 0) (pa_cons (pv 1) pa_nil))) pa_nil)))) (pss_one (ps_if (pt_cmpR op_eq (pe_op op_mod (pv 2) pe_int) pe_int (nomark _)) (pss_one (ps_set (i := 3) scL.nd rfl (Or.inl rfl) (pe_call GLTB hr2 rfl mLTB kLTB bLTB .nil pass0 (pa_cons (pe_call GT hr2 rfl mT kT bT .nil pass0 (pa_cons (pv 1) (pa_cons pe_int pa_nil))) pa_nil)))) (pss_one (ps_set (i := 3) scL.nd rfl (Or.inl rfl) (pe_call GLPB hr2 rfl mLPB kLPB bLPB .nil pass0 (pa_cons (pe_call GLP hr2 rfl mLP kLP bLP .nil pass0 (pa_cons (pv 0) (pa_cons (pv 1) pa_nil))) pa_nil)))))))
    (pss_cons (ps_set (i := 3) scL.nd rfl (Or.inl rfl) (pe_call GBe hr2 rfl mBe kBe bBe .nil pass0 (pa_cons (pv 3) (pa_cons (pv 1) pa_nil))))
    (pss_cons (ps_if (pt_cmpR op_eq (pe_op op_mod (pe_op op_fdiv (pv 2) pe_int) pe_int) pe_int (nomark _)) (pss_one (ps_setC (i := 3) scL.nd rfl rfl (N := ["_law_k", "_law_draws_here", "_law_number_here"]) (pick := [none, some 1, some 2]) (NX := ["_law_script", "_law_draws_here", "_law_number_here", "_law_row", "_law_handed", "_law_kind_here", "_law_due", "_law_told"]) (sX := defScope sLaw) (by decide +kernel) rfl rfl rfl (pi_range1 rfl T.range (pa_cons (pe_op op_mod (pe_op op_fdiv (pv 2) pe_int) pe_int) pa_nil))
        (fun _ _ _ _ => (pg_name (i := 0) (by decide +kernel : (["_law_k", "_law_draws_here", "_law_number_here"] : List Str).Nodup) rfl (Or.inl rfl))) (fun _ _ _ _ => pifs_nil) (fun _ _ _ _ => (pe_op op_sub (pe_op op_mod (pe_call GP hr1 rfl mP kP bP .nil pass0 (pa_cons (pv 1) pa_nil)) (pe_ix (ixL K) (pe_lst (pa_cons pe_int (pa_cons pe_int (pa_cons pe_int pa_nil)))) (pe_op op_mod (pe_op op_fdiv (pv 2) pe_int) pe_int) (fun _ _ => rfl))) pe_int)))) pss_nil)
    (pss_cons (ps_set (i := 4) scL.nd rfl (Or.inl rfl) (pe_callTy (lstK K) rfl T.list PyProof.Rows.boot_list (pa_cons (pv 3) pa_nil)))
    (pss_cons (ps_for PassesOwn.never rfl (pi_range1 rfl T.range (pa_cons pe_int pa_nil)) (pg_name (i := 5) scL.nd rfl (Or.inl rfl))
      (pss_cons (ps_set (i := 6) scL.nd rfl (Or.inl rfl) (pe_call GIn hr4 rfl mIn kIn bIn .nil pass0 (pa_cons (pv 3) (pa_cons (pv 5) pa_nil))))
    (pss_one (ps_if (pt_cmpR (op_eqE K hr1) (pv 6) (pe_lst pa_nil) (nomark _)) (pss_one (ps_if (pt_cmpR (op_neDK K hr1) (pe_call GRe hr rfl mRe kRe bRe .nil pass0 (pa_cons (pv 4) (pa_cons (pv 5) pa_nil))) (pe_lst (pa_cons pe_str pa_nil)) (nomark _)) (pss_one (ps_ret pe_bl)) pss_nil)) (pss_cons (ps_if (pt_cmpR (op_neE K hr1) (pe_call GRe hr rfl mRe kRe bRe .nil pass0 (pa_cons (pv 4) (pa_cons (pv 5) pa_nil))) (pe_lst pa_nil) (nomark _)) (pss_one (ps_ret pe_bl)) pss_nil)
    (pss_cons (ps_set (i := 7) scL.nd rfl (Or.inl rfl) (pe_call GRd hr7 rfl mRd kRd bRd .nil pass0 (pa_cons (pv 4) (pa_cons (pv 5) pa_nil))))
    (pss_one (ps_if (PW.pt (pw_or (pt_not (pt_val (pe_call GA hr5 rfl mA kA bA .nil pass0 (pa_cons (pv 7) (pa_cons (pe_ix (ixL K) (pv 6) pe_int (fun _ _ => rfl)) pa_nil))))) (pw_or1 (pt_cmpR (op_neDK K hr1) (pe_call GWr hr4 rfl mWr kWr bWr .nil pass0 (pa_cons (pv 7) (pa_cons (pv 5) pa_nil))) (pv 3) (nomark _))))) (pss_one (ps_ret pe_bl)) pss_nil))))))))
    (pss_one (ps_ret (pe_cmpR (op_eqDK K hr1) (pv 4) (pv 3) (nomark _))))))))))), ?_⟩
  refine seq_inv (fun σ L => ∃ (dr : Addr) (ds : List Int), σ = [some (.ref a), some (.ref dr), none, none, none, none, none, none] ∧ Same H L ∧ H dr = none ∧ L dr = some (.lst (ds.map V.int))) ?_ (fun N hN => ?_)
  rotate_left
  · simp only [tIfS, tAnd, tOr, tNot, tB, tVar, tTest, tOp, tC, tUn, tCB, tCons, tNil, rI0, rI, rU, rNe, rEq, scal, rAppend, tBM, tDrop, tSeq, tAsg, gName, tRet, tNext, List.set_cons_zero, List.set_cons_succ, List.getElem?_cons_zero, List.getElem?_cons_succ, Option.some.injEq, V.int.injEq, V.bl.injEq, V.ref.injEq, V.str.injEq, exists_eq_left', exists_eq_left, exists_and_left, List.cons.injEq, and_true, true_and, and_assoc, exists_const, L2.start, List.map_cons, List.map_nil, List.length_cons, List.length_nil, List.replicate_succ, List.replicate_zero, List.cons_append, List.nil_append, List.append_nil, Nat.reduceAdd, Nat.reduceSub, tFor_eq, tComp_eq, tWhile_eq, tChain, tAug, ipI, rIxS, rSlS, rLower, rIndex, rPop, rCat, tBM0, gSub, rSetL, tSl, tPart, tNoPart, rSlL, tCall, tLst, tTup, iRng1, iRng2, iRng3, iList, iEnum, gTup, gCons, gNil, rIxL, rIxT, tYes, tAndV, tOrV, tNotV, tIf, tTest, exists_eq', List.ne_cons_self, reduceCtorEq, if_true, if_false, and_false, false_and, spDraws]
    exact ⟨sc, hS, hlen, by decide, by decide, by decide, by decide, fun dr ds L1 s1 f1 e1 => hN _ _ ⟨dr, ds, rfl, s1, f1, e1⟩⟩
  rintro σ L ⟨dr, ds, rfl, sL, fdr, hd⟩
  refine seq_inv (fun σ L => ∃ (z : Int) (ds : List Int), σ = [some (.ref a), some (.ref dr), some (.int z), none, none, none, none, none] ∧ Same H L ∧ L dr = some (.lst (ds.map V.int))) ?_ (fun N hN => ?_)
  rotate_left
  · simp only [tIfS, tAnd, tOr, tNot, tB, tVar, tTest, tOp, tC, tUn, tCB, tCons, tNil, rI0, rI, rU, rNe, rEq, scal, rAppend, tBM, tDrop, tSeq, tAsg, gName, tRet, tNext, List.set_cons_zero, List.set_cons_succ, List.getElem?_cons_zero, List.getElem?_cons_succ, Option.some.injEq, V.int.injEq, V.bl.injEq, V.ref.injEq, V.str.injEq, exists_eq_left', exists_eq_left, exists_and_left, List.cons.injEq, and_true, true_and, and_assoc, exists_const, L2.start, List.map_cons, List.map_nil, List.length_cons, List.length_nil, List.replicate_succ, List.replicate_zero, List.cons_append, List.nil_append, List.append_nil, Nat.reduceAdd, Nat.reduceSub, tFor_eq, tComp_eq, tWhile_eq, tChain, tAug, ipI, rIxS, rSlS, rLower, rIndex, rPop, rCat, tBM0, gSub, rSetL, tSl, tPart, tNoPart, rSlL, tCall, tLst, tTup, iRng1, iRng2, iRng3, iList, iEnum, gTup, gCons, gNil, rIxL, rIxT, tYes, tAndV, tOrV, tNotV, tIf, tTest, exists_eq', List.ne_cons_self, reduceCtorEq, if_true, if_false, and_false, false_and, spPop]
    exact ⟨ds, hd, fun z ds1 L1 s1 d1 => hN _ _ ⟨z, ds1, rfl, SameX.out sL fdr s1, d1⟩⟩
  clear hd sL ds
  rintro σ L ⟨z, ds, rfl, sL, hd⟩
  refine seq_inv (fun σ L => ∃ (row : Addr) (ns ds : List Int), σ = [some (.ref a), some (.ref dr), some (.int z), some (.ref row), none, none, none, none] ∧ row ≠ dr ∧ L row = some (.lst (ns.map V.int)) ∧ ns.length ≤ 220 ∧ L dr = some (.lst (ds.map V.int))) ?_ (fun N hN => ?_)
  rotate_left
  · simp only [tIfS, tAnd, tOr, tNot, tB, tVar, tTest, tOp, tC, tUn, tCB, tCons, tNil, rI0, rI, rU, rNe, rEq, scal, rAppend, tBM, tDrop, tSeq, tAsg, gName, tRet, tNext, List.set_cons_zero, List.set_cons_succ, List.getElem?_cons_zero, List.getElem?_cons_succ, Option.some.injEq, V.int.injEq, V.bl.injEq, V.ref.injEq, V.str.injEq, exists_eq_left', exists_eq_left, exists_and_left, List.cons.injEq, and_true, true_and, and_assoc, exists_const, L2.start, List.map_cons, List.map_nil, List.length_cons, List.length_nil, List.replicate_succ, List.replicate_zero, List.cons_append, List.nil_append, List.append_nil, Nat.reduceAdd, Nat.reduceSub, tFor_eq, tComp_eq, tWhile_eq, tChain, tAug, ipI, rIxS, rSlS, rLower, rIndex, rPop, rCat, tBM0, gSub, rSetL, tSl, tPart, tNoPart, rSlL, tCall, tLst, tTup, iRng1, iRng2, iRng3, iList, iEnum, gTup, gCons, gNil, rIxL, rIxT, tYes, tAndV, tOrV, tNotV, tIf, tTest, exists_eq', List.ne_cons_self, reduceCtorEq, if_true, if_false, and_false, false_and, spLNum, spNB, spText, spTB, spLPo, spPB]
    have ne : ∀ {M : Hp} {p : Addr} {us : List Int}, M dr = some (.lst (us.map V.int)) → M p = none → p ≠ dr := fun h1 h2 y => by rw [y, h1] at h2; cases h2
    refine ⟨by decide, ite2 (fun _ => ?_) (fun _ => ⟨by decide, ite2 (fun _ => ?_) (fun _ => ?_)⟩)⟩
    · exact ⟨sc, ds, H, sL, fdr, hS, hlen, hd, fun n ds1 L1 hn s1 d1 => ⟨n, rfl, by omega, fun p hp => hN _ _ ⟨p, nb n, ds1, rfl, ne d1 hp, upd_same, by omega, upd_at d1 hp⟩⟩⟩
    · refine ⟨ds, hd, by decide, by decide, fun y ds1 L1 s1 d1 hy hA => ⟨by omega, hA, fun p L2' s2 hp e2 => hN _ _ ⟨p, _, ds1, rfl, ne d1 hp, e2, ?_, s2 _ _ d1⟩⟩⟩
      have h1 := nb_len 0 y.cps.toList.length (by rw [slen]; omega)
      rw [tbytes, List.length_append, List.length_map, slen]
      rw [slen] at h1
      omega
    · refine ⟨sc, ds, H, sL, fdr, hS, hlen, hd, fun p ys ps ds1 L1 s1 d1 fp ep hD hok => ⟨ys, ep, ps, DeepTs.same fresh_same _ _ hD, hok.good.1, by have := hok.good.2; omega, fun p2 L2' s2 hp e2 => hN _ _ ⟨p2, _, ds1, rfl, ne d1 hp, e2, by have := hok.good.2; omega, s2 _ _ d1⟩⟩⟩
  clear hd sL ds
  rintro σ L ⟨row, ns, ds, rfl, hrd, hrow, hn, hd⟩
  refine seq_inv (fun σ L => ∃ (row : Addr) (ns ds : List Int), σ = [some (.ref a), some (.ref dr), some (.int z), some (.ref row), none, none, none, none] ∧ L row = some (.lst (ns.map V.int)) ∧ ns.length ≤ 880 ∧ L dr = some (.lst (ds.map V.int))) ?_ (fun N hN => ?_)
  rotate_left
  · simp only [tIfS, tAnd, tOr, tNot, tB, tVar, tTest, tOp, tC, tUn, tCB, tCons, tNil, rI0, rI, rU, rNe, rEq, scal, rAppend, tBM, tDrop, tSeq, tAsg, gName, tRet, tNext, List.set_cons_zero, List.set_cons_succ, List.getElem?_cons_zero, List.getElem?_cons_succ, Option.some.injEq, V.int.injEq, V.bl.injEq, V.ref.injEq, V.str.injEq, exists_eq_left', exists_eq_left, exists_and_left, List.cons.injEq, and_true, true_and, and_assoc, exists_const, L2.start, List.map_cons, List.map_nil, List.length_cons, List.length_nil, List.replicate_succ, List.replicate_zero, List.cons_append, List.nil_append, List.append_nil, Nat.reduceAdd, Nat.reduceSub, tFor_eq, tComp_eq, tWhile_eq, tChain, tAug, ipI, rIxS, rSlS, rLower, rIndex, rPop, rCat, tBM0, gSub, rSetL, tSl, tPart, tNoPart, rSlL, tCall, tLst, tTup, iRng1, iRng2, iRng3, iList, iEnum, gTup, gCons, gNil, rIxL, rIxT, tYes, tAndV, tOrV, tNotV, tIf, tTest, exists_eq', List.ne_cons_self, reduceCtorEq, if_true, if_false, and_false, false_and, spBe]
    exact ⟨hrd, ns, hrow, hn, ds, hd, fun p ns' ds' L' s' hp e' hl' d' => hN _ _ ⟨p, ns', ds', rfl, e', hl', d'⟩⟩
  clear hd hrow hn hrd ds ns row
  rintro σ L ⟨row, ns, ds, rfl, hrow, hn, hd⟩
  refine seq_inv (fun σ L => ∃ (row : Addr) (ns : List Int), σ = [some (.ref a), some (.ref dr), some (.int z), some (.ref row), none, none, none, none] ∧ L row = some (.lst (ns.map V.int)) ∧ ns.length ≤ 880) ?_ (fun N hN => ?_)
  rotate_left
  · simp only [tIfS, tAnd, tOr, tNot, tB, tVar, tTest, tOp, tC, tUn, tCB, tCons, tNil, rI0, rI, rU, rNe, rEq, scal, rAppend, tBM, tDrop, tSeq, tAsg, gName, tRet, tNext, List.set_cons_zero, List.set_cons_succ, List.getElem?_cons_zero, List.getElem?_cons_succ, Option.some.injEq, V.int.injEq, V.bl.injEq, V.ref.injEq, V.str.injEq, exists_eq_left', exists_eq_left, exists_and_left, List.cons.injEq, and_true, true_and, and_assoc, exists_const, L2.start, List.map_cons, List.map_nil, List.length_cons, List.length_nil, List.replicate_succ, List.replicate_zero, List.cons_append, List.nil_append, List.append_nil, Nat.reduceAdd, Nat.reduceSub, tFor_eq, tComp_eq, tWhile_eq, tChain, tAug, ipI, rIxS, rSlS, rLower, rIndex, rPop, rCat, tBM0, gSub, rSetL, tSl, tPart, tNoPart, rSlL, tCall, tLst, tTup, iRng1, iRng2, iRng3, iList, iEnum, gTup, gCons, gNil, rIxL, rIxT, tYes, tAndV, tOrV, tNotV, tIf, tTest, exists_eq', List.ne_cons_self, reduceCtorEq, if_true, if_false, and_false, false_and, spPop]
    refine ⟨⟨by decide, by decide⟩, by decide, ite2 (fun _ => ?_) (fun _ => hN _ _ ⟨row, ns, rfl, hrow, hn⟩)⟩
    refine ⟨⟨by decide, by decide⟩, by decide, by omega, by omega, compW_range (lo := 0) (invCm dr z) ⟨[], ds, none, rfl, rfl, rfl, hd⟩ ?_ ?_ ?_⟩
    · rintro i us σ M hi ⟨ns2, ds2, v0, rfl, hl2, rfl, hd2⟩
      rw [List.length_map]
      exact Nat.le_of_lt (big9 (by omega))
    · rintro i us σ M hi ⟨ns2, ds2, v0, rfl, hl2, rfl, hd2⟩
      simp only [tIfS, tAnd, tOr, tNot, tB, tVar, tTest, tOp, tC, tUn, tCB, tCons, tNil, rI0, rI, rU, rNe, rEq, scal, rAppend, tBM, tDrop, tSeq, tAsg, gName, tRet, tNext, List.set_cons_zero, List.set_cons_succ, List.getElem?_cons_zero, List.getElem?_cons_succ, Option.some.injEq, V.int.injEq, V.bl.injEq, V.ref.injEq, V.str.injEq, exists_eq_left', exists_eq_left, exists_and_left, List.cons.injEq, and_true, true_and, and_assoc, exists_const, L2.start, List.map_cons, List.map_nil, List.length_cons, List.length_nil, List.replicate_succ, List.replicate_zero, List.cons_append, List.nil_append, List.append_nil, Nat.reduceAdd, Nat.reduceSub, tFor_eq, tComp_eq, tWhile_eq, tChain, tAug, ipI, rIxS, rSlS, rLower, rIndex, rPop, rCat, tBM0, gSub, rSetL, tSl, tPart, tNoPart, rSlL, tCall, tLst, tTup, iRng1, iRng2, iRng3, iList, iEnum, gTup, gCons, gNil, rIxL, rIxT, tYes, tAndV, tOrV, tNotV, tIf, tTest, exists_eq', List.ne_cons_self, reduceCtorEq, if_true, if_false, and_false, false_and, spPop]
      refine ⟨ds2, hd2, fun y ds3 M2 s2 e2 => ⟨by decide, fun p hp => ⟨⟨by decide, by decide⟩, by decide, _, SqL.of upd_same, ?_⟩⟩⟩
      obtain ⟨b, hb, hb'⟩ := atI_mem (xs := [302, 8, 140]) (k := z / 24 % 3) (by omega) (by show z / 24 % 3 < 3; omega)
      have hb0 : 0 < b := by
        simp only [List.mem_cons, List.not_mem_nil, or_false] at hb
        rcases hb with h | h | h <;> omega
      exact ⟨_, hb', b, rfl, hb0, ns2 ++ [y % b - 1], ds3, _, by rw [List.map_append]; rfl, by rw [List.length_append, hl2]; rfl, rfl, upd_at e2 hp⟩
    · rintro us σ M ⟨ns2, ds2, v0, rfl, hl2, rfl, hd2⟩ p hp
      exact hN _ _ ⟨p, ns2, rfl, upd_same, by omega⟩
  clear hrow hn hd ns ds row
  rintro σ L ⟨row, ns, rfl, hrow, hn⟩
  refine seq_inv (fun σ L => ∃ ha : Addr, σ = [some (.ref a), some (.ref dr), some (.int z), some (.ref row), some (.ref ha), none, none, none] ∧ L row = some (.lst (ns.map V.int)) ∧ L ha = some (.lst (ns.map V.int))) ?_ (fun N hN => ?_)
  rotate_left
  · simp only [tIfS, tAnd, tOr, tNot, tB, tVar, tTest, tOp, tC, tUn, tCB, tCons, tNil, rI0, rI, rU, rNe, rEq, scal, rAppend, tBM, tDrop, tSeq, tAsg, gName, tRet, tNext, List.set_cons_zero, List.set_cons_succ, List.getElem?_cons_zero, List.getElem?_cons_succ, Option.some.injEq, V.int.injEq, V.bl.injEq, V.ref.injEq, V.str.injEq, exists_eq_left', exists_eq_left, exists_and_left, List.cons.injEq, and_true, true_and, and_assoc, exists_const, L2.start, List.map_cons, List.map_nil, List.length_cons, List.length_nil, List.replicate_succ, List.replicate_zero, List.cons_append, List.nil_append, List.append_nil, Nat.reduceAdd, Nat.reduceSub, tFor_eq, tComp_eq, tWhile_eq, tChain, tAug, ipI, rIxS, rSlS, rLower, rIndex, rPop, rCat, tBM0, gSub, rSetL, tSl, tPart, tNoPart, rSlL, tCall, tLst, tTup, iRng1, iRng2, iRng3, iList, iEnum, gTup, gCons, gNil, rIxL, rIxT, tYes, tAndV, tOrV, tNotV, tIf, tTest, exists_eq', List.ne_cons_self, reduceCtorEq, if_true, if_false, and_false, false_and]
    exact ⟨_, .inl (SqL.of hrow), fun ha g => hN _ _ ⟨ha, rfl, upd_at hrow g, upd_same⟩⟩
  clear hrow
  rintro σ B0 ⟨ha, rfl, hrow, hha⟩
  refine seq_inv (fun σ L => ∃ v5 v6 v7 : Option V, σ = [some (.ref a), some (.ref dr), some (.int z), some (.ref row), some (.ref ha), v5, v6, v7] ∧ Same B0 L) ?_ (fun N hN => ?_)
  rotate_left
  · simp only [tIfS, tAnd, tOr, tNot, tB, tVar, tTest, tOp, tC, tUn, tCB, tCons, tNil, rI0, rI, rU, rNe, rEq, scal, rAppend, tBM, tDrop, tSeq, tAsg, gName, tRet, tNext, List.set_cons_zero, List.set_cons_succ, List.getElem?_cons_zero, List.getElem?_cons_succ, Option.some.injEq, V.int.injEq, V.bl.injEq, V.ref.injEq, V.str.injEq, exists_eq_left', exists_eq_left, exists_and_left, List.cons.injEq, and_true, true_and, and_assoc, exists_const, L2.start, List.map_cons, List.map_nil, List.length_cons, List.length_nil, List.replicate_succ, List.replicate_zero, List.cons_append, List.nil_append, List.append_nil, Nat.reduceAdd, Nat.reduceSub, tFor_eq, tComp_eq, tWhile_eq, tChain, tAug, ipI, rIxS, rSlS, rLower, rIndex, rPop, rCat, tBM0, gSub, rSetL, tSl, tPart, tNoPart, rSlL, tCall, tLst, tTup, iRng1, iRng2, iRng3, iList, iEnum, gTup, gCons, gNil, rIxL, rIxT, tYes, tAndV, tOrV, tNotV, tIf, tTest, exists_eq', List.ne_cons_self, reduceCtorEq, if_true, if_false, and_false, false_and]
    refine ⟨by decide, by decide, forW_range (lo := 0) (invLw a dr row ha z B0) ⟨none, none, none, rfl, Same.refl _⟩ ?_ ?_⟩
    · rintro i σ L hi ⟨v5, v6, v7, rfl, sL⟩
      have hi3 : i < 3 := by omega
      have e0 : (0 : Int) + (i : Int) = (i : Int) := by omega
      rw [e0]
      simp only [tIfS, tAnd, tOr, tNot, tB, tVar, tTest, tOp, tC, tUn, tCB, tCons, tNil, rI0, rI, rU, rNe, rEq, scal, rAppend, tBM, tDrop, tAsg, gName, tRet, tNext, List.set_cons_zero, List.set_cons_succ, List.getElem?_cons_zero, List.getElem?_cons_succ, Option.some.injEq, V.int.injEq, V.bl.injEq, V.ref.injEq, V.str.injEq, exists_eq_left', exists_eq_left, exists_and_left, List.cons.injEq, and_true, true_and, and_assoc, exists_const, L2.start, List.map_cons, List.map_nil, List.length_cons, List.length_nil, List.replicate_succ, List.replicate_zero, List.cons_append, List.nil_append, List.append_nil, Nat.reduceAdd, Nat.reduceSub, tFor_eq, tComp_eq, tWhile_eq, tChain, tAug, ipI, rIxS, rSlS, rLower, rIndex, rPop, rCat, tBM0, gSub, rSetL, tSl, tPart, tNoPart, rSlL, tCall, tLst, tTup, iRng1, iRng2, iRng3, iList, iEnum, gTup, gCons, gNil, rIxL, rIxT, tYes, tAndV, tOrV, tNotV, tIf, tTest, exists_eq', List.ne_cons_self, reduceCtorEq, if_true, if_false, and_false, false_and]
      have hnn : ns.length ≤ 900 := by omega
      refine seq_inv (fun σ' L' => ∃ p : Addr, Same L L' ∧ σ' = [some (.ref a), some (.ref dr), some (.int z), some (.ref row), some (.ref ha), some (.int i), some (.ref p), v7] ∧ ((due i ns = none ∧ L' p = some (.lst [])) ∨ ∃ d x, due i ns = some d ∧ L' p = some (.lst [x]) ∧ DeepT L' d x)) ?_ (fun N' hN' => ?_)
      rotate_left
      · simp only [tIfS, tAnd, tOr, tNot, tB, tVar, tTest, tOp, tC, tUn, tCB, tCons, tNil, rI0, rI, rU, rNe, rEq, scal, rAppend, tBM, tDrop, tSeq, tAsg, gName, tRet, tNext, List.set_cons_zero, List.set_cons_succ, List.getElem?_cons_zero, List.getElem?_cons_succ, Option.some.injEq, V.int.injEq, V.bl.injEq, V.ref.injEq, V.str.injEq, exists_eq_left', exists_eq_left, exists_and_left, List.cons.injEq, and_true, true_and, and_assoc, exists_const, L2.start, List.map_cons, List.map_nil, List.length_cons, List.length_nil, List.replicate_succ, List.replicate_zero, List.cons_append, List.nil_append, List.append_nil, Nat.reduceAdd, Nat.reduceSub, tFor_eq, tComp_eq, tWhile_eq, tChain, tAug, ipI, rIxS, rSlS, rLower, rIndex, rPop, rCat, tBM0, gSub, rSetL, tSl, tPart, tNoPart, rSlL, tCall, tLst, tTup, iRng1, iRng2, iRng3, iList, iEnum, gTup, gCons, gNil, rIxL, rIxT, tYes, tAndV, tOrV, tNotV, tIf, tTest, exists_eq', List.ne_cons_self, reduceCtorEq, if_true, if_false, and_false, false_and, spIn]
        exact ⟨i, rfl, hi3, ns, sL _ _ hrow, hnn, fun z0 p L' s' _ e' => hN' _ _ ⟨p, s', rfl, .inl ⟨z0, e'⟩⟩, fun d z0 x p L' s' _ e' hx => hN' _ _ ⟨p, s', rfl, .inr ⟨d, x, z0, e', hx⟩⟩⟩
      rintro σ' L' ⟨p, s', rfl, ⟨hd, ep⟩ | ⟨d, x, hd, ep, hx⟩⟩
      · simp only [tIfS, tAnd, tOr, tNot, tB, tVar, tTest, tOp, tC, tUn, tCB, tCons, tNil, rI0, rI, rU, rNe, rEq, scal, rAppend, tBM, tDrop, tSeq, tAsg, gName, tRet, tNext, List.set_cons_zero, List.set_cons_succ, List.getElem?_cons_zero, List.getElem?_cons_succ, Option.some.injEq, V.int.injEq, V.bl.injEq, V.ref.injEq, V.str.injEq, exists_eq_left', exists_eq_left, exists_and_left, List.cons.injEq, and_true, true_and, and_assoc, exists_const, L2.start, List.map_cons, List.map_nil, List.length_cons, List.length_nil, List.replicate_succ, List.replicate_zero, List.cons_append, List.nil_append, List.append_nil, Nat.reduceAdd, Nat.reduceSub, tFor_eq, tComp_eq, tWhile_eq, tChain, tAug, ipI, rIxS, rSlS, rLower, rIndex, rPop, rCat, tBM0, gSub, rSetL, tSl, tPart, tNoPart, rSlL, tCall, tLst, tTup, iRng1, iRng2, iRng3, iList, iEnum, gTup, gCons, gNil, rIxL, rIxT, tYes, tAndV, tOrV, tNotV, tIf, tTest, exists_eq', List.ne_cons_self, reduceCtorEq, if_true, if_false, and_false, false_and, spRef]
        have s1 := sL.trans s'
        refine ⟨by decide, fun p1 g1 => ⟨_, SqL.of (upd_at ep g1), SqL.of upd_same, iteT ⟨i, rfl, hi3, ns, upd_at (s1 _ _ hha) g1, hnn, fun r M s2 fr er => ⟨by decide, fun p2 g2 => ⟨[.str "bytes"], by simp [dep, deps], ?_, ?_, _, _, _, rfl, s1.trans ((same_new g1 _).trans (s2.trans (same_new g2 _)))⟩⟩⟩⟩⟩
        · refine DeepT.deep _ _ ?_
          rw [DeepT]
          rw [hd] at er
          exact ⟨r, _, rfl, upd_at er g2, DeepTs.one (by rw [DeepT])⟩
        · refine DeepT.deep _ _ ?_
          rw [DeepT]
          exact ⟨p2, _, rfl, upd_same, DeepTs.one (by rw [DeepT])⟩
      · simp only [tIfS, tAnd, tOr, tNot, tB, tVar, tTest, tOp, tC, tUn, tCB, tCons, tNil, rI0, rI, rU, rNe, rEq, scal, rAppend, tBM, tDrop, tSeq, tAsg, gName, tRet, tNext, List.set_cons_zero, List.set_cons_succ, List.getElem?_cons_zero, List.getElem?_cons_succ, Option.some.injEq, V.int.injEq, V.bl.injEq, V.ref.injEq, V.str.injEq, exists_eq_left', exists_eq_left, exists_and_left, List.cons.injEq, and_true, true_and, and_assoc, exists_const, L2.start, List.map_cons, List.map_nil, List.length_cons, List.length_nil, List.replicate_succ, List.replicate_zero, List.cons_append, List.nil_append, List.append_nil, Nat.reduceAdd, Nat.reduceSub, tFor_eq, tComp_eq, tWhile_eq, tChain, tAug, ipI, rIxS, rSlS, rLower, rIndex, rPop, rCat, tBM0, gSub, rSetL, tSl, tPart, tNoPart, rSlL, tCall, tLst, tTup, iRng1, iRng2, iRng3, iList, iEnum, gTup, gCons, gNil, rIxL, rIxT, tYes, tAndV, tOrV, tNotV, tIf, tTest, exists_eq', List.ne_cons_self, reduceCtorEq, if_true, if_false, and_false, false_and, spRef, spRdOk, spAlike, spWr]
        have s1 := sL.trans s'
        obtain ⟨ok1, ok2⟩ := due_ok hi3 hd hnn
        refine ⟨by decide, fun p1 g1 => ⟨_, SqL.of (upd_at ep g1), SqL.of upd_same, iteF ⟨i, rfl, hi3, ns, upd_at (s1 _ _ hha) g1, hnn, fun r M s2 fr er => ⟨by decide, fun p2 g2 => ⟨_, SqL.of (upd_at er g2), SqL.of upd_same, ?_⟩⟩⟩⟩⟩
        rw [hd, if_neg (by show ¬ false = true; decide)]
        have sA := s1.trans ((same_new g1 (.lst [])).trans (s2.trans (same_new g2 (.lst []))))
        have ep2 := ((same_new g1 (.lst [])).trans (s2.trans (same_new g2 (.lst [])))) _ _ ep
        have hx2 := DeepT.same ((same_new g1 (.lst [])).trans (s2.trans (same_new g2 (.lst [])))) _ _ hx
        generalize upd M p2 (.lst []) = M2 at sA ep2 hx2 ⊢
        refine ⟨i, rfl, hi3, ns, sA _ _ hha, hnn, d, hd, fun told M3 s3 hT => ?_⟩
        refine ⟨_, SqL.of (s3 _ _ ep2), _, rfl, d, hT, DeepT.same s3 _ _ hx2, ok1, ok2, ?_⟩
        rw [if_neg (by decide)]
        refine ⟨i, rfl, hi3, ns, d, hd, hT, hnn, fun p3 M4 s4 _ e4 => ⟨ns.map DV.int, ?_, DeepT.deep _ _ (deepI e4), DeepT.deep _ _ (deepI ((sA.trans (s3.trans s4)) _ _ hrow)), _, _, _, rfl, sA.trans (s3.trans s4)⟩⟩
        rw [depL]
        decide
    · rintro σ L ⟨v5, v6, v7, rfl, sL⟩
      exact hN _ _ ⟨v5, v6, v7, rfl, sL⟩
  rintro σ L ⟨v5, v6, v7, rfl, sL⟩
  simp only [tIfS, tAnd, tOr, tNot, tB, tVar, tTest, tOp, tC, tUn, tCB, tCons, tNil, rI0, rI, rU, rNe, rEq, scal, rAppend, tBM, tDrop, tSeq, tAsg, gName, tRet, tNext, List.set_cons_zero, List.set_cons_succ, List.getElem?_cons_zero, List.getElem?_cons_succ, Option.some.injEq, V.int.injEq, V.bl.injEq, V.ref.injEq, V.str.injEq, exists_eq_left', exists_eq_left, exists_and_left, List.cons.injEq, and_true, true_and, and_assoc, exists_const, L2.start, List.map_cons, List.map_nil, List.length_cons, List.length_nil, List.replicate_succ, List.replicate_zero, List.cons_append, List.nil_append, List.append_nil, Nat.reduceAdd, Nat.reduceSub, tFor_eq, tComp_eq, tWhile_eq, tChain, tAug, ipI, rIxS, rSlS, rLower, rIndex, rPop, rCat, tBM0, gSub, rSetL, tSl, tPart, tNoPart, rSlL, tCall, tLst, tTup, iRng1, iRng2, iRng3, iList, iEnum, gTup, gCons, gNil, rIxL, rIxT, tYes, tAndV, tOrV, tNotV, tIf, tTest, exists_eq', List.ne_cons_self, reduceCtorEq, if_true, if_false, and_false, false_and]
  refine ⟨.lst (ns.map DV.int), ns.map DV.int, .inl rfl, ?_, DeepT.deep _ _ (deepI (sL _ _ hha)), DeepT.deep _ _ (deepI (sL _ _ hrow)), q _⟩
  rw [depL]
  decide
end
end K13

namespace K13
open PySem L2 KB
/-! ### the top -/
theorem all_mk {l : PySem.W.OpenLaw} {w : World} {K : PySem.W.Frag} {h : Heap} {mg : Str → Option Value} {fa f1 f2 f3 f4 f5 f6 f7 f8 f9 f10 f11 f12 f13 f14 f15 f16 f17 f18 f19 f20 f21 f22 f23 f24 f25 f26 f27 f28 f29 fsRI fsByte fsNum fsBeh fsRis fsNP fsNT fsEnd RC FE NF NM NB ND NS NQ NP NL NT  : Addr} (X : K.In h) (G : h.Ns mainGlobals mg) (hfa : mg "law" = some (.ref fa))
    {od1 an1 od2 an2 od3 an3 od4 an4 od5 an5 od6 an6 od7 an7 od8 an8 od9 an9 od10 an10 od11 an11 od12 an12 od13 an13 od14 an14 od15 an15 od16 an16 od17 an17 od18 an18 od19 an19 od20 an20 od21 an21 od22 an22 od23 an23 od24 an24 od25 an25 od26 an26 od27 an27 od28 an28 od29 an29 odsRI ansRI odsByte ansByte odsNum ansNum odsBeh ansBeh odsRis ansRis odsNP ansNP odsNT ansNT odsEnd ansEnd : Option Addr} {sl1 sl2 sl3 sl4 sl5 sl6 sl7 sl8 sl9 sl10 sl11 sl12 sl13 sl14 sl15 sl16 sl17 sl18 sl19 sl20 sl21 sl22 sl23 sl24 sl25 sl26 sl27 sl28 sl29 slsRI slsByte slsNum slsBeh slsRis slsNP slsNT slsEnd : Array (Option Value)} {oc1 kV1 dc1 pm1 cd1 ct1 oc2 kV2 dc2 pm2 cd2 ct2 oc3 kV3 dc3 pm3 cd3 ct3 oc4 kV4 dc4 pm4 cd4 ct4 oc5 kV5 dc5 pm5 cd5 ct5 oc6 kV6 dc6 pm6 cd6 ct6 oc7 kV7 dc7 pm7 cd7 ct7 oc8 kV8 dc8 pm8 cd8 ct8 oc9 kV9 dc9 pm9 cd9 ct9 oc10 kV10 dc10 pm10 cd10 ct10 oc11 kV11 dc11 pm11 cd11 ct11 oc12 kV12 dc12 pm12 cd12 ct12 oc13 kV13 dc13 pm13 cd13 ct13 oc14 kV14 dc14 pm14 cd14 ct14 oc15 kV15 dc15 pm15 cd15 ct15 oc16 kV16 dc16 pm16 cd16 ct16 oc17 kV17 dc17 pm17 cd17 ct17 oc18 kV18 dc18 pm18 cd18 ct18 oc19 kV19 dc19 pm19 cd19 ct19 oc20 kV20 dc20 pm20 cd20 ct20 oc21 kV21 dc21 pm21 cd21 ct21 oc22 kV22 dc22 pm22 cd22 ct22 oc23 kV23 dc23 pm23 cd23 ct23 oc24 kV24 dc24 pm24 cd24 ct24 oc25 kV25 dc25 pm25 cd25 ct25 oc26 kV26 dc26 pm26 cd26 ct26 oc27 kV27 dc27 pm27 cd27 ct27 oc28 kV28 dc28 pm28 cd28 ct28 oc29 kV29 dc29 pm29 cd29 ct29 ocsRI kVsRI dcsRI pmsRI cdsRI ctsRI ocsByte kVsByte dcsByte pmsByte cdsByte ctsByte ocsNum kVsNum dcsNum pmsNum cdsNum ctsNum ocsBeh kVsBeh dcsBeh pmsBeh cdsBeh ctsBeh ocsRis kVsRis dcsRis pmsRis cdsRis ctsRis ocsNP kVsNP dcsNP pmsNP cdsNP ctsNP ocsNT kVsNT dcsNT pmsNT cdsNT ctsNT ocsEnd kVsEnd dcsEnd pmsEnd cdsEnd ctsEnd : Value} {tk0 tk1 tk2 tk3 tk4 tk5 tk6 : Tok}
    {oNB : Obj} {NsA NN : Addr} {ddE d1E d1N : Option Addr} {cdE : ClassData} {slE sl1E sl1N : Array (Option Value)} {c1E c1N : Value} {esE esN : Array DictEntry} {nE nN : Nat}
    (a1 : PySem.W.nsIn K mainGlobals "number_bytes" = some (some (.ref f1)))
    (l1 : K.lookup f1 = some ⟨oc1, od1, .func (PySem.W.fnOf "number_bytes" "number_bytes" (defArgs sNB) (defBody sNB) (defScope sNB) .none kV1 dc1 pm1 an1 cd1 ct1), sl1⟩)
    (c1 : PySem.W.codeIn K cd1 "number_bytes" = true)
    (k1 : PySem.W.keepIn K (.ref f1) = true)
    (a2 : PySem.W.nsIn K mainGlobals "rising_bytes" = some (some (.ref f2)))
    (l2 : K.lookup f2 = some ⟨oc2, od2, .func (PySem.W.fnOf "rising_bytes" "rising_bytes" (defArgs sRB) (defBody sRB) (defScope sRB) .none kV2 dc2 pm2 an2 cd2 ct2), sl2⟩)
    (c2 : PySem.W.codeIn K cd2 "rising_bytes" = true)
    (k2 : PySem.W.keepIn K (.ref f2) = true)
    (a3 : PySem.W.nsIn K mainGlobals "postings_bytes" = some (some (.ref f3)))
    (l3 : K.lookup f3 = some ⟨oc3, od3, .func (PySem.W.fnOf "postings_bytes" "postings_bytes" (defArgs sPB) (defBody sPB) (defScope sPB) .none kV3 dc3 pm3 an3 cd3 ct3), sl3⟩)
    (c3 : PySem.W.codeIn K cd3 "postings_bytes" = true)
    (k3 : PySem.W.keepIn K (.ref f3) = true)
    (a4 : PySem.W.nsIn K mainGlobals "text_bytes" = some (some (.ref f4)))
    (l4 : K.lookup f4 = some ⟨oc4, od4, .func (PySem.W.fnOf "text_bytes" "text_bytes" (defArgs sTB) (defBody sTB) (defScope sTB) .none kV4 dc4 pm4 an4 cd4 ct4), sl4⟩)
    (c4 : PySem.W.codeIn K cd4 "text_bytes" = true)
    (k4 : PySem.W.keepIn K (.ref f4) = true)
    (a5 : PySem.W.nsIn K mainGlobals "sign_of_byte" = some (some (.ref f5)))
    (l5 : K.lookup f5 = some ⟨oc5, od5, .func (PySem.W.fnOf "sign_of_byte" "sign_of_byte" (defArgs sSg) (defBody sSg) (defScope sSg) .none kV5 dc5 pm5 an5 cd5 ct5), sl5⟩)
    (c5 : PySem.W.codeIn K cd5 "sign_of_byte" = true)
    (k5 : PySem.W.keepIn K (.ref f5) = true)
    (a6 : PySem.W.nsIn K mainGlobals "read_number" = some (some (.ref f6)))
    (l6 : K.lookup f6 = some ⟨oc6, od6, .func (PySem.W.fnOf "read_number" "read_number" (defArgs sRN) (defBody sRN) (defScope sRN) .none kV6 dc6 pm6 an6 cd6 ct6), sl6⟩)
    (c6 : PySem.W.codeIn K cd6 "read_number" = true)
    (k6 : PySem.W.keepIn K (.ref f6) = true)
    (a7 : PySem.W.nsIn K mainGlobals "read_postings" = some (some (.ref f7)))
    (l7 : K.lookup f7 = some ⟨oc7, od7, .func (PySem.W.fnOf "read_postings" "read_postings" (defArgs sRP) (defBody sRP) (defScope sRP) .none kV7 dc7 pm7 an7 cd7 ct7), sl7⟩)
    (c7 : PySem.W.codeIn K cd7 "read_postings" = true)
    (k7 : PySem.W.keepIn K (.ref f7) = true)
    (a8 : PySem.W.nsIn K mainGlobals "read_text" = some (some (.ref f8)))
    (l8 : K.lookup f8 = some ⟨oc8, od8, .func (PySem.W.fnOf "read_text" "read_text" (defArgs sRT) (defBody sRT) (defScope sRT) .none kV8 dc8 pm8 an8 cd8 ct8), sl8⟩)
    (c8 : PySem.W.codeIn K cd8 "read_text" = true)
    (k8 : PySem.W.keepIn K (.ref f8) = true)
    (a9 : PySem.W.nsIn K mainGlobals "_law_draws" = some (some (.ref f9)))
    (l9 : K.lookup f9 = some ⟨oc9, od9, .func (PySem.W.fnOf "_law_draws" "_law_draws" (defArgs sDraws) (defBody sDraws) (defScope sDraws) .none kV9 dc9 pm9 an9 cd9 ct9), sl9⟩)
    (c9 : PySem.W.codeIn K cd9 "_law_draws" = true)
    (k9 : PySem.W.keepIn K (.ref f9) = true)
    (a10 : PySem.W.nsIn K mainGlobals "_law_pop" = some (some (.ref f10)))
    (l10 : K.lookup f10 = some ⟨oc10, od10, .func (PySem.W.fnOf "_law_pop" "_law_pop" (defArgs sPop) (defBody sPop) (defScope sPop) .none kV10 dc10 pm10 an10 cd10 ct10), sl10⟩)
    (c10 : PySem.W.codeIn K cd10 "_law_pop" = true)
    (k10 : PySem.W.keepIn K (.ref f10) = true)
    (a11 : PySem.W.nsIn K mainGlobals "_law_alike" = some (some (.ref f11)))
    (l11 : K.lookup f11 = some ⟨oc11, od11, .func (PySem.W.fnOf "_law_alike" "_law_alike" (defArgs sAlike) (defBody sAlike) (defScope sAlike) .none kV11 dc11 pm11 an11 cd11 ct11), sl11⟩)
    (c11 : PySem.W.codeIn K cd11 "_law_alike" = true)
    (k11 : PySem.W.keepIn K (.ref f11) = true)
    (a12 : PySem.W.nsIn K mainGlobals "_law_signs" = some (some (.ref f12)))
    (l12 : K.lookup f12 = some ⟨oc12, od12, .func (PySem.W.fnOf "_law_signs" "_law_signs" (defArgs sSigns) (defBody sSigns) (defScope sSigns) .none kV12 dc12 pm12 an12 cd12 ct12), sl12⟩)
    (c12 : PySem.W.codeIn K cd12 "_law_signs" = true)
    (k12 : PySem.W.keepIn K (.ref f12) = true)
    (a13 : PySem.W.nsIn K mainGlobals "_law_text" = some (some (.ref f13)))
    (l13 : K.lookup f13 = some ⟨oc13, od13, .func (PySem.W.fnOf "_law_text" "_law_text" (defArgs sText) (defBody sText) (defScope sText) .none kV13 dc13 pm13 an13 cd13 ct13), sl13⟩)
    (c13 : PySem.W.codeIn K cd13 "_law_text" = true)
    (k13 : PySem.W.keepIn K (.ref f13) = true)
    (a14 : PySem.W.nsIn K mainGlobals "_law_number_bytes" = some (some (.ref f14)))
    (l14 : K.lookup f14 = some ⟨oc14, od14, .func (PySem.W.fnOf "_law_number_bytes" "_law_number_bytes" (defArgs sLNB) (defBody sLNB) (defScope sLNB) .none kV14 dc14 pm14 an14 cd14 ct14), sl14⟩)
    (c14 : PySem.W.codeIn K cd14 "_law_number_bytes" = true)
    (k14 : PySem.W.keepIn K (.ref f14) = true)
    (a15 : PySem.W.nsIn K mainGlobals "_law_number" = some (some (.ref f15)))
    (l15 : K.lookup f15 = some ⟨oc15, od15, .func (PySem.W.fnOf "_law_number" "_law_number" (defArgs sLN) (defBody sLN) (defScope sLN) .none kV15 dc15 pm15 an15 cd15 ct15), sl15⟩)
    (c15 : PySem.W.codeIn K cd15 "_law_number" = true)
    (k15 : PySem.W.keepIn K (.ref f15) = true)
    (a16 : PySem.W.nsIn K mainGlobals "_law_postings" = some (some (.ref f16)))
    (l16 : K.lookup f16 = some ⟨oc16, od16, .func (PySem.W.fnOf "_law_postings" "_law_postings" (defArgs sLP) (defBody sLP) (defScope sLP) .none kV16 dc16 pm16 an16 cd16 ct16), sl16⟩)
    (c16 : PySem.W.codeIn K cd16 "_law_postings" = true)
    (k16 : PySem.W.keepIn K (.ref f16) = true)
    (a17 : PySem.W.nsIn K mainGlobals "_law_postings_bytes" = some (some (.ref f17)))
    (l17 : K.lookup f17 = some ⟨oc17, od17, .func (PySem.W.fnOf "_law_postings_bytes" "_law_postings_bytes" (defArgs sLPB) (defBody sLPB) (defScope sLPB) .none kV17 dc17 pm17 an17 cd17 ct17), sl17⟩)
    (c17 : PySem.W.codeIn K cd17 "_law_postings_bytes" = true)
    (k17 : PySem.W.keepIn K (.ref f17) = true)
    (a18 : PySem.W.nsIn K mainGlobals "_law_text_bytes" = some (some (.ref f18)))
    (l18 : K.lookup f18 = some ⟨oc18, od18, .func (PySem.W.fnOf "_law_text_bytes" "_law_text_bytes" (defArgs sLTB) (defBody sLTB) (defScope sLTB) .none kV18 dc18 pm18 an18 cd18 ct18), sl18⟩)
    (c18 : PySem.W.codeIn K cd18 "_law_text_bytes" = true)
    (k18 : PySem.W.keepIn K (.ref f18) = true)
    (a19 : PySem.W.nsIn K mainGlobals "_law_number_in" = some (some (.ref f19)))
    (l19 : K.lookup f19 = some ⟨oc19, od19, .func (PySem.W.fnOf "_law_number_in" "_law_number_in" (defArgs sNI) (defBody sNI) (defScope sNI) .none kV19 dc19 pm19 an19 cd19 ct19), sl19⟩)
    (c19 : PySem.W.codeIn K cd19 "_law_number_in" = true)
    (k19 : PySem.W.keepIn K (.ref f19) = true)
    (a20 : PySem.W.nsIn K mainGlobals "_law_rising_in" = some (some (.ref f20)))
    (l20 : K.lookup f20 = some ⟨oc20, od20, .func (PySem.W.fnOf "_law_rising_in" "_law_rising_in" (defArgs sRiI) (defBody sRiI) (defScope sRiI) .none kV20 dc20 pm20 an20 cd20 ct20), sl20⟩)
    (c20 : PySem.W.codeIn K cd20 "_law_rising_in" = true)
    (k20 : PySem.W.keepIn K (.ref f20) = true)
    (a21 : PySem.W.nsIn K mainGlobals "_law_text_in" = some (some (.ref f21)))
    (l21 : K.lookup f21 = some ⟨oc21, od21, .func (PySem.W.fnOf "_law_text_in" "_law_text_in" (defArgs sTI) (defBody sTI) (defScope sTI) .none kV21 dc21 pm21 an21 cd21 ct21), sl21⟩)
    (c21 : PySem.W.codeIn K cd21 "_law_text_in" = true)
    (k21 : PySem.W.keepIn K (.ref f21) = true)
    (a22 : PySem.W.nsIn K mainGlobals "_law_postings_in" = some (some (.ref f22)))
    (l22 : K.lookup f22 = some ⟨oc22, od22, .func (PySem.W.fnOf "_law_postings_in" "_law_postings_in" (defArgs sPI) (defBody sPI) (defScope sPI) .none kV22 dc22 pm22 an22 cd22 ct22), sl22⟩)
    (c22 : PySem.W.codeIn K cd22 "_law_postings_in" = true)
    (k22 : PySem.W.keepIn K (.ref f22) = true)
    (a23 : PySem.W.nsIn K mainGlobals "_law_bent" = some (some (.ref f23)))
    (l23 : K.lookup f23 = some ⟨oc23, od23, .func (PySem.W.fnOf "_law_bent" "_law_bent" (defArgs sBe) (defBody sBe) (defScope sBe) .none kV23 dc23 pm23 an23 cd23 ct23), sl23⟩)
    (c23 : PySem.W.codeIn K cd23 "_law_bent" = true)
    (k23 : PySem.W.keepIn K (.ref f23) = true)
    (a24 : PySem.W.nsIn K mainGlobals "_law_kind" = some (some (.ref f24)))
    (l24 : K.lookup f24 = some ⟨oc24, od24, .func (PySem.W.fnOf "_law_kind" "_law_kind" (defArgs sKind) (defBody sKind) (defScope sKind) .none kV24 dc24 pm24 an24 cd24 ct24), sl24⟩)
    (c24 : PySem.W.codeIn K cd24 "_law_kind" = true)
    (k24 : PySem.W.keepIn K (.ref f24) = true)
    (a25 : PySem.W.nsIn K mainGlobals "_law_read" = some (some (.ref f25)))
    (l25 : K.lookup f25 = some ⟨oc25, od25, .func (PySem.W.fnOf "_law_read" "_law_read" (defArgs sRd) (defBody sRd) (defScope sRd) .none kV25 dc25 pm25 an25 cd25 ct25), sl25⟩)
    (c25 : PySem.W.codeIn K cd25 "_law_read" = true)
    (k25 : PySem.W.keepIn K (.ref f25) = true)
    (a26 : PySem.W.nsIn K mainGlobals "_law_refused" = some (some (.ref f26)))
    (l26 : K.lookup f26 = some ⟨oc26, od26, .func (PySem.W.fnOf "_law_refused" "_law_refused" (defArgs sRef) (defBody sRef) (defScope sRef) .none kV26 dc26 pm26 an26 cd26 ct26), sl26⟩)
    (c26 : PySem.W.codeIn K cd26 "_law_refused" = true)
    (k26 : PySem.W.keepIn K (.ref f26) = true)
    (a27 : PySem.W.nsIn K mainGlobals "_law_written" = some (some (.ref f27)))
    (l27 : K.lookup f27 = some ⟨oc27, od27, .func (PySem.W.fnOf "_law_written" "_law_written" (defArgs sWr) (defBody sWr) (defScope sWr) .none kV27 dc27 pm27 an27 cd27 ct27), sl27⟩)
    (c27 : PySem.W.codeIn K cd27 "_law_written" = true)
    (k27 : PySem.W.keepIn K (.ref f27) = true)
    (a28 : PySem.W.nsIn K mainGlobals "_law_in" = some (some (.ref f28)))
    (l28 : K.lookup f28 = some ⟨oc28, od28, .func (PySem.W.fnOf "_law_in" "_law_in" (defArgs sIn) (defBody sIn) (defScope sIn) .none kV28 dc28 pm28 an28 cd28 ct28), sl28⟩)
    (c28 : PySem.W.codeIn K cd28 "_law_in" = true)
    (k28 : PySem.W.keepIn K (.ref f28) = true)
    (a29 : PySem.W.nsIn K mainGlobals "law" = some (some (.ref f29)))
    (l29 : K.lookup f29 = some ⟨oc29, od29, .func (PySem.W.fnOf "law" "law" (defArgs sLaw) (defBody sLaw) (defScope sLaw) .none kV29 dc29 pm29 an29 cd29 ct29), sl29⟩)
    (c29 : PySem.W.codeIn K cd29 "law" = true)
    (k29 : PySem.W.keepIn K (.ref f29) = true)
    (nRC : PySem.W.nsIn K mainGlobals "Reader" = some (some (.ref RC)))
    (nFE : PySem.W.nsIn K mainGlobals "FindError" = some (some (.ref FE)))
    (nNF : PySem.W.nsIn K mainGlobals "NoField" = some (some (.ref NF)))
    (nNM : PySem.W.nsIn K mainGlobals "NoMake" = some (some (.ref NM)))
    (nNB : PySem.W.nsIn K mainGlobals "NoBytes" = some (some (.ref NB)))
    (nND : PySem.W.nsIn K mainGlobals "NoDocument" = some (some (.ref ND)))
    (nNS : PySem.W.nsIn K mainGlobals "NoStamp" = some (some (.ref NS)))
    (nNQ : PySem.W.nsIn K mainGlobals "NoPiece" = some (some (.ref NQ)))
    (nNP : PySem.W.nsIn K mainGlobals "NoPattern" = some (some (.ref NP)))
    (nNL : PySem.W.nsIn K mainGlobals "NoLine" = some (some (.ref NL)))
    (nNT : PySem.W.nsIn K mainGlobals "NoText" = some (some (.ref NT)))
    (isRI : PySem.W.findIn K (.ref RC) "__init__" = some (some (.ref fsRI)))
    (jsRI : PySem.W.isFn K (.ref fsRI) = true)
    (lsRI : K.lookup fsRI = some ⟨ocsRI, odsRI, .func (PySem.W.fnOf "__init__" "Reader.__init__" (defArgs sRI) (defBody sRI) (defScope sRI) .none kVsRI dcsRI pmsRI ansRI cdsRI ctsRI), slsRI⟩)
    (csRI : PySem.W.codeIn K cdsRI "Reader.__init__" = true)
    (ksRI : PySem.W.keepIn K (.ref fsRI) = true)
    (isByte : PySem.W.findIn K (.ref RC) "next_byte" = some (some (.ref fsByte)))
    (jsByte : PySem.W.isFn K (.ref fsByte) = true)
    (lsByte : K.lookup fsByte = some ⟨ocsByte, odsByte, .func (PySem.W.fnOf "next_byte" "Reader.next_byte" (defArgs sByte) (defBody sByte) (defScope sByte) .none kVsByte dcsByte pmsByte ansByte cdsByte ctsByte), slsByte⟩)
    (csByte : PySem.W.codeIn K cdsByte "Reader.next_byte" = true)
    (ksByte : PySem.W.keepIn K (.ref fsByte) = true)
    (isNum : PySem.W.findIn K (.ref RC) "next_number" = some (some (.ref fsNum)))
    (jsNum : PySem.W.isFn K (.ref fsNum) = true)
    (lsNum : K.lookup fsNum = some ⟨ocsNum, odsNum, .func (PySem.W.fnOf "next_number" "Reader.next_number" (defArgs sNum) (defBody sNum) (defScope sNum) .none kVsNum dcsNum pmsNum ansNum cdsNum ctsNum), slsNum⟩)
    (csNum : PySem.W.codeIn K cdsNum "Reader.next_number" = true)
    (ksNum : PySem.W.keepIn K (.ref fsNum) = true)
    (isBeh : PySem.W.findIn K (.ref RC) "next_behind" = some (some (.ref fsBeh)))
    (jsBeh : PySem.W.isFn K (.ref fsBeh) = true)
    (lsBeh : K.lookup fsBeh = some ⟨ocsBeh, odsBeh, .func (PySem.W.fnOf "next_behind" "Reader.next_behind" (defArgs sBeh) (defBody sBeh) (defScope sBeh) .none kVsBeh dcsBeh pmsBeh ansBeh cdsBeh ctsBeh), slsBeh⟩)
    (csBeh : PySem.W.codeIn K cdsBeh "Reader.next_behind" = true)
    (ksBeh : PySem.W.keepIn K (.ref fsBeh) = true)
    (isRis : PySem.W.findIn K (.ref RC) "next_rising" = some (some (.ref fsRis)))
    (jsRis : PySem.W.isFn K (.ref fsRis) = true)
    (lsRis : K.lookup fsRis = some ⟨ocsRis, odsRis, .func (PySem.W.fnOf "next_rising" "Reader.next_rising" (defArgs sRis) (defBody sRis) (defScope sRis) .none kVsRis dcsRis pmsRis ansRis cdsRis ctsRis), slsRis⟩)
    (csRis : PySem.W.codeIn K cdsRis "Reader.next_rising" = true)
    (ksRis : PySem.W.keepIn K (.ref fsRis) = true)
    (isNP : PySem.W.findIn K (.ref RC) "next_postings" = some (some (.ref fsNP)))
    (jsNP : PySem.W.isFn K (.ref fsNP) = true)
    (lsNP : K.lookup fsNP = some ⟨ocsNP, odsNP, .func (PySem.W.fnOf "next_postings" "Reader.next_postings" (defArgs sNP) (defBody sNP) (defScope sNP) .none kVsNP dcsNP pmsNP ansNP cdsNP ctsNP), slsNP⟩)
    (csNP : PySem.W.codeIn K cdsNP "Reader.next_postings" = true)
    (ksNP : PySem.W.keepIn K (.ref fsNP) = true)
    (isNT : PySem.W.findIn K (.ref RC) "next_text" = some (some (.ref fsNT)))
    (jsNT : PySem.W.isFn K (.ref fsNT) = true)
    (lsNT : K.lookup fsNT = some ⟨ocsNT, odsNT, .func (PySem.W.fnOf "next_text" "Reader.next_text" (defArgs sNT) (defBody sNT) (defScope sNT) .none kVsNT dcsNT pmsNT ansNT cdsNT ctsNT), slsNT⟩)
    (csNT : PySem.W.codeIn K cdsNT "Reader.next_text" = true)
    (ksNT : PySem.W.keepIn K (.ref fsNT) = true)
    (isEnd : PySem.W.findIn K (.ref RC) "look_at_end" = some (some (.ref fsEnd)))
    (jsEnd : PySem.W.isFn K (.ref fsEnd) = true)
    (lsEnd : K.lookup fsEnd = some ⟨ocsEnd, odsEnd, .func (PySem.W.fnOf "look_at_end" "Reader.look_at_end" (defArgs sEnd) (defBody sEnd) (defScope sEnd) .none kVsEnd dcsEnd pmsEnd ansEnd cdsEnd ctsEnd), slsEnd⟩)
    (csEnd : PySem.W.codeIn K cdsEnd "Reader.look_at_end" = true)
    (ksEnd : PySem.W.keepIn K (.ref fsEnd) = true)
    (p1 : PySem.W.plainGet K RC Str.empty = true)
    (p2 : PySem.W.hasDictIn K RC = true)
    (p3 : PySem.W.plainOver K RC = true)
    (p4 : PySem.W.findIn K (.ref RC) "__setattr__" = some (some (.builtin "object.__setattr__")))
    (p5 : PySem.W.makesIn K RC = true)
    (p6 : PySem.W.keepIn K (.ref RC) = true)
    (q0 : PySem.W.findIn K (.ref RC) "row" = some none)
    (q1 : PySem.W.findIn K (.ref RC) "at" = some none)
    (eE : K.lookup FE = some ⟨.type "type", ddE, .cls cdE, slE⟩)
    (eN : cdE.ns = NsA)
    (eL : K.lookup NsA = some ⟨c1E, d1E, .dict esE nE, sl1E⟩)
    (eK : strKeys esE = true)
    (eI : nsFind esE "__init__" = none)
    (bE : PySem.W.mroIn K FE (.type "BaseException") = some true)
    (x1 : K.lookup NB = some oNB)
    (x2 : ∃ (nm qn : Str) (bs : List Value) (sn : List Str) (sub : List Value) (ab : Bool) (col : Option Bool) (dd : Option Addr) (k0 k1 k2 k3 k5 : Option Value), oNB = excClassObj nm qn NB NN bs (.ref FE :: bmV) true sn sub ab col dd k0 k1 k2 k3 k5 "ValueError.__new__")
    (x3 : K.lookup NN = some ⟨c1N, d1N, .dict esN nN, sl1N⟩)
    (x4 : strKeys esN = true)
    (x6 : nsFind esN "__init__" = none)
    (x5 : PySem.W.mroIn K NB (.ref FE) = some true)
    (x7 : PySem.W.keepIn K (.ref NB) = true)
    (h1 : PySem.W.findIn K (.ref NB) "__getattribute__" = some (some (.builtin "BaseException.__getattribute__")))
    (h2 : PySem.W.findIn K (.ref NB) "__getattr__" = some none)
    (h3 : PySem.W.mroIn K NB (.type "BaseException") = some true)
    (h4 : PySem.W.mroIn K NB (.type "object") = some true)
    (h5 : PySem.W.hasDictIn K NB = true)
    (h6 : PySem.W.findIn K (.ref NB) "__class__" = some (some (.builtin "object.__class__")))
    (h7 : PySem.W.specialIn K (.builtin "object.__class__") "__get__" = some (some (.builtin "getset_descriptor.__get__")))
    (h8 : PySem.W.takesIn K (.builtin "object.__class__") = some true)
    (vNF : PySem.W.kitOne K (.type "NoneType") (.ref NF) = some false)
    (wNF : PySem.W.kitOne K (.ref NB) (.ref NF) = some false)
    (vNM : PySem.W.kitOne K (.type "NoneType") (.ref NM) = some false)
    (wNM : PySem.W.kitOne K (.ref NB) (.ref NM) = some false)
    (vNB : PySem.W.kitOne K (.type "NoneType") (.ref NB) = some false)
    (wNB : PySem.W.kitOne K (.ref NB) (.ref NB) = some true)
    (vND : PySem.W.kitOne K (.type "NoneType") (.ref ND) = some false)
    (wND : PySem.W.kitOne K (.ref NB) (.ref ND) = some false)
    (vNS : PySem.W.kitOne K (.type "NoneType") (.ref NS) = some false)
    (wNS : PySem.W.kitOne K (.ref NB) (.ref NS) = some false)
    (vNQ : PySem.W.kitOne K (.type "NoneType") (.ref NQ) = some false)
    (wNQ : PySem.W.kitOne K (.ref NB) (.ref NQ) = some false)
    (vNP : PySem.W.kitOne K (.type "NoneType") (.ref NP) = some false)
    (wNP : PySem.W.kitOne K (.ref NB) (.ref NP) = some false)
    (vNL : PySem.W.kitOne K (.type "NoneType") (.ref NL) = some false)
    (wNL : PySem.W.kitOne K (.ref NB) (.ref NL) = some false)
    (vNT : PySem.W.kitOne K (.type "NoneType") (.ref NT) = some false)
    (wNT : PySem.W.kitOne K (.ref NB) (.ref NT) = some false)
    (vVE : PySem.W.kitOne K (.type "NoneType") (.type "ValueError") = some false)
    (wVE : PySem.W.kitOne K (.ref NB) (.type "ValueError") = some true)
    (s1 : PySem.W.nsIn K mainGlobals "BYTE_PART" = some (some (.int 128 tk1)))
    (s2 : PySem.W.nsIn K mainGlobals "LAST_BYTE" = some (some (.int 255 tk2)))
    (s3 : PySem.W.nsIn K mainGlobals "FIRST_SIGN" = some (some (.int 32 tk3)))
    (s4 : PySem.W.nsIn K mainGlobals "LAST_SIGN" = some (some (.int 126 tk4)))
    (s5 : PySem.W.nsIn K mainGlobals "NO_SIGN" = some (some (.int 37 tk5)))
    (s6 : PySem.W.nsIn K mainGlobals "SIGNS" = some (some (.str cSIGNS tk6)))
    (z1 : PySem.W.nsIn K mainGlobals "len" = some none)
    (z2 : PySem.W.nsIn K mainGlobals "range" = some none)
    (z3 : PySem.W.nsIn K mainGlobals "isinstance" = some none)
    (z4 : PySem.W.nsIn K mainGlobals "str" = some none)
    (z5 : PySem.W.nsIn K mainGlobals "int" = some none)
    (z6 : PySem.W.nsIn K mainGlobals "bool" = some none)
    (z7 : PySem.W.nsIn K mainGlobals "list" = some none)
    (z8 : PySem.W.nsIn K mainGlobals "tuple" = some none)
    (z9 : PySem.W.nsIn K mainGlobals "ord" = some none)
    (z10 : PySem.W.nsIn K mainGlobals "max" = some none)
    (z11 : PySem.W.nsIn K mainGlobals "sum" = some none)
    (z12 : PySem.W.nsIn K mainGlobals "ValueError" = some none)
    : ∃ fd : FuncData, (∀ (s : Shared) (v : Value), BindsTo s fd ⟨[v], []⟩ [("_law_script", v)]) ∧ ∀ base : Heap, K.In base → base.Ns mainGlobals mg → FnOk l.prog w K mg base CX0 9 fa fd ["_law_script"] (spLaw K) := by
  have e := hfa.symm.trans (PySem.W.mg_of X G a29)
  cases e
  have t1 := PySem.W.mg_none_of X G z1
  have t2 := PySem.W.mg_none_of X G z2
  have t3 := PySem.W.mg_none_of X G z3
  have t4 := PySem.W.mg_none_of X G z4
  have t5 := PySem.W.mg_none_of X G z5
  have t6 := PySem.W.mg_none_of X G z6
  have t7 := PySem.W.mg_none_of X G z7
  have t8 := PySem.W.mg_none_of X G z8
  have t9 := PySem.W.mg_none_of X G z9
  have t10 := PySem.W.mg_none_of X G z10
  have t11 := PySem.W.mg_none_of X G z11
  have t12 := PySem.W.mg_none_of X G z12
  have u1 := PySem.W.mg_of X G s1
  have u2 := PySem.W.mg_of X G s2
  have u3 := PySem.W.mg_of X G s3
  have u4 := PySem.W.mg_of X G s4
  have u5 := PySem.W.mg_of X G s5
  have u6 := PySem.W.mg_of X G s6
  have mRC := PySem.W.mg_of X G nRC
  have mFE := PySem.W.mg_of X G nFE
  have mNF := PySem.W.mg_of X G nNF
  have mNM := PySem.W.mg_of X G nNM
  have mNB := PySem.W.mg_of X G nNB
  have mND := PySem.W.mg_of X G nND
  have mNS := PySem.W.mg_of X G nNS
  have mNQ := PySem.W.mg_of X G nNQ
  have mNP := PySem.W.mg_of X G nNP
  have mNL := PySem.W.mg_of X G nNL
  have mNT := PySem.W.mg_of X G nNT
  have T : Txt mg := { len := t1, range := t2, isinstance := t3, str := t4, int := t5, bool := t6, list := t7, tuple := t8, ord := t9, max := t10, sum := t11, valueError := t12, part := ⟨_, u1⟩, last := ⟨_, u2⟩, first := ⟨_, u3⟩, lastS := ⟨_, u4⟩, noS := ⟨_, u5⟩, signs := ⟨_, u6⟩ }
  have F1 := fun_mk (st := sNB) l1 c1 k1
  have m1 := PySem.W.mg_of X G a1
  have b1 := F1.binds (ps := ["number"]) fun _ _ _ _ _ _ us hl => match us, hl with | [_], _ => rfl
  have F2 := fun_mk (st := sRB) l2 c2 k2
  have m2 := PySem.W.mg_of X G a2
  have b2 := F2.binds (ps := ["numbers"]) fun _ _ _ _ _ _ us hl => match us, hl with | [_], _ => rfl
  have F3 := fun_mk (st := sPB) l3 c3 k3
  have m3 := PySem.W.mg_of X G a3
  have b3 := F3.binds (ps := ["postings"]) fun _ _ _ _ _ _ us hl => match us, hl with | [_], _ => rfl
  have F4 := fun_mk (st := sTB) l4 c4 k4
  have m4 := PySem.W.mg_of X G a4
  have b4 := F4.binds (ps := ["text"]) fun _ _ _ _ _ _ us hl => match us, hl with | [_], _ => rfl
  have F5 := fun_mk (st := sSg) l5 c5 k5
  have m5 := PySem.W.mg_of X G a5
  have b5 := F5.binds (ps := ["byte"]) fun _ _ _ _ _ _ us hl => match us, hl with | [_], _ => rfl
  have F6 := fun_mk (st := sRN) l6 c6 k6
  have m6 := PySem.W.mg_of X G a6
  have b6 := F6.binds (ps := ["row"]) fun _ _ _ _ _ _ us hl => match us, hl with | [_], _ => rfl
  have F7 := fun_mk (st := sRP) l7 c7 k7
  have m7 := PySem.W.mg_of X G a7
  have b7 := F7.binds (ps := ["row"]) fun _ _ _ _ _ _ us hl => match us, hl with | [_], _ => rfl
  have F8 := fun_mk (st := sRT) l8 c8 k8
  have m8 := PySem.W.mg_of X G a8
  have b8 := F8.binds (ps := ["row"]) fun _ _ _ _ _ _ us hl => match us, hl with | [_], _ => rfl
  have F9 := fun_mk (st := sDraws) l9 c9 k9
  have m9 := PySem.W.mg_of X G a9
  have b9 := F9.binds (ps := ["_law_script", "_law_turn", "_law_many"]) fun _ _ _ _ _ _ us hl => match us, hl with | [_, _, _], _ => rfl
  have F10 := fun_mk (st := sPop) l10 c10 k10
  have m10 := PySem.W.mg_of X G a10
  have b10 := F10.binds (ps := ["_law_draws_here"]) fun _ _ _ _ _ _ us hl => match us, hl with | [_], _ => rfl
  have F11 := fun_mk (st := sAlike) l11 c11 k11
  have m11 := PySem.W.mg_of X G a11
  have b11 := F11.binds (ps := ["_law_found", "_law_due"]) fun _ _ _ _ _ _ us hl => match us, hl with | [_, _], _ => rfl
  have F12 := fun_mk (st := sSigns) l12 c12 k12
  have m12 := PySem.W.mg_of X G a12
  have b12 := F12.binds (ps := []) fun _ _ _ _ _ _ us hl => match us, hl with | [], _ => rfl
  have F13 := fun_mk (st := sText) l13 c13 k13
  have m13 := PySem.W.mg_of X G a13
  have b13 := F13.binds (ps := ["_law_draws_here", "_law_most"]) fun _ _ _ _ _ _ us hl => match us, hl with | [_, _], _ => rfl
  have F14 := fun_mk (st := sLNB) l14 c14 k14
  have m14 := PySem.W.mg_of X G a14
  have b14 := F14.binds (ps := ["_law_number_here"]) fun _ _ _ _ _ _ us hl => match us, hl with | [_], _ => rfl
  have F15 := fun_mk (st := sLN) l15 c15 k15
  have m15 := PySem.W.mg_of X G a15
  have b15 := F15.binds (ps := ["_law_script", "_law_draws_here"]) fun _ _ _ _ _ _ us hl => match us, hl with | [_, _], _ => rfl
  have F16 := fun_mk (st := sLP) l16 c16 k16
  have m16 := PySem.W.mg_of X G a16
  have b16 := F16.binds (ps := ["_law_script", "_law_draws_here"]) fun _ _ _ _ _ _ us hl => match us, hl with | [_, _], _ => rfl
  have F17 := fun_mk (st := sLPB) l17 c17 k17
  have m17 := PySem.W.mg_of X G a17
  have b17 := F17.binds (ps := ["_law_postings_here"]) fun _ _ _ _ _ _ us hl => match us, hl with | [_], _ => rfl
  have F18 := fun_mk (st := sLTB) l18 c18 k18
  have m18 := PySem.W.mg_of X G a18
  have b18 := F18.binds (ps := ["_law_text_here"]) fun _ _ _ _ _ _ us hl => match us, hl with | [_], _ => rfl
  have F19 := fun_mk (st := sNI) l19 c19 k19
  have m19 := PySem.W.mg_of X G a19
  have b19 := F19.binds (ps := ["_law_row", "_law_at"]) fun _ _ _ _ _ _ us hl => match us, hl with | [_, _], _ => rfl
  have F20 := fun_mk (st := sRiI) l20 c20 k20
  have m20 := PySem.W.mg_of X G a20
  have b20 := F20.binds (ps := ["_law_row", "_law_at", "_law_many"]) fun _ _ _ _ _ _ us hl => match us, hl with | [_, _, _], _ => rfl
  have F21 := fun_mk (st := sTI) l21 c21 k21
  have m21 := PySem.W.mg_of X G a21
  have b21 := F21.binds (ps := ["_law_row", "_law_at"]) fun _ _ _ _ _ _ us hl => match us, hl with | [_, _], _ => rfl
  have F22 := fun_mk (st := sPI) l22 c22 k22
  have m22 := PySem.W.mg_of X G a22
  have b22 := F22.binds (ps := ["_law_row", "_law_at"]) fun _ _ _ _ _ _ us hl => match us, hl with | [_, _], _ => rfl
  have F23 := fun_mk (st := sBe) l23 c23 k23
  have m23 := PySem.W.mg_of X G a23
  have b23 := F23.binds (ps := ["_law_row", "_law_draws_here"]) fun _ _ _ _ _ _ us hl => match us, hl with | [_, _], _ => rfl
  have F24 := fun_mk (st := sKind) l24 c24 k24
  have m24 := PySem.W.mg_of X G a24
  have b24 := F24.binds (ps := ["_law_error"]) fun _ _ _ _ _ _ us hl => match us, hl with | [_], _ => rfl
  have F25 := fun_mk (st := sRd) l25 c25 k25
  have m25 := PySem.W.mg_of X G a25
  have b25 := F25.binds (ps := ["_law_row", "_law_kind_here"]) fun _ _ _ _ _ _ us hl => match us, hl with | [_, _], _ => rfl
  have F26 := fun_mk (st := sRef) l26 c26 k26
  have m26 := PySem.W.mg_of X G a26
  have b26 := F26.binds (ps := ["_law_row", "_law_kind_here"]) fun _ _ _ _ _ _ us hl => match us, hl with | [_, _], _ => rfl
  have F27 := fun_mk (st := sWr) l27 c27 k27
  have m27 := PySem.W.mg_of X G a27
  have b27 := F27.binds (ps := ["_law_told", "_law_kind_here"]) fun _ _ _ _ _ _ us hl => match us, hl with | [_, _], _ => rfl
  have F28 := fun_mk (st := sIn) l28 c28 k28
  have m28 := PySem.W.mg_of X G a28
  have b28 := F28.binds (ps := ["_law_row", "_law_kind_here"]) fun _ _ _ _ _ _ us hl => match us, hl with | [_, _], _ => rfl
  have F29 := fun_mk (st := sLaw) l29 c29 k29
  have m29 := PySem.W.mg_of X G a29
  have FsRI := fun_mk (st := sRI) lsRI csRI ksRI
  have bsRI := FsRI.binds (ps := ["self", "row"]) fun _ _ _ _ _ _ us hl => match us, hl with | [_, _], _ => rfl
  have FsByte := fun_mk (st := sByte) lsByte csByte ksByte
  have bsByte := FsByte.binds (ps := ["self"]) fun _ _ _ _ _ _ us hl => match us, hl with | [_], _ => rfl
  have FsNum := fun_mk (st := sNum) lsNum csNum ksNum
  have bsNum := FsNum.binds (ps := ["self"]) fun _ _ _ _ _ _ us hl => match us, hl with | [_], _ => rfl
  have FsBeh := fun_mk (st := sBeh) lsBeh csBeh ksBeh
  have bsBeh := FsBeh.binds (ps := ["self", "numbers"]) fun _ _ _ _ _ _ us hl => match us, hl with | [_, _], _ => rfl
  have FsRis := fun_mk (st := sRis) lsRis csRis ksRis
  have bsRis := FsRis.binds (ps := ["self"]) fun _ _ _ _ _ _ us hl => match us, hl with | [_], _ => rfl
  have FsNP := fun_mk (st := sNP) lsNP csNP ksNP
  have bsNP := FsNP.binds (ps := ["self"]) fun _ _ _ _ _ _ us hl => match us, hl with | [_], _ => rfl
  have FsNT := fun_mk (st := sNT) lsNT csNT ksNT
  have bsNT := FsNT.binds (ps := ["self"]) fun _ _ _ _ _ _ us hl => match us, hl with | [_], _ => rfl
  have FsEnd := fun_mk (st := sEnd) lsEnd csEnd ksEnd
  have bsEnd := FsEnd.binds (ps := ["self"]) fun _ _ _ _ _ _ us hl => match us, hl with | [_], _ => rfl
  have cl : Cls K RC := ⟨p1, p2, p3, p4⟩
  have xc : XCls0 K NB FE := ⟨by obtain ⟨nm, qn, bs, sn, sub, ab, col, dd, k0, k1, k2, k3, k5, e⟩ := x2; exact ⟨nm, qn, NN, bs, sn, sub, ab, col, dd, k0, k1, k2, k3, k5, _, _, _, _, _, by rw [x1, e], x3, x4, x6⟩, ⟨_, _, _, _, _, _, _, _, _, eE, by rw [eN]; exact eL, eK, eI⟩⟩
  have xa : XAttr K NB := ⟨h1, h2, h3, h4, h5, h6, h7, h8⟩
  have i0 : XIs K NF NM NB ND NS NQ NP NL NT (.type "NoneType") false := ⟨vNF, vNM, vNB, vND, vNS, vNQ, vNP, vNL, vNT, vVE⟩
  have i1 : XIs K NF NM NB ND NS NQ NP NL NT (.ref NB) true := ⟨wNF, wNM, wNB, wND, wNS, wNQ, wNP, wNL, wNT, wVE⟩
  refine ⟨PySem.W.fnOf "law" "law" (defArgs sLaw) (defBody sLaw) (defScope sLaw) .none kV29 dc29 pm29 an29 cd29 ct29, fun s v => .of_eq rfl, fun base _ _ => ?_⟩
  have oNB := ok_nb F1 T (P := l.prog) (w := w) (base := base)
  have oRB := ok_rb F2 T oNB b1 k1 m1
  have oPB := ok_pb F3 T oNB b1 k1 m1 oRB b2 k2 m2
  have oTB := ok_tb F4 T oNB b1 k1 m1
  have oB := ok_byte FsByte T cl q0 q1 xc x7 mNB (P := l.prog) (w := w) (base := base)
  have oN := ok_num FsNum T cl xc x7 mNB oB bsByte ⟨isByte, jsByte, ksByte⟩
  have oE := ok_end FsEnd T cl q0 q1 xc x7 mNB (P := l.prog) (w := w) (base := base)
  have oI := ok_rinit FsRI cl q0 q1 (P := l.prog) (w := w) (base := base) (mg := mg)
  have oH := ok_beh FsBeh T cl xc x7 mNB oN bsNum ⟨isNum, jsNum, ksNum⟩
  have oR := ok_ris FsRis T cl oN bsNum ⟨isNum, jsNum, ksNum⟩ oH bsBeh ⟨isBeh, jsBeh, ksBeh⟩
  have oP := ok_np FsNP T cl xc x7 mNB oN bsNum ⟨isNum, jsNum, ksNum⟩ oH bsBeh ⟨isBeh, jsBeh, ksBeh⟩ oR bsRis ⟨isRis, jsRis, ksRis⟩
  have oT := ok_nt FsNT T cl oN bsNum ⟨isNum, jsNum, ksNum⟩ oB bsByte ⟨isByte, jsByte, ksByte⟩ (ok_sg F5 T xc x7 mNB) b5 k5 m5
  have oRN := ok_rn F6 T cl oI bsRI ⟨p5, isRI, jsRI, p6⟩ mRC oN bsNum ⟨isNum, jsNum, ksNum⟩ oE bsEnd ⟨isEnd, jsEnd, ksEnd⟩
  have oRT := ok_rt F8 T cl oI bsRI ⟨p5, isRI, jsRI, p6⟩ mRC oT bsNT ⟨isNT, jsNT, ksNT⟩ oE bsEnd ⟨isEnd, jsEnd, ksEnd⟩
  have oRP := ok_rp F7 T cl oI bsRI ⟨p5, isRI, jsRI, p6⟩ mRC oP bsNP ⟨isNP, jsNP, ksNP⟩ oE bsEnd ⟨isEnd, jsEnd, ksEnd⟩
  have oK := ok_kind F24 T ⟨mFE, mNF, mNM, mNB, mND, mNS, mNQ, mNP, mNL, mNT⟩ i0 i1 xa (P := l.prog) (w := w) (base := base)
  have oRd := ok_rd F25 T oRN b6 k6 m6 oRT b8 k8 m8 oRP b7 k7 m7
  have oRe := ok_ref F26 T mFE ⟨⟨_, _, _, eE⟩, bE⟩ x5 oRd b25 k25 m25 oK b24 k24 m24
  have oPop := ok_pop F10 (P := l.prog) (w := w) (base := base) (mg := mg)
  have oG := ok_signs F12 (P := l.prog) (w := w) (base := base) (mg := mg)
  have oL := ok_lnb F14 T (P := l.prog) (w := w) (base := base)
  have oNI := ok_ni F19 T (P := l.prog) (w := w) (base := base)
  have oRI := ok_rii F20 T oNI b19 k19 m19
  have oTI := ok_ti F21 T oNI b19 k19 m19 oG b12 k12 m12
  have oPI := ok_pi F22 T oNI b19 k19 m19 oRI b20 k20 m20
  have oIn := ok_in F28 T oNI b19 k19 m19 oTI b21 k21 m21 oPI b22 k22 m22
  have oWr := ok_wr F27 T oNB b1 k1 m1 oTB b4 k4 m4 oPB b3 k3 m3
  exact ok_law F29 T (ok_draws F9 T) b9 k9 m9 oPop b10 k10 m10 (ok_lnum F15 T oPop b10 k10 m10) b15 k15 m15 oL b14 k14 m14 (ok_text F13 T oPop b10 k10 m10 oG b12 k12 m12) b13 k13 m13 (ok_ltb F18 T oL b14 k14 m14 oG b12 k12 m12) b18 k18 m18 (ok_lpo F16 T oPop b10 k10 m10) b16 k16 m16 (ok_lpb F17 T oL b14 k14 m14) b17 k17 m17 (ok_be F23 T oPop b10 k10 m10) b23 k23 m23 oIn b28 k28 m28 oRe b26 k26 m26 (rd_calm oRd) b25 k25 m25 (alikes F11 T b11 k11 m11 5) b11 k11 m11 oWr b27 k27 m27
theorem walk {l : PySem.W.OpenLaw} {q : Program} {loose : List Str} {XP : (Str → Option Value) → Heap → Prop} {YP : World → Heap → Prop} {d : DefRec} {K : Params → PySem.W.Frag} (hn : l.most = some 63) (hdf : d.params.defaults = [])
    (hY : ∀ (w : World) (h : Heap), YP w h → (K w.params).In h)
    (F : ∀ (w : World) (mg : Str → Option Value) (fa : Addr) (h : Heap), (K w.params).In h → h.Ns mainGlobals mg → mg d.name = some (.ref fa) →
      ∃ fd : FuncData, (∀ (s : Shared) (u : Value), BindsTo s fd ⟨[u], []⟩ [("_law_script", u)]) ∧ ∀ base : Heap, (K w.params).In base → base.Ns mainGlobals mg → FnOk l.prog w (K w.params) mg base CX0 9 fa fd ["_law_script"] (spLaw (K w.params))) :
    PySem.W.WalkO q loose XP YP l.row.toRowW d [] (fun f vs => PySem.call f vs) :=
  L2.walk_of (n := 63) (k := 9) (x := "_law_script") (CX := fun _ => CX0) (sp := fun w => spLaw (K w.params)) hn (by decide) hdf ⟨rfl, by decide, by decide⟩ hY F (fun _ _ a ns hl _ hS => ⟨a, ns, rfl, hS, hl, fun _ => rfl⟩) fun _ _ _ _ _ z => z
end K13
open PySem PySem.W PyProof.Rows
def PySem.W.Fast.tw12683621195862578258 : Nat := 0
def PySem.W.Fast.tw5372447860270487610 : Nat := 0
def PySem.W.Fast.tw12762023366843247597 : Nat := 0
def PySem.W.Fast.tw11511155708855720370 : Nat := 0
def PySem.W.Fast.tw666952406784681663 : Nat := 0
def PySem.W.Fast.tw4268293219096574797 : Nat := 0
def PySem.W.Fast.tw12531861871702180377 : Nat := 0
def PySem.W.Fast.tw5827964744054692718 : Nat := 0
def PySem.W.Fast.tw215510721845124850 : Nat := 0
def PySem.W.Fast.tw8791890559349510405 : Nat := 0
def PySem.W.Fast.tw448485156911461007 : Nat := 0
def PySem.W.Fast.tw3324265208650475688 : Nat := 0
def PySem.W.Fast.tw10654566445956614265 : Nat := 0
def PySem.W.Fast.tw6817893512645420603 : Nat := 0
def PySem.W.Fast.tw14044526703207599483 : Nat := 0
def PySem.W.Fast.tw682812304823317819 : Nat := 0
def PySem.W.Fast.tw12160339235927796738 : Nat := 0
def PySem.W.Fast.tw15619476458287988310 : Nat := 0
def PySem.W.Fast.tw268329839902279301 : Nat := 0
def PySem.W.Fast.tw950098630614045087 : Nat := 0
def PySem.W.Fast.tw1278310673794578290 : Nat := 0
def PySem.W.Fast.tw15259754826489631071 : Nat := 0
def PySem.W.Fast.tw8237834636399090208 : Nat := 0
def PySem.W.Fast.tw10330522670794937319 : Nat := 0
def PySem.W.Fast.tw3243895553847277606 : Nat := 0
def PySem.W.Fast.tw14615141598977719625 : Nat := 0
def PySem.W.Fast.tw13467881245088183581 : Nat := 0
def PySem.W.Fast.tw8576586277261310275 : Nat := 0
def PySem.W.Fast.tw12516607940279545612 : Nat := 0
def PySem.W.Fast.tw9108723574489059976 : Nat := 0
def PySem.W.Fast.tw4074776310034883508 : Nat := 0
def PySem.W.Fast.tw17905122473525052797 : Nat := 0
def PySem.W.Fast.tw7975406188372557947 : Nat := 0
def PySem.W.Fast.tw10637688093623363799 : Nat := 0
set_option maxRecDepth 100000 in
set_option maxHeartbeats 0 in
theorem PySem.Challenge.cw_findcourt_k13_rows_of_bytes_looked_at_holds : PySem.Challenge.rw_findcourt_k13_rows_of_bytes_looked_at.Holds := by
  w_on; o_law; k_head; (case hw => w_witness2)
  k_fill
  refine K13.walk (l := PySem.Challenge.rw_findcourt_k13_rows_of_bytes_looked_at) rfl rfl (fun w h Y => PySem.W.kIn_of Y) ?F
  case F =>
    intro w mg fa h KX G hmg
    refine' K13.all_mk (tk0 := 0) KX G hmg ?a1 ?l1 ?c1 ?k1 ?a2 ?l2 ?c2 ?k2 ?a3 ?l3 ?c3 ?k3 ?a4 ?l4 ?c4 ?k4 ?a5 ?l5 ?c5 ?k5 ?a6 ?l6 ?c6 ?k6 ?a7 ?l7 ?c7 ?k7 ?a8 ?l8 ?c8 ?k8 ?a9 ?l9 ?c9 ?k9 ?a10 ?l10 ?c10 ?k10 ?a11 ?l11 ?c11 ?k11 ?a12 ?l12 ?c12 ?k12 ?a13 ?l13 ?c13 ?k13 ?a14 ?l14 ?c14 ?k14 ?a15 ?l15 ?c15 ?k15 ?a16 ?l16 ?c16 ?k16 ?a17 ?l17 ?c17 ?k17 ?a18 ?l18 ?c18 ?k18 ?a19 ?l19 ?c19 ?k19 ?a20 ?l20 ?c20 ?k20 ?a21 ?l21 ?c21 ?k21 ?a22 ?l22 ?c22 ?k22 ?a23 ?l23 ?c23 ?k23 ?a24 ?l24 ?c24 ?k24 ?a25 ?l25 ?c25 ?k25 ?a26 ?l26 ?c26 ?k26 ?a27 ?l27 ?c27 ?k27 ?a28 ?l28 ?c28 ?k28 ?a29 ?l29 ?c29 ?k29 ?nRC ?nFE ?nNF ?nNM ?nNB ?nND ?nNS ?nNQ ?nNP ?nNL ?nNT ?isRI ?jsRI ?lsRI ?csRI ?ksRI ?isByte ?jsByte ?lsByte ?csByte ?ksByte ?isNum ?jsNum ?lsNum ?csNum ?ksNum ?isBeh ?jsBeh ?lsBeh ?csBeh ?ksBeh ?isRis ?jsRis ?lsRis ?csRis ?ksRis ?isNP ?jsNP ?lsNP ?csNP ?ksNP ?isNT ?jsNT ?lsNT ?csNT ?ksNT ?isEnd ?jsEnd ?lsEnd ?csEnd ?ksEnd ?p1 ?p2 ?p3 ?p4 ?p5 ?p6 ?q0 ?q1 ?eE ?eN ?eL ?eK ?eI ?bE ?x1 ?x2 ?x3 ?x4 ?x6 ?x5 ?x7 ?h1 ?h2 ?h3 ?h4 ?h5 ?h6 ?h7 ?h8 ?vNF ?wNF ?vNM ?wNM ?vNB ?wNB ?vND ?wND ?vNS ?wNS ?vNQ ?wNQ ?vNP ?wNP ?vNL ?wNL ?vNT ?wNT ?vVE ?wVE ?s1 ?s2 ?s3 ?s4 ?s5 ?s6 ?z1 ?z2 ?z3 ?z4 ?z5 ?z6 ?z7 ?z8 ?z9 ?z10 ?z11 ?z12
    (case a1 => first | k_is | kernel_rfl)
    (case l1 => first | k_is | kernel_rfl)
    (case c1 => first | k_is | kernel_rfl)
    (case k1 => first | k_is | kernel_rfl)
    (case a2 => first | k_is | kernel_rfl)
    (case l2 => first | k_is | kernel_rfl)
    (case c2 => first | k_is | kernel_rfl)
    (case k2 => first | k_is | kernel_rfl)
    (case a3 => first | k_is | kernel_rfl)
    (case l3 => first | k_is | kernel_rfl)
    (case c3 => first | k_is | kernel_rfl)
    (case k3 => first | k_is | kernel_rfl)
    (case a4 => first | k_is | kernel_rfl)
    (case l4 => first | k_is | kernel_rfl)
    (case c4 => first | k_is | kernel_rfl)
    (case k4 => first | k_is | kernel_rfl)
    (case a5 => first | k_is | kernel_rfl)
    (case l5 => first | k_is | kernel_rfl)
    (case c5 => first | k_is | kernel_rfl)
    (case k5 => first | k_is | kernel_rfl)
    (case a6 => first | k_is | kernel_rfl)
    (case l6 => first | k_is | kernel_rfl)
    (case c6 => first | k_is | kernel_rfl)
    (case k6 => first | k_is | kernel_rfl)
    (case a7 => first | k_is | kernel_rfl)
    (case l7 => first | k_is | kernel_rfl)
    (case c7 => first | k_is | kernel_rfl)
    (case k7 => first | k_is | kernel_rfl)
    (case a8 => first | k_is | kernel_rfl)
    (case l8 => first | k_is | kernel_rfl)
    (case c8 => first | k_is | kernel_rfl)
    (case k8 => first | k_is | kernel_rfl)
    (case a9 => first | k_is | kernel_rfl)
    (case l9 => first | k_is | kernel_rfl)
    (case c9 => first | k_is | kernel_rfl)
    (case k9 => first | k_is | kernel_rfl)
    (case a10 => first | k_is | kernel_rfl)
    (case l10 => first | k_is | kernel_rfl)
    (case c10 => first | k_is | kernel_rfl)
    (case k10 => first | k_is | kernel_rfl)
    (case a11 => first | k_is | kernel_rfl)
    (case l11 => first | k_is | kernel_rfl)
    (case c11 => first | k_is | kernel_rfl)
    (case k11 => first | k_is | kernel_rfl)
    (case a12 => first | k_is | kernel_rfl)
    (case l12 => first | k_is | kernel_rfl)
    (case c12 => first | k_is | kernel_rfl)
    (case k12 => first | k_is | kernel_rfl)
    (case a13 => first | k_is | kernel_rfl)
    (case l13 => first | k_is | kernel_rfl)
    (case c13 => first | k_is | kernel_rfl)
    (case k13 => first | k_is | kernel_rfl)
    (case a14 => first | k_is | kernel_rfl)
    (case l14 => first | k_is | kernel_rfl)
    (case c14 => first | k_is | kernel_rfl)
    (case k14 => first | k_is | kernel_rfl)
    (case a15 => first | k_is | kernel_rfl)
    (case l15 => first | k_is | kernel_rfl)
    (case c15 => first | k_is | kernel_rfl)
    (case k15 => first | k_is | kernel_rfl)
    (case a16 => first | k_is | kernel_rfl)
    (case l16 => first | k_is | kernel_rfl)
    (case c16 => first | k_is | kernel_rfl)
    (case k16 => first | k_is | kernel_rfl)
    (case a17 => first | k_is | kernel_rfl)
    (case l17 => first | k_is | kernel_rfl)
    (case c17 => first | k_is | kernel_rfl)
    (case k17 => first | k_is | kernel_rfl)
    (case a18 => first | k_is | kernel_rfl)
    (case l18 => first | k_is | kernel_rfl)
    (case c18 => first | k_is | kernel_rfl)
    (case k18 => first | k_is | kernel_rfl)
    (case a19 => first | k_is | kernel_rfl)
    (case l19 => first | k_is | kernel_rfl)
    (case c19 => first | k_is | kernel_rfl)
    (case k19 => first | k_is | kernel_rfl)
    (case a20 => first | k_is | kernel_rfl)
    (case l20 => first | k_is | kernel_rfl)
    (case c20 => first | k_is | kernel_rfl)
    (case k20 => first | k_is | kernel_rfl)
    (case a21 => first | k_is | kernel_rfl)
    (case l21 => first | k_is | kernel_rfl)
    (case c21 => first | k_is | kernel_rfl)
    (case k21 => first | k_is | kernel_rfl)
    (case a22 => first | k_is | kernel_rfl)
    (case l22 => first | k_is | kernel_rfl)
    (case c22 => first | k_is | kernel_rfl)
    (case k22 => first | k_is | kernel_rfl)
    (case a23 => first | k_is | kernel_rfl)
    (case l23 => first | k_is | kernel_rfl)
    (case c23 => first | k_is | kernel_rfl)
    (case k23 => first | k_is | kernel_rfl)
    (case a24 => first | k_is | kernel_rfl)
    (case l24 => first | k_is | kernel_rfl)
    (case c24 => first | k_is | kernel_rfl)
    (case k24 => first | k_is | kernel_rfl)
    (case a25 => first | k_is | kernel_rfl)
    (case l25 => first | k_is | kernel_rfl)
    (case c25 => first | k_is | kernel_rfl)
    (case k25 => first | k_is | kernel_rfl)
    (case a26 => first | k_is | kernel_rfl)
    (case l26 => first | k_is | kernel_rfl)
    (case c26 => first | k_is | kernel_rfl)
    (case k26 => first | k_is | kernel_rfl)
    (case a27 => first | k_is | kernel_rfl)
    (case l27 => first | k_is | kernel_rfl)
    (case c27 => first | k_is | kernel_rfl)
    (case k27 => first | k_is | kernel_rfl)
    (case a28 => first | k_is | kernel_rfl)
    (case l28 => first | k_is | kernel_rfl)
    (case c28 => first | k_is | kernel_rfl)
    (case k28 => first | k_is | kernel_rfl)
    (case a29 => first | k_is | kernel_rfl)
    (case l29 => first | k_is | kernel_rfl)
    (case c29 => first | k_is | kernel_rfl)
    (case k29 => first | k_is | kernel_rfl)
    (case nRC => first | k_is | kernel_rfl)
    (case nFE => first | k_is | kernel_rfl)
    (case nNF => first | k_is | kernel_rfl)
    (case nNM => first | k_is | kernel_rfl)
    (case nNB => first | k_is | kernel_rfl)
    (case nND => first | k_is | kernel_rfl)
    (case nNS => first | k_is | kernel_rfl)
    (case nNQ => first | k_is | kernel_rfl)
    (case nNP => first | k_is | kernel_rfl)
    (case nNL => first | k_is | kernel_rfl)
    (case nNT => first | k_is | kernel_rfl)
    (case isRI => first | k_is | kernel_rfl)
    (case jsRI => first | k_is | kernel_rfl)
    (case lsRI => first | k_is | kernel_rfl)
    (case csRI => first | k_is | kernel_rfl)
    (case ksRI => first | k_is | kernel_rfl)
    (case isByte => first | k_is | kernel_rfl)
    (case jsByte => first | k_is | kernel_rfl)
    (case lsByte => first | k_is | kernel_rfl)
    (case csByte => first | k_is | kernel_rfl)
    (case ksByte => first | k_is | kernel_rfl)
    (case isNum => first | k_is | kernel_rfl)
    (case jsNum => first | k_is | kernel_rfl)
    (case lsNum => first | k_is | kernel_rfl)
    (case csNum => first | k_is | kernel_rfl)
    (case ksNum => first | k_is | kernel_rfl)
    (case isBeh => first | k_is | kernel_rfl)
    (case jsBeh => first | k_is | kernel_rfl)
    (case lsBeh => first | k_is | kernel_rfl)
    (case csBeh => first | k_is | kernel_rfl)
    (case ksBeh => first | k_is | kernel_rfl)
    (case isRis => first | k_is | kernel_rfl)
    (case jsRis => first | k_is | kernel_rfl)
    (case lsRis => first | k_is | kernel_rfl)
    (case csRis => first | k_is | kernel_rfl)
    (case ksRis => first | k_is | kernel_rfl)
    (case isNP => first | k_is | kernel_rfl)
    (case jsNP => first | k_is | kernel_rfl)
    (case lsNP => first | k_is | kernel_rfl)
    (case csNP => first | k_is | kernel_rfl)
    (case ksNP => first | k_is | kernel_rfl)
    (case isNT => first | k_is | kernel_rfl)
    (case jsNT => first | k_is | kernel_rfl)
    (case lsNT => first | k_is | kernel_rfl)
    (case csNT => first | k_is | kernel_rfl)
    (case ksNT => first | k_is | kernel_rfl)
    (case isEnd => first | k_is | kernel_rfl)
    (case jsEnd => first | k_is | kernel_rfl)
    (case lsEnd => first | k_is | kernel_rfl)
    (case csEnd => first | k_is | kernel_rfl)
    (case ksEnd => first | k_is | kernel_rfl)
    (case p1 => first | k_is | kernel_rfl)
    (case p2 => first | k_is | kernel_rfl)
    (case p3 => first | k_is | kernel_rfl)
    (case p4 => first | k_is | kernel_rfl)
    (case p5 => first | k_is | kernel_rfl)
    (case p6 => first | k_is | kernel_rfl)
    (case q0 => first | k_is | kernel_rfl)
    (case q1 => first | k_is | kernel_rfl)
    (case eE => first | k_is | kernel_rfl)
    (case eN => exact rfl)
    (case eL => first | k_is | kernel_rfl)
    (case eK => exact rfl)
    (case eI => exact rfl)
    (case bE => first | k_is | kernel_rfl)
    (case x1 => first | k_is | kernel_rfl)
    (case x2 => exact ⟨_, _, _, _, _, _, _, _, _, _, _, _, _, rfl⟩)
    (case x3 => first | k_is | kernel_rfl)
    (case x4 => exact rfl)
    (case x6 => exact rfl)
    (case x5 => first | k_is | kernel_rfl)
    (case x7 => first | k_is | kernel_rfl)
    (case h1 => first | k_is | kernel_rfl)
    (case h2 => first | k_is | kernel_rfl)
    (case h3 => first | k_is | kernel_rfl)
    (case h4 => first | k_is | kernel_rfl)
    (case h5 => first | k_is | kernel_rfl)
    (case h6 => first | k_is | kernel_rfl)
    (case h7 => first | k_is | kernel_rfl)
    (case h8 => first | k_is | kernel_rfl)
    (case vNF => first | k_is | kernel_rfl)
    (case wNF => first | k_is | kernel_rfl)
    (case vNM => first | k_is | kernel_rfl)
    (case wNM => first | k_is | kernel_rfl)
    (case vNB => first | k_is | kernel_rfl)
    (case wNB => first | k_is | kernel_rfl)
    (case vND => first | k_is | kernel_rfl)
    (case wND => first | k_is | kernel_rfl)
    (case vNS => first | k_is | kernel_rfl)
    (case wNS => first | k_is | kernel_rfl)
    (case vNQ => first | k_is | kernel_rfl)
    (case wNQ => first | k_is | kernel_rfl)
    (case vNP => first | k_is | kernel_rfl)
    (case wNP => first | k_is | kernel_rfl)
    (case vNL => first | k_is | kernel_rfl)
    (case wNL => first | k_is | kernel_rfl)
    (case vNT => first | k_is | kernel_rfl)
    (case wNT => first | k_is | kernel_rfl)
    (case vVE => first | k_is | kernel_rfl)
    (case wVE => first | k_is | kernel_rfl)
    (case s1 => first | k_is | kernel_rfl)
    (case s2 => first | k_is | kernel_rfl)
    (case s3 => first | k_is | kernel_rfl)
    (case s4 => first | k_is | kernel_rfl)
    (case s5 => first | k_is | kernel_rfl)
    (case s6 => first | k_is | kernel_rfl)
    (case z1 => first | k_is | kernel_rfl)
    (case z2 => first | k_is | kernel_rfl)
    (case z3 => first | k_is | kernel_rfl)
    (case z4 => first | k_is | kernel_rfl)
    (case z5 => first | k_is | kernel_rfl)
    (case z6 => first | k_is | kernel_rfl)
    (case z7 => first | k_is | kernel_rfl)
    (case z8 => first | k_is | kernel_rfl)
    (case z9 => first | k_is | kernel_rfl)
    (case z10 => first | k_is | kernel_rfl)
    (case z11 => first | k_is | kernel_rfl)
    (case z12 => first | k_is | kernel_rfl)
